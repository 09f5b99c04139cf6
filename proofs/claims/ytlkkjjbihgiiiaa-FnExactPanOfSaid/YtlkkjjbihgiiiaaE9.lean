/-
  PanOf and its model.
-/
import Derived.Test.YtlkkjjbihgiiiaaE8
import Derived.Test.YtlkkjjbihgiiiaaE7
import Derived.Deep.AppendLies
namespace Go.Proofs.Ytlkkjjbihgiiiaa
open Go.RowKit
set_option maxRecDepth 100000
set_option linter.unusedVariables false

noncomputable def poC (l k : Int) (ws : List Wf) (i : Int) : Int := if okX l k ws = true then (if cb (0 ≤ i ∧ i ≤ l - 1) = true then 0 else 2) else 1
noncomputable def poL (l k : Int) (ws : List Wf) (i v : Int) : List Int := if poC l k ws i = 0 then onL ws i.toNat v ws.length else []
theorem poC_bad {l k : Int} {ws : List Wf} (i : Int) (h : okX l k ws = false) : poC l k ws i = 1 := by unfold poC; rw [h]; rfl
theorem poC_out {l k : Int} {ws : List Wf} {i : Int} (h : okX l k ws = true) (h2 : ¬ (0 ≤ i ∧ i ≤ l - 1)) : poC l k ws i = 2 := by unfold poC; rw [if_pos h, if_neg (by rw [cb_f h2]; simp)]
theorem poC_ok {l k : Int} {ws : List Wf} {i : Int} (h : okX l k ws = true) (h2 : 0 ≤ i ∧ i ≤ l - 1) : poC l k ws i = 0 := by unfold poC; rw [if_pos h, if_pos (cb_t h2)]
theorem poL_no {l k : Int} {ws : List Wf} {i : Int} (v : Int) (h : poC l k ws i ≠ 0) : poL l k ws i v = [] := by unfold poL; rw [if_neg h]
theorem poL_ok {l k : Int} {ws : List Wf} {i : Int} (v : Int) (h : poC l k ws i = 0) : poL l k ws i v = onL ws i.toNat v ws.length := by unfold poL; rw [if_pos h]
theorem poL_len (l k : Int) (ws : List Wf) (i v : Int) : (poL l k ws i v).length ≤ 80 := by
  unfold poL
  split
  case isTrue h =>
    have hok : okX l k ws = true := by
      cases hc : okX l k ws
      · rw [poC_bad i hc] at h; exact absurd h (by decide)
      · rfl
    have := (okX_t hok).2.2.1.2
    have := onL_len ws i.toNat v ws.length
    omega
  case isFalse h => simp
/-- What a call has built is a list in a block of its own. -/
theorem IX.ofOwns {base lo : Nat} {w : World} {v : Value} {xs : List Int} (h : w.ownsRow base 2 1 v xs.length (xs.map (Value.int .i64))) (hlo : lo ≤ base) : ∃ a c, v = .slice a xs.length c ∧ IX lo w.heap.size w a xs := by
  rcases h.2 with ⟨rfl, h0⟩ | ⟨g, cap, cur, rfl, hB, hg, hnc, hcm, hs, htake⟩
  · exact ⟨none, 0, by rw [h0], .inl (List.eq_nil_of_length_eq_zero h0)⟩
  · refine ⟨_, _, rfl, .inr ⟨g, rfl, by omega, (Array.getElem?_eq_some_iff.1 hg).1, Nat.le_refl _, fun j hj => ?_, fun j => by simp [World.frozen?, hg]⟩⟩
    have h1 : (cur.toList.take (xs.length * 1))[j]? = (xs.map (Value.int .i64))[j]? := by rw [htake]
    rw [Nat.mul_one, List.getElem?_take_of_lt hj, List.getElem?_map, List.getElem?_eq_getElem hj] at h1
    have h2 : cur[j]? = some (.int .i64 xs[j]) := by simpa using h1
    rw [Nat.zero_add, List.getD_eq_getElem?_getD, List.getElem?_eq_getElem hj]
    simp [World.cell?, hg, h2]
theorem IX.hi {lo hi hi2 : Nat} {w : World} {a : Option Addr} {xs : List Int} (h : IX lo hi w a xs) (h1 : hi ≤ hi2) (h2 : hi2 ≤ w.heap.size) : IX lo hi2 w a xs := by
  rcases h with h | ⟨g, rfl, a1, a2, a3, a4, a5⟩
  · exact .inl h
  · exact .inr ⟨g, rfl, a1, by omega, h2, a4, a5⟩
theorem IX.lo {lo lo2 hi : Nat} {w : World} {a : Option Addr} {xs : List Int} (h : IX lo hi w a xs) (h1 : lo2 ≤ lo) : IX lo2 hi w a xs := by
  rcases h with h | ⟨g, rfl, a1, a2, a3, a4, a5⟩
  · exact .inl h
  · exact .inr ⟨g, rfl, by omega, a2, a3, a4, a5⟩
/-- The answer of PanOf: two lists, the first one made first. -/
def PanA (l k : Int) (ws : List Wf) (i : Int) (lo : Nat) (e : Ending) (w' : World) : Prop :=
  ∃ a0 c0 a1 c1 mid, e = .returned (.tuple #[.slice a0 (poL l k ws i (-1)).length c0, .slice a1 (poL l k ws i 1).length c1, .int .i64 (poC l k ws i)]) ∧ lo ≤ mid ∧ mid ≤ w'.heap.size ∧ IX lo mid w' a0 (poL l k ws i (-1)) ∧ IX mid w'.heap.size w' a1 (poL l k ws i 1)
theorem slw_box {w : World} {a : Option Addr} {ws : List Wf} (h : Slw w.heap.size w a ws) (o : Obj) : Slw (w.alloc o).heap.size (w.alloc o) a ws := by
  rcases h with h | ⟨b, off, e, h1, h2⟩
  · exact .inl h
  · exact .inr ⟨b, off, e, by simp; omega, h2.below ((Below.refl w.heap.size w).alloc (Nat.le_refl _) o) h1⟩
set_option maxHeartbeats 2000000 in
theorem panOf_any (l k : Int) (a : Option Addr) (c : Nat) (ws : List Wf) (i : Int) (w : World) (hs : Slw w.heap.size w a ws) (hl : B8 l) (hk : B8 k) (hn : ws.length ≤ 1048576) (hw : Wall ws) (hi : -9223372036854775808 ≤ i ∧ i ≤ 9223372036854775807) :
    Calls Try.prog 19 #[fixV l k a ws.length c, .int .i64 i] w fun e w' => PanA l k ws i w.heap.size e w' ∧ Below w.heap.size w w' := by
  have F0 := (FR.start w).box #[.int .i8 l, .int .i8 k, .slice a ws.length c] 30
  have hs0 := slw_box hs (.cells #[.int .i8 l, .int .i8 k, .slice a ws.length c] 30)
  obtain ⟨c0, c1, c2, -⟩ := (F0.blk _ List.mem_cons_self).three
  cases hok : okX l k ws
  · have HO := Lib.hid (openFixed_f l k a c ws _ hs0 hl hk hn hw hok)
    have HC := Lib.hid (poC_bad i hok)
    have HL := Lib.hid (fun v => poL_no (l := l) (k := k) (ws := ws) (i := i) v (by rw [poC_bad i hok]; decide))
    clear hok hs hs0 hw hl hk
    go_enter Try.func19, Try.ntmps19
    go_wp2_with fail
    refine HO.out.mono ?_
    rintro e w2 ⟨rfl, hb⟩
    have F1 := F0.next hb
    have HB := Lib.hid (F1.box nopC 64).below
    clear hb F0 F1 c0 c1 c2 HO
    go_wp2
    refine bodyPost_ret (v := .tuple #[.slice none 0 0, .slice none 0 0, .int .i64 1]) (by simp [results, Try.results19, go_sem]) rfl ?_
    exact ⟨⟨none, 0, none, 0, w.heap.size, by rw [HL.out, HL.out, HC.out]; rfl, Nat.le_refl _, HB.out.size, .inl (HL.out _), .inl (HL.out _)⟩, HB.out⟩
  · have HO := Lib.hid (openFixed_t l k a c ws _ hs0 hl hk hn hw hok)
    have hx := okX_t hok
    obtain ⟨b, off, rfl, hb1, hc1⟩ := own_of hs (Below.refl _ _) hx.2.2.1.1
    have h80 := hx.2.2.1.2
    have hl4 := hx.1
    have HW := Lib.hid (fun W => within_any i 0 (l - 1) W)
    by_cases hil : 0 ≤ i ∧ i ≤ l - 1
    · rw [show inB i 0 (l - 1) = true from cb_t hil] at HW
      have HC := Lib.hid (poC_ok hok hil)
      have HL := Lib.hid (fun v => poL_ok (l := l) (k := k) (ws := ws) (i := i) v (poC_ok hok hil))
      obtain ⟨n, rfl⟩ : ∃ n : Nat, i = n := ⟨i.toNat, by omega⟩
      rw [show ((n : Int)).toNat = n by simp] at HL
      have HP := Lib.hid (fun W v (hv : -1 ≤ v ∧ v ≤ 1) (h : Below w.heap.size w W) => onPan_any b off c ws n v W (by omega) (by omega) hv (Nat.lt_of_lt_of_le hb1 h.size) (hc1.below h hb1))
      have hbX := onL_len ws n (-1) ws.length
      have hbY := onL_len ws n 1 ws.length
      have hX80 : (onL ws n (-1) ws.length).length ≤ 80 := by omega
      have hY80 : (onL ws n 1 ws.length).length ≤ 80 := by omega
      have HI8 := Lib.hid (show -128 ≤ l ∧ l ≤ 127 from hl)
      clear hok hs hs0 hw hl hk hx hc1 hb1 h80 hbX hbY
      go_enter Try.func19, Try.ntmps19
      go_wp2_with fail
      refine HO.out.mono ?_
      rintro e w2 ⟨rfl, hb⟩
      have F1 := F0.next hb
      clear hb F0 c0 c1 c2 HO
      have F2 := F1.box (opC (some ⟨b, off, none⟩) ws.length c l k) 64
      obtain ⟨d0, d1, d2, d3, d4, d5, -⟩ := (F2.blk _ List.mem_cons_self).six
      go_wp2_with fail
      refine (HW.out _).mono ?_
      rintro e w3 ⟨rfl, rfl⟩
      go_upto_region 6 with fail
      clear d0 d1 d2 d3 d4 d5 F1 HW
      generalize hw3 : w2.alloc (.cells (opC (some ⟨b, off, none⟩) ws.length c l k) 64) = w3 at *
      generalize hob : w2.heap.size = ob at *
      clear hw3 hob
      have F3 := F2.drew
      go_region_held3 (fun w' => w'.cell? ⟨ob, 0, none⟩ = some (.slice (some ⟨b, off, none⟩) ws.length c))
        (first | exact (F5.blk _ List.mem_cons_self).cell 0 | exact (F4.blk _ List.mem_cons_self).cell 0 | exact (F3.blk _ List.mem_cons_self).cell 0)
        (first
          | (go_at_call 43; with_reducible refine (HP.out _ (-1) (by omega) F3.below).mono ?_; rintro e w4 ⟨u, rfl, ho, hb4⟩; have F4 := F3.next hb4; obtain ⟨a0, c0, rfl, hI0⟩ := IX.ofOwns ho (Nat.le_refl _))
          | (go_at_call 43; with_reducible refine (HP.out _ 1 (by omega) F4.below).mono ?_; rintro e w5 ⟨u, rfl, ho5, hb5⟩; have F5 := F4.next hb5; obtain ⟨a1, c1, rfl, hI1⟩ := IX.ofOwns ho5 (Nat.le_refl _)))
      go_wp2
      exact bodyPost_ret (v := .tuple #[.slice a0 (onL ws n (-1) ws.length).length c0, .slice a1 (onL ws n 1 ws.length).length c1, .int .i64 0]) (by simp [results, Try.results19, go_sem]) rfl
        ⟨⟨a0, c0, a1, c1, w4.heap.size, by rw [HL.out, HL.out, HC.out], F4.size, hb5.size, by rw [HL.out]; exact (hI0.below hb5).lo F3.size, by rw [HL.out]; exact hI1⟩, F5.below⟩
    · rw [show inB i 0 (l - 1) = false from cb_f hil] at HW
      have HC := Lib.hid (poC_out hok hil)
      have HL := Lib.hid (fun v => poL_no (l := l) (k := k) (ws := ws) (i := i) v (by rw [poC_out hok hil]; decide))
      clear hok hs hs0 hw hl hk hx hc1 hb1 h80 hil
      go_enter Try.func19, Try.ntmps19
      go_wp2_with fail
      refine HO.out.mono ?_
      rintro e w2 ⟨rfl, hb⟩
      have F1 := F0.next hb
      clear hb F0 c0 c1 c2 HO
      have F2 := F1.box (opC (some ⟨b, off, none⟩) ws.length c l k) 64
      obtain ⟨d0, d1, d2, d3, d4, d5, -⟩ := (F2.blk _ List.mem_cons_self).six
      go_wp2_with fail
      refine (HW.out _).mono ?_
      rintro e w3 ⟨rfl, rfl⟩
      have HB := Lib.hid F2.below
      clear F1 F2 d0 d1 d2 d3 d4 d5
      go_wp2
      refine bodyPost_ret (v := .tuple #[.slice none 0 0, .slice none 0 0, .int .i64 2]) (by simp [results, Try.results19, go_sem]) rfl ?_
      exact ⟨⟨none, 0, none, 0, w.heap.size, by rw [HL.out, HL.out, HC.out]; rfl, Nat.le_refl _, HB.out.size, .inl (HL.out _), .inl (HL.out _)⟩, HB.out⟩
/-- The answer of PanOf's model. -/
def PanS (l k : Int) (ws : List Wf) (i : Int) (lo : Nat) (e : Ending) (w' : World) : Prop :=
  ∃ a0 c0 a1 c1, e = .returned (.tuple #[.slice a0 (poL l k ws i (-1)).length c0, .slice a1 (poL l k ws i 1).length c1, .int .i64 (poC l k ws i)]) ∧ IX lo w'.heap.size w' a0 (poL l k ws i (-1)) ∧ IX lo w'.heap.size w' a1 (poL l k ws i 1)
theorem FR.grown {w0 w w' : World} {L : List (Nat × Array Value × TypeId)} {row : Option Nat} {B : Nat} (h : FR w0 L w) (hg : w.grownBy w' row) (hr : ∀ k, row = some k → B ≤ k) (hB : w0.heap.size ≤ B) (hL : ∀ p ∈ L, p.1 < B) : FR w0 L w' :=
  ⟨h.below.grown hg h.below.size (fun k e => Nat.le_trans hB (hr k e)), fun p hp => (hg.block _ (h.blk p hp).lt (fun e => by have := hr _ e.symm; have := hL p hp; omega)).trans (h.blk p hp), h.top⟩
set_option maxHeartbeats 4000000 in
theorem specPanOf_ok (l k : Int) (b off c : Nat) (ws : List Wf) (n : Nat) (w : World) (hb : b < w.heap.size) (hc : WAt w b off ws) (hl : B8 l) (hk : B8 k) (hw : Wall ws) (hok : okX l k ws = true) (hil : 0 ≤ (n : Int) ∧ (n : Int) ≤ l - 1) :
    Calls Try.prog 18 #[fixV l k (some ⟨b, off, none⟩) ws.length c, .int .i64 (n : Int)] w fun e w' => PanS l k ws n w.heap.size e w' ∧ Below w.heap.size w w' := by
  obtain ⟨i0, hi0, hz0, hz1, hz2⟩ := info_parts Try.info_i64w
  have F0 := (FR.start w).box #[.int .i8 l, .int .i8 k, .slice (some ⟨b, off, none⟩) ws.length c] 30
  have hx := okX_t hok
  have h80 := hx.2.2.1.2
  have hl4 := hx.1
  have HO := Lib.hid (l04Ok_any w.heap.size l k (some ⟨b, off, none⟩) c ws _ (F0.blk _ List.mem_cons_self) (slw_box (.inr ⟨b, off, rfl, hb, hc⟩) _) hl hk (by omega) hw)
  rw [hok] at HO
  have HW := Lib.hid (fun W => l00In_any (n : Int) 0 (l - 1) W)
  rw [show inB (n : Int) 0 (l - 1) = true from cb_t hil] at HW
  have HC := Lib.hid (poC_ok hok hil)
  have HL := Lib.hid (fun v => poL_ok (l := l) (k := k) (ws := ws) (i := (n : Int)) v (poC_ok hok hil))
  rw [show ((n : Int)).toNat = n by simp] at HL
  have hn4 : n < 4 := by omega
  have HCC := Lib.hid hc
  have HLX := Lib.hid (onL_len ws n (-1))
  have HLY := Lib.hid (onL_len ws n 1)
  have HSX := Lib.hid (show ∀ k, onL ws n (-1) (k + 1) = if wI ws k n = -1 then onL ws n (-1) k ++ [(k : Int)] else onL ws n (-1) k from fun k => rfl)
  have HSY := Lib.hid (show ∀ k, onL ws n 1 (k + 1) = if wI ws k n = 1 then onL ws n 1 k ++ [(k : Int)] else onL ws n 1 k from fun k => rfl)
  have hX0 : onL ws n (-1) 0 = [] := rfl
  have hY0 : onL ws n 1 0 = [] := rfl
  have HI8 := Lib.hid (show -128 ≤ l ∧ l ≤ 127 from hl)
  have hl128 : -128 ≤ l ∧ l ≤ 127 := hl
  have hnz : (n : Int) < 4 := by omega
  generalize hXX : onL ws n (-1) = X at *
  generalize hYY : onL ws n 1 = Y at *
  have HXQ := Lib.hid hXX
  have HYQ := Lib.hid hYY
  clear hok hw hl hk hx hXX hYY hc hil
  go_enter Try.func18, Try.ntmps18
  go_wp2_with fail
  refine HO.out.mono ?_
  rintro e w2 ⟨rfl, hb2⟩
  have F1 := F0.next hb2
  clear hb2 F0 HO
  obtain ⟨c0, c1, c2, -⟩ := (F1.blk _ List.mem_cons_self).three
  go_wp2_with fail
  refine (HW.out _).mono ?_
  rintro e w3 ⟨rfl, rfl⟩
  have hs1 : w.heap.size < w2.heap.size := (F1.blk _ List.mem_cons_self).lt
  have F2 := (F1.next ((Below.refl _ _).alloc (Nat.le_refl _) (.cells #[] 2))).next ((Below.refl _ _).alloc (Nat.le_refl _) (.cells #[] 2))
  have hoX := (World.ownsRow_made (base := w.heap.size + 1) (e := 2) (size := 1) w2 #[] 0 (by omega) (by unfold maxLen; omega) (by simp)).alloc (.cells #[] 2)
  have hoY := World.ownsRow_made (base := w.heap.size + 1) (e := 2) (size := 1) (w2.alloc (.cells #[] 2)) #[] 0 (by simp; omega) (by unfold maxLen; omega) (by simp)
  simp only [World.size_alloc] at hoY
  have HF2 := Lib.hid F2
  have HOX := Lib.hid hoX
  have HOY := Lib.hid hoY
  clear F1 F2 hoX hoY
  go_wp2
  clear c0 c1 c2
  go_loopw [7, 8, 9] (fun u v jv wr => ∃ (j g0 q0 g1 q1 : Nat), jv = .int .i64 (j : Int) ∧ j ≤ ws.length ∧ u = .slice (some ⟨g0, 0, none⟩) (X j).length q0 ∧ v = .slice (some ⟨g1, 0, none⟩) (Y j).length q1 ∧ g0 ≠ g1 ∧ wr.ownsRow (w.heap.size + 1) 2 1 (.slice (some ⟨g0, 0, none⟩) (X j).length q0) (X j).length ((X j).map (Value.int .i64)) ∧ wr.ownsRow (w.heap.size + 1) 2 1 (.slice (some ⟨g1, 0, none⟩) (Y j).length q1) (Y j).length ((Y j).map (Value.int .i64)) ∧ FR w [(w.heap.size, #[.int .i8 l, .int .i8 k, .slice (some ⟨b, off, none⟩) ws.length c], 30)] wr) (fun _ _ jv _ => ws.length - (intOf jv).toNat)
  case atStart => exact ⟨0, w2.heap.size, 0, w2.heap.size + 1, 0, rfl, Nat.zero_le _, by rw [hX0]; rfl, by rw [hY0]; rfl, by omega, by rw [hX0]; exact HOX.out, by rw [hY0]; exact HOY.out, HF2.out⟩
  case round =>
    clear HF2 HOX HOY hX0 hY0
    obtain ⟨j, g0, q0, g1, q1, rfl, hj, rfl, rfl, hne, hoX, hoY, F3⟩ := hrel
    obtain ⟨c0, c1, c2, -⟩ := (F3.blk _ List.mem_cons_self).three
    by_cases hlt : j < ws.length
    case neg =>
      obtain rfl : j = ws.length := by omega
      obtain ⟨a0, r0, e0, hI0⟩ := IX.ofOwns hoX (Nat.le_succ w.heap.size)
      obtain ⟨a1, r1, e1, hI1⟩ := IX.ofOwns hoY (Nat.le_succ w.heap.size)
      have HE0 := Lib.hid e0
      have HE1 := Lib.hid e1
      have HJ := Lib.hid (And.intro hI0 hI1)
      have HB := Lib.hid F3.below
      clear hoX hoY F3 e0 e1 hI0 hI1
      go_wp2
      refine bodyPost_ret (v := .tuple #[.slice (some ⟨g0, 0, none⟩) (X ws.length).length q0, .slice (some ⟨g1, 0, none⟩) (Y ws.length).length q1, .int .i64 0]) (by simp [results, Try.results18, go_sem]) rfl ?_
      exact ⟨⟨a0, r0, a1, r1, by rw [HL.out, HL.out, HC.out, HXQ.out, HYQ.out, ← HE0.out, ← HE1.out], by rw [HL.out, HXQ.out]; exact HJ.out.1, by rw [HL.out, HYQ.out]; exact HJ.out.2⟩, HB.out⟩
    have hjz : (j : Int) < (ws.length : Int) := by omega
    have hcell := (HCC.out.below F3.below hb) j hlt n hn4
    have HSXj := Lib.hid (HSX.out j)
    have HSYj := Lib.hid (HSY.out j)
    have hlx := HLX.out j
    have hly := HLY.out j
    have hgl0 := (hoX.lt g0 rfl).2
    have hgl1 := (hoY.lt g1 rfl).2
    generalize wI ws j n = x at *
    obtain ⟨wq, rfl⟩ : ∃ wq : World, wq = wr := ⟨_, rfl⟩
    have hwq : w.heap.size + 1 ≤ wq.heap.size := (F3.blk _ List.mem_cons_self).lt
    by_cases hq : x = -1
    · have hq1 : (x == -1) = true := by simpa using hq
      have HL1 := Lib.hid (show X (j + 1) = X j ++ [(j : Int)] by rw [HSXj.out, if_pos hq])
      have HL2 := Lib.hid (show Y (j + 1) = Y j by rw [HSYj.out, if_neg (by omega)])
      clear hq
      go_wp2_with (first
        | (at_builtin; refine wpList_append_lies _ rfl _ _ 37 rfl (w.heap.size + 1) 2 i0 (.int .i64 0) 1 8 Try.underlying37 hi0 hz0 hz1 hz2 rfl (by decide) _ _ _ rfl (hoX.alloc _) ⟨wq.heap.size, 0, none⟩ 1 1 [.int .i64 (j : Int)] rfl rfl ?c1 ?c2 (by decide) ?c3 ?c4 ?c5 (wq.heap.size + 1) ?c6 ?_)
        | go_in)
      try case c1 =>
        intro r u hr
        match r, hr with
        | 0, hr => simp at hr; subst hr; simp [Addr.add]
      case c2 => first | rfl | (intro u hu; simp at hu; subst hu; rfl)
      case c3 => unfold maxLen; omega
      case c4 => omega
      case c5 => first | omega | (simp; omega)
      try case c6 => simp
      intro g' q' w4 hown' hgrow hlies hlt4
      have hne' : g' ≠ g1 := by
        rcases hlies with h | h
        · simp [Value.ownBlock] at h; omega
        · omega
      have hO := (hoY.alloc (.cells #[.int .i64 (j : Int)] 2)).kept hgrow (.inr (by simp [Value.ownBlock]; omega))
      have F4 := (F3.next ((Below.refl wq.heap.size wq).alloc (Nat.le_refl _) (.cells #[.int .i64 (j : Int)] 2))).grown hgrow (B := w.heap.size + 1) (fun r e => (hoX.lt r e).1) (by omega) (fun p hp => by
        simp only [List.mem_cons, List.not_mem_nil, or_false] at hp
        subst hp
        exact Nat.lt_succ_self _)
      have HOW := Lib.hid hown'
      have HOO := Lib.hid hO
      have HF4 := Lib.hid F4
      clear hown' hO F4 hgrow hlies hoX hoY F3 c0 c1 c2
      go_wp2
      go_roundw
      case rel => exact ⟨j + 1, g', q', g1, q1, by go_num, by omega, by rw [HL1.out, List.length_append]; rfl, by rw [HL2.out], hne', by rw [HL1.out, List.length_append, List.map_append]; exact HOW.out, by rw [HL2.out]; exact HOO.out, HF4.out⟩
      case measure => simp [intOf]; omega
    by_cases hq' : x = 1
    · have hq1 : (x == -1) = false := by simpa using hq
      have hq2 : (x == 1) = true := by simpa using hq'
      clear hq
      have hq := hq'
      clear hq'
      have HL1 := Lib.hid (show Y (j + 1) = Y j ++ [(j : Int)] by rw [HSYj.out, if_pos hq])
      have HL2 := Lib.hid (show X (j + 1) = X j by rw [HSXj.out, if_neg (by omega)])
      clear hq
      go_wp2_with (first
        | (at_builtin; refine wpList_append_lies _ rfl _ _ 37 rfl (w.heap.size + 1) 2 i0 (.int .i64 0) 1 8 Try.underlying37 hi0 hz0 hz1 hz2 rfl (by decide) _ _ _ rfl (hoY.alloc _) ⟨wq.heap.size, 0, none⟩ 1 1 [.int .i64 (j : Int)] rfl rfl ?c1 ?c2 (by decide) ?c3 ?c4 ?c5 (wq.heap.size + 1) ?c6 ?_)
        | go_in)
      try case c1 =>
        intro r u hr
        match r, hr with
        | 0, hr => simp at hr; subst hr; simp [Addr.add]
      case c2 => first | rfl | (intro u hu; simp at hu; subst hu; rfl)
      case c3 => unfold maxLen; omega
      case c4 => omega
      case c5 => first | omega | (simp; omega)
      try case c6 => simp
      intro g' q' w4 hown' hgrow hlies hlt4
      have hne' : g' ≠ g0 := by
        rcases hlies with h | h
        · simp [Value.ownBlock] at h; omega
        · omega
      have hO := (hoX.alloc (.cells #[.int .i64 (j : Int)] 2)).kept hgrow (.inr (by simp [Value.ownBlock]; omega))
      have F4 := (F3.next ((Below.refl wq.heap.size wq).alloc (Nat.le_refl _) (.cells #[.int .i64 (j : Int)] 2))).grown hgrow (B := w.heap.size + 1) (fun r e => (hoY.lt r e).1) (by omega) (fun p hp => by
        simp only [List.mem_cons, List.not_mem_nil, or_false] at hp
        subst hp
        exact Nat.lt_succ_self _)
      have HOW := Lib.hid hown'
      have HOO := Lib.hid hO
      have HF4 := Lib.hid F4
      clear hown' hO F4 hgrow hlies hoX hoY F3 c0 c1 c2
      go_wp2
      go_roundw
      case rel => exact ⟨j + 1, g0, q0, g', q', by go_num, by omega, by rw [HL2.out], by rw [HL1.out, List.length_append]; rfl, Ne.symm hne', by rw [HL2.out]; exact HOO.out, by rw [HL1.out, List.length_append, List.map_append]; exact HOW.out, HF4.out⟩
      case measure => simp [intOf]; omega
    · have hq1 : (x == -1) = false := by simpa using hq
      have hq2 : (x == 1) = false := by simpa using hq'
      have HL1 := Lib.hid (show X (j + 1) = X j by rw [HSXj.out, if_neg hq])
      have HL2 := Lib.hid (show Y (j + 1) = Y j by rw [HSYj.out, if_neg hq'])
      have HOW := Lib.hid hoX
      have HOO := Lib.hid hoY
      have HF4 := Lib.hid F3
      clear hq hq' hoX hoY F3
      go_wp2
      go_roundw
      case rel => exact ⟨j + 1, g0, q0, g1, q1, by go_num, by omega, by rw [HL1.out], by rw [HL2.out], hne, by rw [HL1.out]; exact HOW.out, by rw [HL2.out]; exact HOO.out, HF4.out⟩
      case measure => simp [intOf]; omega
theorem specPanOf_any (l k : Int) (a : Option Addr) (c : Nat) (ws : List Wf) (i : Int) (w : World) (hs : Slw w.heap.size w a ws) (hl : B8 l) (hk : B8 k) (hn : ws.length ≤ 1048576) (hw : Wall ws) (hi : -9223372036854775808 ≤ i ∧ i ≤ 9223372036854775807) :
    Calls Try.prog 18 #[fixV l k a ws.length c, .int .i64 i] w fun e w' => PanS l k ws i w.heap.size e w' ∧ Below w.heap.size w w' := by
  have F0 := (FR.start w).box #[.int .i8 l, .int .i8 k, .slice a ws.length c] 30
  have HO := Lib.hid (l04Ok_any w.heap.size l k a c ws _ (F0.blk _ List.mem_cons_self) (slw_box hs _) hl hk hn hw)
  cases hok : okX l k ws
  · rw [hok] at HO
    have HC := Lib.hid (poC_bad i hok)
    have HL := Lib.hid (fun v => poL_no (l := l) (k := k) (ws := ws) (i := i) v (by rw [poC_bad i hok]; decide))
    clear hok hs hw hl hk
    go_enter Try.func18, Try.ntmps18
    go_wp2_with fail
    refine HO.out.mono ?_
    rintro e w2 ⟨rfl, hb⟩
    have F1 := F0.next hb
    have HB := Lib.hid ((F1.below.alloc F1.size (.cells #[] 2)).alloc (by have := F1.size; simp; omega) (.cells #[] 2))
    clear hb F0 F1 HO
    go_wp2
    refine bodyPost_ret (v := .tuple #[.slice (some ⟨w2.heap.size, 0, none⟩) 0 0, .slice (some ⟨w2.heap.size + 1, 0, none⟩) 0 0, .int .i64 1]) (by simp [results, Try.results18, go_sem]) rfl ?_
    exact ⟨⟨_, 0, _, 0, by rw [HL.out, HL.out, HC.out]; rfl, .inl (HL.out _), .inl (HL.out _)⟩, HB.out⟩
  · by_cases hil : 0 ≤ i ∧ i ≤ l - 1
    · have hx := okX_t hok
      obtain ⟨n, rfl⟩ : ∃ n : Nat, i = n := ⟨i.toNat, by omega⟩
      rcases hs with rfl | ⟨b, off, rfl, hb, hc⟩
      · have := hx.2.2.1.1
        simp at this
      · exact specPanOf_ok l k b off c ws n w hb hc hl hk hw hok hil
    · rw [hok] at HO
      have HW := Lib.hid (fun W => l00In_any i 0 (l - 1) W)
      rw [show inB i 0 (l - 1) = false from cb_f hil] at HW
      have HC := Lib.hid (poC_out hok hil)
      have HL := Lib.hid (fun v => poL_no (l := l) (k := k) (ws := ws) (i := i) v (by rw [poC_out hok hil]; decide))
      have hl4 := (okX_t hok).1
      have hl128 : -128 ≤ l ∧ l ≤ 127 := hl
      clear hok hs hw hl hk hil
      go_enter Try.func18, Try.ntmps18
      go_wp2_with fail
      refine HO.out.mono ?_
      rintro e w2 ⟨rfl, hb⟩
      have F1 := F0.next hb
      obtain ⟨c0, c1, c2, -⟩ := (F1.blk _ List.mem_cons_self).three
      go_wp2_with fail
      refine (HW.out _).mono ?_
      rintro e w3 ⟨rfl, rfl⟩
      have HB := Lib.hid ((F1.below.alloc F1.size (.cells #[] 2)).alloc (by have := F1.size; simp; omega) (.cells #[] 2))
      clear hb F0 F1 HO c0 c1 c2
      go_wp2
      refine bodyPost_ret (v := .tuple #[.slice (some ⟨w2.heap.size, 0, none⟩) 0 0, .slice (some ⟨w2.heap.size + 1, 0, none⟩) 0 0, .int .i64 2]) (by simp [results, Try.results18, go_sem]) rfl ?_
      exact ⟨⟨_, 0, _, 0, by rw [HL.out, HL.out, HC.out]; rfl, .inl (HL.out _), .inl (HL.out _)⟩, HB.out⟩
theorem FR.only2 {w0 w w' : World} {lo hi : Nat} {L : List (Nat × Array Value × TypeId)} (h : FR w0 L w) (ho : Only2 lo hi w w') (h0 : w0.heap.size ≤ lo) (hL : ∀ p ∈ L, p.1 < lo ∨ hi ≤ p.1) : FR w0 L w' := by
  rcases ho with rfl | ⟨b, h1, h2, ho⟩
  · exact h
  · exact ⟨Only.below h.below ho (by omega), fun p hp => (ho.block _ (by have := hL p hp; omega)).trans (h.blk p hp), h.top⟩
end Go.Proofs.Ytlkkjjbihgiiiaa
