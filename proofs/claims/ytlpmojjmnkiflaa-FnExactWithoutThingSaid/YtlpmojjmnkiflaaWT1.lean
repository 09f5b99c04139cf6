/-
  A ferry without a thing.
-/
import Derived.Test.YtlpmojjmnkiflaaY22
import Derived.Deep.DeepCutAuto
namespace Go.Proofs.Ytlpmojjmnkiflaa
open Go.RowKit
set_option maxRecDepth 100000
set_option linter.unusedVariables false

abbrev wtR (t : Nat) (r : Int) : Int := bits .or .u16 (bits .and .u16 r (2 ^ t - 1)) (bits .andNot .u16 (r / 2) (2 ^ t - 1))
def wtL (t : Nat) (xs : List Int) : Nat → List Int
  | 0 => []
  | j + 1 => if xs.getD j 0 / 2 ^ t % 2 = 0 then wtL t xs j ++ [wtR t (xs.getD j 0)] else wtL t xs j
theorem wtL_t {t : Nat} {xs : List Int} {j : Nat} (h : xs.getD j 0 / 2 ^ t % 2 = 0) : wtL t xs (j + 1) = wtL t xs j ++ [wtR t (xs.getD j 0)] := by rw [wtL, if_pos h]
theorem wtL_f {t : Nat} {xs : List Int} {j : Nat} (h : ¬ xs.getD j 0 / 2 ^ t % 2 = 0) : wtL t xs (j + 1) = wtL t xs j := by rw [wtL, if_neg h]
theorem wtL_len (t : Nat) (xs : List Int) (j : Nat) : (wtL t xs j).length ≤ j := by
  induction j with
  | zero => exact Nat.le_refl _
  | succ j ih =>
    unfold wtL
    split
    · rw [List.length_append]; simp; omega
    · omega
def wtC (l k : Int) (xs : List Int) (t : Int) : Int := if okY l k xs = true then (if 0 ≤ t ∧ t ≤ l - 1 then (if l = 1 then 4 else 0) else 2) else 1
theorem FR.grow {w0 w w' : World} {L : List (Nat × Array Value × TypeId)} {row : Option Nat} {B : Nat} (h : FR w0 L w) (hg : w.grownBy w' row) (hr : ∀ k, row = some k → B ≤ k) (hB : w0.heap.size ≤ B) (hL : ∀ p ∈ L, p.1 < B) : FR w0 L w' :=
  ⟨h.below.grown hg h.size (fun k e => Nat.le_trans hB (hr k e)), fun p hp => (hg.block p.1 (h.blk p hp).lt (fun e => by have := hr _ e.symm; have := hL p hp; omega)).trans (h.blk p hp), h.top⟩
theorem res_fer {W : World} {b : Nat} {v0 v1 v2 u : Value} {t : TypeId} (F : Func) (hF : F.results = #[.cell 4 33, .tmp 5]) (K : Blk W b #[v0, v1, v2] t) (tmps : Array Value) (h4 : tmps.getD 4 undef = .pointer (some ⟨b, 0, none⟩)) (h5 : tmps.getD 5 undef = u) : (results F tmps).run Try.prog W = .ok (.tuple #[.agg #[v0, v1, v2], u]) W := by
  have h4' : tmps[4]?.getD undef = .pointer (some ⟨b, 0, none⟩) := by simpa using h4
  have h5' : tmps[5]?.getD undef = u := by simpa using h5
  have e0 := K.cell 0
  have e1 := K.cell 1
  have e2 := K.cell 2
  simp at e0 e1 e2
  simp [results, hF, go_sem, e0, e1, e2, h4', h5']
theorem FR.fer {w0 w : World} {b : Nat} {v0 v1 v2 u0 u1 u2 : Value} {t : TypeId} {L : List (Nat × Array Value × TypeId)} (h : FR w0 ((b, #[v0, v1, v2], t) :: L) w) :
    FR w0 ((b, #[u0, u1, u2], t) :: L) (((w.setCell ⟨b, 0, none⟩ u0).setCell ⟨b, 1, none⟩ u1).setCell ⟨b, 2, none⟩ u2) := ((h.setTop 0 u0).setTop 1 u1).setTop 2 u2
theorem grown_set (w : World) (b i : Nat) (v : Value) : w.grownBy (w.setCell ⟨b, i, none⟩ v) (some b) :=
  ⟨rfl, rfl, rfl, by simp [World.setCell], fun k _ hk => Below.heap_setCell _ _ _ _ (fun e => hk (by simp [e]))⟩
theorem own_slice {w : World} {base : Nat} {e : TypeId} {size : Nat} {v : Value} {n : Nat} {xs : List Value} (h : w.ownsRow base e size v n xs) : ∃ ao cap, v = .slice ao n cap := by
  rcases h.2 with ⟨hv, h0⟩ | ⟨g, cap, cur, hv, _⟩
  · exact ⟨none, 0, by rw [hv, h0]⟩
  · exact ⟨_, _, hv⟩
theorem row_set {w : World} {base : Nat} {e : TypeId} {size : Nat} {v : Value} {n : Nat} {xs : List Value} (h : w.ownsRow base e size v n xs) {b : Nat} (hb : b < base) (o : Nat) (u : Value) : (w.setCell ⟨b, o, none⟩ u).ownsRow base e size v n xs :=
  h.kept (grown_set w b o u) (.inr (fun e => by have := (h.lt b e).1; omega))
set_option maxHeartbeats 4000000 in
theorem withoutThing_in (l k : Int) (a : Option Addr) (c : Nat) (xs : List Int) (t : Nat) (w : World) (hs : Sl .u16 w.heap.size w a xs) (hl : B8 l) (hk : B8 k) (hn : xs.length ≤ 1048576) (hw : U16 xs) (hok : okY l k xs = true) (ht : (t : Int) ≤ l - 1) (h1 : l ≠ 1) :
    Calls Try.prog 30 #[ferV l k a xs.length c, .int .i64 t] w fun e w' => ∃ v, e = .returned (.tuple #[.agg #[.int .i8 (l - 1), .int .i8 (min k (l - 1)), v], .int .i64 0]) ∧ OwnV .u16 w.heap.size w' v (wtL t xs xs.length) ∧ Below w.heap.size w w' := by
  have F0 := ((FR.start w).box #[.int .i8 l, .int .i8 k, .slice a xs.length c] 33).box #[.int .i8 0, .int .i8 0, .slice none 0 0] 33
  simp only [World.size_alloc] at F0
  have HV := Lib.hid (validFerry_any l k a c xs _ (hs.up F0.below (Nat.le_refl _)) hl hk hn hw)
  rw [hok] at HV
  have HS := Lib.hid (And.intro hs hw)
  have hy := okY_t hok
  have hl8 := hy.1
  have hk8 := hy.2.1
  have hn20 := hy.2.2.1
  have ht7 : t ≤ 7 := by omega
  have HW := Lib.hid (fun W => within_any (t : Int) 0 (l - 1) W)
  rw [show inB (t : Int) 0 (l - 1) = true from cb_t (by omega)] at HW
  have e1 : (l == 1) = false := by rw [beq_eq_false_iff_ne]; exact h1
  clear hs hw hok hl hk
  obtain ⟨c0, c1, c2, -⟩ := (F0.blk _ (List.mem_cons_of_mem _ List.mem_cons_self)).three
  obtain ⟨n, hnn⟩ : ∃ n, xs.length = n := ⟨_, rfl⟩
  have HNN := Lib.hid hnn
  have hp0 : (1 : Int) ≤ 2 ^ t ∧ (2 : Int) ^ t ≤ 128 := by
    have : t = 0 ∨ t = 1 ∨ t = 2 ∨ t = 3 ∨ t = 4 ∨ t = 5 ∨ t = 6 ∨ t = 7 := by omega
    rcases this with rfl | rfl | rfl | rfl | rfl | rfl | rfl | rfl <;> decide
  have hw1 : IntKind.u16.wrap (2 ^ t) = 2 ^ t := by rw [IntKind.wrap_u16]; omega
  have hw2 : IntKind.u16.wrap (2 ^ t - 1) = 2 ^ t - 1 := by rw [IntKind.wrap_u16]; omega
  obtain ⟨m, hmd⟩ : ∃ m, min k (l - 1) = m := ⟨_, rfl⟩
  have hmm : (l - 1 < k ∧ m = l - 1) ∨ (¬ l - 1 < k ∧ m = k) := by omega
  rw [hmd]
  clear hmd
  go_enter Try.func30, Try.ntmps30
  rw [hnn] at HV c2 F0 hn20 hn ⊢
  clear hnn
  go_wp2_with fail
  refine HV.out.mono ?_
  rintro e w2 ⟨rfl, hb⟩
  have F1 := F0.next hb
  clear hb F0 c0 c1 c2 HV
  obtain ⟨c0, c1, c2, -⟩ := (F1.blk _ (List.mem_cons_of_mem _ List.mem_cons_self)).three
  have z0 := (F1.blk _ (List.mem_cons_of_mem _ List.mem_cons_self)).lt
  have z1 := (F1.blk _ List.mem_cons_self).lt
  dsimp only at z0 z1
  go_wp2_with fail
  refine (HW.out _).mono ?_
  rintro e w3 ⟨rfl, rfl⟩
  rcases hmm with ⟨hm, rfl⟩ | ⟨hm, rfl⟩
  · go_wp2
    have hsz2 : (w2.alloc (.cells #[.int .i8 (l - 1), .int .i8 (l - 1), .slice none 0 0] 33)).heap.size = w2.heap.size + 1 := by simp
    have F2 := F1.box #[.int .i8 (l - 1), .int .i8 (l - 1), .slice none 0 0] 33
    have hr0 : (w2.alloc (.cells #[.int .i8 (l - 1), .int .i8 (l - 1), .slice none 0 0] 33)).ownsRow (w2.heap.size + 1) 26 1 (.slice none 0 0) (wtL t xs 0).length (uvals (wtL t xs 0)) := World.ownsRow_nil _ _ _ _
    clear F1 c0 c1 c2
    generalize hnb : w2.heap.size = nb at *
    go_loopw [42] (fun i wr => ∃ (j : Nat) (v : Value), i = .int .i64 j ∧ j ≤ n ∧ wr.ownsRow (nb + 1) 26 1 v (wtL t xs j).length (uvals (wtL t xs j)) ∧ nb + 1 ≤ wr.heap.size ∧ FR w [(nb, #[.int .i8 (l - 1), .int .i8 (l - 1), v], 33), (w.heap.size + 1, #[.int .i8 0, .int .i8 0, .slice none 0 0], 33), (w.heap.size, #[.int .i8 l, .int .i8 k, .slice a n c], 33)] wr) (fun i _ => n - (intOf i).toNat)
    case atStart => exact ⟨0, _, rfl, Nat.zero_le _, hr0, by omega, F2⟩
    case round =>
      clear hr0 F2 hsz2
      obtain ⟨j, v, rfl, hj, hrow, hnz, F3⟩ := hrel
      obtain ⟨ao, cap, rfl⟩ := own_slice hrow
      by_cases hlt : j < n
      case neg =>
        have hlz : ¬ (j : Int) < (n : Int) := by omega
        obtain ⟨e0, e1', e2, -⟩ := (F3.blk _ List.mem_cons_self).three
        have F4 := F3.tail (fun p L' e => by cases e; exact ⟨by simp, fun r hr => by simp at hr; subst hr; simp⟩)
        obtain ⟨g0, g1, g2, gf⟩ := (F4.blk _ List.mem_cons_self).three
        have F9 := F4.fer (u0 := .int .i8 (l - 1)) (u1 := .int .i8 (l - 1)) (u2 := .slice ao (wtL t xs j).length cap)
        have hrow9 := ((row_set hrow (b := w.heap.size + 1) (by omega) 0 (.int .i8 (l - 1))) |> fun h => row_set h (b := w.heap.size + 1) (by omega) 1 (.int .i8 (l - 1))) |> fun h => row_set h (b := w.heap.size + 1) (by omega) 2 (.slice ao (wtL t xs j).length cap)
        have HB := Lib.hid (And.intro (F9.blk _ List.mem_cons_self) (And.intro F9.below ((OwnV.ofOwns rfl hrow9).mono (show w.heap.size ≤ nb + 1 by omega))))
        have HE := Lib.hid (show wtL t xs n = wtL t xs j by rw [show n = j by omega])
        clear F3 F4 F9 hrow9 hrow
        go_wp2
        exact bodyPost_ret (res_fer _ Try.results30 HB.out.1 _ rfl rfl) rfl ⟨_, rfl, by rw [HE.out]; exact HB.out.2.2, HB.out.2.1⟩
      have hlz : (j : Int) < (n : Int) := by omega
      have hjx : j < xs.length := by have := HNN.out; omega
      obtain ⟨xb, xoff, rfl, hxb, hxc⟩ : ∃ b off, a = some ⟨b, off, none⟩ ∧ b < w.heap.size ∧ At .u16 w b off xs := by
        rcases HS.out.1 with h | h
        · subst h; simp at hjx
        · exact h
      have hc := (hxc.below F3.below hxb) j hjx
      have hx16 := HS.out.2 j
      have HT := Lib.hid (fun h => wtL_t (t := t) (xs := xs) (j := j) h)
      have HF := Lib.hid (fun h => wtL_f (t := t) (xs := xs) (j := j) h)
      have hll := wtL_len t xs j
      generalize xs.getD j 0 = r at *
      obtain ⟨c0, c1, c2, -⟩ := (F3.blk _ (List.mem_cons_of_mem _ (List.mem_cons_of_mem _ List.mem_cons_self))).three
      obtain ⟨e0, e1', e2, ef⟩ := (F3.blk _ List.mem_cons_self).three
      have hbi : bits .and .u16 (r / 2 ^ t) 1 = r / 2 ^ t % 2 := by
        have h3 : 0 ≤ r / 2 ^ t := Int.ediv_nonneg hx16.1 (by omega)
        have h4 : r / 2 ^ t ≤ r := Int.ediv_le_self _ hx16.1
        generalize r / 2 ^ t = y at *
        go_bits2
      by_cases hb : r / 2 ^ t % 2 = 0
      · have HN := Lib.hid (HT.out hb)
        rw [hb] at hbi
        clear HT HF
        have HF3 := Lib.hid F3
        have HROW := Lib.hid hrow
        obtain ⟨i0, hi, hz0, hz1, hz2⟩ := info_parts Try.info_u16
        have hrow2 := hrow
        clear F3 hrow
        go_upto_region 13 with fail
        go_wp2_with (first
          | (at_builtin; refine wpList_append_own _ rfl _ _ 23 rfl (nb + 1) 26 i0 (.int .u16 0) 1 2 Try.underlying23 hi hz0 hz1 hz2 rfl (by decide) _ _ _ rfl (HROW.out.alloc _) ⟨wr.heap.size, 0, none⟩ 1 1 [.int .u16 (wtR t r)] rfl rfl (cell_one_new _ _ _) (by simp [Value.oneCell']) (by unfold maxLen; omega) (by omega) (by simp; omega) ?_)
          | go_in)
        intro v' w5 hown' hgrow _
        have F5 := FR.grow (B := nb + 1) (HF3.out.next ((Below.refl _ _).alloc (Nat.le_refl _) (.cells #[.int .u16 (wtR t r)] 26))) hgrow (fun k hk => (HROW.out.lt k hk).1) (by omega) (fun p hp => by simp at hp; rcases hp with rfl | rfl | rfl <;> simp <;> omega)
        obtain ⟨p0, p1, p2, pf⟩ := (F5.blk _ List.mem_cons_self).three
        obtain ⟨ao', cap', rfl⟩ := own_slice hown'
        have F6 := F5.setTop 2 (.slice ao' ((wtL t xs j).length + 1) cap')
        have hrow6 := row_set hown' (b := nb) (by omega) 2 (.slice ao' ((wtL t xs j).length + 1) cap')
        have HH := Lib.hid (And.intro hrow6 F6)
        have HL := Lib.hid (show (wtL t xs (j + 1)).length = (wtL t xs j).length + 1 by rw [HN.out, List.length_append]; rfl)
        clear hrow6 F6 F5 hown' hgrow c0 c1 c2 e0 e1' e2 ef hc
        go_wp2
        go_roundw
        case rel => exact ⟨j + 1, _, by go_num, by omega, by rw [HL.out, HN.out]; simpa [uvals] using HH.out.1, (HH.out.2.blk _ List.mem_cons_self).lt, HH.out.2⟩
        case measure => simp [intOf]; omega
      · have HN := Lib.hid (HF.out hb)
        have hbn : r / 2 ^ t % 2 = 1 := by omega
        rw [hbn] at hbi
        have HH := Lib.hid (And.intro hrow F3)
        clear HT HF hrow F3 hb hbn
        go_wp2
        go_roundw
        case rel => exact ⟨j + 1, _, by go_num, by omega, by rw [HN.out]; exact HH.out.1, hnz, HH.out.2⟩
        case measure => simp [intOf]; omega
  · go_wp2
    have hsz2 : (w2.alloc (.cells #[.int .i8 (l - 1), .int .i8 m, .slice none 0 0] 33)).heap.size = w2.heap.size + 1 := by simp
    have F2 := F1.box #[.int .i8 (l - 1), .int .i8 m, .slice none 0 0] 33
    have hr0 : (w2.alloc (.cells #[.int .i8 (l - 1), .int .i8 m, .slice none 0 0] 33)).ownsRow (w2.heap.size + 1) 26 1 (.slice none 0 0) (wtL t xs 0).length (uvals (wtL t xs 0)) := World.ownsRow_nil _ _ _ _
    clear F1 c0 c1 c2
    generalize hnb : w2.heap.size = nb at *
    go_loopw [42] (fun i wr => ∃ (j : Nat) (v : Value), i = .int .i64 j ∧ j ≤ n ∧ wr.ownsRow (nb + 1) 26 1 v (wtL t xs j).length (uvals (wtL t xs j)) ∧ nb + 1 ≤ wr.heap.size ∧ FR w [(nb, #[.int .i8 (l - 1), .int .i8 m, v], 33), (w.heap.size + 1, #[.int .i8 0, .int .i8 0, .slice none 0 0], 33), (w.heap.size, #[.int .i8 l, .int .i8 m, .slice a n c], 33)] wr) (fun i _ => n - (intOf i).toNat)
    case atStart => exact ⟨0, _, rfl, Nat.zero_le _, hr0, by omega, F2⟩
    case round =>
      clear hr0 F2 hsz2
      obtain ⟨j, v, rfl, hj, hrow, hnz, F3⟩ := hrel
      obtain ⟨ao, cap, rfl⟩ := own_slice hrow
      by_cases hlt : j < n
      case neg =>
        have hlz : ¬ (j : Int) < (n : Int) := by omega
        obtain ⟨e0, e1', e2, -⟩ := (F3.blk _ List.mem_cons_self).three
        have F4 := F3.tail (fun p L' e => by cases e; exact ⟨by simp, fun r hr => by simp at hr; subst hr; simp⟩)
        obtain ⟨g0, g1, g2, gf⟩ := (F4.blk _ List.mem_cons_self).three
        have F9 := F4.fer (u0 := .int .i8 (l - 1)) (u1 := .int .i8 m) (u2 := .slice ao (wtL t xs j).length cap)
        have hrow9 := ((row_set hrow (b := w.heap.size + 1) (by omega) 0 (.int .i8 (l - 1))) |> fun h => row_set h (b := w.heap.size + 1) (by omega) 1 (.int .i8 m)) |> fun h => row_set h (b := w.heap.size + 1) (by omega) 2 (.slice ao (wtL t xs j).length cap)
        have HB := Lib.hid (And.intro (F9.blk _ List.mem_cons_self) (And.intro F9.below ((OwnV.ofOwns rfl hrow9).mono (show w.heap.size ≤ nb + 1 by omega))))
        have HE := Lib.hid (show wtL t xs n = wtL t xs j by rw [show n = j by omega])
        clear F3 F4 F9 hrow9 hrow
        go_wp2
        exact bodyPost_ret (res_fer _ Try.results30 HB.out.1 _ rfl rfl) rfl ⟨_, rfl, by rw [HE.out]; exact HB.out.2.2, HB.out.2.1⟩
      have hlz : (j : Int) < (n : Int) := by omega
      have hjx : j < xs.length := by have := HNN.out; omega
      obtain ⟨xb, xoff, rfl, hxb, hxc⟩ : ∃ b off, a = some ⟨b, off, none⟩ ∧ b < w.heap.size ∧ At .u16 w b off xs := by
        rcases HS.out.1 with h | h
        · subst h; simp at hjx
        · exact h
      have hc := (hxc.below F3.below hxb) j hjx
      have hx16 := HS.out.2 j
      have HT := Lib.hid (fun h => wtL_t (t := t) (xs := xs) (j := j) h)
      have HF := Lib.hid (fun h => wtL_f (t := t) (xs := xs) (j := j) h)
      have hll := wtL_len t xs j
      generalize xs.getD j 0 = r at *
      obtain ⟨c0, c1, c2, -⟩ := (F3.blk _ (List.mem_cons_of_mem _ (List.mem_cons_of_mem _ List.mem_cons_self))).three
      obtain ⟨e0, e1', e2, ef⟩ := (F3.blk _ List.mem_cons_self).three
      have hbi : bits .and .u16 (r / 2 ^ t) 1 = r / 2 ^ t % 2 := by
        have h3 : 0 ≤ r / 2 ^ t := Int.ediv_nonneg hx16.1 (by omega)
        have h4 : r / 2 ^ t ≤ r := Int.ediv_le_self _ hx16.1
        generalize r / 2 ^ t = y at *
        go_bits2
      by_cases hb : r / 2 ^ t % 2 = 0
      · have HN := Lib.hid (HT.out hb)
        rw [hb] at hbi
        clear HT HF
        have HF3 := Lib.hid F3
        have HROW := Lib.hid hrow
        obtain ⟨i0, hi, hz0, hz1, hz2⟩ := info_parts Try.info_u16
        have hrow2 := hrow
        clear F3 hrow
        go_upto_region 13 with fail
        go_wp2_with (first
          | (at_builtin; refine wpList_append_own _ rfl _ _ 23 rfl (nb + 1) 26 i0 (.int .u16 0) 1 2 Try.underlying23 hi hz0 hz1 hz2 rfl (by decide) _ _ _ rfl (HROW.out.alloc _) ⟨wr.heap.size, 0, none⟩ 1 1 [.int .u16 (wtR t r)] rfl rfl (cell_one_new _ _ _) (by simp [Value.oneCell']) (by unfold maxLen; omega) (by omega) (by simp; omega) ?_)
          | go_in)
        intro v' w5 hown' hgrow _
        have F5 := FR.grow (B := nb + 1) (HF3.out.next ((Below.refl _ _).alloc (Nat.le_refl _) (.cells #[.int .u16 (wtR t r)] 26))) hgrow (fun k hk => (HROW.out.lt k hk).1) (by omega) (fun p hp => by simp at hp; rcases hp with rfl | rfl | rfl <;> simp <;> omega)
        obtain ⟨p0, p1, p2, pf⟩ := (F5.blk _ List.mem_cons_self).three
        obtain ⟨ao', cap', rfl⟩ := own_slice hown'
        have F6 := F5.setTop 2 (.slice ao' ((wtL t xs j).length + 1) cap')
        have hrow6 := row_set hown' (b := nb) (by omega) 2 (.slice ao' ((wtL t xs j).length + 1) cap')
        have HH := Lib.hid (And.intro hrow6 F6)
        have HL := Lib.hid (show (wtL t xs (j + 1)).length = (wtL t xs j).length + 1 by rw [HN.out, List.length_append]; rfl)
        clear hrow6 F6 F5 hown' hgrow c0 c1 c2 e0 e1' e2 ef hc
        go_wp2
        go_roundw
        case rel => exact ⟨j + 1, _, by go_num, by omega, by rw [HL.out, HN.out]; simpa [uvals] using HH.out.1, (HH.out.2.blk _ List.mem_cons_self).lt, HH.out.2⟩
        case measure => simp [intOf]; omega
      · have HN := Lib.hid (HF.out hb)
        have hbn : r / 2 ^ t % 2 = 1 := by omega
        rw [hbn] at hbi
        have HH := Lib.hid (And.intro hrow F3)
        clear HT HF hrow F3 hb hbn
        go_wp2
        go_roundw
        case rel => exact ⟨j + 1, _, by go_num, by omega, by rw [HN.out]; exact HH.out.1, hnz, HH.out.2⟩
        case measure => simp [intOf]; omega
end Go.Proofs.Ytlpmojjmnkiflaa
