/-
  IsBalanced and its model.
-/
import Derived.Test.YtlkkjjbihgiiiaaE5
namespace Go.Proofs.Ytlkkjjbihgiiiaa
open Go.RowKit
set_option maxRecDepth 100000
set_option linter.unusedVariables false

/-- The cells of an opened fixed plan. -/
abbrev opC (a : Option Addr) (n c : Nat) (l k : Int) : Array Value := #[.slice a n c, .int .i64 l, .int .i8 (n : Int), .int .i8 k, .bool true, .bool false]
abbrev opV (a : Option Addr) (n c : Nat) (l k : Int) : Value := .agg (opC a n c l k)
abbrev nopC : Array Value := #[.slice none 0 0, .int .i64 0, .int .i8 0, .int .i8 0, .bool false, .bool false]
theorem Blk.six {w : World} {b : Nat} {a0 a1 a2 a3 a4 a5 : Value} {t : TypeId} (h : Blk w b #[a0, a1, a2, a3, a4, a5] t) :
    w.cell? ⟨b, 0, none⟩ = some a0 ∧ w.cell? ⟨b, 1, none⟩ = some a1 ∧ w.cell? ⟨b, 2, none⟩ = some a2 ∧ w.cell? ⟨b, 3, none⟩ = some a3 ∧ w.cell? ⟨b, 4, none⟩ = some a4 ∧ w.cell? ⟨b, 5, none⟩ = some a5 ∧ ∀ i, w.frozen? ⟨b, i, none⟩ = false :=
  ⟨h.cell 0, h.cell 1, h.cell 2, h.cell 3, h.cell 4, h.cell 5, h.free⟩
theorem okX_t {l k : Int} {ws : List Wf} (h : okX l k ws = true) : OkX l k ws := of_cb h
theorem okX_sign {l k : Int} {ws : List Wf} (h : OkX l k ws) (i : Nat) (hi : i < 4) : ∀ j, j < ws.length → -1 ≤ wI ws j i ∧ wI ws j i ≤ 1 := fun j hj => ((h.2.2.2 j hj).2 i hi).1
theorem res_open {W : World} {b : Nat} {v0 v1 v2 v3 v4 v5 : Value} (K : Blk W b #[v0, v1, v2, v3, v4, v5] 64) (c : Value) (tmps : Array Value) (h2 : tmps.getD 2 undef = .pointer (some ⟨b, 0, none⟩)) (h3 : tmps.getD 3 undef = c) : (results Try.f40 tmps).run Try.prog W = .ok (.tuple #[.agg #[v0, v1, v2, v3, v4, v5], c]) W := by
  have h2' : tmps[2]?.getD undef = .pointer (some ⟨b, 0, none⟩) := by simpa using h2
  have h3' : tmps[3]?.getD undef = c := by simpa using h3
  obtain ⟨e0, e1, e2, e3, e4, e5, -⟩ := K.six
  simp [results, Try.results40, go_sem, e0, e1, e2, e3, e4, e5, h2', h3']
set_option maxHeartbeats 2000000 in
theorem openFixed_t (l k : Int) (a : Option Addr) (c : Nat) (ws : List Wf) (w : World) (hs : Slw w.heap.size w a ws) (hl : B8 l) (hk : B8 k) (hn : ws.length ≤ 1048576) (hw : Wall ws) (hok : okX l k ws = true) :
    Calls Try.prog 40 #[fixV l k a ws.length c] w fun e w' => e = .returned (.tuple #[opV a ws.length c l k, .int .i64 0]) ∧ Below w.heap.size w w' := by
  have F0 := ((FR.start w).box #[.int .i8 l, .int .i8 k, .slice a ws.length c] 30).box nopC 64
  simp only [World.size_alloc] at F0
  have HV := Lib.hid (validFixed_any l k a c ws _ (hs.below F0.below |> fun h => by
    rcases h with h | ⟨b, off, e, h1, h2⟩
    · exact .inl h
    · exact .inr ⟨b, off, e, by have := F0.size; omega, h2⟩) hl hk hn hw)
  rw [hok] at HV
  have hx := okX_t hok
  have h80 : (ws.length : Int) ≤ 80 := hx.2.2.1.2
  have hl4 := hx.1
  unfold B8 at hl hk
  generalize ws.length = n at *
  clear hx hok hw hs hn
  obtain ⟨c0, c1, c2, -⟩ := (F0.blk _ (List.mem_cons_of_mem _ List.mem_cons_self)).three
  go_enter Try.func40, Try.ntmps40
  go_wp2_with fail
  refine HV.out.mono ?_
  rintro e w2 ⟨rfl, hb⟩
  have F1 := F0.next hb
  clear hb F0 c0 c1 c2 HV
  obtain ⟨c0, c1, c2, -⟩ := (F1.blk _ (List.mem_cons_of_mem _ List.mem_cons_self)).three
  go_upto_region 4 with fail
  have F2 := F1.box #[.int .i8 (n : Int), .int .i8 k, .bool true, .bool false] 62
  have hsz : w2.heap.size = w2.heap.size := rfl
  clear F1 c0 c1 c2
  generalize hw3 : w2.alloc (.cells #[.int .i8 (n : Int), .int .i8 k, .bool true, .bool false] 62) = w3 at *
  generalize w2.heap.size = tb at *
  clear hw3 hsz
  have k1 := F2.blk _ (List.mem_cons_of_mem _ List.mem_cons_self)
  have hB1 := F2.below
  dsimp only at k1
  obtain ⟨c0, c1, c2, -⟩ := (F2.blk _ (List.mem_cons_of_mem _ (List.mem_cons_of_mem _ List.mem_cons_self))).three
  obtain ⟨t0, t1, t2, t3, -⟩ := (F2.blk _ List.mem_cons_self).four
  have HK := Lib.hid ((((((k1.set 0 (.slice a n c)).set 1 (.int .i64 l)).set 2 (.int .i8 (n : Int))).set 3 (.int .i8 k)).set 4 (.bool true)).set 5 (.bool false))
  have hle : w.heap.size ≤ w.heap.size + 1 := by omega
  have HB := Lib.hid ((((((hB1.setCell (show w.heap.size ≤ (⟨w.heap.size + 1, 0, none⟩ : Addr).block from hle) (.slice a n c)).setCell (show w.heap.size ≤ (⟨w.heap.size + 1, 1, none⟩ : Addr).block from hle) (.int .i64 l)).setCell (show w.heap.size ≤ (⟨w.heap.size + 1, 2, none⟩ : Addr).block from hle) (.int .i8 (n : Int))).setCell (show w.heap.size ≤ (⟨w.heap.size + 1, 3, none⟩ : Addr).block from hle) (.int .i8 k)).setCell (show w.heap.size ≤ (⟨w.heap.size + 1, 4, none⟩ : Addr).block from hle) (.bool true)).setCell (show w.heap.size ≤ (⟨w.heap.size + 1, 5, none⟩ : Addr).block from hle) (.bool false))
  obtain ⟨d0, d1, d2, d3, d4, d5, d6⟩ := k1.six
  clear F2 k1 hB1 hle
  go_wp2
  exact bodyPost_ret (res_open HK.out (.int .i64 0) _ rfl rfl) rfl ⟨rfl, HB.out⟩
theorem openFixed_f (l k : Int) (a : Option Addr) (c : Nat) (ws : List Wf) (w : World) (hs : Slw w.heap.size w a ws) (hl : B8 l) (hk : B8 k) (hn : ws.length ≤ 1048576) (hw : Wall ws) (hok : okX l k ws = false) :
    Calls Try.prog 40 #[fixV l k a ws.length c] w fun e w' => e = .returned (.tuple #[.agg nopC, .int .i64 1]) ∧ Below w.heap.size w w' := by
  have F0 := ((FR.start w).box #[.int .i8 l, .int .i8 k, .slice a ws.length c] 30).box nopC 64
  simp only [World.size_alloc] at F0
  have HV := Lib.hid (validFixed_any l k a c ws _ (hs.below F0.below |> fun h => by
    rcases h with h | ⟨b, off, e, h1, h2⟩
    · exact .inl h
    · exact .inr ⟨b, off, e, by have := F0.size; omega, h2⟩) hl hk hn hw)
  rw [hok] at HV
  generalize ws.length = n at *
  clear hok hw hs hn hl hk
  obtain ⟨c0, c1, c2, -⟩ := (F0.blk _ (List.mem_cons_of_mem _ List.mem_cons_self)).three
  go_enter Try.func40, Try.ntmps40
  go_wp2_with fail
  refine HV.out.mono ?_
  rintro e w2 ⟨rfl, hb⟩
  have F1 := F0.next hb
  clear hb F0 c0 c1 c2 HV
  obtain ⟨d0, d1, d2, d3, d4, d5, d6⟩ := (F1.blk _ List.mem_cons_self).six
  have HF := Lib.hid ((((((F1.setTop 0 (.slice none 0 0)).setTop 1 (.int .i64 0)).setTop 2 (.int .i8 0)).setTop 3 (.int .i8 0)).setTop 4 (.bool false)).setTop 5 (.bool false))
  clear F1
  go_wp2
  exact bodyPost_ret (res_open (HF.out.blk _ List.mem_cons_self) (.int .i64 1) _ rfl rfl) rfl ⟨rfl, HF.out.below⟩
/-- Both pans have as many coins in weighing i. -/
def evI (ws : List Wf) (i : Nat) : Bool := (onL ws i (-1) ws.length).length == (onL ws i 1 ws.length).length
theorem evenAt_any (b off c : Nat) (ws : List Wf) (i : Nat) (w : World) (hn : ws.length ≤ 80) (hi : i < 4) (hb : b < w.heap.size) (hc : WAt w b off ws) :
    Calls Try.prog 56 #[.slice (some ⟨b, off, none⟩) ws.length c, .int .i64 (i : Int)] w fun e w' => e = .returned (.bool (evI ws i)) ∧ Below w.heap.size w w' := by
  have H1 := Lib.hid (onPan_any b off c ws i (-1) w hn hi (by omega) hb hc)
  have H2 := Lib.hid (fun W (h : Below w.heap.size w W) => onPan_any b off c ws i 1 W hn hi (by omega) (Nat.lt_of_lt_of_le hb h.size) (hc.below h hb))
  have b1 := onL_len ws i (-1) ws.length
  have b2 := onL_len ws i 1 ws.length
  unfold evI
  generalize hA : onL ws i (-1) ws.length = A at *
  generalize hB : onL ws i 1 ws.length = B at *
  clear hA hB
  have ha : A.length ≤ 80 := by omega
  have hbb : B.length ≤ 80 := by omega
  go_enter Try.func56, Try.ntmps56
  go_wp2_with fail
  refine H1.out.mono ?_
  rintro e w1 ⟨u, rfl, ho, hb1⟩
  obtain ⟨a1, c1, rfl⟩ : ∃ a1 c1, u = .slice a1 A.length c1 := by
    rcases ho.2 with ⟨rfl, e0⟩ | ⟨g, cap, cur, rfl, _⟩
    · exact ⟨none, 0, by rw [e0]⟩
    · exact ⟨_, _, rfl⟩
  clear ho
  go_wp2_with fail
  refine (H2.out _ hb1).mono ?_
  rintro e w2 ⟨u, rfl, ho, hb2⟩
  obtain ⟨a2, c2, rfl⟩ : ∃ a1 c1, u = .slice a1 B.length c1 := by
    rcases ho.2 with ⟨rfl, e0⟩ | ⟨g, cap, cur, rfl, _⟩
    · exact ⟨none, 0, by rw [e0]⟩
    · exact ⟨_, _, rfl⟩
  have HB := Lib.hid (hb1.trans (hb2.mono hb1.size))
  clear ho hb1 hb2 H1 H2
  by_cases he : A.length = B.length
  · have hq : ((A.length : Int) == (B.length : Int)) = true := by simp; omega
    have hq2 := Lib.hid (show (A.length == B.length) = true from by simpa using he)
    clear he
    go_wp2
    go_ret
    exact ⟨retb (by rw [hq2.out]), HB.out⟩
  · have hq : ((A.length : Int) == (B.length : Int)) = false := by simp; omega
    have hq2 := Lib.hid (show (A.length == B.length) = false from by simpa using he)
    clear he
    go_wp2
    go_ret
    exact ⟨retb (by rw [hq2.out]), HB.out⟩
def BalI (ws : List Wf) (k : Nat) : Prop := ∀ i, i < k → evI ws i = true
noncomputable def balB (l : Int) (ws : List Wf) : Bool := cb (BalI ws l.toNat)
theorem balanced_any (b off c : Nat) (l k : Int) (ws : List Wf) (w : World) (hn : ws.length ≤ 80) (hl : 1 ≤ l ∧ l ≤ 4) (hk : B8 k) (hb : b < w.heap.size) (hc : WAt w b off ws) :
    Calls Try.prog 41 #[opV (some ⟨b, off, none⟩) ws.length c l k] w fun e w' => e = .returned (.bool (balB l ws)) ∧ Below w.heap.size w w' := by
  have F0 := (FR.start w).box (opC (some ⟨b, off, none⟩) ws.length c l k) 64
  have HE := Lib.hid (fun i W (hi : i < 4) (h : Below w.heap.size w W) => evenAt_any b off c ws i W hn hi (Nat.lt_of_lt_of_le hb h.size) (hc.below h hb))
  obtain ⟨n, rfl⟩ : ∃ n : Nat, l = n := ⟨l.toNat, by omega⟩
  have hT := Lib.hid (show BalI ws n → balB (n : Int) ws = true from fun h => cb_t (by simpa using h))
  have hX := Lib.hid (show ∀ i, i < n → evI ws i = false → balB (n : Int) ws = false from fun i hi h => cb_f (fun h' => by rw [h' i (by simpa using hi)] at h; cases h))
  have hc0 := (F0.blk _ List.mem_cons_self).six
  clear hc hk
  go_enter Try.func41, Try.ntmps41
  obtain ⟨d0, d1, d2, d3, d4, d5, -⟩ := hc0
  go_wp2
  clear d0 d1 d2 d3 d4 d5
  go_loopw [6] (fun iv wr => ∃ i : Nat, iv = .int .i64 (i : Int) ∧ i ≤ n ∧ BalI ws i ∧ FR w [(w.heap.size, opC (some ⟨b, off, none⟩) ws.length c n k, 64)] wr) (fun iv _ => n - (intOf iv).toNat)
  case atStart => exact ⟨0, rfl, Nat.zero_le _, fun i h => absurd h (by omega), F0⟩
  case round =>
    clear F0
    obtain ⟨i, rfl, hi, hf, F1⟩ := hrel
    have HFit := Lib.hid hf
    clear hf
    by_cases hlt : i < n
    case neg =>
      obtain rfl : i = n := by omega
      have HR := Lib.hid (hT.out HFit.out)
      have HB := Lib.hid F1.below
      clear F1
      go_wp2
      go_ret
      exact ⟨retb HR.out.symm, HB.out⟩
    have hiz : (i : Int) < (n : Int) := by omega
    have HEi := Lib.hid (HE.out i wr (by omega) F1.below)
    have HXi := Lib.hid (hX.out i hlt)
    have HNi := Lib.hid (show evI ws i = true → BalI ws (i + 1) from fun h j hj => by
      by_cases e : j = i
      · subst e; exact h
      · exact HFit.out j (by omega))
    obtain ⟨d0, d1, d2, d3, d4, d5, -⟩ := (F1.blk _ List.mem_cons_self).six
    cases hev : evI ws i
    · rw [hev] at HEi
      have HR := Lib.hid (HXi.out hev)
      clear hev HXi HNi
      go_wp2_with fail
      refine HEi.out.mono ?_
      rintro e w2 ⟨rfl, hb2⟩
      have HB := Lib.hid (F1.next hb2).below
      clear hb2 F1 d0 d1 d2 d3 d4 d5 HEi
      go_wp2
      go_ret
      exact ⟨retb HR.out.symm, HB.out⟩
    · rw [hev] at HEi
      have HN := Lib.hid (HNi.out hev)
      clear hev HXi HNi
      go_wp2_with fail
      refine HEi.out.mono ?_
      rintro e w2 ⟨rfl, hb2⟩
      have HF := Lib.hid (F1.next hb2)
      clear hb2 F1 d0 d1 d2 d3 d4 d5 HEi
      go_wp2
      go_roundw
      case rel => exact ⟨i + 1, by go_num, by omega, HN.out, HF.out⟩
      case measure => simp [intOf]; omega
end Go.Proofs.Ytlkkjjbihgiiiaa
