/-
  The walks of CasesOf's and FindCase's models, and of isCase.
-/
import Derived.Test.YtlbiakoofpgdmaaC5
namespace Go.Proofs.Ytlbiakoofpgdmaa
open Go.RowKit Go.Shelf
set_option maxRecDepth 100000
set_option linter.unusedVariables false

theorem l03Cases_any (m : Nat) (k : Int) (nn gg : Bool) (w : World) (hm : m ≤ 13) (hk : 0 ≤ k ∧ k ≤ 2) :
    Calls Try.prog 56 #[taskV m k nn gg] w fun e W' => ∃ v, e = .returned v ∧ W'.ownsRow (w.heap.size + 1) 60 2 v (upC k nn m).length (cvals (upC k nn m)) ∧ Below w.heap.size w W' := by
  cases nn
  · exact l03Cases_false m k gg w hm hk
  · exact l03Cases_true m k gg w hm hk
theorem l03Cases_own (m : Nat) (k : Int) (nn gg : Bool) (w : World) (hm : m ≤ 13) (hk : 0 ≤ k ∧ k ≤ 2) :
    Calls Try.prog 56 #[taskV m k nn gg] w fun e W' => ∃ v, e = .returned v ∧ OwnX w.heap.size W' v (upC k nn m).length (cvals (upC k nn m)) ∧ Below w.heap.size w W' := by
  refine (l03Cases_any m k nn gg w hm hk).mono ?_
  rintro e w' ⟨v, rfl, ho, hb⟩
  exact ⟨v, rfl, (OwnX.ofOwns ho).mono (by omega), hb⟩
theorem cvals_get (cs : List Cs) (j : Nat) (hj : j < cs.length) : (cvals cs)[j * 2]? = some (.int .i8 (cs.getD j (0, false)).1) ∧ (cvals cs)[j * 2 + 1]? = some (.bool (cs.getD j (0, false)).2) := by
  induction cs generalizing j with
  | nil => exact absurd hj (by simp)
  | cons m ms ih =>
    rw [show cvals (m :: ms) = .int .i8 m.1 :: .bool m.2 :: cvals ms from rfl]
    cases j with
    | zero => exact ⟨rfl, rfl⟩
    | succ j =>
      have h := ih j (by simpa using hj)
      rw [show (j + 1) * 2 = j * 2 + 2 by omega]
      simpa using h
/-- Cases in block b from off on. -/
def CAt (w : World) (b off : Nat) (cs : List Cs) : Prop := ∀ j, j < cs.length → w.cell? ⟨b, off + j * 2, none⟩ = some (.int .i8 (cs.getD j (0, false)).1) ∧ w.cell? ⟨b, off + j * 2 + 1, none⟩ = some (.bool (cs.getD j (0, false)).2)
theorem VAt.cs {w : World} {b off : Nat} {cs : List Cs} (h : VAt w b off (cvals cs)) : CAt w b off cs := fun j hj =>
  ⟨h _ _ (cvals_get cs j hj).1, by have := h _ _ (cvals_get cs j hj).2; rwa [← Nat.add_assoc] at this⟩
theorem CAt.below {w w' : World} {b off B : Nat} {cs : List Cs} (h : CAt w b off cs) (hb : Below B w w') (hB : b < B) : CAt w' b off cs := fun j hj =>
  ⟨(hb.cell (p := ⟨b, off + j * 2, none⟩) hB).trans (h j hj).1, (hb.cell (p := ⟨b, off + j * 2 + 1, none⟩) hB).trans (h j hj).2⟩
theorem ne_beq {x y : Cs} (h : x ≠ y) : (x.1 == y.1 && x.2 == y.2) = false := by
  by_cases h1 : x.1 = y.1 <;> by_cases h2 : x.2 = y.2 <;> simp [h1, h2]
  exact h (Prod.ext h1 h2)
/-- The index of a case of a valid task, or -1. -/
def fiV (L : List Cs) (x : Cs) : Int := if x ∈ L then (L.idxOf x : Int) else -1
theorem not_mem_take {L : List Cs} {x : Cs} {i : Nat} (hi : i < L.length) (h : x ∉ L.take i) (hx : L.getD i (0, false) ≠ x) : x ∉ L.take (i + 1) := by
  rw [List.take_add_one, List.getElem?_eq_getElem hi, List.mem_append]
  rw [List.getD_eq_getElem?_getD, List.getElem?_eq_getElem hi] at hx
  simp only [Option.getD_some] at hx
  simp only [Option.toList_some, List.mem_singleton]
  exact fun h' => h'.elim h (fun e => hx e.symm)
theorem fiV_at {L : List Cs} {x : Cs} {i : Nat} (hi : i < L.length) (h : x ∉ L.take i) (hx : L.getD i (0, false) = x) : fiV L x = i := by
  rw [List.getD_eq_getElem?_getD, List.getElem?_eq_getElem hi] at hx
  simp only [Option.getD_some] at hx
  have hm : x ∈ L := by rw [← hx]; exact List.getElem_mem hi
  unfold fiV
  rw [if_pos hm]
  have hp : L.take i ++ [x] <+: L := by
    have e : L.take i ++ [x] = L.take (i + 1) := by rw [List.take_add_one, List.getElem?_eq_getElem hi]; simp [hx]
    rw [e]
    exact List.take_prefix _ _
  obtain ⟨r, hr⟩ := hp
  have : L.idxOf x = (L.take i).length := by
    conv => lhs; rw [← hr]
    rw [List.append_assoc, List.idxOf_append, if_neg h]
    simp
  rw [this, List.length_take]
  omega
theorem fiV_out {L : List Cs} {x : Cs} (h : x ∉ L.take L.length) : fiV L x = -1 := by
  rw [List.take_length] at h
  unfold fiV
  rw [if_neg h]
set_option maxHeartbeats 4000000 in
theorem l03Find_any (m : Nat) (k : Int) (nn gg : Bool) (cc : Int) (hh : Bool) (w : World) (hm : 1 ≤ m ∧ m ≤ 13) (hk : 0 ≤ k ∧ k ≤ 2) :
    Calls Try.prog 48 #[taskV m k nn gg, caseV cc hh] w fun e W' => e = .returned (.int .i64 (fiV (upC k nn m) (cc, hh))) ∧ Below w.heap.size w W' := by
  have F0 := ((FR.start w).box #[.int .i8 (m : Int), .int .i8 k, .bool nn, .bool gg] 32).box #[.int .i8 cc, .bool hh] 60
  simp only [World.size_alloc] at F0
  have HC := Lib.hid (fun W => l03Cases_own m k nn gg W hm.2 hk)
  have hL : (upC k nn m).length ≤ 27 := by have := upC_len k nn m; omega
  have hL0 : 0 < (upC k nn m).length := by
    have := (upC_pre k nn m (show 1 ≤ m by omega)).length_le
    rw [upC_succ, List.length_append] at this
    have h2 : 0 < (cOf k 0).length := by unfold cOf; split <;> split <;> simp_all
    omega
  have hE := fun a b a' b' W => eqCs a b a' b' W
  clear hm hk
  generalize upC k nn m = L at *
  go_enter Try.func48, Try.ntmps48
  go_wp2_with fail
  refine (HC.out _).mono ?_
  rintro e w2 ⟨v, rfl, ⟨a, c, rfl, ho⟩, hb⟩
  have F1 := F0.next hb
  rcases ho with ho | ⟨g, rfl, hg0, hg1, hv, _⟩
  · have := cvals_len L
    rw [ho] at this
    simp at this
    omega
  have hA := hv.cs
  clear hb F0 hv HC
  go_wp2_with fail
  go_loopw [6] (fun iv wr => ∃ i : Nat, iv = .int .i64 (i : Int) ∧ i ≤ L.length ∧ (cc, hh) ∉ L.take i ∧ ∃ q, wr = w2.drewN q) (fun iv _ => L.length - (intOf iv).toNat)
  case atStart => exact ⟨0, rfl, Nat.zero_le _, by simp, 0, rfl⟩
  case round =>
    obtain ⟨i, rfl, hi, hx, q, rfl⟩ := hrel
    by_cases hlt : i < L.length
    case neg =>
      obtain rfl : i = L.length := by omega
      have HR := Lib.hid (fiV_out hx)
      have HB := Lib.hid (F1.drewN q).below
      clear hx
      go_wp2
      go_ret
      exact ⟨reti HR.out.symm, HB.out⟩
    obtain ⟨c0, c1⟩ := hA i hlt
    obtain ⟨d0, d1, -⟩ := (F1.blk _ List.mem_cons_self).two
    rw [Nat.zero_add] at c0 c1
    have hiz : (i : Int) < (L.length : Int) := by omega
    have HB := Lib.hid (fun q' => ((F1.drewN q).drewN q').below)
    by_cases he : L.getD i (0, false) = (cc, hh)
    · have HR := Lib.hid (fiV_at hlt hx he)
      rw [he] at c0 c1
      clear he hx
      go_wp2_with fail
      go_quiet (fail)
      go_wp2
      go_ret
      exact ⟨reti HR.out.symm, HB.out _⟩
    · have HN := Lib.hid (not_mem_take hlt hx he)
      have hq : ((L.getD i (0, false)).1 == cc && (L.getD i (0, false)).2 == hh) = false := ne_beq he
      generalize (L.getD i (0, false)).1 = p at *
      generalize (L.getD i (0, false)).2 = r at *
      clear he hx
      go_wp2_with fail
      go_quiet (fail)
      go_wp2
      go_roundw
      case rel => exact ⟨i + 1, by go_num, by omega, HN.out, _, rfl⟩
      case measure => simp [intOf]; omega
theorem fnd_fi (c k : Int) (n : Bool) (x : Cs) (h : okT c k = true) : (fiV (upC k n c.toNat) x < 0 → fndV c k n x = 0 ∧ fndC c k n x = 6) ∧ (¬ fiV (upC k n c.toNat) x < 0 → (fndV c k n x : Int) = fiV (upC k n c.toNat) x ∧ fndC c k n x = 0) := by
  unfold fndV fndC
  rw [if_pos h, if_pos h]
  unfold fiV fcV fcC
  by_cases hx : x ∈ upC k n c.toNat
  · rw [if_pos hx, if_pos hx, if_pos hx]
    exact ⟨fun h => by omega, fun _ => ⟨rfl, rfl⟩⟩
  · rw [if_neg hx, if_neg hx, if_neg hx]
    exact ⟨fun _ => ⟨rfl, rfl⟩, fun h => by omega⟩
theorem fiV_le (L : List Cs) (x : Cs) : -1 ≤ fiV L x ∧ fiV L x ≤ L.length := by
  unfold fiV
  split
  case isTrue h => have := List.idxOf_lt_length_of_mem h; omega
  case isFalse h => omega
/-- Whether a case is one of a task. -/
noncomputable def isC (c k : Int) (n : Bool) (x : Cs) : Bool := decide (fndC c k n x = 0)
theorem isCase_any (c k : Int) (nn gg : Bool) (cc : Int) (hh : Bool) (w : World) (hc : B8 c) (hk : B8 k) :
    Calls Try.prog 51 #[taskV c k nn gg, caseV cc hh] w fun e W' => e = .returned (.bool (isC c k nn (cc, hh))) ∧ Below w.heap.size w W' := by
  have F0 := ((FR.start w).box #[.int .i8 c, .int .i8 k, .bool nn, .bool gg] 32).box #[.int .i8 cc, .bool hh] 60
  simp only [World.size_alloc] at F0
  have HV := Lib.hid (fun W => findCase_any c k nn gg cc hh W hc hk)
  unfold isC
  generalize fndV c k nn (cc, hh) = r at *
  generalize fndC c k nn (cc, hh) = s at *
  clear hc hk
  have F1 := F0
  obtain ⟨c0, c1, c2, c3, -⟩ := (F1.blk _ (List.mem_cons_of_mem _ List.mem_cons_self)).four
  obtain ⟨d0, d1, -⟩ := (F1.blk _ List.mem_cons_self).two
  go_enter Try.func51, Try.ntmps51
  go_wp2_with fail
  refine (HV.out _).mono ?_
  rintro e w2 ⟨rfl, hb⟩
  have HB := Lib.hid (F1.next hb).below
  clear hb F1 F0 c0 c1 c2 c3 d0 d1
  go_wp2
  go_ret
  exact ⟨by rfl, HB.out⟩
end Go.Proofs.Ytlbiakoofpgdmaa
