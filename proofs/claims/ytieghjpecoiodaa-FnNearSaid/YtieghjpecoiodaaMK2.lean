/-
  The model's way to make a fixed plan: what begins a group.
-/
import Derived.Test.YtieghjpecoiodaaMK1
import Derived.Test.YtieghjpecoiodaaD5x
namespace Go.Proofs.Ytieghjpecoiodaa
open Go.RowKit
set_option maxRecDepth 100000
set_option linter.unusedVariables false

def tnG (l : Nat) (x : Nat → Int) : Nat → Bool
  | 1 => tnB l x
  | 2 => if l < 3 then false else if x 2 ≠ x 1 then decide (x 2 = nx1 (x 1)) else if l < 4 then false else if x 3 ≠ x 2 then decide (x 3 = nx1 (x 2)) else false
  | 3 => if l < 4 then false else if x 3 ≠ x 2 then decide (x 3 = nx1 (x 2)) else false
  | _ => false
theorem tnG_end {l : Nat} {x : Nat → Int} (hl : 1 ≤ l ∧ l ≤ 4) : tnG l x l = false := by
  rcases four_in hl with rfl | rfl | rfl | rfl <;> rfl
theorem tnG_eq1 {l : Nat} {x : Nat → Int} (hl : 1 < l) (h : x 1 = x 0) : tnG l x 1 = tnG l x 2 := by
  show tnB l x = _; unfold tnB; rw [if_neg (by omega), if_neg (fun e => e h)]; rfl
theorem tnG_ne1 {l : Nat} {x : Nat → Int} (hl : 1 < l) (h : ¬ x 1 = x 0) : tnG l x 1 = (x 1 == nx1 (x 0)) := by
  show tnB l x = _; unfold tnB; rw [if_neg (by omega), if_pos h]; rfl
theorem tnG_eq2 {l : Nat} {x : Nat → Int} (hl : 2 < l) (h : x 2 = x 1) : tnG l x 2 = tnG l x 3 := by
  show (if l < 3 then false else if x 2 ≠ x 1 then decide (x 2 = nx1 (x 1)) else if l < 4 then false else if x 3 ≠ x 2 then decide (x 3 = nx1 (x 2)) else false) = _; rw [if_neg (by omega), if_neg (fun e => e h)]; rfl
theorem tnG_ne2 {l : Nat} {x : Nat → Int} (hl : 2 < l) (h : ¬ x 2 = x 1) : tnG l x 2 = (x 2 == nx1 (x 1)) := by
  show (if l < 3 then false else if x 2 ≠ x 1 then decide (x 2 = nx1 (x 1)) else if l < 4 then false else if x 3 ≠ x 2 then decide (x 3 = nx1 (x 2)) else false) = _; rw [if_neg (by omega), if_pos h]; rfl
theorem tnG_eq3 {l : Nat} {x : Nat → Int} (hl : 3 < l) (h : x 3 = x 2) : tnG l x 3 = tnG l x 4 := by
  show (if l < 4 then false else if x 3 ≠ x 2 then decide (x 3 = nx1 (x 2)) else false) = _; rw [if_neg (by omega), if_neg (fun e => e h)]; rfl
theorem tnG_ne3 {l : Nat} {x : Nat → Int} (hl : 3 < l) (h : ¬ x 3 = x 2) : tnG l x 3 = (x 3 == nx1 (x 2)) := by
  show (if l < 4 then false else if x 3 ≠ x 2 then decide (x 3 = nx1 (x 2)) else false) = _; rw [if_neg (by omega), if_pos h]; rfl
set_option maxHeartbeats 8000000 in
theorem l04Turns_any (l : Nat) (x : Nat → Int) (w : World) (hl : 1 ≤ l ∧ l ≤ 4) (hx : S4 x) :
    Calls Try.prog 40 #[.int .i64 (l : Int), wordV x] w fun e w' => e = .returned (.bool (tnB l x)) ∧ Below w.heap.size w w' := by
  have HF := Lib.hid ((FR.start w).box (wordC x) 40)
  obtain ⟨h0, h1, h2, h3⟩ := hx
  have lz : (l : Int) ≤ 4 := by omega
  go_enter Try.func40, Try.ntmps40
  go_wp2
  go_loopw [5] (fun iv wr => ∃ i : Nat, iv = .int .i64 (i : Int) ∧ 1 ≤ i ∧ i ≤ l ∧ tnG l x i = tnB l x ∧ FR w [(w.heap.size, wordC x, 40)] wr) (fun iv _ => 5 - (intOf iv).toNat)
  case atStart => exact ⟨1, rfl, Nat.le_refl _, hl.1, rfl, HF.out⟩
  case round =>
    clear HF
    obtain ⟨i, rfl, hi1, hil, ht, hF⟩ := hrel
    have HT := Lib.hid ht
    have HB := Lib.hid hF.below
    clear ht
    by_cases hlt : i < l
    case neg =>
      obtain rfl : i = l := by omega
      have HR := Lib.hid (HT.out.symm.trans (tnG_end (x := x) hl))
      clear hF
      go_wp2
      go_ret
      exact ⟨retb HR.out.symm, HB.out⟩
    have hiz : (i : Int) < (l : Int) := by omega
    obtain ⟨c0, c1, c2, c3, c4⟩ := (hF.blk _ List.mem_cons_self).four
    have HF := Lib.hid hF
    clear hF
    dsimp only at c0 c1 c2 c3 c4
    rcases (show i = 1 ∨ i = 2 ∨ i = 3 by omega) with rfl | rfl | rfl
    · by_cases h : x 1 = x 0
      · have hq : (x 1 != x 0) = false := by simp [h]
        have HN := Lib.hid ((tnG_eq1 hlt h).symm.trans HT.out)
        clear h
        go_wp2
        go_quiet (fail)
        go_wp2
        go_roundw
        case rel => exact ⟨1 + 1, rfl, by omega, by omega, HN.out, HF.out.drewN _⟩
        case measure => simp [intOf]
      · have hq : (x 1 != x 0) = true := by simp [h]
        have HR := Lib.hid (HT.out.symm.trans (tnG_ne1 hlt h))
        have HX := Lib.hid (fun W => l04Next_any (x 0) W h0)
        have HRB := Lib.hid (show ∃ b : Bool, (x 1 == nx1 (x 0)) = b from ⟨_, rfl⟩)
        clear h
        generalize nx1 (x 0) = nv at *
        go_wp2
        go_quiet (fail)
        go_wp2
        have kB := Lib.hid (below_drewN HB.out nq)
        obtain ⟨d0, d1, d2, d3, -⟩ := ((HF.out.drewN nq).blk _ List.mem_cons_self).four
        dsimp only at d0 d1 d2 d3
        clear c0 c1 c2 c3 c4
        generalize wr.drewN nq = W9 at *
        go_quiet ((go_at_call 56; exact Calls.quiet_same (HX.out _)))
        go_wp2
        go_ret
        exact ⟨retb HR.out.symm, below_drewN kB.out _⟩
    · by_cases h : x 2 = x 1
      · have hq : (x 2 != x 1) = false := by simp [h]
        have HN := Lib.hid ((tnG_eq2 hlt h).symm.trans HT.out)
        clear h
        go_wp2
        go_quiet (fail)
        go_wp2
        go_roundw
        case rel => exact ⟨2 + 1, rfl, by omega, by omega, HN.out, HF.out.drewN _⟩
        case measure => simp [intOf]
      · have hq : (x 2 != x 1) = true := by simp [h]
        have HR := Lib.hid (HT.out.symm.trans (tnG_ne2 hlt h))
        have HX := Lib.hid (fun W => l04Next_any (x 1) W h1)
        have HRB := Lib.hid (show ∃ b : Bool, (x 2 == nx1 (x 1)) = b from ⟨_, rfl⟩)
        clear h
        generalize nx1 (x 1) = nv at *
        go_wp2
        go_quiet (fail)
        go_wp2
        have kB := Lib.hid (below_drewN HB.out nq)
        obtain ⟨d0, d1, d2, d3, -⟩ := ((HF.out.drewN nq).blk _ List.mem_cons_self).four
        dsimp only at d0 d1 d2 d3
        clear c0 c1 c2 c3 c4
        generalize wr.drewN nq = W9 at *
        go_quiet ((go_at_call 56; exact Calls.quiet_same (HX.out _)))
        go_wp2
        go_ret
        exact ⟨retb HR.out.symm, below_drewN kB.out _⟩
    · by_cases h : x 3 = x 2
      · have hq : (x 3 != x 2) = false := by simp [h]
        have HN := Lib.hid ((tnG_eq3 hlt h).symm.trans HT.out)
        clear h
        go_wp2
        go_quiet (fail)
        go_wp2
        go_roundw
        case rel => exact ⟨3 + 1, rfl, by omega, by omega, HN.out, HF.out.drewN _⟩
        case measure => simp [intOf]
      · have hq : (x 3 != x 2) = true := by simp [h]
        have HR := Lib.hid (HT.out.symm.trans (tnG_ne3 hlt h))
        have HX := Lib.hid (fun W => l04Next_any (x 2) W h2)
        have HRB := Lib.hid (show ∃ b : Bool, (x 3 == nx1 (x 2)) = b from ⟨_, rfl⟩)
        clear h
        generalize nx1 (x 2) = nv at *
        go_wp2
        go_quiet (fail)
        go_wp2
        have kB := Lib.hid (below_drewN HB.out nq)
        obtain ⟨d0, d1, d2, d3, -⟩ := ((HF.out.drewN nq).blk _ List.mem_cons_self).four
        dsimp only at d0 d1 d2 d3
        clear c0 c1 c2 c3 c4
        generalize wr.drewN nq = W9 at *
        go_quiet ((go_at_call 56; exact Calls.quiet_same (HX.out _)))
        go_wp2
        go_ret
        exact ⟨retb HR.out.symm, below_drewN kB.out _⟩
end Go.Proofs.Ytieghjpecoiodaa
