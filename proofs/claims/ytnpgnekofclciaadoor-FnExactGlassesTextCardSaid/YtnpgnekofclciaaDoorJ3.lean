/-
  The walks of ValidPuzzle and ValidWater, in the program and in its model.
-/
import Derived.Test.YtnpgnekofclciaaDoorJ2
import Derived.StillTailTactics
namespace Go.Proofs.YtnpgnekofclciaaDoor
open Go.RowKit
set_option maxRecDepth 100000

/-- The value of a puzzle. -/
abbrev puzV (a : Option Addr) (n c : Nat) (x : Nat → Int) (t : Bool) : Value := .agg #[.slice a n c, .int .i16 (x 0), .int .i16 (x 1), .int .i16 (x 2), .int .i16 (x 3), .bool t]

theorem Calls.still_same {P : Program} {f : FuncId} {args : Array Value} {w : World} {v : Ending} (h : Calls P f args w fun e w' => e = v ∧ w = w') : Calls P f args w fun e w' => e = v ∧ w' = w :=
  h.mono fun _ _ ⟨a, b⟩ => ⟨a, b.symm⟩
theorem validPuzzle_any (b off c : Nat) (J : List Int) (x : Nat → Int) (t : Bool) (w : World) (hn : J.length ≤ 1048576) (hb : b < w.heap.size) (hc : At .i16 w b off J) (hi : I16 J) :
    Calls Tryd.prog 27 #[puzV (some ⟨b, off, none⟩) J.length c x t] w fun e w' => e = .returned (.bool (okZ J x)) ∧ Below w.heap.size w w' := by
  have hB := (Below.refl w.heap.size w).alloc (Nat.le_refl _) (.cells #[.slice (some ⟨b, off, none⟩) J.length c, .int .i16 (x 0), .int .i16 (x 1), .int .i16 (x 2), .int .i16 (x 3), .bool t] 41)
  have HC := Lib.hid (hc.below hB hb)
  have HV := Lib.hid (fun W (h : At .i16 W b off J) => validJugs_any b off c J W hn h hi)
  rw [okZ_eq]
  clear hc hi
  cases hok : okJ J
  · rw [hok] at HV
    clear hok
    simp only [Bool.false_and]
    have HB := Lib.hid hB
    clear hB
    go_enter Tryd.func27, Tryd.ntmps27
    go_wp2_with (go_at_call 35; refine (HV.out _ HC.out).mono ?_; rintro e w' ⟨rfl, rfl⟩)
    go_ret
    exact ⟨rfl, HB.out⟩
  · rw [hok] at HV
    have hl := (of_okJ hok).1.2
    have HH := Lib.hid (canHold_any b off c J x _ hl (Nat.lt_of_lt_of_le hb hB.size) HC.out)
    have HB := Lib.hid hB
    clear hok hB
    simp only [Bool.true_and]
    go_enter Tryd.func27, Tryd.ntmps27
    go_wp2_with (go_at_call 35; refine (HV.out _ HC.out).mono ?_; rintro e w' ⟨rfl, rfl⟩)
    refine HH.out.mono ?_
    rintro e w2 ⟨rfl, hb2⟩
    have HB2 := Lib.hid (HB.out.trans (hb2.mono HB.out.size))
    clear hb2
    go_wp2
    go_ret
    exact ⟨rfl, HB2.out⟩
end Go.Proofs.YtnpgnekofclciaaDoor
