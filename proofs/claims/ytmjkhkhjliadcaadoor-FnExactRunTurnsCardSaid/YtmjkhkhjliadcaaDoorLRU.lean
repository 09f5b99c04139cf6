/-
  The walk of the law of RunTurns, whole.
-/
import Derived.Test.YtmjkhkhjliadcaaDoorLRB
import Derived.Test.YtmjkhkhjliadcaaDoorLRC
namespace Go.Proofs.YtmjkhkhjliadcaaDoor
open Go.RowKit
set_option linter.unusedVariables false

theorem walk_FnExactRunTurns (a0 : Option Addr) (c0 : Nat) (xs0 : List Int) (x1 : Nat → Int) (a2 : Option Addr) (c2 : Nat) (xs2 : List Int) (w : World) (m0 : xs0.length ≤ 9223372036854775807) (s0 : Sl .i16 w.heap.size w a0 xs0) (g0 : I16 xs0) (v1 : W16 x1) (m2 : xs2.length ≤ 9223372036854775807) (s2 : Sl .u8 w.heap.size w a2 xs2) (g2 : ∀ j, 0 ≤ xs2.getD j 0 ∧ xs2.getD j 0 ≤ 255) (hE0 : w.cell? ⟨0, 0, none⟩ = some errV) :
    Calls Tryd.prog 3 #[.slice a0 xs0.length c0, watV x1, .slice a2 xs2.length c2] w fun e w' => e = .returned (.bool true) ∧ Below w.heap.size w w' := by
  by_cases h : rtL xs0 x1 xs2 = []
  · exact walkE a0 c0 xs0 x1 a2 c2 xs2 w m0 s0 g0 v1 m2 s2 g2 hE0 h
  · exact walkN a0 c0 xs0 x1 a2 c2 xs2 w m0 s0 g0 v1 m2 s2 g2 hE0 h
end Go.Proofs.YtmjkhkhjliadcaaDoor
