/-
  The walks of CanWeigh, in the program and in its model.
-/
import Derived.Test.YtmmdldbaoemdoaaFew
namespace Go.Proofs.Ytmmdldbaoemdoaa
open Go.RowKit Go.Maps

noncomputable def canV (ws : List Int) (m : Int) (both : Bool) : Bool := if askC ws m = 0 then decide (0 < wayFn (plOf both) ws ws.length m) else false
theorem retbi {a b : Bool} {c d : Int} (h : a = b) (h2 : c = d) : Ending.returned (.tuple #[.bool a, .int .i64 c]) = .returned (.tuple #[.bool b, .int .i64 d]) := by rw [h, h2]
end Go.Proofs.Ytmmdldbaoemdoaa
