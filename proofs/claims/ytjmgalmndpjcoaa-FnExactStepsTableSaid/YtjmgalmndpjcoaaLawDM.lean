/-
  The walk of the law of DoMove.
-/
import Derived.Test.YtjmgalmndpjcoaaMvLaw
import Derived.Test.YtjmgalmndpjcoaaDoMove
import Derived.Deep.DeepCutAuto
namespace Go.Proofs.Ytjmgalmndpjcoaa
open Go.RowKit

/-- A contract over a puzzle that was copied, in a frame. -/
theorem Calls.frow {P : Program} {f : FuncId} {args : Array Value} {w0 W : World} {v : Ending} {L : List (Nat × Array Value × TypeId)} {R : List (Nat × List Int)} {g : Nat} {xs : List Int} (h : FR w0 L R W) (hm : (g, xs) ∈ R)
    (hc : g < W.heap.size → At .i16 W g 0 xs → Calls P f args W fun e w' => e = v ∧ Below W.heap.size W w') : Calls P f args W fun e w' => e = v ∧ FR w0 L R w' :=
  Calls.fr h (hc (h.row _ hm).lt (h.row _ hm).at)
end Go.Proofs.Ytjmgalmndpjcoaa
