/-
  No cell of these rows narrows 'for every input' (looked for: loops, veiled, ifaces, maps, wideKeys, modest, calm, conditions, laid).
  DERIVED. THE GIVEN ROWS OF THIS SEAT. 6 by the template 'for every input the law returns true; each argument reads behind the call as it read before'; 0 by the template 'total and deterministic' (their statements: YtidbaijkgkbadaaTotals.lean).
  GIVEN WITH THE SEED: the statements are not yours to turn. If you find one false, say at which input.
  Laid BY PROGRAM, IN A SANDBOX (cutbox-rows.mjs): the forced cells as the released guide's own fill.sh prints them over the translation ce23d1c6e7359abd… (all of the seat's roots in one cut). By AI agents, Wed Nov 11 2026. No macro, syntax, notation, axiom, sorry.
-/
import Derived.Test.YtidbaijkgkbadaaChecked
import GoSem.Claim
import GoSem.ClaimJoined
import GoSem.ClaimMapViews
import Derived.JoinedTies
import Derived.KernelRfl
namespace Go.Proofs.Ytidbaijkgkbadaa
/- THE CELL 'sum', in the pinned program and in every row, IS THE sha256 OF THE DUMP (.gsa) THAT YtidbaijkgkbadaaProg.lean LOADS. Nothing in Lean hashes anything: it is a label: what it is worth is what the hold of that sum in a sandbox is worth. -/
noncomputable def Try.pinned : Pinned := { name := "ytidbaijkgkbadaa", sum := "ce23d1c6e7359abd7dff162b1e4ee310fa4fd9e2172042d69de43082318520b9", checked := Try.checked }
namespace Rows
def none {H : Type} : Left H := { results := [], args := [] }

/-- 'laws.FnExactValidPuzzle': WHATEVER THE INPUT: true; the input reads as it did. -/
def fnExactValidPuzzleSpec : ChangeSpec := { name := "fnExactValidPuzzle", fn := fun _ => fun
  | [d] => { results := [.lit (.bool true)], args := [d] }
  | _ => none }
def fnExactValidPuzzleRow : OpenClaim := { program := "ytidbaijkgkbadaa", sum := "ce23d1c6e7359abd7dff162b1e4ee310fa4fd9e2172042d69de43082318520b9", func := "loop.example/g01281/laws.FnExactValidPuzzle", spec := "fnExactValidPuzzle", apart := false }
def FnExactValidPuzzleSaid : Prop := fnExactValidPuzzleRow.holds Try.pinned (OpenSpec.ofChange fnExactValidPuzzleSpec)

/-- ITS FALSE NEIGHBOUR: 'it returns false'. Refute it at one input. -/
def fnExactValidPuzzleWrong : ChangeSpec := { name := "fnExactValidPuzzle", fn := fun _ => fun
  | [d] => { results := [.lit (.bool false)], args := [d] }
  | _ => none }
def FnExactValidPuzzleWrongFalsely : Prop := fnExactValidPuzzleRow.holds Try.pinned (OpenSpec.ofChange fnExactValidPuzzleWrong)

/-- 'laws.FnExactValidWater': WHATEVER THE INPUT: true; the input reads as it did. -/
def fnExactValidWaterSpec : ChangeSpec := { name := "fnExactValidWater", fn := fun _ => fun
  | [d1, d2] => { results := [.lit (.bool true)], args := [d1, d2] }
  | _ => none }
def fnExactValidWaterRow : OpenClaim := { program := "ytidbaijkgkbadaa", sum := "ce23d1c6e7359abd7dff162b1e4ee310fa4fd9e2172042d69de43082318520b9", func := "loop.example/g01281/laws.FnExactValidWater", spec := "fnExactValidWater", apart := false }
def FnExactValidWaterSaid : Prop := fnExactValidWaterRow.holds Try.pinned (OpenSpec.ofChange fnExactValidWaterSpec)

/-- ITS FALSE NEIGHBOUR: 'it returns false'. Refute it at one input. -/
def fnExactValidWaterWrong : ChangeSpec := { name := "fnExactValidWater", fn := fun _ => fun
  | [d1, d2] => { results := [.lit (.bool false)], args := [d1, d2] }
  | _ => none }
def FnExactValidWaterWrongFalsely : Prop := fnExactValidWaterRow.holds Try.pinned (OpenSpec.ofChange fnExactValidWaterWrong)

/-- 'laws.FnExactStatesOf': WHATEVER THE INPUT: true; the input reads as it did. -/
def fnExactStatesOfSpec : ChangeSpec := { name := "fnExactStatesOf", fn := fun _ => fun
  | [d] => { results := [.lit (.bool true)], args := [d] }
  | _ => none }
def fnExactStatesOfRow : OpenClaim := { program := "ytidbaijkgkbadaa", sum := "ce23d1c6e7359abd7dff162b1e4ee310fa4fd9e2172042d69de43082318520b9", func := "loop.example/g01281/laws.FnExactStatesOf", spec := "fnExactStatesOf", apart := false }
def FnExactStatesOfSaid : Prop := fnExactStatesOfRow.holds Try.pinned (OpenSpec.ofChange fnExactStatesOfSpec)

/-- ITS FALSE NEIGHBOUR: 'it returns false'. Refute it at one input. -/
def fnExactStatesOfWrong : ChangeSpec := { name := "fnExactStatesOf", fn := fun _ => fun
  | [d] => { results := [.lit (.bool false)], args := [d] }
  | _ => none }
def FnExactStatesOfWrongFalsely : Prop := fnExactStatesOfRow.holds Try.pinned (OpenSpec.ofChange fnExactStatesOfWrong)

/-- 'laws.FnExactStateIndex': WHATEVER THE INPUT: true; the input reads as it did. -/
def fnExactStateIndexSpec : ChangeSpec := { name := "fnExactStateIndex", fn := fun _ => fun
  | [d1, d2] => { results := [.lit (.bool true)], args := [d1, d2] }
  | _ => none }
def fnExactStateIndexRow : OpenClaim := { program := "ytidbaijkgkbadaa", sum := "ce23d1c6e7359abd7dff162b1e4ee310fa4fd9e2172042d69de43082318520b9", func := "loop.example/g01281/laws.FnExactStateIndex", spec := "fnExactStateIndex", apart := false }
def FnExactStateIndexSaid : Prop := fnExactStateIndexRow.holds Try.pinned (OpenSpec.ofChange fnExactStateIndexSpec)

/-- ITS FALSE NEIGHBOUR: 'it returns false'. Refute it at one input. -/
def fnExactStateIndexWrong : ChangeSpec := { name := "fnExactStateIndex", fn := fun _ => fun
  | [d1, d2] => { results := [.lit (.bool false)], args := [d1, d2] }
  | _ => none }
def FnExactStateIndexWrongFalsely : Prop := fnExactStateIndexRow.holds Try.pinned (OpenSpec.ofChange fnExactStateIndexWrong)

/-- 'laws.FnExactWaterAt': WHATEVER THE INPUT: true; the input reads as it did. -/
def fnExactWaterAtSpec : ChangeSpec := { name := "fnExactWaterAt", fn := fun _ => fun
  | [d1, d2] => { results := [.lit (.bool true)], args := [d1, d2] }
  | _ => none }
def fnExactWaterAtRow : OpenClaim := { program := "ytidbaijkgkbadaa", sum := "ce23d1c6e7359abd7dff162b1e4ee310fa4fd9e2172042d69de43082318520b9", func := "loop.example/g01281/laws.FnExactWaterAt", spec := "fnExactWaterAt", apart := false }
def FnExactWaterAtSaid : Prop := fnExactWaterAtRow.holds Try.pinned (OpenSpec.ofChange fnExactWaterAtSpec)

/-- ITS FALSE NEIGHBOUR: 'it returns false'. Refute it at one input. -/
def fnExactWaterAtWrong : ChangeSpec := { name := "fnExactWaterAt", fn := fun _ => fun
  | [d1, d2] => { results := [.lit (.bool false)], args := [d1, d2] }
  | _ => none }
def FnExactWaterAtWrongFalsely : Prop := fnExactWaterAtRow.holds Try.pinned (OpenSpec.ofChange fnExactWaterAtWrong)

/-- 'laws.FnExactStepOfJugs': WHATEVER THE INPUT: true; the input reads as it did. -/
def fnExactStepOfJugsSpec : ChangeSpec := { name := "fnExactStepOfJugs", fn := fun _ => fun
  | [d] => { results := [.lit (.bool true)], args := [d] }
  | _ => none }
def fnExactStepOfJugsRow : OpenClaim := { program := "ytidbaijkgkbadaa", sum := "ce23d1c6e7359abd7dff162b1e4ee310fa4fd9e2172042d69de43082318520b9", func := "loop.example/g01281/laws.FnExactStepOfJugs", spec := "fnExactStepOfJugs", recurses := true, apart := false }
def FnExactStepOfJugsSaid : Prop := fnExactStepOfJugsRow.holds Try.pinned (OpenSpec.ofChange fnExactStepOfJugsSpec)

/-- ITS FALSE NEIGHBOUR: 'it returns false'. Refute it at one input. -/
def fnExactStepOfJugsWrong : ChangeSpec := { name := "fnExactStepOfJugs", fn := fun _ => fun
  | [d] => { results := [.lit (.bool false)], args := [d] }
  | _ => none }
def FnExactStepOfJugsWrongFalsely : Prop := fnExactStepOfJugsRow.holds Try.pinned (OpenSpec.ofChange fnExactStepOfJugsWrong)

/- THE SECOND FORM. 'bulk': how many values and letters a reading holds, each counted each time it is reached (what is shared counts as often as it is met; a slice's spare places count too). A statement '..UptoSaid' is the law's where the arguments, and the package variables that the reading takes, are together of bulk at most 1048576: NARROWER than '..Said'. Prove '..Said' where nothing that the law and all that it calls make is longer than what came in: it says more and counts as full. Else prove '..UptoSaid'. A law counts once. -/
mutual
def uptoBulk {H : Type} : DataW H → Nat
  | .lit (.string bytes) => bytes.length + 1
  | .lit _ => 1
  | .nil => 1
  | .ptr d => uptoBulk d + 1
  | .slice elems spare => uptoBulkAll elems + uptoBulkAll spare + 1
  | .agg parts => uptoBulkAll parts + 1
  | .iface _ d => uptoBulk d + 1
  | .map entries => uptoBulkEntries entries + 1
  | .held _ => 1
def uptoBulkAll {H : Type} : List (DataW H) → Nat
  | [] => 0
  | d :: r => uptoBulk d + uptoBulkAll r
def uptoBulkEntries {H : Type} : List (Lit × DataW H) → Nat
  | [] => 0
  | x :: r => uptoBulkEntry x + uptoBulkEntries r
def uptoBulkEntry {H : Type} : Lit × DataW H → Nat
  | (.string bytes, d) => bytes.length + uptoBulk d + 1
  | (_, d) => uptoBulk d + 1
 end
def uptoSmall : (H : Type) → List (DataW H) → Bool := fun _ ds => decide (uptoBulkAll ds ≤ 1048576)
def OpenSpec.upto (s : _root_.Go.ChangeSpec) : _root_.Go.OpenSpec := { _root_.Go.OpenSpec.ofChange s with cond := some uptoSmall }

/-- 'laws.FnExactValidPuzzle', WHERE WHAT IT READS IS OF BULK AT MOST 1048576: true; the input reads as it did. -/
def fnExactValidPuzzleUptoRow : OpenClaim := { program := "ytidbaijkgkbadaa", sum := "ce23d1c6e7359abd7dff162b1e4ee310fa4fd9e2172042d69de43082318520b9", func := "loop.example/g01281/laws.FnExactValidPuzzle", spec := "fnExactValidPuzzle", apart := false, narrowed := true }
def FnExactValidPuzzleUptoSaid : Prop := fnExactValidPuzzleUptoRow.holds Try.pinned (OpenSpec.upto fnExactValidPuzzleSpec)

/-- 'laws.FnExactValidWater', WHERE WHAT IT READS IS OF BULK AT MOST 1048576: true; the input reads as it did. -/
def fnExactValidWaterUptoRow : OpenClaim := { program := "ytidbaijkgkbadaa", sum := "ce23d1c6e7359abd7dff162b1e4ee310fa4fd9e2172042d69de43082318520b9", func := "loop.example/g01281/laws.FnExactValidWater", spec := "fnExactValidWater", apart := false, narrowed := true }
def FnExactValidWaterUptoSaid : Prop := fnExactValidWaterUptoRow.holds Try.pinned (OpenSpec.upto fnExactValidWaterSpec)

/-- 'laws.FnExactStatesOf', WHERE WHAT IT READS IS OF BULK AT MOST 1048576: true; the input reads as it did. -/
def fnExactStatesOfUptoRow : OpenClaim := { program := "ytidbaijkgkbadaa", sum := "ce23d1c6e7359abd7dff162b1e4ee310fa4fd9e2172042d69de43082318520b9", func := "loop.example/g01281/laws.FnExactStatesOf", spec := "fnExactStatesOf", apart := false, narrowed := true }
def FnExactStatesOfUptoSaid : Prop := fnExactStatesOfUptoRow.holds Try.pinned (OpenSpec.upto fnExactStatesOfSpec)

/-- 'laws.FnExactStateIndex', WHERE WHAT IT READS IS OF BULK AT MOST 1048576: true; the input reads as it did. -/
def fnExactStateIndexUptoRow : OpenClaim := { program := "ytidbaijkgkbadaa", sum := "ce23d1c6e7359abd7dff162b1e4ee310fa4fd9e2172042d69de43082318520b9", func := "loop.example/g01281/laws.FnExactStateIndex", spec := "fnExactStateIndex", apart := false, narrowed := true }
def FnExactStateIndexUptoSaid : Prop := fnExactStateIndexUptoRow.holds Try.pinned (OpenSpec.upto fnExactStateIndexSpec)

/-- 'laws.FnExactWaterAt', WHERE WHAT IT READS IS OF BULK AT MOST 1048576: true; the input reads as it did. -/
def fnExactWaterAtUptoRow : OpenClaim := { program := "ytidbaijkgkbadaa", sum := "ce23d1c6e7359abd7dff162b1e4ee310fa4fd9e2172042d69de43082318520b9", func := "loop.example/g01281/laws.FnExactWaterAt", spec := "fnExactWaterAt", apart := false, narrowed := true }
def FnExactWaterAtUptoSaid : Prop := fnExactWaterAtUptoRow.holds Try.pinned (OpenSpec.upto fnExactWaterAtSpec)

/-- 'laws.FnExactStepOfJugs', WHERE WHAT IT READS IS OF BULK AT MOST 1048576: true; the input reads as it did. -/
def fnExactStepOfJugsUptoRow : OpenClaim := { program := "ytidbaijkgkbadaa", sum := "ce23d1c6e7359abd7dff162b1e4ee310fa4fd9e2172042d69de43082318520b9", func := "loop.example/g01281/laws.FnExactStepOfJugs", spec := "fnExactStepOfJugs", recurses := true, apart := false, narrowed := true }
def FnExactStepOfJugsUptoSaid : Prop := fnExactStepOfJugsUptoRow.holds Try.pinned (OpenSpec.upto fnExactStepOfJugsSpec)

end Rows
end Go.Proofs.Ytidbaijkgkbadaa
