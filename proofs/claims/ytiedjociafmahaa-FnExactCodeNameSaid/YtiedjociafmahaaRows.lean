/-
  No cell of these rows narrows 'for every input' (looked for: loops, veiled, ifaces, maps, wideKeys, modest, calm, conditions, laid).
  DERIVED. THE GIVEN ROWS OF THIS SEAT. 6 by the template 'for every input the law returns true; each argument reads behind the call as it read before'; 0 by the template 'total and deterministic' (their statements: YtiedjociafmahaaTotals.lean).
  GIVEN WITH THE SEED: the statements are not yours to turn. If you find one false, say at which input.
  Laid BY PROGRAM, IN A SANDBOX (cutbox-rows.mjs): the forced cells as the released guide's own fill.sh prints them over the translation ceb2c43c6261a8b4… (all of the seat's roots in one cut). By AI agents, Wed Nov 11 2026. No macro, syntax, notation, axiom, sorry.
-/
import Derived.Test.YtiedjociafmahaaChecked
import GoSem.Claim
import GoSem.ClaimJoined
import GoSem.ClaimMapViews
import Derived.JoinedTies
import Derived.KernelRfl
namespace Go.Proofs.Ytiedjociafmahaa
/- THE CELL 'sum', in the pinned program and in every row, IS THE sha256 OF THE DUMP (.gsa) THAT YtiedjociafmahaaProg.lean LOADS. Nothing in Lean hashes anything: it is a label: what it is worth is what the hold of that sum in a sandbox is worth. -/
noncomputable def Try.pinned : Pinned := { name := "ytiedjociafmahaa", sum := "ceb2c43c6261a8b41dccb39a89dc5b34ba45b0a2c48b8a749cbdeb8375a63fa9", checked := Try.checked }
namespace Rows
def none {H : Type} : Left H := { results := [], args := [] }

/-- 'laws.FnExactValidWeights': WHATEVER THE INPUT: true; the input reads as it did. -/
def fnExactValidWeightsSpec : ChangeSpec := { name := "fnExactValidWeights", fn := fun _ => fun
  | [d] => { results := [.lit (.bool true)], args := [d] }
  | _ => none }
def fnExactValidWeightsRow : OpenClaim := { program := "ytiedjociafmahaa", sum := "ceb2c43c6261a8b41dccb39a89dc5b34ba45b0a2c48b8a749cbdeb8375a63fa9", func := "loop.example/g01281/laws.FnExactValidWeights", spec := "fnExactValidWeights", apart := false }
def FnExactValidWeightsSaid : Prop := fnExactValidWeightsRow.holds Try.pinned (OpenSpec.ofChange fnExactValidWeightsSpec)

/-- ITS FALSE NEIGHBOUR: 'it returns false'. Refute it at one input. -/
def fnExactValidWeightsWrong : ChangeSpec := { name := "fnExactValidWeights", fn := fun _ => fun
  | [d] => { results := [.lit (.bool false)], args := [d] }
  | _ => none }
def FnExactValidWeightsWrongFalsely : Prop := fnExactValidWeightsRow.holds Try.pinned (OpenSpec.ofChange fnExactValidWeightsWrong)

/-- 'laws.FnExactSumOfWeights': WHATEVER THE INPUT: true; the input reads as it did. -/
def fnExactSumOfWeightsSpec : ChangeSpec := { name := "fnExactSumOfWeights", fn := fun _ => fun
  | [d] => { results := [.lit (.bool true)], args := [d] }
  | _ => none }
def fnExactSumOfWeightsRow : OpenClaim := { program := "ytiedjociafmahaa", sum := "ceb2c43c6261a8b41dccb39a89dc5b34ba45b0a2c48b8a749cbdeb8375a63fa9", func := "loop.example/g01281/laws.FnExactSumOfWeights", spec := "fnExactSumOfWeights", apart := false }
def FnExactSumOfWeightsSaid : Prop := fnExactSumOfWeightsRow.holds Try.pinned (OpenSpec.ofChange fnExactSumOfWeightsSpec)

/-- ITS FALSE NEIGHBOUR: 'it returns false'. Refute it at one input. -/
def fnExactSumOfWeightsWrong : ChangeSpec := { name := "fnExactSumOfWeights", fn := fun _ => fun
  | [d] => { results := [.lit (.bool false)], args := [d] }
  | _ => none }
def FnExactSumOfWeightsWrongFalsely : Prop := fnExactSumOfWeightsRow.holds Try.pinned (OpenSpec.ofChange fnExactSumOfWeightsWrong)

/-- 'laws.FnExactValidPlacing': WHATEVER THE INPUT: true; the input reads as it did. -/
def fnExactValidPlacingSpec : ChangeSpec := { name := "fnExactValidPlacing", fn := fun _ => fun
  | [d1, d2] => { results := [.lit (.bool true)], args := [d1, d2] }
  | _ => none }
def fnExactValidPlacingRow : OpenClaim := { program := "ytiedjociafmahaa", sum := "ceb2c43c6261a8b41dccb39a89dc5b34ba45b0a2c48b8a749cbdeb8375a63fa9", func := "loop.example/g01281/laws.FnExactValidPlacing", spec := "fnExactValidPlacing", apart := false }
def FnExactValidPlacingSaid : Prop := fnExactValidPlacingRow.holds Try.pinned (OpenSpec.ofChange fnExactValidPlacingSpec)

/-- ITS FALSE NEIGHBOUR: 'it returns false'. Refute it at one input. -/
def fnExactValidPlacingWrong : ChangeSpec := { name := "fnExactValidPlacing", fn := fun _ => fun
  | [d1, d2] => { results := [.lit (.bool false)], args := [d1, d2] }
  | _ => none }
def FnExactValidPlacingWrongFalsely : Prop := fnExactValidPlacingRow.holds Try.pinned (OpenSpec.ofChange fnExactValidPlacingWrong)

/-- 'laws.FnExactMassOf': WHATEVER THE INPUT: true; the input reads as it did. -/
def fnExactMassOfSpec : ChangeSpec := { name := "fnExactMassOf", fn := fun _ => fun
  | [d1, d2] => { results := [.lit (.bool true)], args := [d1, d2] }
  | _ => none }
def fnExactMassOfRow : OpenClaim := { program := "ytiedjociafmahaa", sum := "ceb2c43c6261a8b41dccb39a89dc5b34ba45b0a2c48b8a749cbdeb8375a63fa9", func := "loop.example/g01281/laws.FnExactMassOf", spec := "fnExactMassOf", unfollowed := true, recurses := true, apart := false }
def FnExactMassOfSaid : Prop := fnExactMassOfRow.holds Try.pinned (OpenSpec.ofChange fnExactMassOfSpec)

/-- ITS FALSE NEIGHBOUR: 'it returns false'. Refute it at one input. -/
def fnExactMassOfWrong : ChangeSpec := { name := "fnExactMassOf", fn := fun _ => fun
  | [d1, d2] => { results := [.lit (.bool false)], args := [d1, d2] }
  | _ => none }
def FnExactMassOfWrongFalsely : Prop := fnExactMassOfRow.holds Try.pinned (OpenSpec.ofChange fnExactMassOfWrong)

/-- 'laws.FnExactUsedIn': WHATEVER THE INPUT: true; the input reads as it did. -/
def fnExactUsedInSpec : ChangeSpec := { name := "fnExactUsedIn", fn := fun _ => fun
  | [d1, d2] => { results := [.lit (.bool true)], args := [d1, d2] }
  | _ => none }
def fnExactUsedInRow : OpenClaim := { program := "ytiedjociafmahaa", sum := "ceb2c43c6261a8b41dccb39a89dc5b34ba45b0a2c48b8a749cbdeb8375a63fa9", func := "loop.example/g01281/laws.FnExactUsedIn", spec := "fnExactUsedIn", apart := false }
def FnExactUsedInSaid : Prop := fnExactUsedInRow.holds Try.pinned (OpenSpec.ofChange fnExactUsedInSpec)

/-- ITS FALSE NEIGHBOUR: 'it returns false'. Refute it at one input. -/
def fnExactUsedInWrong : ChangeSpec := { name := "fnExactUsedIn", fn := fun _ => fun
  | [d1, d2] => { results := [.lit (.bool false)], args := [d1, d2] }
  | _ => none }
def FnExactUsedInWrongFalsely : Prop := fnExactUsedInRow.holds Try.pinned (OpenSpec.ofChange fnExactUsedInWrong)

/-- 'laws.FnExactCodeName': WHATEVER THE INPUT: true; the input reads as it did. -/
def fnExactCodeNameSpec : ChangeSpec := { name := "fnExactCodeName", fn := fun _ => fun
  | [d] => { results := [.lit (.bool true)], args := [d] }
  | _ => none }
def fnExactCodeNameRow : OpenClaim := { program := "ytiedjociafmahaa", sum := "ceb2c43c6261a8b41dccb39a89dc5b34ba45b0a2c48b8a749cbdeb8375a63fa9", func := "loop.example/g01281/laws.FnExactCodeName", spec := "fnExactCodeName", apart := false }
def FnExactCodeNameSaid : Prop := fnExactCodeNameRow.holds Try.pinned (OpenSpec.ofChange fnExactCodeNameSpec)

/-- ITS FALSE NEIGHBOUR: 'it returns false'. Refute it at one input. -/
def fnExactCodeNameWrong : ChangeSpec := { name := "fnExactCodeName", fn := fun _ => fun
  | [d] => { results := [.lit (.bool false)], args := [d] }
  | _ => none }
def FnExactCodeNameWrongFalsely : Prop := fnExactCodeNameRow.holds Try.pinned (OpenSpec.ofChange fnExactCodeNameWrong)

/- THE SECOND FORM. 'bulk': how many values and letters a reading holds, each counted each time it is reached (what is shared counts as often as it is met; a slice's spare places count too). A statement '..UptoSaid' is the law's where the arguments, and the package variables that the reading takes, are together of bulk at most 1048576: NARROWER than '..Said'. Prove '..Said' where nothing that the law and all that it calls make is longer than what came in: it says more and counts as full. Else prove '..UptoSaid'. A law counts once. -/
mutual
def uptoBulk {H : Type} : DataW H → Nat
  | .lit (.string bytes) => bytes.length + 1
  | .lit _ => 1
  | .nil => 1
  | .ptr d => uptoBulk d + 1
  | .slice elems spare => uptoBulkAll elems + uptoBulkAll spare + 1
  | .agg parts => uptoBulkAll parts + 1
  | .iface _ d => uptoBulk d + 1
  | .map entries => uptoBulkEntries entries + 1
  | .held _ => 1
def uptoBulkAll {H : Type} : List (DataW H) → Nat
  | [] => 0
  | d :: r => uptoBulk d + uptoBulkAll r
def uptoBulkEntries {H : Type} : List (Lit × DataW H) → Nat
  | [] => 0
  | x :: r => uptoBulkEntry x + uptoBulkEntries r
def uptoBulkEntry {H : Type} : Lit × DataW H → Nat
  | (.string bytes, d) => bytes.length + uptoBulk d + 1
  | (_, d) => uptoBulk d + 1
 end
def uptoSmall : (H : Type) → List (DataW H) → Bool := fun _ ds => decide (uptoBulkAll ds ≤ 1048576)
def OpenSpec.upto (s : _root_.Go.ChangeSpec) : _root_.Go.OpenSpec := { _root_.Go.OpenSpec.ofChange s with cond := some uptoSmall }

/-- 'laws.FnExactValidWeights', WHERE WHAT IT READS IS OF BULK AT MOST 1048576: true; the input reads as it did. -/
def fnExactValidWeightsUptoRow : OpenClaim := { program := "ytiedjociafmahaa", sum := "ceb2c43c6261a8b41dccb39a89dc5b34ba45b0a2c48b8a749cbdeb8375a63fa9", func := "loop.example/g01281/laws.FnExactValidWeights", spec := "fnExactValidWeights", apart := false, narrowed := true }
def FnExactValidWeightsUptoSaid : Prop := fnExactValidWeightsUptoRow.holds Try.pinned (OpenSpec.upto fnExactValidWeightsSpec)

/-- 'laws.FnExactSumOfWeights', WHERE WHAT IT READS IS OF BULK AT MOST 1048576: true; the input reads as it did. -/
def fnExactSumOfWeightsUptoRow : OpenClaim := { program := "ytiedjociafmahaa", sum := "ceb2c43c6261a8b41dccb39a89dc5b34ba45b0a2c48b8a749cbdeb8375a63fa9", func := "loop.example/g01281/laws.FnExactSumOfWeights", spec := "fnExactSumOfWeights", apart := false, narrowed := true }
def FnExactSumOfWeightsUptoSaid : Prop := fnExactSumOfWeightsUptoRow.holds Try.pinned (OpenSpec.upto fnExactSumOfWeightsSpec)

/-- 'laws.FnExactValidPlacing', WHERE WHAT IT READS IS OF BULK AT MOST 1048576: true; the input reads as it did. -/
def fnExactValidPlacingUptoRow : OpenClaim := { program := "ytiedjociafmahaa", sum := "ceb2c43c6261a8b41dccb39a89dc5b34ba45b0a2c48b8a749cbdeb8375a63fa9", func := "loop.example/g01281/laws.FnExactValidPlacing", spec := "fnExactValidPlacing", apart := false, narrowed := true }
def FnExactValidPlacingUptoSaid : Prop := fnExactValidPlacingUptoRow.holds Try.pinned (OpenSpec.upto fnExactValidPlacingSpec)

/-- 'laws.FnExactMassOf', WHERE WHAT IT READS IS OF BULK AT MOST 1048576: true; the input reads as it did. -/
def fnExactMassOfUptoRow : OpenClaim := { program := "ytiedjociafmahaa", sum := "ceb2c43c6261a8b41dccb39a89dc5b34ba45b0a2c48b8a749cbdeb8375a63fa9", func := "loop.example/g01281/laws.FnExactMassOf", spec := "fnExactMassOf", unfollowed := true, recurses := true, apart := false, narrowed := true }
def FnExactMassOfUptoSaid : Prop := fnExactMassOfUptoRow.holds Try.pinned (OpenSpec.upto fnExactMassOfSpec)

/-- 'laws.FnExactUsedIn', WHERE WHAT IT READS IS OF BULK AT MOST 1048576: true; the input reads as it did. -/
def fnExactUsedInUptoRow : OpenClaim := { program := "ytiedjociafmahaa", sum := "ceb2c43c6261a8b41dccb39a89dc5b34ba45b0a2c48b8a749cbdeb8375a63fa9", func := "loop.example/g01281/laws.FnExactUsedIn", spec := "fnExactUsedIn", apart := false, narrowed := true }
def FnExactUsedInUptoSaid : Prop := fnExactUsedInUptoRow.holds Try.pinned (OpenSpec.upto fnExactUsedInSpec)

/-- 'laws.FnExactCodeName', WHERE WHAT IT READS IS OF BULK AT MOST 1048576: true; the input reads as it did. -/
def fnExactCodeNameUptoRow : OpenClaim := { program := "ytiedjociafmahaa", sum := "ceb2c43c6261a8b41dccb39a89dc5b34ba45b0a2c48b8a749cbdeb8375a63fa9", func := "loop.example/g01281/laws.FnExactCodeName", spec := "fnExactCodeName", apart := false, narrowed := true }
def FnExactCodeNameUptoSaid : Prop := fnExactCodeNameUptoRow.holds Try.pinned (OpenSpec.upto fnExactCodeNameSpec)

end Rows
end Go.Proofs.Ytiedjociafmahaa
