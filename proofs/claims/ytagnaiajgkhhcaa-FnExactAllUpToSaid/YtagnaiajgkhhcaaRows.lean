/-
  No cell of these rows narrows 'for every input' (looked for: loops, veiled, ifaces, maps, wideKeys, modest, calm, conditions, laid).
  DERIVED. THE GIVEN ROWS OF THIS SEAT. 6 by the template 'for every input the law returns true; each argument reads behind the call as it read before'; 0 by the template 'total and deterministic' (their statements: YtagnaiajgkhhcaaTotals.lean).
  GIVEN WITH THE SEED: the statements are not yours to turn. If you find one false, say at which input.
  Laid BY PROGRAM, IN A SANDBOX (cutbox-rows.mjs): the forced cells as the released guide's own fill.sh prints them over the translation 812df58140d24548… (all of the seat's roots in one cut). By AI agents, Wed Nov 11 2026. No macro, syntax, notation, axiom, sorry.
-/
import Derived.Test.YtagnaiajgkhhcaaChecked
import GoSem.Claim
import GoSem.ClaimJoined
import GoSem.ClaimMapViews
import Derived.JoinedTies
import Derived.KernelRfl
namespace Go.Proofs.Ytagnaiajgkhhcaa
/- THE CELL 'sum', in the pinned program and in every row, IS THE sha256 OF THE DUMP (.gsa) THAT YtagnaiajgkhhcaaProg.lean LOADS. Nothing in Lean hashes anything: it is a label: what it is worth is what the hold of that sum in a sandbox is worth. -/
noncomputable def Try.pinned : Pinned := { name := "ytagnaiajgkhhcaa", sum := "812df58140d24548c47218ea0b501983d70b785d1c6fad4c04f3254573f78b52", checked := Try.checked }
namespace Rows
def none {H : Type} : Left H := { results := [], args := [] }

/-- 'laws.FnExactCanWeigh': WHATEVER THE INPUT: true; the input reads as it did. -/
def fnExactCanWeighSpec : ChangeSpec := { name := "fnExactCanWeigh", fn := fun _ => fun
  | [d1, d2, d3] => { results := [.lit (.bool true)], args := [d1, d2, d3] }
  | _ => none }
def fnExactCanWeighRow : OpenClaim := { program := "ytagnaiajgkhhcaa", sum := "812df58140d24548c47218ea0b501983d70b785d1c6fad4c04f3254573f78b52", func := "loop.example/g01281/laws.FnExactCanWeigh", spec := "fnExactCanWeigh", apart := false }
def FnExactCanWeighSaid : Prop := fnExactCanWeighRow.holds Try.pinned (OpenSpec.ofChange fnExactCanWeighSpec)

/-- ITS FALSE NEIGHBOUR: 'it returns false'. Refute it at one input. -/
def fnExactCanWeighWrong : ChangeSpec := { name := "fnExactCanWeigh", fn := fun _ => fun
  | [d1, d2, d3] => { results := [.lit (.bool false)], args := [d1, d2, d3] }
  | _ => none }
def FnExactCanWeighWrongFalsely : Prop := fnExactCanWeighRow.holds Try.pinned (OpenSpec.ofChange fnExactCanWeighWrong)

/-- 'laws.FnExactWaysToWeigh': WHATEVER THE INPUT: true; the input reads as it did. -/
def fnExactWaysToWeighSpec : ChangeSpec := { name := "fnExactWaysToWeigh", fn := fun _ => fun
  | [d1, d2, d3] => { results := [.lit (.bool true)], args := [d1, d2, d3] }
  | _ => none }
def fnExactWaysToWeighRow : OpenClaim := { program := "ytagnaiajgkhhcaa", sum := "812df58140d24548c47218ea0b501983d70b785d1c6fad4c04f3254573f78b52", func := "loop.example/g01281/laws.FnExactWaysToWeigh", spec := "fnExactWaysToWeigh", apart := false }
def FnExactWaysToWeighSaid : Prop := fnExactWaysToWeighRow.holds Try.pinned (OpenSpec.ofChange fnExactWaysToWeighSpec)

/-- ITS FALSE NEIGHBOUR: 'it returns false'. Refute it at one input. -/
def fnExactWaysToWeighWrong : ChangeSpec := { name := "fnExactWaysToWeigh", fn := fun _ => fun
  | [d1, d2, d3] => { results := [.lit (.bool false)], args := [d1, d2, d3] }
  | _ => none }
def FnExactWaysToWeighWrongFalsely : Prop := fnExactWaysToWeighRow.holds Try.pinned (OpenSpec.ofChange fnExactWaysToWeighWrong)

/-- 'laws.FnExactAllUpTo': WHATEVER THE INPUT: true; the input reads as it did. -/
def fnExactAllUpToSpec : ChangeSpec := { name := "fnExactAllUpTo", fn := fun _ => fun
  | [d1, d2] => { results := [.lit (.bool true)], args := [d1, d2] }
  | _ => none }
def fnExactAllUpToRow : OpenClaim := { program := "ytagnaiajgkhhcaa", sum := "812df58140d24548c47218ea0b501983d70b785d1c6fad4c04f3254573f78b52", func := "loop.example/g01281/laws.FnExactAllUpTo", spec := "fnExactAllUpTo", apart := false }
def FnExactAllUpToSaid : Prop := fnExactAllUpToRow.holds Try.pinned (OpenSpec.ofChange fnExactAllUpToSpec)

/-- ITS FALSE NEIGHBOUR: 'it returns false'. Refute it at one input. -/
def fnExactAllUpToWrong : ChangeSpec := { name := "fnExactAllUpTo", fn := fun _ => fun
  | [d1, d2] => { results := [.lit (.bool false)], args := [d1, d2] }
  | _ => none }
def FnExactAllUpToWrongFalsely : Prop := fnExactAllUpToRow.holds Try.pinned (OpenSpec.ofChange fnExactAllUpToWrong)

/-- 'laws.FnExactNotWeighed': WHATEVER THE INPUT: true; the input reads as it did. -/
def fnExactNotWeighedSpec : ChangeSpec := { name := "fnExactNotWeighed", fn := fun _ => fun
  | [d1, d2] => { results := [.lit (.bool true)], args := [d1, d2] }
  | _ => none }
def fnExactNotWeighedRow : OpenClaim := { program := "ytagnaiajgkhhcaa", sum := "812df58140d24548c47218ea0b501983d70b785d1c6fad4c04f3254573f78b52", func := "loop.example/g01281/laws.FnExactNotWeighed", spec := "fnExactNotWeighed", apart := false }
def FnExactNotWeighedSaid : Prop := fnExactNotWeighedRow.holds Try.pinned (OpenSpec.ofChange fnExactNotWeighedSpec)

/-- ITS FALSE NEIGHBOUR: 'it returns false'. Refute it at one input. -/
def fnExactNotWeighedWrong : ChangeSpec := { name := "fnExactNotWeighed", fn := fun _ => fun
  | [d1, d2] => { results := [.lit (.bool false)], args := [d1, d2] }
  | _ => none }
def FnExactNotWeighedWrongFalsely : Prop := fnExactNotWeighedRow.holds Try.pinned (OpenSpec.ofChange fnExactNotWeighedWrong)

/-- 'laws.FnExactNeedlessWeight': WHATEVER THE INPUT: true; the input reads as it did. -/
def fnExactNeedlessWeightSpec : ChangeSpec := { name := "fnExactNeedlessWeight", fn := fun _ => fun
  | [d1, d2, d3] => { results := [.lit (.bool true)], args := [d1, d2, d3] }
  | _ => none }
def fnExactNeedlessWeightRow : OpenClaim := { program := "ytagnaiajgkhhcaa", sum := "812df58140d24548c47218ea0b501983d70b785d1c6fad4c04f3254573f78b52", func := "loop.example/g01281/laws.FnExactNeedlessWeight", spec := "fnExactNeedlessWeight", apart := false }
def FnExactNeedlessWeightSaid : Prop := fnExactNeedlessWeightRow.holds Try.pinned (OpenSpec.ofChange fnExactNeedlessWeightSpec)

/-- ITS FALSE NEIGHBOUR: 'it returns false'. Refute it at one input. -/
def fnExactNeedlessWeightWrong : ChangeSpec := { name := "fnExactNeedlessWeight", fn := fun _ => fun
  | [d1, d2, d3] => { results := [.lit (.bool false)], args := [d1, d2, d3] }
  | _ => none }
def FnExactNeedlessWeightWrongFalsely : Prop := fnExactNeedlessWeightRow.holds Try.pinned (OpenSpec.ofChange fnExactNeedlessWeightWrong)

/-- 'laws.FnExactPlacingFor': WHATEVER THE INPUT: true; the input reads as it did. -/
def fnExactPlacingForSpec : ChangeSpec := { name := "fnExactPlacingFor", fn := fun _ => fun
  | [d1, d2, d3] => { results := [.lit (.bool true)], args := [d1, d2, d3] }
  | _ => none }
def fnExactPlacingForRow : OpenClaim := { program := "ytagnaiajgkhhcaa", sum := "812df58140d24548c47218ea0b501983d70b785d1c6fad4c04f3254573f78b52", func := "loop.example/g01281/laws.FnExactPlacingFor", spec := "fnExactPlacingFor", apart := false }
def FnExactPlacingForSaid : Prop := fnExactPlacingForRow.holds Try.pinned (OpenSpec.ofChange fnExactPlacingForSpec)

/-- ITS FALSE NEIGHBOUR: 'it returns false'. Refute it at one input. -/
def fnExactPlacingForWrong : ChangeSpec := { name := "fnExactPlacingFor", fn := fun _ => fun
  | [d1, d2, d3] => { results := [.lit (.bool false)], args := [d1, d2, d3] }
  | _ => none }
def FnExactPlacingForWrongFalsely : Prop := fnExactPlacingForRow.holds Try.pinned (OpenSpec.ofChange fnExactPlacingForWrong)

/- THE SECOND FORM. 'bulk': how many values and letters a reading holds, each counted each time it is reached (what is shared counts as often as it is met; a slice's spare places count too). A statement '..UptoSaid' is the law's where the arguments, and the package variables that the reading takes, are together of bulk at most 1048576: NARROWER than '..Said'. Prove '..Said' where nothing that the law and all that it calls make is longer than what came in: it says more and counts as full. Else prove '..UptoSaid'. A law counts once. -/
mutual
def uptoBulk {H : Type} : DataW H → Nat
  | .lit (.string bytes) => bytes.length + 1
  | .lit _ => 1
  | .nil => 1
  | .ptr d => uptoBulk d + 1
  | .slice elems spare => uptoBulkAll elems + uptoBulkAll spare + 1
  | .agg parts => uptoBulkAll parts + 1
  | .iface _ d => uptoBulk d + 1
  | .map entries => uptoBulkEntries entries + 1
  | .held _ => 1
def uptoBulkAll {H : Type} : List (DataW H) → Nat
  | [] => 0
  | d :: r => uptoBulk d + uptoBulkAll r
def uptoBulkEntries {H : Type} : List (Lit × DataW H) → Nat
  | [] => 0
  | x :: r => uptoBulkEntry x + uptoBulkEntries r
def uptoBulkEntry {H : Type} : Lit × DataW H → Nat
  | (.string bytes, d) => bytes.length + uptoBulk d + 1
  | (_, d) => uptoBulk d + 1
 end
def uptoSmall : (H : Type) → List (DataW H) → Bool := fun _ ds => decide (uptoBulkAll ds ≤ 1048576)
def OpenSpec.upto (s : _root_.Go.ChangeSpec) : _root_.Go.OpenSpec := { _root_.Go.OpenSpec.ofChange s with cond := some uptoSmall }

/-- 'laws.FnExactCanWeigh', WHERE WHAT IT READS IS OF BULK AT MOST 1048576: true; the input reads as it did. -/
def fnExactCanWeighUptoRow : OpenClaim := { program := "ytagnaiajgkhhcaa", sum := "812df58140d24548c47218ea0b501983d70b785d1c6fad4c04f3254573f78b52", func := "loop.example/g01281/laws.FnExactCanWeigh", spec := "fnExactCanWeigh", apart := false, narrowed := true }
def FnExactCanWeighUptoSaid : Prop := fnExactCanWeighUptoRow.holds Try.pinned (OpenSpec.upto fnExactCanWeighSpec)

/-- 'laws.FnExactWaysToWeigh', WHERE WHAT IT READS IS OF BULK AT MOST 1048576: true; the input reads as it did. -/
def fnExactWaysToWeighUptoRow : OpenClaim := { program := "ytagnaiajgkhhcaa", sum := "812df58140d24548c47218ea0b501983d70b785d1c6fad4c04f3254573f78b52", func := "loop.example/g01281/laws.FnExactWaysToWeigh", spec := "fnExactWaysToWeigh", apart := false, narrowed := true }
def FnExactWaysToWeighUptoSaid : Prop := fnExactWaysToWeighUptoRow.holds Try.pinned (OpenSpec.upto fnExactWaysToWeighSpec)

/-- 'laws.FnExactAllUpTo', WHERE WHAT IT READS IS OF BULK AT MOST 1048576: true; the input reads as it did. -/
def fnExactAllUpToUptoRow : OpenClaim := { program := "ytagnaiajgkhhcaa", sum := "812df58140d24548c47218ea0b501983d70b785d1c6fad4c04f3254573f78b52", func := "loop.example/g01281/laws.FnExactAllUpTo", spec := "fnExactAllUpTo", apart := false, narrowed := true }
def FnExactAllUpToUptoSaid : Prop := fnExactAllUpToUptoRow.holds Try.pinned (OpenSpec.upto fnExactAllUpToSpec)

/-- 'laws.FnExactNotWeighed', WHERE WHAT IT READS IS OF BULK AT MOST 1048576: true; the input reads as it did. -/
def fnExactNotWeighedUptoRow : OpenClaim := { program := "ytagnaiajgkhhcaa", sum := "812df58140d24548c47218ea0b501983d70b785d1c6fad4c04f3254573f78b52", func := "loop.example/g01281/laws.FnExactNotWeighed", spec := "fnExactNotWeighed", apart := false, narrowed := true }
def FnExactNotWeighedUptoSaid : Prop := fnExactNotWeighedUptoRow.holds Try.pinned (OpenSpec.upto fnExactNotWeighedSpec)

/-- 'laws.FnExactNeedlessWeight', WHERE WHAT IT READS IS OF BULK AT MOST 1048576: true; the input reads as it did. -/
def fnExactNeedlessWeightUptoRow : OpenClaim := { program := "ytagnaiajgkhhcaa", sum := "812df58140d24548c47218ea0b501983d70b785d1c6fad4c04f3254573f78b52", func := "loop.example/g01281/laws.FnExactNeedlessWeight", spec := "fnExactNeedlessWeight", apart := false, narrowed := true }
def FnExactNeedlessWeightUptoSaid : Prop := fnExactNeedlessWeightUptoRow.holds Try.pinned (OpenSpec.upto fnExactNeedlessWeightSpec)

/-- 'laws.FnExactPlacingFor', WHERE WHAT IT READS IS OF BULK AT MOST 1048576: true; the input reads as it did. -/
def fnExactPlacingForUptoRow : OpenClaim := { program := "ytagnaiajgkhhcaa", sum := "812df58140d24548c47218ea0b501983d70b785d1c6fad4c04f3254573f78b52", func := "loop.example/g01281/laws.FnExactPlacingFor", spec := "fnExactPlacingFor", apart := false, narrowed := true }
def FnExactPlacingForUptoSaid : Prop := fnExactPlacingForUptoRow.holds Try.pinned (OpenSpec.upto fnExactPlacingForSpec)

end Rows
end Go.Proofs.Ytagnaiajgkhhcaa
