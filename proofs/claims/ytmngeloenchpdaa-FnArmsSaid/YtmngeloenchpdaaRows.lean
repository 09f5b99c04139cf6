/-
  No cell of these rows narrows 'for every input' (looked for: loops, veiled, ifaces, maps, wideKeys, modest, calm, conditions, laid).
  DERIVED. THE GIVEN ROWS OF THIS SEAT. 4 by the template 'for every input the law returns true; each argument reads behind the call as it read before'; 0 by the template 'total and deterministic' (their statements: YtmngeloenchpdaaTotals.lean).
  GIVEN WITH THE SEED: the statements are not yours to turn. If you find one false, say at which input.
  Laid BY PROGRAM, IN A SANDBOX (cutbox-rows.mjs): the forced cells as the released guide's own fill.sh prints them over the translation c1a6f7426e31c913… (all of the seat's roots in one cut). By AI agents, Wed Nov 11 2026. No macro, syntax, notation, axiom, sorry.
-/
import Derived.Test.YtmngeloenchpdaaChecked
import GoSem.Claim
import GoSem.ClaimJoined
import GoSem.ClaimMapViews
import Derived.JoinedTies
import Derived.KernelRfl
namespace Go.Proofs.Ytmngeloenchpdaa
/- THE CELL 'sum', in the pinned program and in every row, IS THE sha256 OF THE DUMP (.gsa) THAT YtmngeloenchpdaaProg.lean LOADS. Nothing in Lean hashes anything: it is a label: what it is worth is what the hold of that sum in a sandbox is worth. -/
noncomputable def Try.pinned : Pinned := { name := "ytmngeloenchpdaa", sum := "c1a6f7426e31c9133c755eca8c11991cb497ad5ec20913b29d01cd56460e2503", checked := Try.checked }
namespace Rows
def none {H : Type} : Left H := { results := [], args := [] }

/-- 'laws.FnExactPlacingText': WHATEVER THE INPUT: true; the input reads as it did. -/
def fnExactPlacingTextSpec : ChangeSpec := { name := "fnExactPlacingText", fn := fun _ => fun
  | [d] => { results := [.lit (.bool true)], args := [d] }
  | _ => none }
def fnExactPlacingTextRow : OpenClaim := { program := "ytmngeloenchpdaa", sum := "c1a6f7426e31c9133c755eca8c11991cb497ad5ec20913b29d01cd56460e2503", func := "loop.example/g01281/laws.FnExactPlacingText", spec := "fnExactPlacingText", apart := false }
def FnExactPlacingTextSaid : Prop := fnExactPlacingTextRow.holds Try.pinned (OpenSpec.ofChange fnExactPlacingTextSpec)

/-- ITS FALSE NEIGHBOUR: 'it returns false'. Refute it at one input. -/
def fnExactPlacingTextWrong : ChangeSpec := { name := "fnExactPlacingText", fn := fun _ => fun
  | [d] => { results := [.lit (.bool false)], args := [d] }
  | _ => none }
def FnExactPlacingTextWrongFalsely : Prop := fnExactPlacingTextRow.holds Try.pinned (OpenSpec.ofChange fnExactPlacingTextWrong)

/-- 'laws.FnExactReadPlacing': WHATEVER THE INPUT: true; the input reads as it did. -/
def fnExactReadPlacingSpec : ChangeSpec := { name := "fnExactReadPlacing", fn := fun _ => fun
  | [d] => { results := [.lit (.bool true)], args := [d] }
  | _ => none }
def fnExactReadPlacingRow : OpenClaim := { program := "ytmngeloenchpdaa", sum := "c1a6f7426e31c9133c755eca8c11991cb497ad5ec20913b29d01cd56460e2503", func := "loop.example/g01281/laws.FnExactReadPlacing", spec := "fnExactReadPlacing", inPlace := ["internal/bytealg.IndexByteString"], apart := false }
def FnExactReadPlacingSaid : Prop := fnExactReadPlacingRow.holds Try.pinned (OpenSpec.ofChange fnExactReadPlacingSpec)

/-- ITS FALSE NEIGHBOUR: 'it returns false'. Refute it at one input. -/
def fnExactReadPlacingWrong : ChangeSpec := { name := "fnExactReadPlacing", fn := fun _ => fun
  | [d] => { results := [.lit (.bool false)], args := [d] }
  | _ => none }
def FnExactReadPlacingWrongFalsely : Prop := fnExactReadPlacingRow.holds Try.pinned (OpenSpec.ofChange fnExactReadPlacingWrong)

/-- 'laws.FnExactLeastWeights': WHATEVER THE INPUT: true; the input reads as it did. -/
def fnExactLeastWeightsSpec : ChangeSpec := { name := "fnExactLeastWeights", fn := fun _ => fun
  | [d1, d2] => { results := [.lit (.bool true)], args := [d1, d2] }
  | _ => none }
def fnExactLeastWeightsRow : OpenClaim := { program := "ytmngeloenchpdaa", sum := "c1a6f7426e31c9133c755eca8c11991cb497ad5ec20913b29d01cd56460e2503", func := "loop.example/g01281/laws.FnExactLeastWeights", spec := "fnExactLeastWeights", recurses := true, apart := false }
def FnExactLeastWeightsSaid : Prop := fnExactLeastWeightsRow.holds Try.pinned (OpenSpec.ofChange fnExactLeastWeightsSpec)

/-- ITS FALSE NEIGHBOUR: 'it returns false'. Refute it at one input. -/
def fnExactLeastWeightsWrong : ChangeSpec := { name := "fnExactLeastWeights", fn := fun _ => fun
  | [d1, d2] => { results := [.lit (.bool false)], args := [d1, d2] }
  | _ => none }
def FnExactLeastWeightsWrongFalsely : Prop := fnExactLeastWeightsRow.holds Try.pinned (OpenSpec.ofChange fnExactLeastWeightsWrong)

/-- 'laws.FnArms': WHATEVER THE INPUT: true; the input reads as it did. -/
def fnArmsSpec : ChangeSpec := { name := "fnArms", fn := fun _ => fun
  | [d1, d2] => { results := [.lit (.bool true)], args := [d1, d2] }
  | _ => none }
def fnArmsRow : OpenClaim := { program := "ytmngeloenchpdaa", sum := "c1a6f7426e31c9133c755eca8c11991cb497ad5ec20913b29d01cd56460e2503", func := "loop.example/g01281/laws.FnArms", spec := "fnArms", unfollowed := true, recurses := true, apart := false }
def FnArmsSaid : Prop := fnArmsRow.holds Try.pinned (OpenSpec.ofChange fnArmsSpec)

/-- ITS FALSE NEIGHBOUR: 'it returns false'. Refute it at one input. -/
def fnArmsWrong : ChangeSpec := { name := "fnArms", fn := fun _ => fun
  | [d1, d2] => { results := [.lit (.bool false)], args := [d1, d2] }
  | _ => none }
def FnArmsWrongFalsely : Prop := fnArmsRow.holds Try.pinned (OpenSpec.ofChange fnArmsWrong)

/- THE SECOND FORM. 'bulk': how many values and letters a reading holds, each counted each time it is reached (what is shared counts as often as it is met; a slice's spare places count too). A statement '..UptoSaid' is the law's where the arguments, and the package variables that the reading takes, are together of bulk at most 1048576: NARROWER than '..Said'. Prove '..Said' where nothing that the law and all that it calls make is longer than what came in: it says more and counts as full. Else prove '..UptoSaid'. A law counts once. -/
mutual
def uptoBulk {H : Type} : DataW H → Nat
  | .lit (.string bytes) => bytes.length + 1
  | .lit _ => 1
  | .nil => 1
  | .ptr d => uptoBulk d + 1
  | .slice elems spare => uptoBulkAll elems + uptoBulkAll spare + 1
  | .agg parts => uptoBulkAll parts + 1
  | .iface _ d => uptoBulk d + 1
  | .map entries => uptoBulkEntries entries + 1
  | .held _ => 1
def uptoBulkAll {H : Type} : List (DataW H) → Nat
  | [] => 0
  | d :: r => uptoBulk d + uptoBulkAll r
def uptoBulkEntries {H : Type} : List (Lit × DataW H) → Nat
  | [] => 0
  | x :: r => uptoBulkEntry x + uptoBulkEntries r
def uptoBulkEntry {H : Type} : Lit × DataW H → Nat
  | (.string bytes, d) => bytes.length + uptoBulk d + 1
  | (_, d) => uptoBulk d + 1
 end
def uptoSmall : (H : Type) → List (DataW H) → Bool := fun _ ds => decide (uptoBulkAll ds ≤ 1048576)
def OpenSpec.upto (s : _root_.Go.ChangeSpec) : _root_.Go.OpenSpec := { _root_.Go.OpenSpec.ofChange s with cond := some uptoSmall }

/-- 'laws.FnExactPlacingText', WHERE WHAT IT READS IS OF BULK AT MOST 1048576: true; the input reads as it did. -/
def fnExactPlacingTextUptoRow : OpenClaim := { program := "ytmngeloenchpdaa", sum := "c1a6f7426e31c9133c755eca8c11991cb497ad5ec20913b29d01cd56460e2503", func := "loop.example/g01281/laws.FnExactPlacingText", spec := "fnExactPlacingText", apart := false, narrowed := true }
def FnExactPlacingTextUptoSaid : Prop := fnExactPlacingTextUptoRow.holds Try.pinned (OpenSpec.upto fnExactPlacingTextSpec)

/-- 'laws.FnExactReadPlacing', WHERE WHAT IT READS IS OF BULK AT MOST 1048576: true; the input reads as it did. -/
def fnExactReadPlacingUptoRow : OpenClaim := { program := "ytmngeloenchpdaa", sum := "c1a6f7426e31c9133c755eca8c11991cb497ad5ec20913b29d01cd56460e2503", func := "loop.example/g01281/laws.FnExactReadPlacing", spec := "fnExactReadPlacing", inPlace := ["internal/bytealg.IndexByteString"], apart := false, narrowed := true }
def FnExactReadPlacingUptoSaid : Prop := fnExactReadPlacingUptoRow.holds Try.pinned (OpenSpec.upto fnExactReadPlacingSpec)

/-- 'laws.FnExactLeastWeights', WHERE WHAT IT READS IS OF BULK AT MOST 1048576: true; the input reads as it did. -/
def fnExactLeastWeightsUptoRow : OpenClaim := { program := "ytmngeloenchpdaa", sum := "c1a6f7426e31c9133c755eca8c11991cb497ad5ec20913b29d01cd56460e2503", func := "loop.example/g01281/laws.FnExactLeastWeights", spec := "fnExactLeastWeights", recurses := true, apart := false, narrowed := true }
def FnExactLeastWeightsUptoSaid : Prop := fnExactLeastWeightsUptoRow.holds Try.pinned (OpenSpec.upto fnExactLeastWeightsSpec)

/-- 'laws.FnArms', WHERE WHAT IT READS IS OF BULK AT MOST 1048576: true; the input reads as it did. -/
def fnArmsUptoRow : OpenClaim := { program := "ytmngeloenchpdaa", sum := "c1a6f7426e31c9133c755eca8c11991cb497ad5ec20913b29d01cd56460e2503", func := "loop.example/g01281/laws.FnArms", spec := "fnArms", unfollowed := true, recurses := true, apart := false, narrowed := true }
def FnArmsUptoSaid : Prop := fnArmsUptoRow.holds Try.pinned (OpenSpec.upto fnArmsSpec)

end Rows
end Go.Proofs.Ytmngeloenchpdaa
