/-
  No cell of these rows narrows 'for every input' (looked for: loops, veiled, ifaces, maps, wideKeys, modest, calm, conditions, laid).
  DERIVED. THE GIVEN ROWS OF THIS SEAT. 4 by the template 'for every input the law returns true; each argument reads behind the call as it read before'; 0 by the template 'total and deterministic' (their statements: YtlbiakoofpgdmaaTotals.lean).
  GIVEN WITH THE SEED: the statements are not yours to turn. If you find one false, say at which input.
  Laid BY PROGRAM, IN A SANDBOX (cutbox-rows.mjs): the forced cells as the released guide's own fill.sh prints them over the translation 4d3ca220da0d8b4d… (all of the seat's roots in one cut). By AI agents, Wed Nov 11 2026. No macro, syntax, notation, axiom, sorry.
-/
import Derived.Test.YtlbiakoofpgdmaaChecked
import GoSem.Claim
import GoSem.ClaimJoined
import GoSem.ClaimMapViews
import Derived.JoinedTies
import Derived.KernelRfl
namespace Go.Proofs.Ytlbiakoofpgdmaa
/- THE CELL 'sum', in the pinned program and in every row, IS THE sha256 OF THE DUMP (.gsa) THAT YtlbiakoofpgdmaaProg.lean LOADS. Nothing in Lean hashes anything: it is a label: what it is worth is what the hold of that sum in a sandbox is worth. -/
noncomputable def Try.pinned : Pinned := { name := "ytlbiakoofpgdmaa", sum := "4d3ca220da0d8b4d844492e92cadebdb26fb8b586c33504fad6202bae758a87f", checked := Try.checked }
namespace Rows
def none {H : Type} : Left H := { results := [], args := [] }

/-- 'laws.FnExactSplitCases': WHATEVER THE INPUT: true; the input reads as it did. -/
def fnExactSplitCasesSpec : ChangeSpec := { name := "fnExactSplitCases", fn := fun _ => fun
  | [d1, d2, d3] => { results := [.lit (.bool true)], args := [d1, d2, d3] }
  | _ => none }
def fnExactSplitCasesRow : OpenClaim := { program := "ytlbiakoofpgdmaa", sum := "4d3ca220da0d8b4d844492e92cadebdb26fb8b586c33504fad6202bae758a87f", func := "loop.example/g01281/laws.FnExactSplitCases", spec := "fnExactSplitCases", unfollowed := true, recurses := true, plainKeys := false, apart := false }
def FnExactSplitCasesSaid : Prop := fnExactSplitCasesRow.holds Try.pinned (OpenSpec.ofChange fnExactSplitCasesSpec)

/-- ITS FALSE NEIGHBOUR: 'it returns false'. Refute it at one input. -/
def fnExactSplitCasesWrong : ChangeSpec := { name := "fnExactSplitCases", fn := fun _ => fun
  | [d1, d2, d3] => { results := [.lit (.bool false)], args := [d1, d2, d3] }
  | _ => none }
def FnExactSplitCasesWrongFalsely : Prop := fnExactSplitCasesRow.holds Try.pinned (OpenSpec.ofChange fnExactSplitCasesWrong)

/-- 'laws.FnExactFairestWeighing': WHATEVER THE INPUT: true; the input reads as it did. -/
def fnExactFairestWeighingSpec : ChangeSpec := { name := "fnExactFairestWeighing", fn := fun _ => fun
  | [d1, d2, d3] => { results := [.lit (.bool true)], args := [d1, d2, d3] }
  | _ => none }
def fnExactFairestWeighingRow : OpenClaim := { program := "ytlbiakoofpgdmaa", sum := "4d3ca220da0d8b4d844492e92cadebdb26fb8b586c33504fad6202bae758a87f", func := "loop.example/g01281/laws.FnExactFairestWeighing", spec := "fnExactFairestWeighing", unfollowed := true, recurses := true, plainKeys := false, apart := false }
def FnExactFairestWeighingSaid : Prop := fnExactFairestWeighingRow.holds Try.pinned (OpenSpec.ofChange fnExactFairestWeighingSpec)

/-- ITS FALSE NEIGHBOUR: 'it returns false'. Refute it at one input. -/
def fnExactFairestWeighingWrong : ChangeSpec := { name := "fnExactFairestWeighing", fn := fun _ => fun
  | [d1, d2, d3] => { results := [.lit (.bool false)], args := [d1, d2, d3] }
  | _ => none }
def FnExactFairestWeighingWrongFalsely : Prop := fnExactFairestWeighingRow.holds Try.pinned (OpenSpec.ofChange fnExactFairestWeighingWrong)

/-- 'laws.FnExactWeighingText': WHATEVER THE INPUT: true; the input reads as it did. -/
def fnExactWeighingTextSpec : ChangeSpec := { name := "fnExactWeighingText", fn := fun _ => fun
  | [d1, d2] => { results := [.lit (.bool true)], args := [d1, d2] }
  | _ => none }
def fnExactWeighingTextRow : OpenClaim := { program := "ytlbiakoofpgdmaa", sum := "4d3ca220da0d8b4d844492e92cadebdb26fb8b586c33504fad6202bae758a87f", func := "loop.example/g01281/laws.FnExactWeighingText", spec := "fnExactWeighingText", plainKeys := false, apart := false }
def FnExactWeighingTextSaid : Prop := fnExactWeighingTextRow.holds Try.pinned (OpenSpec.ofChange fnExactWeighingTextSpec)

/-- ITS FALSE NEIGHBOUR: 'it returns false'. Refute it at one input. -/
def fnExactWeighingTextWrong : ChangeSpec := { name := "fnExactWeighingText", fn := fun _ => fun
  | [d1, d2] => { results := [.lit (.bool false)], args := [d1, d2] }
  | _ => none }
def FnExactWeighingTextWrongFalsely : Prop := fnExactWeighingTextRow.holds Try.pinned (OpenSpec.ofChange fnExactWeighingTextWrong)

/-- 'laws.FnExactReadWeighing': WHATEVER THE INPUT: true; the input reads as it did. -/
def fnExactReadWeighingSpec : ChangeSpec := { name := "fnExactReadWeighing", fn := fun _ => fun
  | [d1, d2] => { results := [.lit (.bool true)], args := [d1, d2] }
  | _ => none }
def fnExactReadWeighingRow : OpenClaim := { program := "ytlbiakoofpgdmaa", sum := "4d3ca220da0d8b4d844492e92cadebdb26fb8b586c33504fad6202bae758a87f", func := "loop.example/g01281/laws.FnExactReadWeighing", spec := "fnExactReadWeighing", inPlace := ["internal/bytealg.IndexByteString"], plainKeys := false, apart := false }
def FnExactReadWeighingSaid : Prop := fnExactReadWeighingRow.holds Try.pinned (OpenSpec.ofChange fnExactReadWeighingSpec)

/-- ITS FALSE NEIGHBOUR: 'it returns false'. Refute it at one input. -/
def fnExactReadWeighingWrong : ChangeSpec := { name := "fnExactReadWeighing", fn := fun _ => fun
  | [d1, d2] => { results := [.lit (.bool false)], args := [d1, d2] }
  | _ => none }
def FnExactReadWeighingWrongFalsely : Prop := fnExactReadWeighingRow.holds Try.pinned (OpenSpec.ofChange fnExactReadWeighingWrong)

/- THE SECOND FORM. 'bulk': how many values and letters a reading holds, each counted each time it is reached (what is shared counts as often as it is met; a slice's spare places count too). A statement '..UptoSaid' is the law's where the arguments, and the package variables that the reading takes, are together of bulk at most 1048576: NARROWER than '..Said'. Prove '..Said' where nothing that the law and all that it calls make is longer than what came in: it says more and counts as full. Else prove '..UptoSaid'. A law counts once. -/
mutual
def uptoBulk {H : Type} : DataW H → Nat
  | .lit (.string bytes) => bytes.length + 1
  | .lit _ => 1
  | .nil => 1
  | .ptr d => uptoBulk d + 1
  | .slice elems spare => uptoBulkAll elems + uptoBulkAll spare + 1
  | .agg parts => uptoBulkAll parts + 1
  | .iface _ d => uptoBulk d + 1
  | .map entries => uptoBulkEntries entries + 1
  | .held _ => 1
def uptoBulkAll {H : Type} : List (DataW H) → Nat
  | [] => 0
  | d :: r => uptoBulk d + uptoBulkAll r
def uptoBulkEntries {H : Type} : List (Lit × DataW H) → Nat
  | [] => 0
  | x :: r => uptoBulkEntry x + uptoBulkEntries r
def uptoBulkEntry {H : Type} : Lit × DataW H → Nat
  | (.string bytes, d) => bytes.length + uptoBulk d + 1
  | (_, d) => uptoBulk d + 1
 end
def uptoSmall : (H : Type) → List (DataW H) → Bool := fun _ ds => decide (uptoBulkAll ds ≤ 1048576)
def OpenSpec.upto (s : _root_.Go.ChangeSpec) : _root_.Go.OpenSpec := { _root_.Go.OpenSpec.ofChange s with cond := some uptoSmall }

/-- 'laws.FnExactSplitCases', WHERE WHAT IT READS IS OF BULK AT MOST 1048576: true; the input reads as it did. -/
def fnExactSplitCasesUptoRow : OpenClaim := { program := "ytlbiakoofpgdmaa", sum := "4d3ca220da0d8b4d844492e92cadebdb26fb8b586c33504fad6202bae758a87f", func := "loop.example/g01281/laws.FnExactSplitCases", spec := "fnExactSplitCases", unfollowed := true, recurses := true, plainKeys := false, apart := false, narrowed := true }
def FnExactSplitCasesUptoSaid : Prop := fnExactSplitCasesUptoRow.holds Try.pinned (OpenSpec.upto fnExactSplitCasesSpec)

/-- 'laws.FnExactFairestWeighing', WHERE WHAT IT READS IS OF BULK AT MOST 1048576: true; the input reads as it did. -/
def fnExactFairestWeighingUptoRow : OpenClaim := { program := "ytlbiakoofpgdmaa", sum := "4d3ca220da0d8b4d844492e92cadebdb26fb8b586c33504fad6202bae758a87f", func := "loop.example/g01281/laws.FnExactFairestWeighing", spec := "fnExactFairestWeighing", unfollowed := true, recurses := true, plainKeys := false, apart := false, narrowed := true }
def FnExactFairestWeighingUptoSaid : Prop := fnExactFairestWeighingUptoRow.holds Try.pinned (OpenSpec.upto fnExactFairestWeighingSpec)

/-- 'laws.FnExactWeighingText', WHERE WHAT IT READS IS OF BULK AT MOST 1048576: true; the input reads as it did. -/
def fnExactWeighingTextUptoRow : OpenClaim := { program := "ytlbiakoofpgdmaa", sum := "4d3ca220da0d8b4d844492e92cadebdb26fb8b586c33504fad6202bae758a87f", func := "loop.example/g01281/laws.FnExactWeighingText", spec := "fnExactWeighingText", plainKeys := false, apart := false, narrowed := true }
def FnExactWeighingTextUptoSaid : Prop := fnExactWeighingTextUptoRow.holds Try.pinned (OpenSpec.upto fnExactWeighingTextSpec)

/-- 'laws.FnExactReadWeighing', WHERE WHAT IT READS IS OF BULK AT MOST 1048576: true; the input reads as it did. -/
def fnExactReadWeighingUptoRow : OpenClaim := { program := "ytlbiakoofpgdmaa", sum := "4d3ca220da0d8b4d844492e92cadebdb26fb8b586c33504fad6202bae758a87f", func := "loop.example/g01281/laws.FnExactReadWeighing", spec := "fnExactReadWeighing", inPlace := ["internal/bytealg.IndexByteString"], plainKeys := false, apart := false, narrowed := true }
def FnExactReadWeighingUptoSaid : Prop := fnExactReadWeighingUptoRow.holds Try.pinned (OpenSpec.upto fnExactReadWeighingSpec)

end Rows
end Go.Proofs.Ytlbiakoofpgdmaa
