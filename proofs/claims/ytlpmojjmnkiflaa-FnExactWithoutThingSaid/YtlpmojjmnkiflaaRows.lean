/-
  No cell of these rows narrows 'for every input' (looked for: loops, veiled, ifaces, maps, wideKeys, modest, calm, conditions, laid).
  DERIVED. THE GIVEN ROWS OF THIS SEAT. 6 by the template 'for every input the law returns true; each argument reads behind the call as it read before'; 0 by the template 'total and deterministic' (their statements: YtlpmojjmnkiflaaTotals.lean).
  GIVEN WITH THE SEED: the statements are not yours to turn. If you find one false, say at which input.
  Laid BY PROGRAM, IN A SANDBOX (cutbox-rows.mjs): the forced cells as the released guide's own fill.sh prints them over the translation 39864f39c26bab77… (all of the seat's roots in one cut). By AI agents, Wed Nov 11 2026. No macro, syntax, notation, axiom, sorry.
-/
import Derived.Test.YtlpmojjmnkiflaaChecked
import GoSem.Claim
import GoSem.ClaimJoined
import GoSem.ClaimMapViews
import Derived.JoinedTies
import Derived.KernelRfl
namespace Go.Proofs.Ytlpmojjmnkiflaa
/- THE CELL 'sum', in the pinned program and in every row, IS THE sha256 OF THE DUMP (.gsa) THAT YtlpmojjmnkiflaaProg.lean LOADS. Nothing in Lean hashes anything: it is a label: what it is worth is what the hold of that sum in a sandbox is worth. -/
noncomputable def Try.pinned : Pinned := { name := "ytlpmojjmnkiflaa", sum := "39864f39c26bab77cea332278e3cb88b87f1b5ee4c6980a7a6f83c60b4655fff", checked := Try.checked }
namespace Rows
def none {H : Type} : Left H := { results := [], args := [] }

/-- 'laws.FnExactCrossWith': WHATEVER THE INPUT: true; the input reads as it did. -/
def fnExactCrossWithSpec : ChangeSpec := { name := "fnExactCrossWith", fn := fun _ => fun
  | [d1, d2, d3] => { results := [.lit (.bool true)], args := [d1, d2, d3] }
  | _ => none }
def fnExactCrossWithRow : OpenClaim := { program := "ytlpmojjmnkiflaa", sum := "39864f39c26bab77cea332278e3cb88b87f1b5ee4c6980a7a6f83c60b4655fff", func := "loop.example/g01281/laws.FnExactCrossWith", spec := "fnExactCrossWith", unfollowed := true, recurses := true, apart := false }
def FnExactCrossWithSaid : Prop := fnExactCrossWithRow.holds Try.pinned (OpenSpec.ofChange fnExactCrossWithSpec)

/-- ITS FALSE NEIGHBOUR: 'it returns false'. Refute it at one input. -/
def fnExactCrossWithWrong : ChangeSpec := { name := "fnExactCrossWith", fn := fun _ => fun
  | [d1, d2, d3] => { results := [.lit (.bool false)], args := [d1, d2, d3] }
  | _ => none }
def FnExactCrossWithWrongFalsely : Prop := fnExactCrossWithRow.holds Try.pinned (OpenSpec.ofChange fnExactCrossWithWrong)

/-- 'laws.FnExactLoadsFrom': WHATEVER THE INPUT: true; the input reads as it did. -/
def fnExactLoadsFromSpec : ChangeSpec := { name := "fnExactLoadsFrom", fn := fun _ => fun
  | [d1, d2] => { results := [.lit (.bool true)], args := [d1, d2] }
  | _ => none }
def fnExactLoadsFromRow : OpenClaim := { program := "ytlpmojjmnkiflaa", sum := "39864f39c26bab77cea332278e3cb88b87f1b5ee4c6980a7a6f83c60b4655fff", func := "loop.example/g01281/laws.FnExactLoadsFrom", spec := "fnExactLoadsFrom", unfollowed := true, recurses := true, apart := false }
def FnExactLoadsFromSaid : Prop := fnExactLoadsFromRow.holds Try.pinned (OpenSpec.ofChange fnExactLoadsFromSpec)

/-- ITS FALSE NEIGHBOUR: 'it returns false'. Refute it at one input. -/
def fnExactLoadsFromWrong : ChangeSpec := { name := "fnExactLoadsFrom", fn := fun _ => fun
  | [d1, d2] => { results := [.lit (.bool false)], args := [d1, d2] }
  | _ => none }
def FnExactLoadsFromWrongFalsely : Prop := fnExactLoadsFromRow.holds Try.pinned (OpenSpec.ofChange fnExactLoadsFromWrong)

/-- 'laws.FnExactCrossAll': WHATEVER THE INPUT: true; the input reads as it did. -/
def fnExactCrossAllSpec : ChangeSpec := { name := "fnExactCrossAll", fn := fun _ => fun
  | [d1, d2] => { results := [.lit (.bool true)], args := [d1, d2] }
  | _ => none }
def fnExactCrossAllRow : OpenClaim := { program := "ytlpmojjmnkiflaa", sum := "39864f39c26bab77cea332278e3cb88b87f1b5ee4c6980a7a6f83c60b4655fff", func := "loop.example/g01281/laws.FnExactCrossAll", spec := "fnExactCrossAll", unfollowed := true, recurses := true, apart := false }
def FnExactCrossAllSaid : Prop := fnExactCrossAllRow.holds Try.pinned (OpenSpec.ofChange fnExactCrossAllSpec)

/-- ITS FALSE NEIGHBOUR: 'it returns false'. Refute it at one input. -/
def fnExactCrossAllWrong : ChangeSpec := { name := "fnExactCrossAll", fn := fun _ => fun
  | [d1, d2] => { results := [.lit (.bool false)], args := [d1, d2] }
  | _ => none }
def FnExactCrossAllWrongFalsely : Prop := fnExactCrossAllRow.holds Try.pinned (OpenSpec.ofChange fnExactCrossAllWrong)

/-- 'laws.FnExactThingsText': WHATEVER THE INPUT: true; the input reads as it did. -/
def fnExactThingsTextSpec : ChangeSpec := { name := "fnExactThingsText", fn := fun _ => fun
  | [d] => { results := [.lit (.bool true)], args := [d] }
  | _ => none }
def fnExactThingsTextRow : OpenClaim := { program := "ytlpmojjmnkiflaa", sum := "39864f39c26bab77cea332278e3cb88b87f1b5ee4c6980a7a6f83c60b4655fff", func := "loop.example/g01281/laws.FnExactThingsText", spec := "fnExactThingsText", inPlace := ["internal/abi.NoEscape"], apart := false }
def FnExactThingsTextSaid : Prop := fnExactThingsTextRow.holds Try.pinned (OpenSpec.ofChange fnExactThingsTextSpec)

/-- ITS FALSE NEIGHBOUR: 'it returns false'. Refute it at one input. -/
def fnExactThingsTextWrong : ChangeSpec := { name := "fnExactThingsText", fn := fun _ => fun
  | [d] => { results := [.lit (.bool false)], args := [d] }
  | _ => none }
def FnExactThingsTextWrongFalsely : Prop := fnExactThingsTextRow.holds Try.pinned (OpenSpec.ofChange fnExactThingsTextWrong)

/-- 'laws.FnExactReadThings': WHATEVER THE INPUT: true; the input reads as it did. -/
def fnExactReadThingsSpec : ChangeSpec := { name := "fnExactReadThings", fn := fun _ => fun
  | [d] => { results := [.lit (.bool true)], args := [d] }
  | _ => none }
def fnExactReadThingsRow : OpenClaim := { program := "ytlpmojjmnkiflaa", sum := "39864f39c26bab77cea332278e3cb88b87f1b5ee4c6980a7a6f83c60b4655fff", func := "loop.example/g01281/laws.FnExactReadThings", spec := "fnExactReadThings", inPlace := ["internal/bytealg.IndexByteString", "internal/abi.NoEscape"], apart := false }
def FnExactReadThingsSaid : Prop := fnExactReadThingsRow.holds Try.pinned (OpenSpec.ofChange fnExactReadThingsSpec)

/-- ITS FALSE NEIGHBOUR: 'it returns false'. Refute it at one input. -/
def fnExactReadThingsWrong : ChangeSpec := { name := "fnExactReadThings", fn := fun _ => fun
  | [d] => { results := [.lit (.bool false)], args := [d] }
  | _ => none }
def FnExactReadThingsWrongFalsely : Prop := fnExactReadThingsRow.holds Try.pinned (OpenSpec.ofChange fnExactReadThingsWrong)

/-- 'laws.FnExactWithoutThing': WHATEVER THE INPUT: true; the input reads as it did. -/
def fnExactWithoutThingSpec : ChangeSpec := { name := "fnExactWithoutThing", fn := fun _ => fun
  | [d1, d2] => { results := [.lit (.bool true)], args := [d1, d2] }
  | _ => none }
def fnExactWithoutThingRow : OpenClaim := { program := "ytlpmojjmnkiflaa", sum := "39864f39c26bab77cea332278e3cb88b87f1b5ee4c6980a7a6f83c60b4655fff", func := "loop.example/g01281/laws.FnExactWithoutThing", spec := "fnExactWithoutThing", unfollowed := true, recurses := true, apart := false }
def FnExactWithoutThingSaid : Prop := fnExactWithoutThingRow.holds Try.pinned (OpenSpec.ofChange fnExactWithoutThingSpec)

/-- ITS FALSE NEIGHBOUR: 'it returns false'. Refute it at one input. -/
def fnExactWithoutThingWrong : ChangeSpec := { name := "fnExactWithoutThing", fn := fun _ => fun
  | [d1, d2] => { results := [.lit (.bool false)], args := [d1, d2] }
  | _ => none }
def FnExactWithoutThingWrongFalsely : Prop := fnExactWithoutThingRow.holds Try.pinned (OpenSpec.ofChange fnExactWithoutThingWrong)

/- THE SECOND FORM. 'bulk': how many values and letters a reading holds, each counted each time it is reached (what is shared counts as often as it is met; a slice's spare places count too). A statement '..UptoSaid' is the law's where the arguments, and the package variables that the reading takes, are together of bulk at most 1048576: NARROWER than '..Said'. Prove '..Said' where nothing that the law and all that it calls make is longer than what came in: it says more and counts as full. Else prove '..UptoSaid'. A law counts once. -/
mutual
def uptoBulk {H : Type} : DataW H → Nat
  | .lit (.string bytes) => bytes.length + 1
  | .lit _ => 1
  | .nil => 1
  | .ptr d => uptoBulk d + 1
  | .slice elems spare => uptoBulkAll elems + uptoBulkAll spare + 1
  | .agg parts => uptoBulkAll parts + 1
  | .iface _ d => uptoBulk d + 1
  | .map entries => uptoBulkEntries entries + 1
  | .held _ => 1
def uptoBulkAll {H : Type} : List (DataW H) → Nat
  | [] => 0
  | d :: r => uptoBulk d + uptoBulkAll r
def uptoBulkEntries {H : Type} : List (Lit × DataW H) → Nat
  | [] => 0
  | x :: r => uptoBulkEntry x + uptoBulkEntries r
def uptoBulkEntry {H : Type} : Lit × DataW H → Nat
  | (.string bytes, d) => bytes.length + uptoBulk d + 1
  | (_, d) => uptoBulk d + 1
 end
def uptoSmall : (H : Type) → List (DataW H) → Bool := fun _ ds => decide (uptoBulkAll ds ≤ 1048576)
def OpenSpec.upto (s : _root_.Go.ChangeSpec) : _root_.Go.OpenSpec := { _root_.Go.OpenSpec.ofChange s with cond := some uptoSmall }

/-- 'laws.FnExactCrossWith', WHERE WHAT IT READS IS OF BULK AT MOST 1048576: true; the input reads as it did. -/
def fnExactCrossWithUptoRow : OpenClaim := { program := "ytlpmojjmnkiflaa", sum := "39864f39c26bab77cea332278e3cb88b87f1b5ee4c6980a7a6f83c60b4655fff", func := "loop.example/g01281/laws.FnExactCrossWith", spec := "fnExactCrossWith", unfollowed := true, recurses := true, apart := false, narrowed := true }
def FnExactCrossWithUptoSaid : Prop := fnExactCrossWithUptoRow.holds Try.pinned (OpenSpec.upto fnExactCrossWithSpec)

/-- 'laws.FnExactLoadsFrom', WHERE WHAT IT READS IS OF BULK AT MOST 1048576: true; the input reads as it did. -/
def fnExactLoadsFromUptoRow : OpenClaim := { program := "ytlpmojjmnkiflaa", sum := "39864f39c26bab77cea332278e3cb88b87f1b5ee4c6980a7a6f83c60b4655fff", func := "loop.example/g01281/laws.FnExactLoadsFrom", spec := "fnExactLoadsFrom", unfollowed := true, recurses := true, apart := false, narrowed := true }
def FnExactLoadsFromUptoSaid : Prop := fnExactLoadsFromUptoRow.holds Try.pinned (OpenSpec.upto fnExactLoadsFromSpec)

/-- 'laws.FnExactCrossAll', WHERE WHAT IT READS IS OF BULK AT MOST 1048576: true; the input reads as it did. -/
def fnExactCrossAllUptoRow : OpenClaim := { program := "ytlpmojjmnkiflaa", sum := "39864f39c26bab77cea332278e3cb88b87f1b5ee4c6980a7a6f83c60b4655fff", func := "loop.example/g01281/laws.FnExactCrossAll", spec := "fnExactCrossAll", unfollowed := true, recurses := true, apart := false, narrowed := true }
def FnExactCrossAllUptoSaid : Prop := fnExactCrossAllUptoRow.holds Try.pinned (OpenSpec.upto fnExactCrossAllSpec)

/-- 'laws.FnExactThingsText', WHERE WHAT IT READS IS OF BULK AT MOST 1048576: true; the input reads as it did. -/
def fnExactThingsTextUptoRow : OpenClaim := { program := "ytlpmojjmnkiflaa", sum := "39864f39c26bab77cea332278e3cb88b87f1b5ee4c6980a7a6f83c60b4655fff", func := "loop.example/g01281/laws.FnExactThingsText", spec := "fnExactThingsText", inPlace := ["internal/abi.NoEscape"], apart := false, narrowed := true }
def FnExactThingsTextUptoSaid : Prop := fnExactThingsTextUptoRow.holds Try.pinned (OpenSpec.upto fnExactThingsTextSpec)

/-- 'laws.FnExactReadThings', WHERE WHAT IT READS IS OF BULK AT MOST 1048576: true; the input reads as it did. -/
def fnExactReadThingsUptoRow : OpenClaim := { program := "ytlpmojjmnkiflaa", sum := "39864f39c26bab77cea332278e3cb88b87f1b5ee4c6980a7a6f83c60b4655fff", func := "loop.example/g01281/laws.FnExactReadThings", spec := "fnExactReadThings", inPlace := ["internal/bytealg.IndexByteString", "internal/abi.NoEscape"], apart := false, narrowed := true }
def FnExactReadThingsUptoSaid : Prop := fnExactReadThingsUptoRow.holds Try.pinned (OpenSpec.upto fnExactReadThingsSpec)

/-- 'laws.FnExactWithoutThing', WHERE WHAT IT READS IS OF BULK AT MOST 1048576: true; the input reads as it did. -/
def fnExactWithoutThingUptoRow : OpenClaim := { program := "ytlpmojjmnkiflaa", sum := "39864f39c26bab77cea332278e3cb88b87f1b5ee4c6980a7a6f83c60b4655fff", func := "loop.example/g01281/laws.FnExactWithoutThing", spec := "fnExactWithoutThing", unfollowed := true, recurses := true, apart := false, narrowed := true }
def FnExactWithoutThingUptoSaid : Prop := fnExactWithoutThingUptoRow.holds Try.pinned (OpenSpec.upto fnExactWithoutThingSpec)

end Rows
end Go.Proofs.Ytlpmojjmnkiflaa
