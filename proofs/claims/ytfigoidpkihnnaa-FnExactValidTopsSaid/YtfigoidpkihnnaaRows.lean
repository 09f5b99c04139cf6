/-
  No cell of these rows narrows 'for every input' (looked for: loops, veiled, ifaces, maps, wideKeys, modest, calm, conditions, laid).
  DERIVED. THE GIVEN ROWS OF THIS SEAT. 4 by the template 'for every input the law returns true; each argument reads behind the call as it read before'; 0 by the template 'total and deterministic' (their statements: YtfigoidpkihnnaaTotals.lean).
  GIVEN WITH THE SEED: the statements are not yours to turn. If you find one false, say at which input.
  Laid BY PROGRAM, IN A SANDBOX (cutbox-rows.mjs): the forced cells as the released guide's own fill.sh prints them over the translation 39f8ffcd92a5ab25… (all of the seat's roots in one cut). By AI agents, Wed Nov 11 2026. No macro, syntax, notation, axiom, sorry.
-/
import Derived.Test.YtfigoidpkihnnaaChecked
import GoSem.Claim
import GoSem.ClaimJoined
import GoSem.ClaimMapViews
import Derived.JoinedTies
import Derived.KernelRfl
namespace Go.Proofs.Ytfigoidpkihnnaa
/- THE CELL 'sum', in the pinned program and in every row, IS THE sha256 OF THE DUMP (.gsa) THAT YtfigoidpkihnnaaProg.lean LOADS. Nothing in Lean hashes anything: it is a label: what it is worth is what the hold of that sum in a sandbox is worth. -/
noncomputable def Try.pinned : Pinned := { name := "ytfigoidpkihnnaa", sum := "39f8ffcd92a5ab25ff1140c46caa374669781609d1d6d9a35ac0087bc0f47489", checked := Try.checked }
namespace Rows
def none {H : Type} : Left H := { results := [], args := [] }

/-- 'laws.FnExactValidGlasses': WHATEVER THE INPUT: true; the input reads as it did. -/
def fnExactValidGlassesSpec : ChangeSpec := { name := "fnExactValidGlasses", fn := fun _ => fun
  | [d] => { results := [.lit (.bool true)], args := [d] }
  | _ => none }
def fnExactValidGlassesRow : OpenClaim := { program := "ytfigoidpkihnnaa", sum := "39f8ffcd92a5ab25ff1140c46caa374669781609d1d6d9a35ac0087bc0f47489", func := "loop.example/g01281/laws.FnExactValidGlasses", spec := "fnExactValidGlasses", apart := false }
def FnExactValidGlassesSaid : Prop := fnExactValidGlassesRow.holds Try.pinned (OpenSpec.ofChange fnExactValidGlassesSpec)

/-- ITS FALSE NEIGHBOUR: 'it returns false'. Refute it at one input. -/
def fnExactValidGlassesWrong : ChangeSpec := { name := "fnExactValidGlasses", fn := fun _ => fun
  | [d] => { results := [.lit (.bool false)], args := [d] }
  | _ => none }
def FnExactValidGlassesWrongFalsely : Prop := fnExactValidGlassesRow.holds Try.pinned (OpenSpec.ofChange fnExactValidGlassesWrong)

/-- 'laws.FnExactValidTops': WHATEVER THE INPUT: true; the input reads as it did. -/
def fnExactValidTopsSpec : ChangeSpec := { name := "fnExactValidTops", fn := fun _ => fun
  | [d1, d2] => { results := [.lit (.bool true)], args := [d1, d2] }
  | _ => none }
def fnExactValidTopsRow : OpenClaim := { program := "ytfigoidpkihnnaa", sum := "39f8ffcd92a5ab25ff1140c46caa374669781609d1d6d9a35ac0087bc0f47489", func := "loop.example/g01281/laws.FnExactValidTops", spec := "fnExactValidTops", apart := false }
def FnExactValidTopsSaid : Prop := fnExactValidTopsRow.holds Try.pinned (OpenSpec.ofChange fnExactValidTopsSpec)

/-- ITS FALSE NEIGHBOUR: 'it returns false'. Refute it at one input. -/
def fnExactValidTopsWrong : ChangeSpec := { name := "fnExactValidTops", fn := fun _ => fun
  | [d1, d2] => { results := [.lit (.bool false)], args := [d1, d2] }
  | _ => none }
def FnExactValidTopsWrongFalsely : Prop := fnExactValidTopsRow.holds Try.pinned (OpenSpec.ofChange fnExactValidTopsWrong)

/-- 'laws.FnExactRunsDown': WHATEVER THE INPUT: true; the input reads as it did. -/
def fnExactRunsDownSpec : ChangeSpec := { name := "fnExactRunsDown", fn := fun _ => fun
  | [d1, d2] => { results := [.lit (.bool true)], args := [d1, d2] }
  | _ => none }
def fnExactRunsDownRow : OpenClaim := { program := "ytfigoidpkihnnaa", sum := "39f8ffcd92a5ab25ff1140c46caa374669781609d1d6d9a35ac0087bc0f47489", func := "loop.example/g01281/laws.FnExactRunsDown", spec := "fnExactRunsDown", apart := false }
def FnExactRunsDownSaid : Prop := fnExactRunsDownRow.holds Try.pinned (OpenSpec.ofChange fnExactRunsDownSpec)

/-- ITS FALSE NEIGHBOUR: 'it returns false'. Refute it at one input. -/
def fnExactRunsDownWrong : ChangeSpec := { name := "fnExactRunsDown", fn := fun _ => fun
  | [d1, d2] => { results := [.lit (.bool false)], args := [d1, d2] }
  | _ => none }
def FnExactRunsDownWrongFalsely : Prop := fnExactRunsDownRow.holds Try.pinned (OpenSpec.ofChange fnExactRunsDownWrong)

/-- 'laws.FnExactStepOfGlasses': WHATEVER THE INPUT: true; the input reads as it did. -/
def fnExactStepOfGlassesSpec : ChangeSpec := { name := "fnExactStepOfGlasses", fn := fun _ => fun
  | [d1, d2] => { results := [.lit (.bool true)], args := [d1, d2] }
  | _ => none }
def fnExactStepOfGlassesRow : OpenClaim := { program := "ytfigoidpkihnnaa", sum := "39f8ffcd92a5ab25ff1140c46caa374669781609d1d6d9a35ac0087bc0f47489", func := "loop.example/g01281/laws.FnExactStepOfGlasses", spec := "fnExactStepOfGlasses", recurses := true, apart := false }
def FnExactStepOfGlassesSaid : Prop := fnExactStepOfGlassesRow.holds Try.pinned (OpenSpec.ofChange fnExactStepOfGlassesSpec)

/-- ITS FALSE NEIGHBOUR: 'it returns false'. Refute it at one input. -/
def fnExactStepOfGlassesWrong : ChangeSpec := { name := "fnExactStepOfGlasses", fn := fun _ => fun
  | [d1, d2] => { results := [.lit (.bool false)], args := [d1, d2] }
  | _ => none }
def FnExactStepOfGlassesWrongFalsely : Prop := fnExactStepOfGlassesRow.holds Try.pinned (OpenSpec.ofChange fnExactStepOfGlassesWrong)

/- THE SECOND FORM. 'bulk': how many values and letters a reading holds, each counted each time it is reached (what is shared counts as often as it is met; a slice's spare places count too). A statement '..UptoSaid' is the law's where the arguments, and the package variables that the reading takes, are together of bulk at most 1048576: NARROWER than '..Said'. Prove '..Said' where nothing that the law and all that it calls make is longer than what came in: it says more and counts as full. Else prove '..UptoSaid'. A law counts once. -/
mutual
def uptoBulk {H : Type} : DataW H → Nat
  | .lit (.string bytes) => bytes.length + 1
  | .lit _ => 1
  | .nil => 1
  | .ptr d => uptoBulk d + 1
  | .slice elems spare => uptoBulkAll elems + uptoBulkAll spare + 1
  | .agg parts => uptoBulkAll parts + 1
  | .iface _ d => uptoBulk d + 1
  | .map entries => uptoBulkEntries entries + 1
  | .held _ => 1
def uptoBulkAll {H : Type} : List (DataW H) → Nat
  | [] => 0
  | d :: r => uptoBulk d + uptoBulkAll r
def uptoBulkEntries {H : Type} : List (Lit × DataW H) → Nat
  | [] => 0
  | x :: r => uptoBulkEntry x + uptoBulkEntries r
def uptoBulkEntry {H : Type} : Lit × DataW H → Nat
  | (.string bytes, d) => bytes.length + uptoBulk d + 1
  | (_, d) => uptoBulk d + 1
 end
def uptoSmall : (H : Type) → List (DataW H) → Bool := fun _ ds => decide (uptoBulkAll ds ≤ 1048576)
def OpenSpec.upto (s : _root_.Go.ChangeSpec) : _root_.Go.OpenSpec := { _root_.Go.OpenSpec.ofChange s with cond := some uptoSmall }

/-- 'laws.FnExactValidGlasses', WHERE WHAT IT READS IS OF BULK AT MOST 1048576: true; the input reads as it did. -/
def fnExactValidGlassesUptoRow : OpenClaim := { program := "ytfigoidpkihnnaa", sum := "39f8ffcd92a5ab25ff1140c46caa374669781609d1d6d9a35ac0087bc0f47489", func := "loop.example/g01281/laws.FnExactValidGlasses", spec := "fnExactValidGlasses", apart := false, narrowed := true }
def FnExactValidGlassesUptoSaid : Prop := fnExactValidGlassesUptoRow.holds Try.pinned (OpenSpec.upto fnExactValidGlassesSpec)

/-- 'laws.FnExactValidTops', WHERE WHAT IT READS IS OF BULK AT MOST 1048576: true; the input reads as it did. -/
def fnExactValidTopsUptoRow : OpenClaim := { program := "ytfigoidpkihnnaa", sum := "39f8ffcd92a5ab25ff1140c46caa374669781609d1d6d9a35ac0087bc0f47489", func := "loop.example/g01281/laws.FnExactValidTops", spec := "fnExactValidTops", apart := false, narrowed := true }
def FnExactValidTopsUptoSaid : Prop := fnExactValidTopsUptoRow.holds Try.pinned (OpenSpec.upto fnExactValidTopsSpec)

/-- 'laws.FnExactRunsDown', WHERE WHAT IT READS IS OF BULK AT MOST 1048576: true; the input reads as it did. -/
def fnExactRunsDownUptoRow : OpenClaim := { program := "ytfigoidpkihnnaa", sum := "39f8ffcd92a5ab25ff1140c46caa374669781609d1d6d9a35ac0087bc0f47489", func := "loop.example/g01281/laws.FnExactRunsDown", spec := "fnExactRunsDown", apart := false, narrowed := true }
def FnExactRunsDownUptoSaid : Prop := fnExactRunsDownUptoRow.holds Try.pinned (OpenSpec.upto fnExactRunsDownSpec)

/-- 'laws.FnExactStepOfGlasses', WHERE WHAT IT READS IS OF BULK AT MOST 1048576: true; the input reads as it did. -/
def fnExactStepOfGlassesUptoRow : OpenClaim := { program := "ytfigoidpkihnnaa", sum := "39f8ffcd92a5ab25ff1140c46caa374669781609d1d6d9a35ac0087bc0f47489", func := "loop.example/g01281/laws.FnExactStepOfGlasses", spec := "fnExactStepOfGlasses", recurses := true, apart := false, narrowed := true }
def FnExactStepOfGlassesUptoSaid : Prop := fnExactStepOfGlassesUptoRow.holds Try.pinned (OpenSpec.upto fnExactStepOfGlassesSpec)

end Rows
end Go.Proofs.Ytfigoidpkihnnaa
