/-
  NARROWER THAN 'FOR EVERY INPUT', by the rows' own cells (each row's printed sentence says how): FnExactFoundIn: ifaces, laid.
  DERIVED. THE GIVEN ROWS OF THIS SEAT. 1 by the template 'for every input the law returns true; each argument reads behind the call as it read before'; 0 by the template 'total and deterministic' (their statements: YtijaghkbmgkjnaaDoorTotals.lean).
  GIVEN WITH THE SEED: the statements are not yours to turn. If you find one false, say at which input.
  Laid BY PROGRAM, IN A SANDBOX (cutbox-rows.mjs): the forced cells as the released guide's own fill.sh prints them over the translation 6ad02a296f9b309f… (all of the seat's roots in one cut). By AI agents, Wed Nov 11 2026. No macro, syntax, notation, axiom, sorry.
-/
import Derived.Test.YtijaghkbmgkjnaaDoorChecked
import GoSem.Claim
import GoSem.ClaimJoined
import GoSem.ClaimMapViews
import Derived.JoinedTies
import Derived.KernelRfl
namespace Go.Proofs.YtijaghkbmgkjnaaDoor
/- THE CELL 'sum', in the pinned program and in every row, IS THE sha256 OF THE DUMP (.gsa) THAT YtijaghkbmgkjnaaDoorProg.lean LOADS. Nothing in Lean hashes anything: it is a label: what it is worth is what the hold of that sum in a sandbox is worth. -/
noncomputable def Tryd.pinned : Pinned := { name := "ytijaghkbmgkjnaadoor", sum := "6ad02a296f9b309f8413dc9c35db2aec912bc35670accadd36fd5ea342d8482d", checked := Tryd.checked }
namespace Rows
def none {H : Type} : Left H := { results := [], args := [] }

/- WHAT THE LISTED PACKAGE-LEVEL VARIABLES READ AS WHEN THE CALL BEGINS. Each datum BY PROGRAM (the guide's laid-datum.mjs) off the statement by which the dump's own 'gosem.cut.vars' lays the variable. In a bare row this is a premise. The card (YtijaghkbmgkjnaaDoorCards.lean) ties it to the program's text. -/
def laid_loop_example_g01281_impl_errSeveral {H : Type} : DataW H := .iface "*errors.errorString" (.ptr (.agg [.lit (.string [116, 104, 101, 114, 101, 32, 97, 114, 101, 32, 115, 101, 118, 101, 114, 97, 108, 32, 99, 97, 110, 100, 105, 100, 97, 116, 101, 115])]))
def laid_loop_example_g01281_impl_errNone {H : Type} : DataW H := .iface "*errors.errorString" (.ptr (.agg [.lit (.string [116, 104, 101, 114, 101, 32, 105, 115, 32, 110, 111, 32, 99, 97, 110, 100, 105, 100, 97, 116, 101, 32, 108, 101, 102, 116])]))
def laid_loop_example_g01281_impl_errTooMany {H : Type} : DataW H := .iface "*errors.errorString" (.ptr (.agg [.lit (.string [116, 104, 101, 114, 101, 32, 119, 111, 117, 108, 100, 32, 98, 101, 32, 116, 111, 111, 32, 109, 97, 110, 121, 32, 113, 117, 101, 115, 116, 105, 111, 110, 115])]))

/-- 'laws.FnExactFoundIn': WHATEVER THE INPUT: true; the input reads as it did. -/
def fnExactFoundInSpec : ChangeSpec := { name := "fnExactFoundIn", vars := ["loop.example/g01281/impl.errSeveral", "loop.example/g01281/impl.errNone", "loop.example/g01281/impl.errTooMany"], fn := fun _ => fun
  | [d, g1, g2, g3] => { results := [.lit (.bool true)], args := [d], vars := [g1, g2, g3] }
  | _ => none }
def fnExactFoundInRow : OpenClaim := { program := "ytijaghkbmgkjnaadoor", sum := "6ad02a296f9b309f8413dc9c35db2aec912bc35670accadd36fd5ea342d8482d", func := "loop.example/g01281/laws.FnExactFoundIn", spec := "fnExactFoundIn", inPlace := ["internal/reflectlite.TypeOf"], unfollowed := true, recurses := true, named := ["loop.example/g01281/impl.errSeveral", "loop.example/g01281/impl.errNone", "loop.example/g01281/impl.errTooMany"], ifaces := true, apart := false, laid := [("loop.example/g01281/impl.errSeveral", laid_loop_example_g01281_impl_errSeveral), ("loop.example/g01281/impl.errNone", laid_loop_example_g01281_impl_errNone), ("loop.example/g01281/impl.errTooMany", laid_loop_example_g01281_impl_errTooMany)] }
def FnExactFoundInSaid : Prop := fnExactFoundInRow.holds Tryd.pinned (OpenSpec.ofChange fnExactFoundInSpec)

/-- ITS FALSE NEIGHBOUR: 'it returns false'. Refute it at one input. -/
def fnExactFoundInWrong : ChangeSpec := { name := "fnExactFoundIn", vars := ["loop.example/g01281/impl.errSeveral", "loop.example/g01281/impl.errNone", "loop.example/g01281/impl.errTooMany"], fn := fun _ => fun
  | [d, g1, g2, g3] => { results := [.lit (.bool false)], args := [d], vars := [g1, g2, g3] }
  | _ => none }
def FnExactFoundInWrongFalsely : Prop := fnExactFoundInRow.holds Tryd.pinned (OpenSpec.ofChange fnExactFoundInWrong)

/- THE SECOND FORM. 'bulk': how many values and letters a reading holds, each counted each time it is reached (what is shared counts as often as it is met; a slice's spare places count too). A statement '..UptoSaid' is the law's where the arguments, and the package variables that the reading takes, are together of bulk at most 1048576: NARROWER than '..Said'. Prove '..Said' where nothing that the law and all that it calls make is longer than what came in: it says more and counts as full. Else prove '..UptoSaid'. A law counts once. -/
mutual
def uptoBulk {H : Type} : DataW H → Nat
  | .lit (.string bytes) => bytes.length + 1
  | .lit _ => 1
  | .nil => 1
  | .ptr d => uptoBulk d + 1
  | .slice elems spare => uptoBulkAll elems + uptoBulkAll spare + 1
  | .agg parts => uptoBulkAll parts + 1
  | .iface _ d => uptoBulk d + 1
  | .map entries => uptoBulkEntries entries + 1
  | .held _ => 1
def uptoBulkAll {H : Type} : List (DataW H) → Nat
  | [] => 0
  | d :: r => uptoBulk d + uptoBulkAll r
def uptoBulkEntries {H : Type} : List (Lit × DataW H) → Nat
  | [] => 0
  | x :: r => uptoBulkEntry x + uptoBulkEntries r
def uptoBulkEntry {H : Type} : Lit × DataW H → Nat
  | (.string bytes, d) => bytes.length + uptoBulk d + 1
  | (_, d) => uptoBulk d + 1
 end
def uptoSmall : (H : Type) → List (DataW H) → Bool := fun _ ds => decide (uptoBulkAll ds ≤ 1048576)
def OpenSpec.upto (s : _root_.Go.ChangeSpec) : _root_.Go.OpenSpec := { _root_.Go.OpenSpec.ofChange s with cond := some uptoSmall }

/-- 'laws.FnExactFoundIn', WHERE WHAT IT READS IS OF BULK AT MOST 1048576: true; the input reads as it did. -/
def fnExactFoundInUptoRow : OpenClaim := { program := "ytijaghkbmgkjnaadoor", sum := "6ad02a296f9b309f8413dc9c35db2aec912bc35670accadd36fd5ea342d8482d", func := "loop.example/g01281/laws.FnExactFoundIn", spec := "fnExactFoundIn", inPlace := ["internal/reflectlite.TypeOf"], unfollowed := true, recurses := true, named := ["loop.example/g01281/impl.errSeveral", "loop.example/g01281/impl.errNone", "loop.example/g01281/impl.errTooMany"], ifaces := true, apart := false, laid := [("loop.example/g01281/impl.errSeveral", laid_loop_example_g01281_impl_errSeveral), ("loop.example/g01281/impl.errNone", laid_loop_example_g01281_impl_errNone), ("loop.example/g01281/impl.errTooMany", laid_loop_example_g01281_impl_errTooMany)], narrowed := true }
def FnExactFoundInUptoSaid : Prop := fnExactFoundInUptoRow.holds Tryd.pinned (OpenSpec.upto fnExactFoundInSpec)

end Rows
end Go.Proofs.YtijaghkbmgkjnaaDoor
