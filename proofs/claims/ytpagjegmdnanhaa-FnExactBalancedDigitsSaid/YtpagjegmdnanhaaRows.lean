/-
  No cell of these rows narrows 'for every input' (looked for: loops, veiled, ifaces, maps, wideKeys, modest, calm, conditions, laid).
  DERIVED. THE GIVEN ROWS OF THIS SEAT. 6 by the template 'for every input the law returns true; each argument reads behind the call as it read before'; 0 by the template 'total and deterministic' (their statements: YtpagjegmdnanhaaTotals.lean).
  GIVEN WITH THE SEED: the statements are not yours to turn. If you find one false, say at which input.
  Laid BY PROGRAM, IN A SANDBOX (cutbox-rows.mjs): the forced cells as the released guide's own fill.sh prints them over the translation 7bcf31d294fca59b… (all of the seat's roots in one cut). By AI agents, Wed Nov 11 2026. No macro, syntax, notation, axiom, sorry.
-/
import Derived.Test.YtpagjegmdnanhaaChecked
import GoSem.Claim
import GoSem.ClaimJoined
import GoSem.ClaimMapViews
import Derived.JoinedTies
import Derived.KernelRfl
namespace Go.Proofs.Ytpagjegmdnanhaa
/- THE CELL 'sum', in the pinned program and in every row, IS THE sha256 OF THE DUMP (.gsa) THAT YtpagjegmdnanhaaProg.lean LOADS. Nothing in Lean hashes anything: it is a label: what it is worth is what the hold of that sum in a sandbox is worth. -/
noncomputable def Try.pinned : Pinned := { name := "ytpagjegmdnanhaa", sum := "7bcf31d294fca59be50e69f89fb92c6e6f580d96359e981d9882f393e6ca0852", checked := Try.checked }
namespace Rows
def none {H : Type} : Left H := { results := [], args := [] }

/-- 'laws.FnExactTilt': WHATEVER THE INPUT: true; the input reads as it did. -/
def fnExactTiltSpec : ChangeSpec := { name := "fnExactTilt", fn := fun _ => fun
  | [d1, d2, d3] => { results := [.lit (.bool true)], args := [d1, d2, d3] }
  | _ => none }
def fnExactTiltRow : OpenClaim := { program := "ytpagjegmdnanhaa", sum := "7bcf31d294fca59be50e69f89fb92c6e6f580d96359e981d9882f393e6ca0852", func := "loop.example/g01281/laws.FnExactTilt", spec := "fnExactTilt", unfollowed := true, recurses := true, apart := false }
def FnExactTiltSaid : Prop := fnExactTiltRow.holds Try.pinned (OpenSpec.ofChange fnExactTiltSpec)

/-- ITS FALSE NEIGHBOUR: 'it returns false'. Refute it at one input. -/
def fnExactTiltWrong : ChangeSpec := { name := "fnExactTilt", fn := fun _ => fun
  | [d1, d2, d3] => { results := [.lit (.bool false)], args := [d1, d2, d3] }
  | _ => none }
def FnExactTiltWrongFalsely : Prop := fnExactTiltRow.holds Try.pinned (OpenSpec.ofChange fnExactTiltWrong)

/-- 'laws.FnExactTiltOfArms': WHATEVER THE INPUT: true; the input reads as it did. -/
def fnExactTiltOfArmsSpec : ChangeSpec := { name := "fnExactTiltOfArms", fn := fun _ => fun
  | [d1, d2, d3, d4, d5] => { results := [.lit (.bool true)], args := [d1, d2, d3, d4, d5] }
  | _ => none }
def fnExactTiltOfArmsRow : OpenClaim := { program := "ytpagjegmdnanhaa", sum := "7bcf31d294fca59be50e69f89fb92c6e6f580d96359e981d9882f393e6ca0852", func := "loop.example/g01281/laws.FnExactTiltOfArms", spec := "fnExactTiltOfArms", unfollowed := true, recurses := true, apart := false }
def FnExactTiltOfArmsSaid : Prop := fnExactTiltOfArmsRow.holds Try.pinned (OpenSpec.ofChange fnExactTiltOfArmsSpec)

/-- ITS FALSE NEIGHBOUR: 'it returns false'. Refute it at one input. -/
def fnExactTiltOfArmsWrong : ChangeSpec := { name := "fnExactTiltOfArms", fn := fun _ => fun
  | [d1, d2, d3, d4, d5] => { results := [.lit (.bool false)], args := [d1, d2, d3, d4, d5] }
  | _ => none }
def FnExactTiltOfArmsWrongFalsely : Prop := fnExactTiltOfArmsRow.holds Try.pinned (OpenSpec.ofChange fnExactTiltOfArmsWrong)

/-- 'laws.FnExactMassByTwo': WHATEVER THE INPUT: true; the input reads as it did. -/
def fnExactMassByTwoSpec : ChangeSpec := { name := "fnExactMassByTwo", fn := fun _ => fun
  | [d1, d2] => { results := [.lit (.bool true)], args := [d1, d2] }
  | _ => none }
def fnExactMassByTwoRow : OpenClaim := { program := "ytpagjegmdnanhaa", sum := "7bcf31d294fca59be50e69f89fb92c6e6f580d96359e981d9882f393e6ca0852", func := "loop.example/g01281/laws.FnExactMassByTwo", spec := "fnExactMassByTwo", unfollowed := true, recurses := true, apart := false }
def FnExactMassByTwoSaid : Prop := fnExactMassByTwoRow.holds Try.pinned (OpenSpec.ofChange fnExactMassByTwoSpec)

/-- ITS FALSE NEIGHBOUR: 'it returns false'. Refute it at one input. -/
def fnExactMassByTwoWrong : ChangeSpec := { name := "fnExactMassByTwo", fn := fun _ => fun
  | [d1, d2] => { results := [.lit (.bool false)], args := [d1, d2] }
  | _ => none }
def FnExactMassByTwoWrongFalsely : Prop := fnExactMassByTwoRow.holds Try.pinned (OpenSpec.ofChange fnExactMassByTwoWrong)

/-- 'laws.FnExactArmsFrom': WHATEVER THE INPUT: true; the input reads as it did. -/
def fnExactArmsFromSpec : ChangeSpec := { name := "fnExactArmsFrom", fn := fun _ => fun
  | [d1, d2] => { results := [.lit (.bool true)], args := [d1, d2] }
  | _ => none }
def fnExactArmsFromRow : OpenClaim := { program := "ytpagjegmdnanhaa", sum := "7bcf31d294fca59be50e69f89fb92c6e6f580d96359e981d9882f393e6ca0852", func := "loop.example/g01281/laws.FnExactArmsFrom", spec := "fnExactArmsFrom", unfollowed := true, recurses := true, apart := false }
def FnExactArmsFromSaid : Prop := fnExactArmsFromRow.holds Try.pinned (OpenSpec.ofChange fnExactArmsFromSpec)

/-- ITS FALSE NEIGHBOUR: 'it returns false'. Refute it at one input. -/
def fnExactArmsFromWrong : ChangeSpec := { name := "fnExactArmsFrom", fn := fun _ => fun
  | [d1, d2] => { results := [.lit (.bool false)], args := [d1, d2] }
  | _ => none }
def FnExactArmsFromWrongFalsely : Prop := fnExactArmsFromRow.holds Try.pinned (OpenSpec.ofChange fnExactArmsFromWrong)

/-- 'laws.FnExactFromBalanced': WHATEVER THE INPUT: true; the input reads as it did. -/
def fnExactFromBalancedSpec : ChangeSpec := { name := "fnExactFromBalanced", fn := fun _ => fun
  | [d] => { results := [.lit (.bool true)], args := [d] }
  | _ => none }
def fnExactFromBalancedRow : OpenClaim := { program := "ytpagjegmdnanhaa", sum := "7bcf31d294fca59be50e69f89fb92c6e6f580d96359e981d9882f393e6ca0852", func := "loop.example/g01281/laws.FnExactFromBalanced", spec := "fnExactFromBalanced", apart := false }
def FnExactFromBalancedSaid : Prop := fnExactFromBalancedRow.holds Try.pinned (OpenSpec.ofChange fnExactFromBalancedSpec)

/-- ITS FALSE NEIGHBOUR: 'it returns false'. Refute it at one input. -/
def fnExactFromBalancedWrong : ChangeSpec := { name := "fnExactFromBalanced", fn := fun _ => fun
  | [d] => { results := [.lit (.bool false)], args := [d] }
  | _ => none }
def FnExactFromBalancedWrongFalsely : Prop := fnExactFromBalancedRow.holds Try.pinned (OpenSpec.ofChange fnExactFromBalancedWrong)

/-- 'laws.FnExactBalancedDigits': WHATEVER THE INPUT: true; the input reads as it did. -/
def fnExactBalancedDigitsSpec : ChangeSpec := { name := "fnExactBalancedDigits", fn := fun _ => fun
  | [d] => { results := [.lit (.bool true)], args := [d] }
  | _ => none }
def fnExactBalancedDigitsRow : OpenClaim := { program := "ytpagjegmdnanhaa", sum := "7bcf31d294fca59be50e69f89fb92c6e6f580d96359e981d9882f393e6ca0852", func := "loop.example/g01281/laws.FnExactBalancedDigits", spec := "fnExactBalancedDigits", unfollowed := true, recurses := true, apart := false }
def FnExactBalancedDigitsSaid : Prop := fnExactBalancedDigitsRow.holds Try.pinned (OpenSpec.ofChange fnExactBalancedDigitsSpec)

/-- ITS FALSE NEIGHBOUR: 'it returns false'. Refute it at one input. -/
def fnExactBalancedDigitsWrong : ChangeSpec := { name := "fnExactBalancedDigits", fn := fun _ => fun
  | [d] => { results := [.lit (.bool false)], args := [d] }
  | _ => none }
def FnExactBalancedDigitsWrongFalsely : Prop := fnExactBalancedDigitsRow.holds Try.pinned (OpenSpec.ofChange fnExactBalancedDigitsWrong)

/- THE SECOND FORM. 'bulk': how many values and letters a reading holds, each counted each time it is reached (what is shared counts as often as it is met; a slice's spare places count too). A statement '..UptoSaid' is the law's where the arguments, and the package variables that the reading takes, are together of bulk at most 1048576: NARROWER than '..Said'. Prove '..Said' where nothing that the law and all that it calls make is longer than what came in: it says more and counts as full. Else prove '..UptoSaid'. A law counts once. -/
mutual
def uptoBulk {H : Type} : DataW H → Nat
  | .lit (.string bytes) => bytes.length + 1
  | .lit _ => 1
  | .nil => 1
  | .ptr d => uptoBulk d + 1
  | .slice elems spare => uptoBulkAll elems + uptoBulkAll spare + 1
  | .agg parts => uptoBulkAll parts + 1
  | .iface _ d => uptoBulk d + 1
  | .map entries => uptoBulkEntries entries + 1
  | .held _ => 1
def uptoBulkAll {H : Type} : List (DataW H) → Nat
  | [] => 0
  | d :: r => uptoBulk d + uptoBulkAll r
def uptoBulkEntries {H : Type} : List (Lit × DataW H) → Nat
  | [] => 0
  | x :: r => uptoBulkEntry x + uptoBulkEntries r
def uptoBulkEntry {H : Type} : Lit × DataW H → Nat
  | (.string bytes, d) => bytes.length + uptoBulk d + 1
  | (_, d) => uptoBulk d + 1
 end
def uptoSmall : (H : Type) → List (DataW H) → Bool := fun _ ds => decide (uptoBulkAll ds ≤ 1048576)
def OpenSpec.upto (s : _root_.Go.ChangeSpec) : _root_.Go.OpenSpec := { _root_.Go.OpenSpec.ofChange s with cond := some uptoSmall }

/-- 'laws.FnExactTilt', WHERE WHAT IT READS IS OF BULK AT MOST 1048576: true; the input reads as it did. -/
def fnExactTiltUptoRow : OpenClaim := { program := "ytpagjegmdnanhaa", sum := "7bcf31d294fca59be50e69f89fb92c6e6f580d96359e981d9882f393e6ca0852", func := "loop.example/g01281/laws.FnExactTilt", spec := "fnExactTilt", unfollowed := true, recurses := true, apart := false, narrowed := true }
def FnExactTiltUptoSaid : Prop := fnExactTiltUptoRow.holds Try.pinned (OpenSpec.upto fnExactTiltSpec)

/-- 'laws.FnExactTiltOfArms', WHERE WHAT IT READS IS OF BULK AT MOST 1048576: true; the input reads as it did. -/
def fnExactTiltOfArmsUptoRow : OpenClaim := { program := "ytpagjegmdnanhaa", sum := "7bcf31d294fca59be50e69f89fb92c6e6f580d96359e981d9882f393e6ca0852", func := "loop.example/g01281/laws.FnExactTiltOfArms", spec := "fnExactTiltOfArms", unfollowed := true, recurses := true, apart := false, narrowed := true }
def FnExactTiltOfArmsUptoSaid : Prop := fnExactTiltOfArmsUptoRow.holds Try.pinned (OpenSpec.upto fnExactTiltOfArmsSpec)

/-- 'laws.FnExactMassByTwo', WHERE WHAT IT READS IS OF BULK AT MOST 1048576: true; the input reads as it did. -/
def fnExactMassByTwoUptoRow : OpenClaim := { program := "ytpagjegmdnanhaa", sum := "7bcf31d294fca59be50e69f89fb92c6e6f580d96359e981d9882f393e6ca0852", func := "loop.example/g01281/laws.FnExactMassByTwo", spec := "fnExactMassByTwo", unfollowed := true, recurses := true, apart := false, narrowed := true }
def FnExactMassByTwoUptoSaid : Prop := fnExactMassByTwoUptoRow.holds Try.pinned (OpenSpec.upto fnExactMassByTwoSpec)

/-- 'laws.FnExactArmsFrom', WHERE WHAT IT READS IS OF BULK AT MOST 1048576: true; the input reads as it did. -/
def fnExactArmsFromUptoRow : OpenClaim := { program := "ytpagjegmdnanhaa", sum := "7bcf31d294fca59be50e69f89fb92c6e6f580d96359e981d9882f393e6ca0852", func := "loop.example/g01281/laws.FnExactArmsFrom", spec := "fnExactArmsFrom", unfollowed := true, recurses := true, apart := false, narrowed := true }
def FnExactArmsFromUptoSaid : Prop := fnExactArmsFromUptoRow.holds Try.pinned (OpenSpec.upto fnExactArmsFromSpec)

/-- 'laws.FnExactFromBalanced', WHERE WHAT IT READS IS OF BULK AT MOST 1048576: true; the input reads as it did. -/
def fnExactFromBalancedUptoRow : OpenClaim := { program := "ytpagjegmdnanhaa", sum := "7bcf31d294fca59be50e69f89fb92c6e6f580d96359e981d9882f393e6ca0852", func := "loop.example/g01281/laws.FnExactFromBalanced", spec := "fnExactFromBalanced", apart := false, narrowed := true }
def FnExactFromBalancedUptoSaid : Prop := fnExactFromBalancedUptoRow.holds Try.pinned (OpenSpec.upto fnExactFromBalancedSpec)

/-- 'laws.FnExactBalancedDigits', WHERE WHAT IT READS IS OF BULK AT MOST 1048576: true; the input reads as it did. -/
def fnExactBalancedDigitsUptoRow : OpenClaim := { program := "ytpagjegmdnanhaa", sum := "7bcf31d294fca59be50e69f89fb92c6e6f580d96359e981d9882f393e6ca0852", func := "loop.example/g01281/laws.FnExactBalancedDigits", spec := "fnExactBalancedDigits", unfollowed := true, recurses := true, apart := false, narrowed := true }
def FnExactBalancedDigitsUptoSaid : Prop := fnExactBalancedDigitsUptoRow.holds Try.pinned (OpenSpec.upto fnExactBalancedDigitsSpec)

end Rows
end Go.Proofs.Ytpagjegmdnanhaa
