/-
  No cell of these rows narrows 'for every input' (looked for: loops, veiled, ifaces, maps, wideKeys, modest, calm, conditions, laid).
  DERIVED. THE GIVEN ROWS OF THIS SEAT. 6 by the template 'for every input the law returns true; each argument reads behind the call as it read before'; 0 by the template 'total and deterministic' (their statements: YtkaneljgfioblaaTotals.lean).
  GIVEN WITH THE SEED: the statements are not yours to turn. If you find one false, say at which input.
  Laid BY PROGRAM, IN A SANDBOX (cutbox-rows.mjs): the forced cells as the released guide's own fill.sh prints them over the translation b4ea2eed89e6e58e… (all of the seat's roots in one cut). By AI agents, Wed Nov 11 2026. No macro, syntax, notation, axiom, sorry.
-/
import Derived.Test.YtkaneljgfioblaaChecked
import GoSem.Claim
import GoSem.ClaimJoined
import GoSem.ClaimMapViews
import Derived.JoinedTies
import Derived.KernelRfl
namespace Go.Proofs.Ytkaneljgfioblaa
/- THE CELL 'sum', in the pinned program and in every row, IS THE sha256 OF THE DUMP (.gsa) THAT YtkaneljgfioblaaProg.lean LOADS. Nothing in Lean hashes anything: it is a label: what it is worth is what the hold of that sum in a sandbox is worth. -/
noncomputable def Try.pinned : Pinned := { name := "ytkaneljgfioblaa", sum := "b4ea2eed89e6e58e0714001aef06b6ba082e74b429d9abc6f6a93356c005ecce", checked := Try.checked }
namespace Rows
def none {H : Type} : Left H := { results := [], args := [] }

/-- 'laws.FnExactValidGame': WHATEVER THE INPUT: true; the input reads as it did. -/
def fnExactValidGameSpec : ChangeSpec := { name := "fnExactValidGame", fn := fun _ => fun
  | [d] => { results := [.lit (.bool true)], args := [d] }
  | _ => none }
def fnExactValidGameRow : OpenClaim := { program := "ytkaneljgfioblaa", sum := "b4ea2eed89e6e58e0714001aef06b6ba082e74b429d9abc6f6a93356c005ecce", func := "loop.example/g01281/laws.FnExactValidGame", spec := "fnExactValidGame", unfollowed := true, recurses := true, apart := false }
def FnExactValidGameSaid : Prop := fnExactValidGameRow.holds Try.pinned (OpenSpec.ofChange fnExactValidGameSpec)

/-- ITS FALSE NEIGHBOUR: 'it returns false'. Refute it at one input. -/
def fnExactValidGameWrong : ChangeSpec := { name := "fnExactValidGame", fn := fun _ => fun
  | [d] => { results := [.lit (.bool false)], args := [d] }
  | _ => none }
def FnExactValidGameWrongFalsely : Prop := fnExactValidGameRow.holds Try.pinned (OpenSpec.ofChange fnExactValidGameWrong)

/-- 'laws.FnExactSameGame': WHATEVER THE INPUT: true; the input reads as it did. -/
def fnExactSameGameSpec : ChangeSpec := { name := "fnExactSameGame", fn := fun _ => fun
  | [d1, d2] => { results := [.lit (.bool true)], args := [d1, d2] }
  | _ => none }
def fnExactSameGameRow : OpenClaim := { program := "ytkaneljgfioblaa", sum := "b4ea2eed89e6e58e0714001aef06b6ba082e74b429d9abc6f6a93356c005ecce", func := "loop.example/g01281/laws.FnExactSameGame", spec := "fnExactSameGame", apart := false }
def FnExactSameGameSaid : Prop := fnExactSameGameRow.holds Try.pinned (OpenSpec.ofChange fnExactSameGameSpec)

/-- ITS FALSE NEIGHBOUR: 'it returns false'. Refute it at one input. -/
def fnExactSameGameWrong : ChangeSpec := { name := "fnExactSameGame", fn := fun _ => fun
  | [d1, d2] => { results := [.lit (.bool false)], args := [d1, d2] }
  | _ => none }
def FnExactSameGameWrongFalsely : Prop := fnExactSameGameRow.holds Try.pinned (OpenSpec.ofChange fnExactSameGameWrong)

/-- 'laws.FnExactLiesFor': WHATEVER THE INPUT: true; the input reads as it did. -/
def fnExactLiesForSpec : ChangeSpec := { name := "fnExactLiesFor", fn := fun _ => fun
  | [d1, d2] => { results := [.lit (.bool true)], args := [d1, d2] }
  | _ => none }
def fnExactLiesForRow : OpenClaim := { program := "ytkaneljgfioblaa", sum := "b4ea2eed89e6e58e0714001aef06b6ba082e74b429d9abc6f6a93356c005ecce", func := "loop.example/g01281/laws.FnExactLiesFor", spec := "fnExactLiesFor", unfollowed := true, recurses := true, apart := false }
def FnExactLiesForSaid : Prop := fnExactLiesForRow.holds Try.pinned (OpenSpec.ofChange fnExactLiesForSpec)

/-- ITS FALSE NEIGHBOUR: 'it returns false'. Refute it at one input. -/
def fnExactLiesForWrong : ChangeSpec := { name := "fnExactLiesFor", fn := fun _ => fun
  | [d1, d2] => { results := [.lit (.bool false)], args := [d1, d2] }
  | _ => none }
def FnExactLiesForWrongFalsely : Prop := fnExactLiesForRow.holds Try.pinned (OpenSpec.ofChange fnExactLiesForWrong)

/-- 'laws.FnExactAnswerTo': WHATEVER THE INPUT: true; the input reads as it did. -/
def fnExactAnswerToSpec : ChangeSpec := { name := "fnExactAnswerTo", fn := fun _ => fun
  | [d1, d2, d3] => { results := [.lit (.bool true)], args := [d1, d2, d3] }
  | _ => none }
def fnExactAnswerToRow : OpenClaim := { program := "ytkaneljgfioblaa", sum := "b4ea2eed89e6e58e0714001aef06b6ba082e74b429d9abc6f6a93356c005ecce", func := "loop.example/g01281/laws.FnExactAnswerTo", spec := "fnExactAnswerTo", apart := false }
def FnExactAnswerToSaid : Prop := fnExactAnswerToRow.holds Try.pinned (OpenSpec.ofChange fnExactAnswerToSpec)

/-- ITS FALSE NEIGHBOUR: 'it returns false'. Refute it at one input. -/
def fnExactAnswerToWrong : ChangeSpec := { name := "fnExactAnswerTo", fn := fun _ => fun
  | [d1, d2, d3] => { results := [.lit (.bool false)], args := [d1, d2, d3] }
  | _ => none }
def FnExactAnswerToWrongFalsely : Prop := fnExactAnswerToRow.holds Try.pinned (OpenSpec.ofChange fnExactAnswerToWrong)

/-- 'laws.FnExactFirstLies': WHATEVER THE INPUT: true; the input reads as it did. -/
def fnExactFirstLiesSpec : ChangeSpec := { name := "fnExactFirstLies", fn := fun _ => fun
  | [d1, d2] => { results := [.lit (.bool true)], args := [d1, d2] }
  | _ => none }
def fnExactFirstLiesRow : OpenClaim := { program := "ytkaneljgfioblaa", sum := "b4ea2eed89e6e58e0714001aef06b6ba082e74b429d9abc6f6a93356c005ecce", func := "loop.example/g01281/laws.FnExactFirstLies", spec := "fnExactFirstLies", unfollowed := true, recurses := true, apart := false }
def FnExactFirstLiesSaid : Prop := fnExactFirstLiesRow.holds Try.pinned (OpenSpec.ofChange fnExactFirstLiesSpec)

/-- ITS FALSE NEIGHBOUR: 'it returns false'. Refute it at one input. -/
def fnExactFirstLiesWrong : ChangeSpec := { name := "fnExactFirstLies", fn := fun _ => fun
  | [d1, d2] => { results := [.lit (.bool false)], args := [d1, d2] }
  | _ => none }
def FnExactFirstLiesWrongFalsely : Prop := fnExactFirstLiesRow.holds Try.pinned (OpenSpec.ofChange fnExactFirstLiesWrong)

/-- 'laws.FnExactCandidatesOf': WHATEVER THE INPUT: true; the input reads as it did. -/
def fnExactCandidatesOfSpec : ChangeSpec := { name := "fnExactCandidatesOf", fn := fun _ => fun
  | [d] => { results := [.lit (.bool true)], args := [d] }
  | _ => none }
def fnExactCandidatesOfRow : OpenClaim := { program := "ytkaneljgfioblaa", sum := "b4ea2eed89e6e58e0714001aef06b6ba082e74b429d9abc6f6a93356c005ecce", func := "loop.example/g01281/laws.FnExactCandidatesOf", spec := "fnExactCandidatesOf", unfollowed := true, recurses := true, apart := false }
def FnExactCandidatesOfSaid : Prop := fnExactCandidatesOfRow.holds Try.pinned (OpenSpec.ofChange fnExactCandidatesOfSpec)

/-- ITS FALSE NEIGHBOUR: 'it returns false'. Refute it at one input. -/
def fnExactCandidatesOfWrong : ChangeSpec := { name := "fnExactCandidatesOf", fn := fun _ => fun
  | [d] => { results := [.lit (.bool false)], args := [d] }
  | _ => none }
def FnExactCandidatesOfWrongFalsely : Prop := fnExactCandidatesOfRow.holds Try.pinned (OpenSpec.ofChange fnExactCandidatesOfWrong)

/- THE SECOND FORM. 'bulk': how many values and letters a reading holds, each counted each time it is reached (what is shared counts as often as it is met; a slice's spare places count too). A statement '..UptoSaid' is the law's where the arguments, and the package variables that the reading takes, are together of bulk at most 1048576: NARROWER than '..Said'. Prove '..Said' where nothing that the law and all that it calls make is longer than what came in: it says more and counts as full. Else prove '..UptoSaid'. A law counts once. -/
mutual
def uptoBulk {H : Type} : DataW H → Nat
  | .lit (.string bytes) => bytes.length + 1
  | .lit _ => 1
  | .nil => 1
  | .ptr d => uptoBulk d + 1
  | .slice elems spare => uptoBulkAll elems + uptoBulkAll spare + 1
  | .agg parts => uptoBulkAll parts + 1
  | .iface _ d => uptoBulk d + 1
  | .map entries => uptoBulkEntries entries + 1
  | .held _ => 1
def uptoBulkAll {H : Type} : List (DataW H) → Nat
  | [] => 0
  | d :: r => uptoBulk d + uptoBulkAll r
def uptoBulkEntries {H : Type} : List (Lit × DataW H) → Nat
  | [] => 0
  | x :: r => uptoBulkEntry x + uptoBulkEntries r
def uptoBulkEntry {H : Type} : Lit × DataW H → Nat
  | (.string bytes, d) => bytes.length + uptoBulk d + 1
  | (_, d) => uptoBulk d + 1
 end
def uptoSmall : (H : Type) → List (DataW H) → Bool := fun _ ds => decide (uptoBulkAll ds ≤ 1048576)
def OpenSpec.upto (s : _root_.Go.ChangeSpec) : _root_.Go.OpenSpec := { _root_.Go.OpenSpec.ofChange s with cond := some uptoSmall }

/-- 'laws.FnExactValidGame', WHERE WHAT IT READS IS OF BULK AT MOST 1048576: true; the input reads as it did. -/
def fnExactValidGameUptoRow : OpenClaim := { program := "ytkaneljgfioblaa", sum := "b4ea2eed89e6e58e0714001aef06b6ba082e74b429d9abc6f6a93356c005ecce", func := "loop.example/g01281/laws.FnExactValidGame", spec := "fnExactValidGame", unfollowed := true, recurses := true, apart := false, narrowed := true }
def FnExactValidGameUptoSaid : Prop := fnExactValidGameUptoRow.holds Try.pinned (OpenSpec.upto fnExactValidGameSpec)

/-- 'laws.FnExactSameGame', WHERE WHAT IT READS IS OF BULK AT MOST 1048576: true; the input reads as it did. -/
def fnExactSameGameUptoRow : OpenClaim := { program := "ytkaneljgfioblaa", sum := "b4ea2eed89e6e58e0714001aef06b6ba082e74b429d9abc6f6a93356c005ecce", func := "loop.example/g01281/laws.FnExactSameGame", spec := "fnExactSameGame", apart := false, narrowed := true }
def FnExactSameGameUptoSaid : Prop := fnExactSameGameUptoRow.holds Try.pinned (OpenSpec.upto fnExactSameGameSpec)

/-- 'laws.FnExactLiesFor', WHERE WHAT IT READS IS OF BULK AT MOST 1048576: true; the input reads as it did. -/
def fnExactLiesForUptoRow : OpenClaim := { program := "ytkaneljgfioblaa", sum := "b4ea2eed89e6e58e0714001aef06b6ba082e74b429d9abc6f6a93356c005ecce", func := "loop.example/g01281/laws.FnExactLiesFor", spec := "fnExactLiesFor", unfollowed := true, recurses := true, apart := false, narrowed := true }
def FnExactLiesForUptoSaid : Prop := fnExactLiesForUptoRow.holds Try.pinned (OpenSpec.upto fnExactLiesForSpec)

/-- 'laws.FnExactAnswerTo', WHERE WHAT IT READS IS OF BULK AT MOST 1048576: true; the input reads as it did. -/
def fnExactAnswerToUptoRow : OpenClaim := { program := "ytkaneljgfioblaa", sum := "b4ea2eed89e6e58e0714001aef06b6ba082e74b429d9abc6f6a93356c005ecce", func := "loop.example/g01281/laws.FnExactAnswerTo", spec := "fnExactAnswerTo", apart := false, narrowed := true }
def FnExactAnswerToUptoSaid : Prop := fnExactAnswerToUptoRow.holds Try.pinned (OpenSpec.upto fnExactAnswerToSpec)

/-- 'laws.FnExactFirstLies', WHERE WHAT IT READS IS OF BULK AT MOST 1048576: true; the input reads as it did. -/
def fnExactFirstLiesUptoRow : OpenClaim := { program := "ytkaneljgfioblaa", sum := "b4ea2eed89e6e58e0714001aef06b6ba082e74b429d9abc6f6a93356c005ecce", func := "loop.example/g01281/laws.FnExactFirstLies", spec := "fnExactFirstLies", unfollowed := true, recurses := true, apart := false, narrowed := true }
def FnExactFirstLiesUptoSaid : Prop := fnExactFirstLiesUptoRow.holds Try.pinned (OpenSpec.upto fnExactFirstLiesSpec)

/-- 'laws.FnExactCandidatesOf', WHERE WHAT IT READS IS OF BULK AT MOST 1048576: true; the input reads as it did. -/
def fnExactCandidatesOfUptoRow : OpenClaim := { program := "ytkaneljgfioblaa", sum := "b4ea2eed89e6e58e0714001aef06b6ba082e74b429d9abc6f6a93356c005ecce", func := "loop.example/g01281/laws.FnExactCandidatesOf", spec := "fnExactCandidatesOf", unfollowed := true, recurses := true, apart := false, narrowed := true }
def FnExactCandidatesOfUptoSaid : Prop := fnExactCandidatesOfUptoRow.holds Try.pinned (OpenSpec.upto fnExactCandidatesOfSpec)

end Rows
end Go.Proofs.Ytkaneljgfioblaa
