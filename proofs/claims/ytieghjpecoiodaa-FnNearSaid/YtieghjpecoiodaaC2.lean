/-
  Valid tasks, and their cases in their order: the walks of ValidTask and of the iterator of cases.
-/
import Derived.Test.YtieghjpecoiodaaC1
import Derived.RangeFuncNested
import Derived.RangeFuncBound
import Derived.RangeFuncCalls
import Derived.RangeFuncLeaves
import Derived.RangeFuncBox
import Derived.Shelf.Abstract
import Derived.WalkKit
import Derived.OwnWalkIn
import Derived.TacticsInMore
import Derived.LoopNIn
import Derived.LoopIn
import Derived.Maps.AppendAt
import Derived.Deep.AppendLies
namespace Go.Proofs.Ytieghjpecoiodaa
open Go.RowKit Go.Shelf
set_option maxRecDepth 100000
set_option linter.unusedVariables false

attribute [local go_sem] Oper.semAt_some

def OkT (c k : Int) : Prop := (1 ≤ c ∧ c ≤ 13) ∧ (0 ≤ k ∧ k ≤ 2)
noncomputable def okT (c k : Int) : Bool := cb (OkT c k)
theorem l03Ok_any (c k : Int) (n g : Bool) (w : World) (hc : B8 c) (hk : B8 k) :
    Calls Try.prog 21 #[taskV c k n g] w fun e w' => e = .returned (.bool (okT c k)) ∧ Below w.heap.size w w' := by
  unfold B8 at hc hk
  have HB := Lib.hid ((Below.refl w.heap.size w).alloc (Nat.le_refl _) (.cells #[.int .i8 c, .int .i8 k, .bool n, .bool g] 30))
  by_cases h1 : 1 ≤ c ∧ c ≤ 13
  · by_cases h2 : 0 ≤ k ∧ k ≤ 2
    · rw [show okT c k = true from cb_t ⟨h1, h2⟩]
      have HC := Lib.hid (And.intro h1 h2)
      clear h1 h2
      go_enter Try.func21, Try.ntmps21
      go_wp2_with fail
      refine (l00In_t _ _ _ _ HC.out.1).mono ?_
      rintro e w' ⟨rfl, rfl⟩
      go_wp2_with fail
      refine (l00In_t _ _ _ _ HC.out.2).mono ?_
      rintro e w' ⟨rfl, rfl⟩
      go_wp2_with fail
      go_ret
      exact ⟨rfl, HB.out⟩
    · rw [show okT c k = false from cb_f (fun h => h2 h.2)]
      have HC := Lib.hid (And.intro h1 h2)
      clear h1 h2
      go_enter Try.func21, Try.ntmps21
      go_wp2_with fail
      refine (l00In_t _ _ _ _ HC.out.1).mono ?_
      rintro e w' ⟨rfl, rfl⟩
      go_wp2_with fail
      refine (l00In_f _ _ _ _ HC.out.2).mono ?_
      rintro e w' ⟨rfl, rfl⟩
      go_wp2_with fail
      go_ret
      exact ⟨rfl, HB.out⟩
  · rw [show okT c k = false from cb_f (fun h => h1 h.1)]
    have HC := Lib.hid h1
    clear h1
    go_enter Try.func21, Try.ntmps21
    go_wp2_with fail
    refine (l00In_f _ _ _ _ HC.out).mono ?_
    rintro e w' ⟨rfl, rfl⟩
    go_wp2_with fail
    go_ret
    exact ⟨rfl, HB.out⟩
/-! ### The cases of a task -/
/-- A case: which coin, and whether it is heavier. -/
abbrev Cs := Int × Bool
def cOf (k : Int) (i : Nat) : List Cs := (if k = 1 then [] else [((i : Int), true)]) ++ (if k = 0 then [] else [((i : Int), false)])
def upC (k : Int) (n : Bool) (m : Nat) : List Cs := (if n = true then [((-1 : Int), false)] else []) ++ (List.range m).flatMap (cOf k)
theorem upC_succ (k : Int) (n : Bool) (m : Nat) : upC k n (m + 1) = upC k n m ++ cOf k m := by simp [upC, List.range_succ, List.append_assoc]
theorem cOf0 (i : Nat) : cOf 0 i = [((i : Int), true)] := by simp [cOf]
theorem cOf1 (i : Nat) : cOf 1 i = [((i : Int), false)] := by simp [cOf]
theorem cOf2 (i : Nat) : cOf 2 i = [((i : Int), true), ((i : Int), false)] := by simp [cOf]
theorem cOf_len (k : Int) (i : Nat) : (cOf k i).length ≤ 2 := by unfold cOf; split <;> split <;> simp
theorem upC_len (k : Int) (n : Bool) (m : Nat) : (upC k n m).length ≤ 2 * m + 1 := by
  induction m with
  | zero => unfold upC; cases n <;> simp
  | succ m ih => rw [upC_succ, List.length_append]; have := cOf_len k m; omega
theorem upC_pre (k : Int) (n : Bool) (m : Nat) {i : Nat} (h : i ≤ m) : upC k n i <+: upC k n m := by
  induction m with
  | zero => rw [show i = 0 by omega]; exact List.prefix_refl _
  | succ m ih =>
    by_cases e : i = m + 1
    · rw [e]; exact List.prefix_refl _
    · rw [upC_succ]; exact (ih (by omega)).trans (List.prefix_append _ _)
theorem k_of {k : Int} (h : 0 ≤ k ∧ k ≤ 2) : k = 0 ∨ k = 1 ∨ k = 2 := by omega
/-- Nothing below n₀ has turned, nor has the block B, which holds cells. -/
def KpB (n₀ B : Nat) (W W' : World) : Prop := Below n₀ W W' ∧ ∀ cs t, Blk W B cs t → Blk W' B cs t
theorem KpB.t {n₀ B : Nat} {X Y Z : World} (h : KpB n₀ B X Y) (k : KpB n₀ B Y Z) : KpB n₀ B X Z := ⟨belowK_t h.1 k.1, fun cs t hb => k.2 cs t (h.2 cs t hb)⟩
theorem KpB.b {n₀ B : Nat} {w : World} (hn : n₀ ≤ w.heap.size) : ∀ (W : World) (l : Nat) (o o' : Obj), w.heap.size ≤ l → W.heap[l]? = some o → o.isCells = false → o.isWalk = false → KpB n₀ B W (W.putObj l o') := by
  intro W l o o' hl ho hc hw
  refine ⟨belowK_b hn W l o o' hl ho hc hw, fun cs t hb => ?_⟩
  have hne : l ≠ B := fun e => by
    subst e
    rw [show W.heap[l]? = _ from hb] at ho
    cases ho
    cases hc
  exact (World.putObj_heap_other (Ne.symm hne)).trans hb
end Go.Proofs.Ytieghjpecoiodaa
