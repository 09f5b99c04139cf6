/-
  What can be weighed, in the bits of one number: a quick check that weights weigh all masses up to their sum, and with one of them less do not.
-/
import Derived.Test.YthbanajodohbbaaNeedless2
namespace Go.Proofs.Ythbanajodohbbaa
open Go.RowKit
set_option linter.unusedVariables false

def stp (both : Bool) (w m : Nat) : Nat := if both then m ||| (m <<< w) ||| (m >>> w) else m ||| (m <<< w)
def msk (both : Bool) (ws : List Int) (T : Nat) : Nat → Nat
  | 0 => 1 <<< T
  | k + 1 => stp both (ws.getD k 0).toNat (msk both ws T k)
/-- The sum of the first k weights. -/
def pre (ws : List Int) : Nat → Int
  | 0 => 0
  | k + 1 => pre ws k + ws.getD k 0
theorem way_one (ws : List Int) (k : Nat) (s : Int) : wayFn (plOf false) ws (k + 1) s = wayFn (plOf false) ws k s + wayFn (plOf false) ws k (s - ws.getD k 0) := by
  simp [wayFn, plOf]
theorem way_two (ws : List Int) (k : Nat) (s : Int) : wayFn (plOf true) ws (k + 1) s = wayFn (plOf true) ws k (s + ws.getD k 0) + (wayFn (plOf true) ws k s + wayFn (plOf true) ws k (s - ws.getD k 0)) := by
  simp [wayFn, plOf, Int.sub_neg]
theorem way_low (both : Bool) (ws : List Int) (k : Nat) (hp : ∀ j, j < k → 0 ≤ ws.getD j 0) : ∀ s, s < -(pre ws k) ∨ pre ws k < s → wayFn (plOf both) ws k s = 0 := by
  induction k with
  | zero =>
    intro s hs
    simp only [pre] at hs
    unfold wayFn
    rw [if_neg (by omega)]
  | succ k ih =>
    intro s hs
    have h0 := hp k (by omega)
    have ih' := ih (fun j hj => hp j (by omega))
    simp only [pre] at hs
    cases both
    · rw [way_one, ih' s (by omega), ih' (s - ws.getD k 0) (by omega)]; rfl
    · rw [way_two, ih' s (by omega), ih' (s - ws.getD k 0) (by omega), ih' (s + ws.getD k 0) (by omega)]; rfl
theorem msk_way (both : Bool) (ws : List Int) (T k : Nat) (hp : ∀ j, j < k → 0 ≤ ws.getD j 0) (hT : pre ws k ≤ T) : ∀ n : Nat, (msk both ws T k).testBit n = true ↔ 0 < wayFn (plOf both) ws k ((n : Int) - T) := by
  induction k with
  | zero =>
    intro n
    unfold msk wayFn
    rw [Nat.one_shiftLeft, Nat.testBit_two_pow]
    by_cases h : T = n
    · subst h; simp
    · have : ¬ ((n : Int) - T = 0) := by omega
      simp [h, this]
  | succ k ih =>
    intro n
    have h0 := hp k (by omega)
    simp only [pre] at hT
    have ih' := ih (fun j hj => hp j (by omega)) (by omega)
    have hl := way_low both ws k (fun j hj => hp j (by omega))
    obtain ⟨W, hW⟩ : ∃ W : Nat, ws.getD k 0 = W := ⟨(ws.getD k 0).toNat, by omega⟩
    have p0 := (wayFn_bd both ws k ((n : Int) - T)).1
    have p1 := (wayFn_bd both ws k ((n : Int) - T - W)).1
    have p2 := (wayFn_bd both ws k ((n : Int) - T + W)).1
    have i0 := ih' n
    have i1 : (decide (n ≥ W) && (msk both ws T k).testBit (n - W)) = true ↔ 0 < wayFn (plOf both) ws k ((n : Int) - T - W) := by
      by_cases hle : W ≤ n
      · have := ih' (n - W)
        rw [show ((n - W : Nat) : Int) - T = (n : Int) - T - W by omega] at this
        simpa [hle] using this
      · rw [hl ((n : Int) - T - W) (by omega)]
        simp [hle]
    have i2 : (msk both ws T k).testBit (W + n) = true ↔ 0 < wayFn (plOf both) ws k ((n : Int) - T + W) := by
      have := ih' (W + n)
      rw [show ((W + n : Nat) : Int) - T = (n : Int) - T + W by omega] at this
      exact this
    cases both
    · rw [way_one, hW]
      simp only [msk, stp, Bool.false_eq_true, if_false, Nat.testBit_or, Nat.testBit_shiftLeft, hW, Int.toNat_natCast, Bool.or_eq_true]
      rw [i0, i1]
      omega
    · rw [way_two, hW]
      simp only [msk, stp, if_true, Nat.testBit_or, Nat.testBit_shiftLeft, Nat.testBit_shiftRight, hW, Int.toNat_natCast, Bool.or_eq_true]
      rw [i0, i1, i2]
      omega
/-- All masses from 1 to m can be weighed. -/
def cvr (both : Bool) (ws : List Int) (T m : Nat) : Bool := (msk both ws T ws.length >>> (T + 1)) % 2 ^ m == 2 ^ m - 1
theorem cvr_cov (both : Bool) (ws : List Int) (T m : Nat) (hp : ∀ j, j < ws.length → 0 ≤ ws.getD j 0) (hT : pre ws ws.length ≤ T) : cvr both ws T m = true ↔ Cov ws both m := by
  have hm := msk_way both ws T ws.length hp hT
  have key : ∀ i, (msk both ws T ws.length >>> (T + 1)).testBit i = true ↔ 0 < wayFn (plOf both) ws ws.length ((i : Int) + 1) := fun i => by
    rw [Nat.testBit_shiftRight, hm, show ((T + 1 + i : Nat) : Int) - T = (i : Int) + 1 by omega]
  unfold cvr
  rw [beq_iff_eq]
  constructor
  · intro h j h1 h2
    have := congrArg (fun x => Nat.testBit x (j - 1).toNat) h
    simp only [Nat.testBit_mod_two_pow, Nat.testBit_two_pow_sub_one] at this
    have hlt : (j - 1).toNat < m := by omega
    simp only [hlt, decide_true, Bool.true_and] at this
    have := (key _).1 this
    rwa [show (((j - 1).toNat : Nat) : Int) + 1 = j by omega] at this
  · intro h
    refine Nat.eq_of_testBit_eq fun i => ?_
    rw [Nat.testBit_mod_two_pow, Nat.testBit_two_pow_sub_one]
    by_cases hlt : i < m
    · simp only [hlt, decide_true, Bool.true_and]
      exact (key i).2 (h _ (by omega) (by omega))
    · simp [hlt]
def chkW (both : Bool) (ws : List Int) (m : Nat) : Bool :=
  decide (1 ≤ ws.length ∧ ws.length ≤ 16) && (List.range ws.length).all (fun j => decide (1 ≤ ws.getD j 0 ∧ ws.getD j 0 ≤ 2000 ∧ (0 < j → ws.getD (j - 1) 0 ≤ ws.getD j 0)))
    && decide (sumI ws = m) && decide (pre ws ws.length = m) && cvr both ws m m
    && (List.range ws.length).all (fun i => decide (pre (rmv ws i) (rmv ws i).length ≤ m) && !cvr both (rmv ws i) m m)
theorem chkW_ok {both : Bool} {ws : List Int} {m : Nat} (h : chkW both ws m = true) (hm : 1 ≤ m ∧ m ≤ 2000) :
    OkW ws ∧ (∀ j, j < ws.length → 1 ≤ ws.getD j 0 ∧ ws.getD j 0 ≤ 2000) ∧ sumI ws = m ∧ runV (wayFn (plOf both) ws ws.length) = m ∧ nlV ws m both = (0, 6) := by
  unfold chkW at h
  simp only [Bool.and_eq_true, decide_eq_true_eq, List.all_eq_true, List.mem_range, Bool.not_eq_true'] at h
  obtain ⟨⟨⟨⟨⟨hl, hw⟩, hs⟩, hp⟩, hc⟩, hr⟩ := h
  have hb : ∀ j, j < ws.length → 1 ≤ ws.getD j 0 ∧ ws.getD j 0 ≤ 2000 := fun j hj => ⟨(hw j hj).1, (hw j hj).2.1⟩
  have hO : OkW ws := ⟨hl.1, hl.2, fun j hj => ⟨(hw j hj).1, (hw j hj).2.2⟩, by omega⟩
  have h0 : ∀ j, j < ws.length → 0 ≤ ws.getD j 0 := fun j hj => by have := (hw j hj).1; omega
  have hC := (cvr_cov both ws m m h0 (by omega)).1 hc
  refine ⟨hO, hb, hs, runV_eq ⟨by omega, fun j a b => hC j a b, ?_⟩, ?_⟩
  · rw [way_low both ws ws.length h0 _ (.inr (by omega))]; omega
  · unfold nlV
    rw [show okW ws = true from cb_t hO, if_pos rfl, cb_t (show (1 : Int) ≤ m ∧ (m : Int) ≤ 2000 by omega), if_pos rfl, cb_t hC, if_pos rfl]
    refine fstV_eq (.inr ⟨fun i hi hcv => ?_, rfl⟩)
    obtain ⟨q1, q2⟩ := hr i hi
    have := (cvr_cov both (rmv ws i) m m (fun j hj => by have := (rmv_bd hi hb j hj).1; omega) q1).2 hcv
    rw [q2] at this
    exact Bool.noConfusion this
end Go.Proofs.Ythbanajodohbbaa
