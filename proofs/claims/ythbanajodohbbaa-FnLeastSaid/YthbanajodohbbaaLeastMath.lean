/-
  The numbers of the law FnLeast: the least weights for 1 to 120, and the digits of its numbers, each reckoned out.
-/
import Derived.Test.YthbanajodohbbaaMaskMath
import Derived.Test.YthbanajodohbbaaLeastC
import Derived.Test.YthbanajodohbbaaSBal
import Derived.Test.YthbanajodohbbaaDigits
import Derived.Test.YthbanajodohbbaaFns1
import Derived.Test.YthbanajodohbbaaByteAt
namespace Go.Proofs.Ythbanajodohbbaa
open Go.RowKit
set_option linter.unusedVariables false

theorem i16_fin' {ws : List Int} (h : ∀ j, j < ws.length → -32768 ≤ ws.getD j 0 ∧ ws.getD j 0 ≤ 32767) : I16 ws := fun j => by
  by_cases hj : j < ws.length
  · exact h j hj
  · have e : ws.getD j 0 = 0 := by rw [List.getD_eq_getElem?_getD, List.getElem?_eq_none (by omega)]; rfl
    rw [e]; omega
def kT (m : Nat) (both : Bool) : Nat := ((List.range 8).takeWhile (fun j => decide (bOf both ^ (j + 1) ≤ bdOf m both))).length
def dueC (m : Nat) (both : Bool) : List Int := insList (powsTo (bOf both) (kT m both)) (restTo (bOf both) m (kT m both))
def chkM (m : Nat) (both : Bool) : Bool :=
  (List.range (kT m both)).all (fun j => decide (bOf both ^ (j + 1) ≤ bdOf m both)) && decide (¬ bOf both ^ (kT m both + 1) ≤ bdOf m both) && chkW both (dueC m both) m
    && decide (kT m both ≤ 6) && decide (bOf both ^ kT m both ≤ bdOf m both)
theorem chkM_all : (List.range 120).all (fun r => chkM (r + 1) false && chkM (r + 1) true) = true := by kernel_rfl
theorem chkM_at {r : Int} (h : 0 ≤ r ∧ r < 120) (both : Bool) : chkM (r.toNat + 1) both = true := by
  have := List.all_eq_true.1 chkM_all r.toNat (List.mem_range.2 (by omega))
  rw [Bool.and_eq_true] at this
  cases both
  · exact this.1
  · exact this.2
/-- What the law asks of the least weights. -/
structure DueOk (most : Int) (both : Bool) (ws : List Int) (k : Nat) : Prop where
  len : ws.length = k + 1
  k6 : k ≤ 6
  ok : OkW ws
  i16 : I16 ws
  sum : sumV ws = most
  cw : codeW ws = 0
  cn : codeN ws = 0
  au : auV ws both = most
  nl : nlV ws most both = (0, 6)
  hi : bdOf most both < bOf both ^ (k + 1)
  lo : bOf both ^ k ≤ bdOf most both
theorem due_ok {r : Int} (h : 0 ≤ r ∧ r < 120) (both : Bool) : lwC (1 + r) = 0 ∧ ∃ k, DueOk (1 + r) both (lwV (1 + r) both) k := by
  have hc := chkM_at h both
  obtain ⟨m, hm⟩ : ∃ m : Nat, 1 + r = m := ⟨(1 + r).toNat, by omega⟩
  rw [show r.toNat + 1 = m by omega] at hc
  rw [hm]
  have hm1 : 1 ≤ m ∧ m ≤ 2000 := by omega
  have hmI : 1 ≤ (m : Int) ∧ (m : Int) ≤ 2000 := by omega
  unfold chkM at hc
  simp only [Bool.and_eq_true, decide_eq_true_eq, List.all_eq_true, List.mem_range] at hc
  obtain ⟨⟨⟨⟨h1, h2⟩, h3⟩, h4⟩, h5⟩ := hc
  have hk : kOf (bOf both) (bdOf m both) = kT m both := kOf_eq ⟨h1, h2⟩
  obtain ⟨e1, e2⟩ := lw_t (both := both) hmI
  rw [hk] at e1
  have e3 : lwV m both = dueC m both := e1
  obtain ⟨q1, q2, q3, q4, q5⟩ := chkW_ok h3 hm1
  have hok : okW (dueC m both) = true := cb_t q1
  refine ⟨e2, kT m both, ?_⟩
  rw [e3]
  exact ⟨by unfold dueC; rw [insList_length, powsTo_length], h4, q1, i16_fin' (fun j hj => by have := q2 j hj; omega), by unfold sumV; rw [if_pos hok]; exact q3, by unfold codeW; rw [if_pos hok], by unfold codeN; rw [if_pos hok], by unfold auV; rw [if_pos hok]; exact q4, q5, by omega, h5⟩
/-! ### the digits -/
def digsF : Nat → Int → Option (List Int)
  | 0, n => if n = 0 then some [] else none
  | k + 1, n => if n = 0 then some [] else (digsF k (nx n)).map (dg n :: ·)
theorem digsF_ok (k : Nat) : ∀ n l, digsF k n = some l → digs n = l := by
  induction k with
  | zero =>
    intro n l h
    unfold digsF at h
    by_cases e : n = 0
    · subst e; rw [if_pos rfl] at h; cases h; exact digs_zero
    · rw [if_neg e] at h; cases h
  | succ k ih =>
    intro n l h
    unfold digsF at h
    by_cases e : n = 0
    · subst e; rw [if_pos rfl] at h; cases h; exact digs_zero
    · rw [if_neg e] at h
      obtain ⟨l', h1, rfl⟩ := Option.map_eq_some_iff.1 h
      rw [digs_step e, ih _ _ h1]
def chkD (n : Int) : Bool := match digsF 9 n with
  | some l => decide (1 ≤ l.length ∧ l.length ≤ 9) && (List.range l.length).all (fun j => decide (-1 ≤ l.getD j 0 ∧ l.getD j 0 ≤ 1)) && decide (downTo l 0 = n) && decide (l.length = 0 ∨ l.getD (l.length - 1) 0 ≠ 0) && decide (n = 0 → l.length = 0) && decide (digsF 9 (-n) = some (l.map (- ·)))
  | none => false
theorem chkD_all : (List.range 256).all (fun r => chkD (7 * (r : Int) - 900)) = true := by kernel_rfl
structure DigOk (n : Int) (l : List Int) : Prop where
  bd : bdV n = l
  bc : bdC n = 0
  len : 1 ≤ l.length ∧ l.length ≤ 9
  sg : ∀ j, j < l.length → -1 ≤ l.getD j 0 ∧ l.getD j 0 ≤ 1
  val : digV l = n
  vc : digC l = 0
  last : l.length = 0 ∨ l.getD (l.length - 1) 0 ≠ 0
  zero : n = 0 → l.length = 0
  nbd : bdV (-n) = l.map (- ·)
  nbc : bdC (-n) = 0
theorem dig_ok {r : Int} (h : 0 ≤ r ∧ r < 256) : ∃ l, DigOk (7 * r - 900) l := by
  have hc := List.all_eq_true.1 chkD_all r.toNat (List.mem_range.2 (by omega))
  rw [show ((r.toNat : Nat) : Int) = r by omega] at hc
  have hn : -1000000000 ≤ 7 * r - 900 ∧ 7 * r - 900 ≤ 1000000000 := by omega
  generalize 7 * r - 900 = n at *
  unfold chkD at hc
  cases hd : digsF 9 n with
  | none => rw [hd] at hc; cases hc
  | some l =>
    rw [hd] at hc
    simp only [Bool.and_eq_true, decide_eq_true_eq, List.all_eq_true, List.mem_range] at hc
    obtain ⟨⟨⟨⟨⟨h1, h2⟩, h3⟩, h4⟩, h5⟩, h6⟩ := hc
    have hP : okP l = true := cb_t h2
    exact ⟨l, ⟨(bd_t hn).1.trans (digsF_ok _ _ _ hd), (bd_t hn).2, h1, h2, by unfold digV; rw [if_pos hP, if_pos (by omega)]; exact h3, by unfold digC; rw [if_pos hP, if_pos (by omega)], h4, h5, (bd_t (by omega)).1.trans (digsF_ok _ _ _ h6), (bd_t (by omega)).2⟩⟩
end Go.Proofs.Ythbanajodohbbaa
