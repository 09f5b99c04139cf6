/-
  Fixed plans that are made: the words as lists.
-/
import Derived.Test.YtieghjpecoiodaaD6
namespace Go.Proofs.Ytieghjpecoiodaa
open Go.RowKit
set_option maxRecDepth 100000
set_option linter.unusedVariables false

/-- The first letter that differs from the letter before it is the next one of this. -/
def tnB (l : Nat) (x : Nat → Int) : Bool :=
  if l < 2 then false else if x 1 ≠ x 0 then decide (x 1 = nx1 (x 0)) else if l < 3 then false else if x 2 ≠ x 1 then decide (x 2 = nx1 (x 1)) else if l < 4 then false else if x 3 ≠ x 2 then decide (x 3 = nx1 (x 2)) else false
/-- Behind letters -1, of which there is one at least, there is a 0. -/
def stB (l : Nat) (x : Nat → Int) : Bool :=
  if x 0 ≠ -1 then false else if l < 2 then false else if x 1 ≠ -1 then decide (x 1 = 0) else if l < 3 then false else if x 2 ≠ -1 then decide (x 2 = 0) else if l < 4 then false else if x 3 ≠ -1 then decide (x 3 = 0) else false
def soB (l : Nat) (x : Nat → Int) : Bool := decide (x 0 = -1) && !(decide (x 0 = dgs l 0 0) && decide (x 1 = dgs l 0 1) && decide (x 2 = dgs l 0 2) && decide (x 3 = dgs l 0 3))
/-- The program's beginnings of groups, and the model's. -/
def mkB (l k n : Nat) : Bool := if k = 2 then stB l (dgs l n) else soB l (dgs l n)
def msB (l k n : Nat) : Bool := !(decide (k = 2) && !tnB l (dgs l n) || decide (n = 0))
def p3N (l : Nat) : Nat := match l with | 0 => 1 | 1 => 3 | 2 => 9 | 3 => 27 | _ => 81
theorem p3N_cast (l : Nat) : p3 l = (p3N l : Int) := by
  match l with
  | 0 => rfl
  | 1 => rfl
  | 2 => rfl
  | 3 => rfl
  | (n + 4) => rfl
theorem p3N_le (l : Nat) : 1 ≤ p3N l ∧ p3N l ≤ 81 := by
  match l with
  | 0 => decide
  | 1 => decide
  | 2 => decide
  | 3 => decide
  | (n + 4) => exact ⟨by show 1 ≤ 81; decide, by show 81 ≤ 81; decide⟩
/-- The numbers of the words at which groups begin. -/
def stI (l k m : Nat) : List Nat := (List.range m).filter (msB l k)
def siI (l k m : Nat) : List Nat := (List.range m).filter (mkB l k)
theorem siI_stI {l k : Nat} (hl : 1 ≤ l ∧ l ≤ 4) (hk : k ≤ 2) : siI l k (p3N l) = stI l k (p3N (l - 1)) := by
  have h3 : k = 0 ∨ k = 1 ∨ k = 2 := by omega
  rcases four_in hl with rfl | rfl | rfl | rfl <;> rcases h3 with rfl | rfl | rfl <;> decide
theorem stI_succ (l k m : Nat) : stI l k (m + 1) = stI l k m ++ (if msB l k m = true then [m] else []) := by
  unfold stI; rw [List.range_succ, List.filter_append]
  congr 1
  by_cases h : msB l k m = true
  · rw [if_pos h]; simp [h]
  · rw [if_neg h]; simp [h]
theorem siI_succ (l k m : Nat) : siI l k (m + 1) = siI l k m ++ (if mkB l k m = true then [m] else []) := by
  unfold siI; rw [List.range_succ, List.filter_append]
  congr 1
  by_cases h : mkB l k m = true
  · rw [if_pos h]; simp [h]
  · rw [if_neg h]; simp [h]
theorem stI_len (l k m : Nat) : (stI l k m).length ≤ m := by
  unfold stI; exact Nat.le_trans (List.length_filter_le _ _) (by simp)
theorem siI_len (l k m : Nat) : (siI l k m).length ≤ m := by
  unfold siI; exact Nat.le_trans (List.length_filter_le _ _) (by simp)
theorem stI_pre (l k : Nat) {m m' : Nat} (h : m ≤ m') : stI l k m <+: stI l k m' := by
  induction m' with
  | zero => rw [show m = 0 by omega]; exact List.prefix_refl _
  | succ n ih =>
    by_cases e : m = n + 1
    · rw [e]; exact List.prefix_refl _
    · rw [stI_succ]; exact (ih (by omega)).trans (List.prefix_append _ _)
theorem stI_lt {l k m n : Nat} (h : n ∈ stI l k m) : n < m := List.mem_range.1 (List.mem_filter.1 h).1
/-- The words of a group. -/
def grp (l : Nat) (n : Nat) : List (Nat → Int) := [dgs l n, nxD l (dgs l n), nxD l (nxD l (dgs l n))]
/-- The words of groups. -/
def gws (l : Nat) (I : List Nat) : List (Nat → Int) := I.flatMap (grp l)
theorem gws_snoc (l : Nat) (I : List Nat) (n : Nat) : gws l (I ++ [n]) = gws l I ++ grp l n := by simp [gws]
theorem gws_len (l : Nat) (I : List Nat) : (gws l I).length = 3 * I.length := by
  induction I with
  | nil => rfl
  | cons n I ih => rw [show gws l (n :: I) = grp l n ++ gws l I from rfl, List.length_append, ih, List.length_cons]; simp [grp]; omega
theorem dgs_fit {l : Nat} {n : Int} (hl : 1 ≤ l ∧ l ≤ 4) (hn : 0 ≤ n ∧ n ≤ 80) : OkD l (dgs l n) := by
  obtain ⟨⟨b0, b0'⟩, q1⟩ := tm3 n hn
  obtain ⟨⟨b1, b1'⟩, q2⟩ := tm3 _ q1
  obtain ⟨⟨b2, b2'⟩, q3⟩ := tm3 _ q2
  obtain ⟨⟨b3, b3'⟩, q4⟩ := tm3 _ q3
  rcases four_in hl with rfl | rfl | rfl | rfl
  all_goals
    refine ⟨by omega, fun i hi => ?_⟩
    match i, hi with
    | 0, _ => refine ⟨?_, fun hh => ?_⟩ <;> (try simp only [dgs, quad]) <;> (try simp at hh) <;> (try simp) <;> omega
    | 1, _ => refine ⟨?_, fun hh => ?_⟩ <;> (try simp only [dgs, quad]) <;> (try simp at hh) <;> (try simp) <;> omega
    | 2, _ => refine ⟨?_, fun hh => ?_⟩ <;> (try simp only [dgs, quad]) <;> (try simp at hh) <;> (try simp) <;> omega
    | 3, _ => refine ⟨?_, fun hh => ?_⟩ <;> (try simp only [dgs, quad]) <;> (try simp at hh) <;> (try simp) <;> omega
theorem nx1_bd {v : Int} (h : -1 ≤ v ∧ v ≤ 1) : -1 ≤ nx1 v ∧ nx1 v ≤ 1 := by unfold nx1; split <;> omega
theorem nxD_fit {l : Nat} {x : Nat → Int} (hl : 1 ≤ l ∧ l ≤ 4) (h : OkD l x) : OkD l (nxD l x) := by
  have h0 := h.2 0 (by omega)
  have h1 := h.2 1 (by omega)
  have h2 := h.2 2 (by omega)
  have h3 := h.2 3 (by omega)
  have e0 := nx1_bd h0.1
  have e1 := nx1_bd h1.1
  have e2 := nx1_bd h2.1
  have e3 := nx1_bd h3.1
  rcases four_in hl with rfl | rfl | rfl | rfl
  all_goals
    refine ⟨by omega, fun i hi => ?_⟩
    match i, hi with
    | 0, _ => refine ⟨?_, fun hh => ?_⟩ <;> (try simp only [nxD, quad]) <;> (try simp at hh) <;> (try simp) <;> omega
    | 1, _ => refine ⟨?_, fun hh => ?_⟩ <;> (try simp only [nxD, quad]) <;> (try simp at hh) <;> (try simp) <;> omega
    | 2, _ => refine ⟨?_, fun hh => ?_⟩ <;> (try simp only [nxD, quad]) <;> (try simp at hh) <;> (try simp) <;> omega
    | 3, _ => refine ⟨?_, fun hh => ?_⟩ <;> (try simp only [nxD, quad]) <;> (try simp at hh) <;> (try simp) <;> omega
theorem fit_s4 {l : Int} {x : Nat → Int} (h : OkD l x) : S4 x := ⟨(h.2 0 (by omega)).1, (h.2 1 (by omega)).1, (h.2 2 (by omega)).1, (h.2 3 (by omega)).1⟩
theorem gws_fit {l : Nat} {I : List Nat} (hl : 1 ≤ l ∧ l ≤ 4) (hI : ∀ n ∈ I, n ≤ 80) : ∀ x ∈ gws l I, OkD l x := by
  intro x hx
  obtain ⟨n, hn, hx⟩ := List.mem_flatMap.1 hx
  have h1 := dgs_fit (n := (n : Int)) hl (by have := hI n hn; omega)
  have h2 := nxD_fit hl h1
  have h3 := nxD_fit hl h2
  unfold grp at hx
  simp only [List.mem_cons, List.not_mem_nil, or_false] at hx
  rcases hx with rfl | rfl | rfl
  · exact h1
  · exact h2
  · exact h3
/-- What MakeFixed hands back. -/
def MfO (l k c : Int) : Prop := (1 ≤ l ∧ l ≤ 4) ∧ (0 ≤ k ∧ k ≤ 2) ∧ (1 ≤ c ∧ c ≤ 80)
noncomputable def mfI (l k c : Int) : List Nat := (stI l.toNat k.toNat (p3N (l.toNat - 1))).take (c.toNat / 3)
noncomputable def mfC (l k c : Int) : Int := if cb (MfO l k c) = true then (if c % 3 = 0 then (if 3 * ((stI l.toNat k.toNat (p3N (l.toNat - 1))).length : Int) < c then 6 else 0) else 4) else 2
noncomputable def mfW (l k c : Int) : List (Nat → Int) := if mfC l k c = 0 then gws l.toNat (mfI l k c) else []
noncomputable def mfL (l k c : Int) : Int := if mfC l k c = 0 then l else 0
noncomputable def mfK (l k c : Int) : Int := if mfC l k c = 0 then k else 0
theorem mfW_len (l k c : Int) : (mfW l k c).length ≤ 80 := by
  by_cases h : mfC l k c = 0
  · unfold mfW; rw [if_pos h, gws_len]
    have : MfO l k c := by
      unfold mfC at h
      by_cases hm : cb (MfO l k c) = true
      · exact of_cb hm
      · rw [if_neg hm] at h; cases h
    unfold mfI
    rw [List.length_take]
    have := this.2.2
    omega
  · unfold mfW; rw [if_neg h]; simp
end Go.Proofs.Ytieghjpecoiodaa
