/-
  Numbers read from their decimal texts; parts between blanks and their joining.
-/
import Derived.Test.YteicfelaelhaiaaDoorSP1
import Derived.Test.YteicfelaelhaiaaDoorJT
import Derived.Lib.IndexLaws
import Derived.Lib.ParseIntBCases
namespace Go.Proofs.YteicfelaelhaiaaDoor
open Go.RowKit
set_option maxRecDepth 100000

def isD (b : UInt8) : Bool := decide (48 ≤ b.toNat ∧ b.toNat ≤ 57)
theorem isD_t {b : UInt8} (h : isD b = true) : 48 ≤ b.toNat ∧ b.toNat ≤ 57 := of_decide_eq_true h
def nmL (a : Nat) (l : List UInt8) : Nat := l.foldl (fun x b => x * 10 + (b.toNat - 48)) a
theorem nm_nil (a : Nat) : nmL a [] = a := rfl
theorem nm_cons (a : Nat) (b : UInt8) (l : List UInt8) : nmL a (b :: l) = nmL (a * 10 + (b.toNat - 48)) l := by
  unfold nmL
  rw [List.foldl_cons]
theorem nmL_app : ∀ (l1 l2 : List UInt8) (a : Nat), nmL a (l1 ++ l2) = nmL (nmL a l1) l2
  | [], _, _ => rfl
  | b :: l1, l2, a => by rw [List.cons_append, nm_cons, nmL_app l1 l2, nm_cons]
theorem nmL_ge : ∀ (l : List UInt8) (a : Nat), a ≤ nmL a l
  | [], _ => Nat.le_refl _
  | b :: l, a => by
    have := nmL_ge l (a * 10 + (b.toNat - 48))
    rw [nm_cons]; omega
theorem parse_ok (M : Nat) (hM : M < 1844674407370955162) : ∀ (l : List UInt8) (a : Nat), (∀ b ∈ l, isD b = true) → nmL a l ≤ M → Lib.parseUintM M a l = .ok (nmL a l)
  | [], _, _, _ => rfl
  | b :: l, a, hd, hn => by
    have h1 := isD_t (hd b List.mem_cons_self)
    rw [nm_cons] at hn
    have h2 := nmL_ge l (a * 10 + (b.toNat - 48))
    rw [Lib.parseUintM, if_pos h1, if_neg (by omega), if_neg (by omega), nm_cons]
    exact parse_ok M hM l _ (fun x hx => hd x (List.mem_cons_of_mem _ hx)) hn
theorem dec_isD (n : Nat) : ∀ b ∈ Lib.decDigits n, isD b = true := by
  induction n using Nat.strongRecOn with
  | ind n ih =>
    have hd : ∀ d, d < 10 → isD (UInt8.ofNat (48 + d)) = true := fun d hd => by
      unfold isD
      have : (UInt8.ofNat (48 + d)).toNat = 48 + d := by simp; omega
      rw [this]; simp; omega
    rw [Lib.decDigits]
    by_cases h : n < 10
    · rw [dif_pos h]; intro b hb; rw [List.mem_singleton] at hb; rw [hb]; exact hd n h
    · rw [dif_neg h]
      intro b hb
      rcases List.mem_append.1 hb with h1 | h1
      · exact ih (n / 10) (by omega) b h1
      · rw [List.mem_singleton] at h1; rw [h1]; exact hd _ (Nat.mod_lt _ (by decide))
theorem dig_val {d : Nat} (h : d < 10) : (UInt8.ofNat (48 + d)).toNat - 48 = d := by
  have : (UInt8.ofNat (48 + d)).toNat = 48 + d := by simp; omega
  omega
theorem nm_dec (n : Nat) : nmL 0 (Lib.decDigits n) = n := by
  induction n using Nat.strongRecOn with
  | ind n ih =>
    rw [Lib.decDigits]
    by_cases h : n < 10
    · rw [dif_pos h, nm_cons, dig_val h, nm_nil]; omega
    · rw [dif_neg h, nmL_app, ih (n / 10) (by omega), nm_cons, dig_val (Nat.mod_lt _ (by decide)), nm_nil]; omega
theorem dec_ne (n : Nat) : Lib.decDigits n ≠ [] := by
  rw [Lib.decDigits]
  by_cases h : n < 10
  · rw [dif_pos h]; simp
  · rw [dif_neg h]; simp
theorem dec_head (n : Nat) (hn : 1 ≤ n) : (Lib.decDigits n).head? ≠ some 48 := by
  induction n using Nat.strongRecOn with
  | ind n ih =>
    rw [Lib.decDigits]
    by_cases h : n < 10
    · rw [dif_pos h]
      intro e
      have e1 : UInt8.ofNat (48 + n) = 48 := by simpa using e
      have e2 := congrArg UInt8.toNat e1
      have : (UInt8.ofNat (48 + n)).toNat = 48 + n := by simp; omega
      rw [this] at e2
      have : (48 : UInt8).toNat = 48 := rfl
      omega
    · rw [dif_neg h]
      have h1 := ih (n / 10) (by omega) (by omega)
      have h2 := dec_ne (n / 10)
      cases hd : Lib.decDigits (n / 10) with
      | nil => exact absurd hd h2
      | cons a l => rw [hd] at h1; simpa using h1
/-- A text of digits alone, with no 0 in front but in 0 itself. -/
def Cn (l : List UInt8) : Prop := l ≠ [] ∧ (l.head? = some 48 → l.length = 1) ∧ ∀ b ∈ l, isD b = true
theorem cn_dec (n : Nat) : Cn (Lib.decDigits n) := by
  refine ⟨dec_ne n, fun h => ?_, dec_isD n⟩
  rcases Nat.eq_zero_or_pos n with rfl | h1
  · rw [Lib.decDigits, dif_pos (by decide)]; rfl
  · exact absurd h (dec_head n h1)
theorem dec_nm : ∀ (k : Nat) (l : List UInt8), l.length = k → Cn l → Lib.decDigits (nmL 0 l) = l := by
  intro k
  induction k with
  | zero => intro l hl h; exact absurd (List.length_eq_zero_iff.1 hl) h.1
  | succ k ih =>
    intro l hl h
    obtain ⟨i, b, rfl⟩ : ∃ i b, l = i ++ [b] := ⟨l.dropLast, l.getLast h.1, (List.dropLast_concat_getLast h.1).symm⟩
    have hb := isD_t (h.2.2 b (by simp))
    have hbb : UInt8.ofNat (48 + (b.toNat - 48)) = b := by
      rw [show 48 + (b.toNat - 48) = b.toNat by omega]; simp
    cases i with
    | nil =>
      show Lib.decDigits (nmL (0 * 10 + (b.toNat - 48)) []) = [b]
      rw [nm_nil, Lib.decDigits, dif_pos (by omega), show 0 * 10 + (b.toNat - 48) = b.toNat - 48 by omega, hbb]
    | cons c r =>
      have hc : c ≠ 48 := fun e => by
        have := h.2.1 (by rw [e]; rfl)
        simp at this
      have hcn : Cn (c :: r) := ⟨by simp, fun e => absurd (by simpa using e) hc, fun x hx => h.2.2 x (List.mem_append_left _ hx)⟩
      have h1 := ih (c :: r) (by simp at hl ⊢; omega) hcn
      have hcd := isD_t (h.2.2 c (by simp))
      have hc48 : c.toNat ≠ 48 := fun e => hc (UInt8.toNat_inj.1 e)
      have hge : 1 ≤ nmL 0 (c :: r) := by
        rw [nm_cons]; have := nmL_ge r (0 * 10 + (c.toNat - 48)); omega
      rw [nmL_app]
      generalize nmL 0 (c :: r) = m at *
      show Lib.decDigits (nmL (m * 10 + (b.toNat - 48)) []) = c :: r ++ [b]
      rw [nm_nil, Lib.decDigits, dif_neg (by omega), show (m * 10 + (b.toNat - 48)) / 10 = m by omega, show (m * 10 + (b.toNat - 48)) % 10 = b.toNat - 48 by omega, h1, hbb]
theorem parse_cn (l : List UInt8) (h : Cn l) (hn : nmL 0 l ≤ 32767) : Lib.parseIntB 16 l = .ok ((nmL 0 l : Nat) : Int) := by
  cases l with
  | nil => exact absurd rfl h.1
  | cons c r =>
    have hc := isD_t (h.2.2 c List.mem_cons_self)
    rw [Lib.parseIntB_plain _ _ _ (by omega) (by omega), Lib.parseUintB, if_neg (by simp), parse_ok (2 ^ 16 - 1) (by decide) (c :: r) 0 h.2.2 (by show nmL 0 (c :: r) ≤ 65535; omega)]
    unfold Lib.signlessC
    simp only
    rw [if_neg (by show ¬ 32768 ≤ nmL 0 (c :: r); omega)]

/-! ### joining and cutting -/
def jn (c : UInt8) : List (List UInt8) → List UInt8
  | [] => []
  | [x] => x
  | x :: y :: r => x ++ c :: jn c (y :: r)
theorem jn_lib (c : UInt8) : ∀ (L : List (List UInt8)), Lib.join L [c] = jn c L
  | [] => by simp [Lib.join, List.intercalate, jn]
  | [x] => by simp [Lib.join, List.intercalate, jn]
  | x :: y :: r => by
    have h := jn_lib c (y :: r)
    simp only [Lib.join, List.intercalate, List.intersperse, List.flatten_cons] at h ⊢
    rw [jn, ← h]
    simp
theorem jn_spl (c : UInt8) (l : List UInt8) : jn c (spl c l) = l := by
  induction l with
  | nil => rfl
  | cons b l ih =>
    have h1 := (spl_len c l).1
    unfold spl
    cases hs : spl c l with
    | nil => rw [hs] at h1; simp at h1
    | cons p r =>
      rw [hs] at ih
      by_cases e : b = c
      · rw [if_pos e, jn, ih, e]; rfl
      · rw [if_neg e]
        simp only [List.headD_cons, List.tail_cons]
        cases r with
        | nil => rw [jn] at ih ⊢; rw [ih]
        | cons q r => rw [jn] at ih ⊢; rw [List.cons_append, ih]
theorem spl_jn (c : UInt8) : ∀ (L : List (List UInt8)), L ≠ [] → (∀ x ∈ L, ∀ b ∈ x, b ≠ c) → spl c (jn c L) = L
  | [], h, _ => absurd rfl h
  | [x], _, h => spl_end c x (h x (by simp))
  | x :: y :: r, _, h => by
    rw [jn, spl_hit c x _ (h x (by simp)), spl_jn c (y :: r) (by simp) (fun z hz => h z (List.mem_cons_of_mem _ hz))]
end Go.Proofs.YteicfelaelhaiaaDoor
