/-
  Texts joined by blanks, and decimal texts; the model's Decimal.
-/
import Derived.Test.YtgadcggeoonihaaDoorValid
import Derived.Lib.ItoaNum
import Derived.Lib.Join
import Derived.Laws.Concat
import Derived.Lib.SlBytesRow
import Derived.Deep.OwnRows
import Derived.Deep.QuietTactic
import Derived.WalkSpells
namespace Go.Proofs.YtgadcggeoonihaaDoor
open Go.RowKit
set_option maxRecDepth 100000
set_option linter.unusedVariables false

theorem sv {a b : ByteArray} (h : a = b) : Value.string a = Value.string b := by rw [h]
theorem rets {a b : ByteArray} (h : a = b) : Ending.returned (.string a) = .returned (.string b) := by rw [h]
theorem conv_one (w : World) (u : UInt8) : (convert 68 9 (.slice (some ⟨w.heap.size, 0, none⟩) 1 1)).run Tryd.prog (w.alloc (.cells #[.int .u8 u.toNat] 5)) = .ok (.string ⟨#[u]⟩) (w.alloc (.cells #[.int .u8 u.toNat] 5)) := by
  have hby : Lib.Bytes (w.alloc (.cells #[.int .u8 u.toNat] 5)) w.heap.size 0 ⟨#[u]⟩ := fun i hi => by
    have : i = 0 := by have h1 : i < 1 := hi; omega
    subst this
    simp
    rfl
  exact Lib.run_convert_whole (P := Tryd.prog) _ 68 5 9 Tryd.underlying68 Tryd.underlying5 Tryd.underlying9 w.heap.size 0 ⟨#[u]⟩ hby 1

/-- The first k texts, with a blank between. -/
def jT (f : Nat → ByteArray) : Nat → ByteArray
  | 0 => ⟨#[]⟩
  | k + 1 => (if k = 0 then jT f k else jT f k ++ ⟨#[32]⟩) ++ f k
def jL (f : Nat → ByteArray) (k : Nat) : List ByteArray := (List.range k).map f
theorem jT_one (f : Nat → ByteArray) : jT f 1 = f 0 := by
  unfold jT jT
  rw [if_pos rfl]
  apply ByteArray.ext
  simp [ByteArray.data_append]
theorem jT_more (f : Nat → ByteArray) {k : Nat} (h : k ≠ 0) : jT f (k + 1) = jT f k ++ ⟨#[32]⟩ ++ f k := by
  rw [jT, if_neg h]
theorem jL_len (f : Nat → ByteArray) (k : Nat) : (jL f k).length = k := by unfold jL; simp
theorem jL_snoc (f : Nat → ByteArray) (k : Nat) : jL f (k + 1) = jL f k ++ [f k] := by
  unfold jL; rw [List.range_succ, List.map_append]; rfl
theorem jT_size (f : Nat → ByteArray) (c : Nat) (h : ∀ j, (f j).size ≤ c) (k : Nat) : (jT f k).size ≤ (c + 1) * k := by
  induction k with
  | zero => show 0 ≤ _; omega
  | succ k ih =>
    have h1 := h k
    have e : (c + 1) * (k + 1) = (c + 1) * k + (c + 1) := Nat.mul_succ _ _
    unfold jT
    by_cases h2 : k = 0
    · rw [if_pos h2, ByteArray.size_append]; omega
    · rw [if_neg h2, ByteArray.size_append, ByteArray.size_append, show (⟨#[32]⟩ : ByteArray).size = 1 from rfl]; omega
theorem join_snoc' (sep a : List UInt8) : ∀ (l : List (List UInt8)), l ≠ [] → Lib.join (l ++ [a]) sep = Lib.join l sep ++ (sep ++ a) := by
  intro l
  induction l with
  | nil => exact fun h => absurd rfl h
  | cons x l ih =>
    intro _
    cases l with
    | nil => simp [Lib.join, List.intercalate, List.intersperse]
    | cons y l =>
      have h := ih (by simp)
      simp only [Lib.join, List.intercalate, List.intersperse, List.cons_append, List.flatten_cons] at h ⊢
      simp only [List.append_assoc] at h ⊢
      rw [h]
theorem jL_join (f : Nat → ByteArray) (k : Nat) : Lib.join ((jL f k).map (·.data.toList)) [32] = (jT f k).data.toList := by
  induction k with
  | zero => simp [jL, jT, Lib.join, List.intercalate]
  | succ k ih =>
    rw [jL_snoc, List.map_append]
    by_cases h : k = 0
    · subst h
      simp [jL, jT, Lib.join, List.intercalate, ByteArray.data_append]
    · unfold jT
      rw [if_neg h, List.map_cons, List.map_nil, join_snoc' _ _ _ (by
        intro h0
        have h2 := congrArg List.length h0
        rw [List.length_map, jL_len] at h2
        exact h h2), ih]
      simp [ByteArray.data_append]
theorem jL_text (f : Nat → ByteArray) (k : Nat) : (⟨(Lib.join ((jL f k).map (·.data.toList)) [32]).toArray⟩ : ByteArray) = jT f k := by
  rw [jL_join]

/-! ### decimal texts -/
def dcV (n : Nat) : ByteArray := ⟨(Lib.decDigits n).toArray⟩
theorem dcV_one {n : Nat} (h : n < 10) : dcV n = ⟨#[UInt8.ofNat (48 + n)]⟩ := by unfold dcV; rw [Lib.decDigits_one h]
theorem dcV_more {n : Nat} (h : ¬ n < 10) : dcV n = dcV (n / 10) ++ ⟨#[UInt8.ofNat (48 + n % 10)]⟩ := by
  unfold dcV
  rw [Lib.decDigits, dif_neg h]
  apply ByteArray.ext
  simp [ByteArray.data_append]
theorem dcV_size : ∀ (n : Nat), (dcV n).size ≤ n + 1 := by
  intro n
  induction n using Nat.strongRecOn with
  | ind n ih =>
    by_cases h : n < 10
    · rw [dcV_one h]; show 1 ≤ n + 1; omega
    · have := ih (n / 10) (by omega)
      rw [dcV_more h, ByteArray.size_append, show (⟨#[UInt8.ofNat (48 + n % 10)]⟩ : ByteArray).size = 1 from rfl]; omega
theorem dcV_len (d : Nat) : ∀ (n : Nat), n < 10 ^ d → 1 ≤ d → (dcV n).size ≤ d := by
  induction d with
  | zero => intro n _ h; omega
  | succ d ih =>
    intro n hn _
    by_cases h : n < 10
    · rw [dcV_one h]; show 1 ≤ d + 1; omega
    · have hd : 1 ≤ d := by
        rcases Nat.eq_zero_or_pos d with rfl | h'
        · simp at hn; omega
        · exact h'
      have := ih (n / 10) (by rw [Nat.pow_succ] at hn; omega) hd
      rw [dcV_more h, ByteArray.size_append, show (⟨#[UInt8.ofNat (48 + n % 10)]⟩ : ByteArray).size = 1 from rfl]; omega
end Go.Proofs.YtgadcggeoonihaaDoor
