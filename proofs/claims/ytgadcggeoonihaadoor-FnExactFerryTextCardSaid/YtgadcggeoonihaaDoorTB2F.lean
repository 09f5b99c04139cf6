/-
  The text of a set of things, the program's and the model's.
-/
import Derived.Test.YtgadcggeoonihaaDoorTB1
import Derived.Test.YtgadcggeoonihaaDoorJT
import Derived.Laws.Concat
import Derived.Lib.SlBytesRow
import Derived.Deep.OwnRows
import Derived.Deep.QuietTactic
import Derived.WalkSpells
namespace Go.Proofs.YtgadcggeoonihaaDoor
open Go.RowKit
set_option maxRecDepth 100000
set_option linter.unusedVariables false

/-- The letters of the things below i. -/
def txT (x : Nat) : Nat → List UInt8
  | 0 => []
  | i + 1 => if x / 2 ^ i % 2 = 1 then txT x i ++ [UInt8.ofNat (97 + i)] else txT x i
theorem txT_t {x i : Nat} (h : x / 2 ^ i % 2 = 1) : txT x (i + 1) = txT x i ++ [UInt8.ofNat (97 + i)] := by rw [txT, if_pos h]
theorem txT_f {x i : Nat} (h : ¬ x / 2 ^ i % 2 = 1) : txT x (i + 1) = txT x i := by rw [txT, if_neg h]
theorem txT_len (x i : Nat) : (txT x i).length ≤ i := by
  induction i with
  | zero => exact Nat.le_refl _
  | succ i ih =>
    unfold txT
    split
    · rw [List.length_append]; simp; omega
    · omega
def txB (x i : Nat) : ByteArray := ⟨(txT x i).toArray⟩
theorem txB_size (x i : Nat) : (txB x i).size ≤ i := by
  have := txT_len x i
  show (txT x i).toArray.size ≤ i
  rw [List.size_toArray]
  exact this
theorem txB_t {x i : Nat} (h : x / 2 ^ i % 2 = 1) : txB x i ++ ⟨#[UInt8.ofNat (97 + i)]⟩ = txB x (i + 1) := by
  unfold txB
  rw [txT_t h]
  simp [ByteArray.mk_append_mk]
theorem txB_f {x i : Nat} (h : ¬ x / 2 ^ i % 2 = 1) : txB x (i + 1) = txB x i := by unfold txB; rw [txT_f h]
/-- The text of a set of things. -/
def txV (x : Nat) : ByteArray := if x = 0 then ⟨#[45]⟩ else txB x 8
theorem i8 {j : Nat} (h : j < 8) : j = 0 ∨ j = 1 ∨ j = 2 ∨ j = 3 ∨ j = 4 ∨ j = 5 ∨ j = 6 ∨ j = 7 := by omega
theorem l05Text_any (x : Nat) (w : World) (hx : x ≤ 65535) :
    Calls Tryd.prog 35 #[.int .u16 x] w fun e w' => e = .returned (.string (txV x)) ∧ Below w.heap.size w w' := by
  by_cases h0 : x = 0
  · subst h0
    go_enter Tryd.func35, Tryd.ntmps35
    go_wp2
    go_ret
    exact ⟨rfl, Below.refl _ _⟩
  have hz : ((x : Int) == 0) = false := by rw [beq_eq_false_iff_ne]; omega
  have HR := Lib.hid (show txV x = txB x 8 by unfold txV; rw [if_neg h0])
  go_enter Tryd.func35, Tryd.ntmps35
  go_wp2
  go_loopw [3, 4] (fun s i wr => ∃ j : Nat, s = .string (txB x j) ∧ i = .int .i64 j ∧ j ≤ 8 ∧ Below w.heap.size w wr) (fun _ i _ => 8 - (intOf i).toNat)
  case atStart => exact ⟨0, rfl, rfl, Nat.zero_le _, Below.refl _ _⟩
  case round =>
    obtain ⟨j, rfl, rfl, hj, hB⟩ := hrel
    by_cases hlt : j < 8
    case neg =>
      obtain rfl : j = 8 := by omega
      have HB := Lib.hid hB
      clear hB
      generalize txB x 8 = T at *
      go_wp2
      go_ret
      exact ⟨rets HR.out.symm, HB.out⟩
    have hsz := txB_size x j
    have HT := Lib.hid (fun h => txB_t (x := x) (i := j) h)
    have HF := Lib.hid (fun h => txB_f (x := x) (i := j) h)
    generalize hT : txB x j = T at *
    have HB := Lib.hid hB
    have hBs := hB.size
    clear hB hT
    by_cases hb : x / 2 ^ j % 2 = 1
    · have HN := Lib.hid (HT.out hb)
      clear HT HF HR
      rcases i8 hlt with rfl | rfl | rfl | rfl | rfl | rfl | rfl | rfl
      · simp at hb
        have hconv : (convert 68 9 (.slice (some ⟨wr.heap.size, 0, none⟩) 1 1)).run Tryd.prog (wr.alloc (.cells #[.int .u8 97] 5)) = .ok (.string ⟨#[97]⟩) (wr.alloc (.cells #[.int .u8 97] 5)) := conv_one wr 97
        have hq2 := fun W => run_string_add_sum (P := Tryd.prog) W T ⟨#[97]⟩ (by rw [show (⟨#[97]⟩ : ByteArray).size = 1 from rfl]; omega)
        have HB2 := Lib.hid (HB.out.alloc hBs (.cells #[.int .u8 97] 5))
        go_wp2
        exact ⟨⟨_, sv HN.out, rfl, by decide, HB2.out⟩, by simp [intOf]⟩
      · simp at hb
        have hconv : (convert 68 9 (.slice (some ⟨wr.heap.size, 0, none⟩) 1 1)).run Tryd.prog (wr.alloc (.cells #[.int .u8 98] 5)) = .ok (.string ⟨#[98]⟩) (wr.alloc (.cells #[.int .u8 98] 5)) := conv_one wr 98
        have hq2 := fun W => run_string_add_sum (P := Tryd.prog) W T ⟨#[98]⟩ (by rw [show (⟨#[98]⟩ : ByteArray).size = 1 from rfl]; omega)
        have HB2 := Lib.hid (HB.out.alloc hBs (.cells #[.int .u8 98] 5))
        go_wp2
        exact ⟨⟨_, sv HN.out, rfl, by decide, HB2.out⟩, by simp [intOf]⟩
      · simp at hb
        have hconv : (convert 68 9 (.slice (some ⟨wr.heap.size, 0, none⟩) 1 1)).run Tryd.prog (wr.alloc (.cells #[.int .u8 99] 5)) = .ok (.string ⟨#[99]⟩) (wr.alloc (.cells #[.int .u8 99] 5)) := conv_one wr 99
        have hq2 := fun W => run_string_add_sum (P := Tryd.prog) W T ⟨#[99]⟩ (by rw [show (⟨#[99]⟩ : ByteArray).size = 1 from rfl]; omega)
        have HB2 := Lib.hid (HB.out.alloc hBs (.cells #[.int .u8 99] 5))
        go_wp2
        exact ⟨⟨_, sv HN.out, rfl, by decide, HB2.out⟩, by simp [intOf]⟩
      · simp at hb
        have hconv : (convert 68 9 (.slice (some ⟨wr.heap.size, 0, none⟩) 1 1)).run Tryd.prog (wr.alloc (.cells #[.int .u8 100] 5)) = .ok (.string ⟨#[100]⟩) (wr.alloc (.cells #[.int .u8 100] 5)) := conv_one wr 100
        have hq2 := fun W => run_string_add_sum (P := Tryd.prog) W T ⟨#[100]⟩ (by rw [show (⟨#[100]⟩ : ByteArray).size = 1 from rfl]; omega)
        have HB2 := Lib.hid (HB.out.alloc hBs (.cells #[.int .u8 100] 5))
        go_wp2
        exact ⟨⟨_, sv HN.out, rfl, by decide, HB2.out⟩, by simp [intOf]⟩
      · simp at hb
        have hconv : (convert 68 9 (.slice (some ⟨wr.heap.size, 0, none⟩) 1 1)).run Tryd.prog (wr.alloc (.cells #[.int .u8 101] 5)) = .ok (.string ⟨#[101]⟩) (wr.alloc (.cells #[.int .u8 101] 5)) := conv_one wr 101
        have hq2 := fun W => run_string_add_sum (P := Tryd.prog) W T ⟨#[101]⟩ (by rw [show (⟨#[101]⟩ : ByteArray).size = 1 from rfl]; omega)
        have HB2 := Lib.hid (HB.out.alloc hBs (.cells #[.int .u8 101] 5))
        go_wp2
        exact ⟨⟨_, sv HN.out, rfl, by decide, HB2.out⟩, by simp [intOf]⟩
      · simp at hb
        have hconv : (convert 68 9 (.slice (some ⟨wr.heap.size, 0, none⟩) 1 1)).run Tryd.prog (wr.alloc (.cells #[.int .u8 102] 5)) = .ok (.string ⟨#[102]⟩) (wr.alloc (.cells #[.int .u8 102] 5)) := conv_one wr 102
        have hq2 := fun W => run_string_add_sum (P := Tryd.prog) W T ⟨#[102]⟩ (by rw [show (⟨#[102]⟩ : ByteArray).size = 1 from rfl]; omega)
        have HB2 := Lib.hid (HB.out.alloc hBs (.cells #[.int .u8 102] 5))
        go_wp2
        exact ⟨⟨_, sv HN.out, rfl, by decide, HB2.out⟩, by simp [intOf]⟩
      · simp at hb
        have hconv : (convert 68 9 (.slice (some ⟨wr.heap.size, 0, none⟩) 1 1)).run Tryd.prog (wr.alloc (.cells #[.int .u8 103] 5)) = .ok (.string ⟨#[103]⟩) (wr.alloc (.cells #[.int .u8 103] 5)) := conv_one wr 103
        have hq2 := fun W => run_string_add_sum (P := Tryd.prog) W T ⟨#[103]⟩ (by rw [show (⟨#[103]⟩ : ByteArray).size = 1 from rfl]; omega)
        have HB2 := Lib.hid (HB.out.alloc hBs (.cells #[.int .u8 103] 5))
        go_wp2
        exact ⟨⟨_, sv HN.out, rfl, by decide, HB2.out⟩, by simp [intOf]⟩
      · simp at hb
        have hconv : (convert 68 9 (.slice (some ⟨wr.heap.size, 0, none⟩) 1 1)).run Tryd.prog (wr.alloc (.cells #[.int .u8 104] 5)) = .ok (.string ⟨#[104]⟩) (wr.alloc (.cells #[.int .u8 104] 5)) := conv_one wr 104
        have hq2 := fun W => run_string_add_sum (P := Tryd.prog) W T ⟨#[104]⟩ (by rw [show (⟨#[104]⟩ : ByteArray).size = 1 from rfl]; omega)
        have HB2 := Lib.hid (HB.out.alloc hBs (.cells #[.int .u8 104] 5))
        go_wp2
        exact ⟨⟨_, sv HN.out, rfl, by decide, HB2.out⟩, by simp [intOf]⟩
    · have HN := Lib.hid (HF.out hb)
      clear HT HF HR
      rcases i8 hlt with rfl | rfl | rfl | rfl | rfl | rfl | rfl | rfl
      all_goals
        simp at hb
        go_wp2
        exact ⟨⟨_, sv HN.out.symm, rfl, by decide, HB.out⟩, by simp [intOf]⟩
end Go.Proofs.YtgadcggeoonihaaDoor
