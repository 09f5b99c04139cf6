/-
  ThingsText, the program's and the model's.
-/
import Derived.Test.YtgadcggeoonihaaDoorTB2F
namespace Go.Proofs.YtgadcggeoonihaaDoor
open Go.RowKit
set_option maxRecDepth 100000
set_option linter.unusedVariables false

def ttV (x : Int) : ByteArray := if x < 256 then txV x.toNat else ⟨#[]⟩
theorem bytes_snoc (l : List UInt8) (i : Nat) (hi : i < 8) : Lib.byteCells l ++ [.int .u8 ((97 + i : Nat) : Int)] = Lib.byteCells (l ++ [UInt8.ofNat (97 + i)]) := by
  rw [Lib.byteCells_append]
  congr 1
  rcases i8 hi with rfl | rfl | rfl | rfl | rfl | rfl | rfl | rfl <;> rfl
theorem thingsText_any (x : Nat) (w : World) (hx : x ≤ 65535) :
    Calls Tryd.prog 20 #[.int .u16 x] w fun e w' => e = .returned (.string (ttV x)) ∧ Below w.heap.size w w' := by
  by_cases h0 : x = 0
  · subst h0
    go_enter Tryd.func20, Tryd.ntmps20
    go_wp2
    go_ret
    exact ⟨rfl, Below.refl _ _⟩
  have hz : ((x : Int) == 0) = false := by rw [beq_eq_false_iff_ne]; omega
  by_cases h : x < 256
  case neg =>
    have HR := Lib.hid (show ttV x = ⟨#[]⟩ by unfold ttV; rw [if_neg (by omega)])
    have h1 : (256 : Int) ≤ x := by omega
    go_enter Tryd.func20, Tryd.ntmps20
    go_wp2
    go_ret
    exact ⟨rets HR.out.symm, Below.refl _ _⟩
  have h1 : ¬ (256 : Int) ≤ x := by omega
  have HR := Lib.hid (show ttV x = ⟨(txT x 8).toArray⟩ by unfold ttV txV; rw [if_pos (by omega), Int.toNat_natCast, if_neg h0]; rfl)
  have B0 : Lib.IsBuilder 70 5 w.heap.size w.heap.size (Lib.byteCells (txT x 0)) (w.alloc (.cells #[.pointer none, .slice none 0 0] 70)) :=
    .inl ⟨Nat.le_refl _, .slice none 0 0, blk_new w _ _, World.ownsRow_nil _ _ _ _, by simp [Value.ownBlock]⟩
  have hB0 := (Below.refl w.heap.size w).alloc (Nat.le_refl _) (.cells #[.pointer none, .slice none 0 0] 70)
  go_enter Tryd.func20, Tryd.ntmps20
  go_wp2
  go_loopw [9] (fun i wr => ∃ j : Nat, i = .int .i64 j ∧ j ≤ 8 ∧ Lib.IsBuilder 70 5 w.heap.size w.heap.size (Lib.byteCells (txT x j)) wr ∧ Below w.heap.size w wr) (fun i _ => 8 - (intOf i).toNat)
  case atStart => exact ⟨0, rfl, Nat.zero_le _, B0, hB0⟩
  case round =>
    clear B0 hB0
    obtain ⟨j, rfl, hj, hI, hB⟩ := hrel
    have HB := Lib.hid (And.intro hB hB.size)
    by_cases hlt : j < 8
    case neg =>
      obtain rfl : j = 8 := by omega
      have HS := Lib.hid (Tryd.Builder_String_any _ _ _ wr hI hB.size)
      clear hI hB
      go_wp2_with fail
      refine HS.out.mono ?_
      rintro e w2 ⟨rfl, hb⟩
      have HB2 := Lib.hid (HB.out.1.trans hb)
      clear hb
      go_wp2
      go_ret
      exact ⟨rets HR.out.symm, HB2.out⟩
    have HT := Lib.hid (fun h => txT_t (x := x) (i := j) h)
    have HF := Lib.hid (fun h => txT_f (x := x) (i := j) h)
    have hl := txT_len x j
    have HS := Lib.hid (fun c => written_any w.heap.size w.heap.size _ c wr hI (by rw [Lib.byteCells_length]; omega) hB.size)
    have HI := Lib.hid hI
    clear hI hB
    by_cases hb : x / 2 ^ j % 2 = 1
    · have HN := Lib.hid (HT.out hb)
      have HSN := Lib.hid (bytes_snoc (txT x j) j hlt)
      clear HT HF HR hl
      have hbi : bits .and .u16 ((x : Int) / 2 ^ j) 1 = 1 := by
        have h3 : ((x : Int) / 2 ^ j) = ((x / 2 ^ j : Nat) : Int) := by simp
        rw [h3]
        have h4 : x / 2 ^ j ≤ x := Nat.div_le_self _ _
        have h5 : bits .and .u16 ((x / 2 ^ j : Nat) : Int) 1 = ((x / 2 ^ j : Nat) : Int) % 2 := by
          generalize x / 2 ^ j = y at *
          go_bits2
        rw [h5]
        omega
      rcases i8 hlt with rfl | rfl | rfl | rfl | rfl | rfl | rfl | rfl
      all_goals
        simp at hb hbi
        go_wp2_with fail
        refine (HS.out _).mono ?_
        rintro e w2 ⟨rfl, hI2, hb2⟩
        have HI2 := Lib.hid hI2
        have HB2 := Lib.hid (HB.out.1.trans hb2)
        clear hI2 hb2
        go_wp2
        exact ⟨⟨_, rfl, by decide, by rw [HN.out, ← HSN.out]; exact .inr HI2.out, HB2.out⟩, by simp [intOf]⟩
    · have HN := Lib.hid (HF.out hb)
      clear HT HF HR hl
      have hbi : bits .and .u16 ((x : Int) / 2 ^ j) 1 = 0 := by
        have h3 : ((x : Int) / 2 ^ j) = ((x / 2 ^ j : Nat) : Int) := by simp
        rw [h3]
        have h4 : x / 2 ^ j ≤ x := Nat.div_le_self _ _
        have h5 : bits .and .u16 ((x / 2 ^ j : Nat) : Int) 1 = ((x / 2 ^ j : Nat) : Int) % 2 := by
          generalize x / 2 ^ j = y at *
          go_bits2
        rw [h5]
        omega
      rcases i8 hlt with rfl | rfl | rfl | rfl | rfl | rfl | rfl | rfl
      all_goals
        simp at hb hbi
        go_wp2
        exact ⟨⟨_, rfl, by decide, by rw [HN.out]; exact HI.out, HB.out.1⟩, by simp [intOf]⟩
end Go.Proofs.YtgadcggeoonihaaDoor
