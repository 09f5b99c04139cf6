/-
  Reading a set of things, the program's and the model's.
-/
import Derived.Test.YtlmmfcbdhmhekaaDoorTB3
import Derived.Test.YtlmmfcbdhmhekaaDoorS2
namespace Go.Proofs.YtlmmfcbdhmhekaaDoor
open Go.RowKit
set_option maxRecDepth 100000
set_option linter.unusedVariables false

def isL (u : UInt8) : Bool := decide (97 ≤ u.toNat ∧ u.toNat < 105)
def bt (s : ByteArray) (p : Nat) : UInt8 := s.data.toList.getD p 0
theorem bt_eq (s : ByteArray) (p : Nat) (h : p < s.size) : s[p] = bt s p := by
  unfold bt
  rw [List.getD_eq_getElem?_getD, List.getElem?_eq_getElem (by simpa using h)]
  rfl
/-- The things that the first p bytes name. -/
def rdT (s : ByteArray) : Nat → Nat
  | 0 => 0
  | p + 1 => if isL (bt s p) = true then rdT s p ||| 2 ^ ((bt s p).toNat - 97) else rdT s p
theorem rd_t {s : ByteArray} {p : Nat} (h : isL (bt s p) = true) : rdT s (p + 1) = rdT s p ||| 2 ^ ((bt s p).toNat - 97) := by rw [rdT, if_pos h]
theorem rd_f {s : ByteArray} {p : Nat} (h : isL (bt s p) = false) : rdT s (p + 1) = rdT s p := by rw [rdT, if_neg (by rw [h]; decide)]
theorem isL_t {u : UInt8} (h : isL u = true) : 97 ≤ u.toNat ∧ u.toNat < 105 := by unfold isL at h; exact of_decide_eq_true h
theorem isL_f {u : UInt8} (h : isL u = false) : ¬ (97 ≤ u.toNat ∧ u.toNat < 105) := by unfold isL at h; exact of_decide_eq_false h
theorem rd_lt (s : ByteArray) (p : Nat) : rdT s p < 256 := by
  induction p with
  | zero => exact Nat.zero_lt_succ _
  | succ p ih =>
    unfold rdT
    split
    · rename_i h
      have := isL_t h
      exact Nat.or_lt_two_pow (n := 8) ih (Nat.pow_lt_pow_right (by decide) (by omega))
    · exact ih
theorem txT_isL (x : Nat) {i : Nat} (hi : i ≤ 8) : ∀ b ∈ txT x i, isL b = true := by
  induction i with
  | zero => intro b h; cases h
  | succ i ih =>
    intro b h
    unfold txT at h
    split at h
    · rw [List.mem_append] at h
      rcases h with h | h
      · exact ih (by omega) b h
      · rw [List.mem_singleton] at h
        subst h
        rcases i8 (show i < 8 by omega) with rfl | rfl | rfl | rfl | rfl | rfl | rfl | rfl <;> decide
    · exact ih (by omega) b h
theorem tt_lt {x : Nat} (h : x < 256) : ttV x = txV x := by unfold ttV; rw [if_pos (by omega), Int.toNat_natCast]
theorem foreign_no {s : ByteArray} {p : Nat} (hp : p < s.size) (h : isL (bt s p) = false) (hd : s ≠ ⟨#[45]⟩) : ttV (rdT s s.size) ≠ s := by
  rw [tt_lt (rd_lt s s.size)]
  unfold txV
  split
  · exact fun e => hd e.symm
  · intro e
    have hm : bt s p ∈ s.data.toList := by
      unfold bt
      rw [List.getD_eq_getElem?_getD, List.getElem?_eq_getElem (by simpa using hp)]
      exact List.getElem_mem _
    generalize bt s p = u at *
    have e2 : s.data.toList = txT (rdT s s.size) 8 := by
      have := congrArg (fun (b : ByteArray) => b.data.toList) e
      simpa [txB] using this.symm
    rw [e2] at hm
    rw [txT_isL _ (Nat.le_refl _) _ hm] at h
    cases h
def okS (s : ByteArray) : Bool := ttV (rdT s s.size) == s
def rvV (s : ByteArray) : Int := if okS s = true then rdT s s.size else 0
def rvC (s : ByteArray) : Int := if okS s = true then 0 else 5
theorem okS_dash : okS ⟨#[45]⟩ = true := by decide
theorem okS_none : okS ⟨#[]⟩ = false := by decide
theorem rd_dash : rdT ⟨#[45]⟩ 1 = 0 := by decide
theorem or_nat {x y : Nat} (hx : x < 65536) (hy : y < 65536) : bits .or .u16 (x : Int) (y : Int) = ((x ||| y : Nat) : Int) := by
  have h : bits .or .u16 (x : Int) (y : Int) = ((bv x ||| bv y).toNat : Int) := wrap_bv _
  rw [h, BitVec.toNat_or]
  have h1 := bv_num (x := (x : Int)) (by omega)
  have h2 := bv_num (x := (y : Int)) (by omega)
  rw [show (bv (x : Int)).toNat = x by omega, show (bv (y : Int)).toNat = y by omega]
def ixL (u : UInt8) : Int := if isL u = true then (u.toNat : Int) - 97 else -1
theorem let8 {u : UInt8} (h : isL u = true) : u = 97 ∨ u = 98 ∨ u = 99 ∨ u = 100 ∨ u = 101 ∨ u = 102 ∨ u = 103 ∨ u = 104 := by
  have h1 := isL_t h
  have e : ∀ v : UInt8, u.toNat = v.toNat → u = v := fun v hv => UInt8.toNat_inj.1 hv
  have h2 : u.toNat = 97 ∨ u.toNat = 98 ∨ u.toNat = 99 ∨ u.toNat = 100 ∨ u.toNat = 101 ∨ u.toNat = 102 ∨ u.toNat = 103 ∨ u.toNat = 104 := by omega
  rcases h2 with h | h | h | h | h | h | h | h
  · exact .inl (e 97 h)
  · exact .inr (.inl (e 98 h))
  · exact .inr (.inr (.inl (e 99 h)))
  · exact .inr (.inr (.inr (.inl (e 100 h))))
  · exact .inr (.inr (.inr (.inr (.inl (e 101 h)))))
  · exact .inr (.inr (.inr (.inr (.inr (.inl (e 102 h))))))
  · exact .inr (.inr (.inr (.inr (.inr (.inr (.inl (e 103 h)))))))
  · exact .inr (.inr (.inr (.inr (.inr (.inr (.inr (e 104 h)))))))
theorem ix_val (u : UInt8) : Lib.indexByte (⟨#[97, 98, 99, 100, 101, 102, 103, 104]⟩ : ByteArray).data.toList u = ixL u := by
  cases h : isL u
  · have ne : ∀ v : UInt8, isL v = true → (v == u) = false := fun v hv => by
      rw [beq_eq_false_iff_ne]
      rintro rfl
      rw [hv] at h; cases h
    unfold ixL
    rw [h]
    simp [Lib.indexByte, ne 97 (by decide), ne 98 (by decide), ne 99 (by decide), ne 100 (by decide), ne 101 (by decide), ne 102 (by decide), ne 103 (by decide), ne 104 (by decide)]
  · rcases let8 h with rfl | rfl | rfl | rfl | rfl | rfl | rfl | rfl <;> decide
theorem index_any (u : UInt8) (W : World) : Calls Tryd.prog 17 #[.string ⟨#[97, 98, 99, 100, 101, 102, 103, 104]⟩, .int .u8 (u.toNat : Int)] W fun e w' => e = .returned (.int .i64 (ixL u)) ∧ W = w' := by
  have h := Tryd.strings_IndexByte ⟨#[97, 98, 99, 100, 101, 102, 103, 104]⟩ (u.toNat : Int) W
  rw [show ((u.toNat : Int)).toNat.toUInt8 = u by simp, ix_val] at h
  refine h.mono ?_
  rintro e w' ⟨rfl, rfl⟩
  exact ⟨rfl, rfl⟩
end Go.Proofs.YtlmmfcbdhmhekaaDoor
