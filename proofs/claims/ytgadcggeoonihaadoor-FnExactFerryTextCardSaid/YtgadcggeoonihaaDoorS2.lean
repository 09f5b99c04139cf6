/-
  Sets as bits: what the operators of sets give.
-/
import Derived.Test.YtgadcggeoonihaaDoorS1
namespace Go.Proofs.YtgadcggeoonihaaDoor
open Go.RowKit
abbrev bv (x : Int) : BitVec 16 := BitVec.ofInt 16 x
theorem wrap_bv (b : BitVec 16) : IntKind.u16.wrap (b.toNat : Int) = (b.toNat : Int) := by
  have := b.isLt
  rw [IntKind.wrap_u16]; omega
theorem bits_andNot (x y : Int) : bits .andNot .u16 x y = ((bv x &&& ~~~bv y).toNat : Int) := wrap_bv _
theorem bits_and (x y : Int) : bits .and .u16 x y = ((bv x &&& bv y).toNat : Int) := wrap_bv _
theorem bits_xor (x y : Int) : bits .xor .u16 x y = ((bv x ^^^ bv y).toNat : Int) := wrap_bv _
theorem bv_toNat (b : BitVec 16) : bv (b.toNat : Int) = b := by
  apply BitVec.eq_of_toNat_eq
  have := b.isLt
  simp [bv]
theorem bv_num {x : Int} (h : 0 ≤ x ∧ x ≤ 65535) : ((bv x).toNat : Int) = x := by
  simp only [bv, BitVec.toNat_ofInt]; omega
theorem toNat_eq_zero (b : BitVec 16) : ((b.toNat : Int) = 0) ↔ b = 0 := by
  constructor
  · intro h; apply BitVec.eq_of_toNat_eq; simp; omega
  · rintro rfl; rfl
/-- What is behind the cover's complement. -/
theorem cover_eq (r t a : BitVec 16) (h : r &&& ~~~a = 0) : r &&& ~~~(a &&& ~~~t) = r &&& t := by
  apply BitVec.eq_of_getLsbD_eq
  intro i hi
  have := congrArg (fun b => b.getLsbD i) h
  simp [hi] at this ⊢
  cases h1 : r.getLsbD i <;> cases h2 : a.getLsbD i <;> cases h3 : t.getLsbD i <;> simp_all
theorem andNot_zero_trans (x y z : BitVec 16) (h : x &&& ~~~y = 0) (h2 : y &&& ~~~z = 0) : x &&& ~~~z = 0 := by
  apply BitVec.eq_of_getLsbD_eq
  intro i hi
  have e1 := congrArg (fun b => b.getLsbD i) h
  have e2 := congrArg (fun b => b.getLsbD i) h2
  simp [hi] at e1 e2 ⊢
  cases h1 : x.getLsbD i <;> cases h2 : y.getLsbD i <;> cases h3 : z.getLsbD i <;> simp_all
/-- What is on the other side, and what is none of the ferry. -/
theorem here_near (x n a : BitVec 16) (h : n &&& ~~~a = 0) : (x &&& ~~~n = 0) ↔ (x &&& ~~~a = 0 ∧ x &&& (a &&& ~~~n) = 0) := by
  constructor
  · intro e
    refine ⟨andNot_zero_trans x n a e h, ?_⟩
    apply BitVec.eq_of_getLsbD_eq
    intro i hi
    have e1 := congrArg (fun b => b.getLsbD i) h
    have e2 := congrArg (fun b => b.getLsbD i) e
    simp [hi] at e1 e2 ⊢
    cases h1 : x.getLsbD i <;> cases h2 : n.getLsbD i <;> cases h3 : a.getLsbD i <;> simp_all
  · rintro ⟨e, e'⟩
    apply BitVec.eq_of_getLsbD_eq
    intro i hi
    have e1 := congrArg (fun b => b.getLsbD i) h
    have e2 := congrArg (fun b => b.getLsbD i) e
    have e3 := congrArg (fun b => b.getLsbD i) e'
    simp [hi] at e1 e2 e3 ⊢
    cases h1 : x.getLsbD i <;> cases h2 : n.getLsbD i <;> cases h3 : a.getLsbD i <;> simp_all
theorem here_far (x n a : BitVec 16) (h : n &&& ~~~a = 0) : (x &&& ~~~(a &&& ~~~n) = 0) ↔ (x &&& ~~~a = 0 ∧ x &&& n = 0) := by
  constructor
  · intro e
    constructor
    all_goals
      apply BitVec.eq_of_getLsbD_eq
      intro i hi
      have e1 := congrArg (fun b => b.getLsbD i) h
      have e2 := congrArg (fun b => b.getLsbD i) e
      simp [hi] at e1 e2 ⊢
      cases h1 : x.getLsbD i <;> cases h2 : n.getLsbD i <;> cases h3 : a.getLsbD i <;> simp_all
  · rintro ⟨e, e'⟩
    apply BitVec.eq_of_getLsbD_eq
    intro i hi
    have e1 := congrArg (fun b => b.getLsbD i) h
    have e2 := congrArg (fun b => b.getLsbD i) e
    have e3 := congrArg (fun b => b.getLsbD i) e'
    simp [hi] at e1 e2 e3 ⊢
    cases h1 : x.getLsbD i <;> cases h2 : n.getLsbD i <;> cases h3 : a.getLsbD i <;> simp_all
end Go.Proofs.YtgadcggeoonihaaDoor
