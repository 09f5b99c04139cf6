/-
  The walks of RunsDown, in the program and in its model.
-/
import Derived.Test.YtmjkhkhjliadcaaDoorH4
namespace Go.Proofs.YtmjkhkhjliadcaaDoor
open Go.RowKit
set_option maxRecDepth 100000

/-- The greatest one of the first k tops, at least 0. -/
def m0To (x : Nat → Int) : Nat → Int
  | 0 => 0
  | k + 1 => if x k < m0To x k then m0To x k else x k
/-- The four tops as a list. -/
def topL (x : Nat → Int) : List Int := [x 0, x 1, x 2, x 3]
theorem topL_get (x : Nat → Int) {k : Nat} (hk : k < 4) : (topL x).getD k 0 = x k := by
  match k, hk with
  | 0, _ => rfl
  | 1, _ => rfl
  | 2, _ => rfl
  | 3, _ => rfl
theorem topL_i16 {x : Nat → Int} (h : W16 x) : I16 (topL x) := fun j => by
  by_cases hj : j < 4
  · rw [topL_get x hj]; exact h j hj
  · rw [getD_ge (by show 4 ≤ j; omega)]; omega
theorem m0To_ge (x : Nat → Int) (k : Nat) : 0 ≤ m0To x k ∧ ∀ j, j < k → x j ≤ m0To x k := by
  induction k with
  | zero => exact ⟨Int.le_refl _, fun j hj => absurd hj (by omega)⟩
  | succ k ih =>
    unfold m0To
    by_cases h : x k < m0To x k
    · rw [if_pos h]
      refine ⟨ih.1, fun j hj => ?_⟩
      by_cases e : j = k
      · subst e; omega
      · exact ih.2 j (by omega)
    · rw [if_neg h]
      refine ⟨by have := ih.1; omega, fun j hj => ?_⟩
      by_cases e : j = k
      · subst e; omega
      · have := ih.2 j (by omega); omega
theorem m0To_mem (x : Nat → Int) (k : Nat) : m0To x k = 0 ∨ ∃ j, j < k ∧ m0To x k = x j := by
  induction k with
  | zero => exact .inl rfl
  | succ k ih =>
    unfold m0To
    by_cases h : x k < m0To x k
    · rw [if_pos h]
      rcases ih with e | ⟨j, hj, e⟩
      · exact .inl e
      · exact .inr ⟨j, by omega, e⟩
    · rw [if_neg h]; exact .inr ⟨k, by omega, rfl⟩
/-- Of valid tops the greatest one. -/
theorem m0_max {J : List Int} {x : Nat → Int} (hl : J.length ≤ 4) (h : OkX J x) : m0To x J.length = mxTo (topL x) 3 := by
  obtain ⟨h0, h1⟩ := m0To_ge x J.length
  have h2 : ∀ j, j < 4 → x j ≤ mxTo (topL x) 3 := fun j hj => by have := mxTo_ge (topL x) 3 j (by omega); rwa [topL_get x hj] at this
  obtain ⟨j, hj, e⟩ := mxTo_mem (topL x) 3
  rw [topL_get x (by omega)] at e
  have h3 : x j ≤ m0To x J.length := by
    by_cases hjl : j < J.length
    · exact h1 j hjl
    · have := h j (by omega); rw [getD_ge (by omega)] at this; omega
  have h4 := (h 0 (by omega)).1
  have h5 := h2 0 (by omega)
  rcases m0To_mem x J.length with e2 | ⟨j2, hj2, e2⟩
  · omega
  · have := h2 j2 (by omega); omega
theorem m0To_bd {J : List Int} {x : Nat → Int} (hJ : Each J J.length) (h : OkX J x) (k : Nat) (hk : k ≤ 4) : 0 ≤ m0To x k ∧ m0To x k ≤ 60 := by
  refine ⟨(m0To_ge x k).1, ?_⟩
  rcases m0To_mem x k with e | ⟨j, hj, e⟩
  · omega
  · rw [e]; exact (h.w16 hJ j (by omega)).2
noncomputable def rdC (J : List Int) (x : Nat → Int) : Int := if okT J x = true then 0 else 1
noncomputable def rdV (J : List Int) (x : Nat → Int) : Int := if okT J x = true then mxTo (topL x) 3 else 0
theorem okT_G {J : List Int} {x : Nat → Int} (h : okT J x = true) : OkG J := by
  unfold okT at h
  exact of_okG (by cases h1 : okG J <;> simp_all)
theorem okT_X {J : List Int} {x : Nat → Int} (h : okT J x = true) : OkX J x := by
  unfold okT okX at h
  exact of_cb (by cases h1 : okG J <;> simp_all)
theorem greatest_any (x : Nat → Int) (w : World) (hx : W16 x) :
    Calls Tryd.prog 50 #[watV x] w fun e w' => e = .returned (.int .i16 (mxTo (topL x) 3)) ∧ Below w.heap.size w w' := by
  have k0 := blk_new w #[.int .i16 (x 0), .int .i16 (x 1), .int .i16 (x 2), .int .i16 (x 3)] 27
  have HB := Lib.hid ((Below.refl w.heap.size w).alloc (Nat.le_refl _) (.cells #[.int .i16 (x 0), .int .i16 (x 1), .int .i16 (x 2), .int .i16 (x 3)] 27))
  have hat : At .i16 (w.alloc (.cells #[.int .i16 (x 0), .int .i16 (x 1), .int .i16 (x 2), .int .i16 (x 3)] 27)) w.heap.size 0 (topL x) := fun j hj => by
    have hj4 : j < 4 := hj
    rw [Nat.zero_add, k0.wat hj4, topL_get x hj4]
  have HM := Lib.hid (maxI_any w.heap.size 0 4 (topL x) _ (by show 1 ≤ 4; omega) (by show 4 ≤ 1048576; omega) (topL_i16 hx) hat)
  clear hat k0
  go_enter Tryd.func50, Tryd.ntmps50
  go_wp2_with fail
  refine HM.out.mono ?_
  rintro e w' ⟨rfl, rfl⟩
  go_wp2
  go_ret
  exact ⟨rfl, HB.out⟩
end Go.Proofs.YtmjkhkhjliadcaaDoor
