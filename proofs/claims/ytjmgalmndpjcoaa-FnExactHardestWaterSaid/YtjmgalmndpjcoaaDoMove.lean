/-
  The walks of DoMove, in the program and in its model.
-/
import Derived.Test.YtjmgalmndpjcoaaMvSpec
import Derived.Test.YtjmgalmndpjcoaaMoved
namespace Go.Proofs.Ytjmgalmndpjcoaa
open Go.RowKit
set_option maxRecDepth 100000
set_option linter.unusedVariables false

theorem l02Move_any (p b off c : Nat) (J : List Int) (x y : Nat → Int) (t : Bool) (k f g : Int) (w : World) (hJ : OkJ J) (hy : OkX J y) (hkb : -128 ≤ k ∧ k ≤ 127) (hfb : -128 ≤ f ∧ f ≤ 127) (hgb : -128 ≤ g ∧ g ≤ 127) (hb : b < w.heap.size) (hc : At .i16 w b off J) (hp : Blk w p #[.slice (some ⟨b, off, none⟩) J.length c, .int .i16 (x 0), .int .i16 (x 1), .int .i16 (x 2), .int .i16 (x 3), .bool t] 32) :
    Calls Try.prog 59 #[.pointer (some ⟨p, 0, none⟩), watV y, movV k f g] w fun e w' => e = .returned (.tuple #[watV (movX J t y k f g), .int .i64 (movC J t y k f g)]) ∧ Below w.heap.size w w' := by
  unfold movX
  by_cases hm : OkM J.length k f g
  rotate_left
  · rw [movC_bad hm]
    by_cases h0 : 0 ≤ k ∧ k ≤ 2
    rotate_left
    · exact l02Move_nok p b off c J x y t k f g w hJ hkb hfb hgb hb hc hp h0
    by_cases h1 : 0 ≤ f ∧ f ≤ (J.length : Int) - 1
    rotate_left
    · exact l02Move_nof p b off c J x y t k f g w hJ hkb hfb hgb hb hc hp h0 h1
    by_cases h2 : 0 ≤ g ∧ g ≤ (J.length : Int) - 1
    rotate_left
    · exact l02Move_nog p b off c J x y t k f g w hJ hkb hfb hgb hb hc hp h0 h1 h2
    have hk : k ≠ 0 := fun e => hm ⟨h1, .inl ⟨e, h2⟩⟩
    have hg : g ≠ 0 := fun e => by
      rcases (show k = 1 ∨ k = 2 by omega) with h | h
      · exact hm ⟨h1, .inr (.inl ⟨h, e⟩)⟩
      · exact hm ⟨h1, .inr (.inr ⟨h, e⟩)⟩
    exact l02Move_noz p b off c J x y t k f g w hJ hkb hfb hgb hb hc hp h0 h1 h2 hk hg
  by_cases h2 : k ≠ 0 ∧ t = false
  · rw [movC_tap hm h2]
    exact l02Move_tap p b off c J x y t k f g w hJ hkb hfb hgb hb hc hp hm h2.1 h2.2
  by_cases hs : Same4 (nextX J y k f g) y
  · rw [movC_same hm hs]
    by_cases hself : k = 0 ∧ f = g
    · exact l02Move_self p b off c J x y t k f g w hJ hkb hfb hgb hb hc hp hm hself.1 hself.2
    obtain ⟨hf0, hm2⟩ := hm
    obtain ⟨fn, rfl⟩ : ∃ fn : Nat, f = fn := ⟨f.toNat, by omega⟩
    rcases hm2 with ⟨rfl, hg0⟩ | ⟨rfl, rfl⟩ | ⟨rfl, rfl⟩
    · obtain ⟨gn, rfl⟩ : ∃ gn : Nat, g = gn := ⟨g.toNat, by omega⟩
      exact l02Move_pour_same p b off c J x y t fn gn w hJ hy (by omega) (by omega) (fun e => hself ⟨rfl, by rw [e]⟩) hb hc hp (by simpa [nextX] using hs)
    · exact l02Move_fill_same p b off c J x y t fn w hJ (by omega) (by cases t <;> simp_all) hb hc hp (by simpa [nextX] using hs)
    · exact l02Move_empty_same p b off c J x y t fn w hJ (by omega) (by cases t <;> simp_all) hb hc hp (by simpa [nextX] using hs)
  · rw [movC_ok hm h2 hs]
    rw [if_pos rfl]
    have hself : ¬ (k = 0 ∧ f = g) := fun e => hs (by
      obtain ⟨rfl, rfl⟩ := e
      simp [nextX, pour_same, Same4])
    obtain ⟨hf0, hm2⟩ := hm
    obtain ⟨fn, rfl⟩ : ∃ fn : Nat, f = fn := ⟨f.toNat, by omega⟩
    rcases hm2 with ⟨rfl, hg0⟩ | ⟨rfl, rfl⟩ | ⟨rfl, rfl⟩
    · obtain ⟨gn, rfl⟩ : ∃ gn : Nat, g = gn := ⟨g.toNat, by omega⟩
      rw [show nextX J y 0 fn gn = pourX J y fn gn by simp [nextX]] at hs ⊢
      exact l02Move_pour_ok p b off c J x y t fn gn w hJ hy (by omega) (by omega) (fun e => hself ⟨rfl, by rw [e]⟩) hb hc hp hs
    · rw [show nextX J y 1 fn 0 = fillX J y fn by simp [nextX]] at hs ⊢
      exact l02Move_fill_ok p b off c J x y t fn w hJ (by omega) (by cases t <;> simp_all) hb hc hp hs
    · rw [show nextX J y 2 fn 0 = emptyX y fn by simp [nextX]] at hs ⊢
      exact l02Move_empty_ok p b off c J x y t fn w hJ (by omega) (by cases t <;> simp_all) hb hc hp hs
theorem okW2_ofd {J : List Int} {x y : Nat → Int} (h : okW2 J x y = true) : OkJ J ∧ OkX J y := by
  unfold okW2 at h
  rw [Bool.and_eq_true] at h
  exact ⟨okZ_J h.1, of_cb h.2⟩
noncomputable def dmC (J : List Int) (x y : Nat → Int) (t : Bool) (k f g : Int) : Int := if okW2 J x y = true then movC J t y k f g else 1
noncomputable def dmX (J : List Int) (x y : Nat → Int) (t : Bool) (k f g : Int) : Nat → Int := if okW2 J x y = true then movX J t y k f g else fun _ => 0
end Go.Proofs.Ytjmgalmndpjcoaa
