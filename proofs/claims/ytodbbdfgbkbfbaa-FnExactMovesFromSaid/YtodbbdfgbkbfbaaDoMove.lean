/-
  The walks of DoMove, in the program and in its model.
-/
import Derived.Test.YtodbbdfgbkbfbaaMvSpec
import Derived.Test.YtodbbdfgbkbfbaaMoved
namespace Go.Proofs.Ytodbbdfgbkbfbaa
open Go.RowKit
set_option maxRecDepth 100000
set_option linter.unusedVariables false

theorem l02Move_any (p b off c : Nat) (J : List Int) (x y : Nat → Int) (t : Bool) (k f g : Int) (w : World) (hJ : OkJ J) (hy : OkX J y) (hkb : -128 ≤ k ∧ k ≤ 127) (hfb : -128 ≤ f ∧ f ≤ 127) (hgb : -128 ≤ g ∧ g ≤ 127) (hb : b < w.heap.size) (hc : At .i16 w b off J) (hp : Blk w p #[.slice (some ⟨b, off, none⟩) J.length c, .int .i16 (x 0), .int .i16 (x 1), .int .i16 (x 2), .int .i16 (x 3), .bool t] 35) :
    Calls Try.prog 27 #[.pointer (some ⟨p, 0, none⟩), watV y, movV k f g] w fun e w' => e = .returned (.tuple #[watV (movX J t y k f g), .int .i64 (movC J t y k f g)]) ∧ Below w.heap.size w w' := by
  unfold movX
  by_cases hm : OkM J.length k f g
  rotate_left
  · rw [movC_bad hm]
    by_cases h0 : 0 ≤ k ∧ k ≤ 2
    rotate_left
    · exact l02Move_nok p b off c J x y t k f g w hJ hkb hfb hgb hb hc hp h0
    by_cases h1 : 0 ≤ f ∧ f ≤ (J.length : Int) - 1
    rotate_left
    · exact l02Move_nof p b off c J x y t k f g w hJ hkb hfb hgb hb hc hp h0 h1
    by_cases h2 : 0 ≤ g ∧ g ≤ (J.length : Int) - 1
    rotate_left
    · exact l02Move_nog p b off c J x y t k f g w hJ hkb hfb hgb hb hc hp h0 h1 h2
    have hk : k ≠ 0 := fun e => hm ⟨h1, .inl ⟨e, h2⟩⟩
    have hg : g ≠ 0 := fun e => by
      rcases (show k = 1 ∨ k = 2 by omega) with h | h
      · exact hm ⟨h1, .inr (.inl ⟨h, e⟩)⟩
      · exact hm ⟨h1, .inr (.inr ⟨h, e⟩)⟩
    exact l02Move_noz p b off c J x y t k f g w hJ hkb hfb hgb hb hc hp h0 h1 h2 hk hg
  by_cases h2 : k ≠ 0 ∧ t = false
  · rw [movC_tap hm h2]
    exact l02Move_tap p b off c J x y t k f g w hJ hkb hfb hgb hb hc hp hm h2.1 h2.2
  by_cases hs : Same4 (nextX J y k f g) y
  · rw [movC_same hm hs]
    by_cases hself : k = 0 ∧ f = g
    · exact l02Move_self p b off c J x y t k f g w hJ hkb hfb hgb hb hc hp hm hself.1 hself.2
    obtain ⟨hf0, hm2⟩ := hm
    obtain ⟨fn, rfl⟩ : ∃ fn : Nat, f = fn := ⟨f.toNat, by omega⟩
    rcases hm2 with ⟨rfl, hg0⟩ | ⟨rfl, rfl⟩ | ⟨rfl, rfl⟩
    · obtain ⟨gn, rfl⟩ : ∃ gn : Nat, g = gn := ⟨g.toNat, by omega⟩
      exact l02Move_pour_same p b off c J x y t fn gn w hJ hy (by omega) (by omega) (fun e => hself ⟨rfl, by rw [e]⟩) hb hc hp (by simpa [nextX] using hs)
    · exact l02Move_fill_same p b off c J x y t fn w hJ (by omega) (by cases t <;> simp_all) hb hc hp (by simpa [nextX] using hs)
    · exact l02Move_empty_same p b off c J x y t fn w hJ (by omega) (by cases t <;> simp_all) hb hc hp (by simpa [nextX] using hs)
  · rw [movC_ok hm h2 hs]
    rw [if_pos rfl]
    have hself : ¬ (k = 0 ∧ f = g) := fun e => hs (by
      obtain ⟨rfl, rfl⟩ := e
      simp [nextX, pour_same, Same4])
    obtain ⟨hf0, hm2⟩ := hm
    obtain ⟨fn, rfl⟩ : ∃ fn : Nat, f = fn := ⟨f.toNat, by omega⟩
    rcases hm2 with ⟨rfl, hg0⟩ | ⟨rfl, rfl⟩ | ⟨rfl, rfl⟩
    · obtain ⟨gn, rfl⟩ : ∃ gn : Nat, g = gn := ⟨g.toNat, by omega⟩
      rw [show nextX J y 0 fn gn = pourX J y fn gn by simp [nextX]] at hs ⊢
      exact l02Move_pour_ok p b off c J x y t fn gn w hJ hy (by omega) (by omega) (fun e => hself ⟨rfl, by rw [e]⟩) hb hc hp hs
    · rw [show nextX J y 1 fn 0 = fillX J y fn by simp [nextX]] at hs ⊢
      exact l02Move_fill_ok p b off c J x y t fn w hJ (by omega) (by cases t <;> simp_all) hb hc hp hs
    · rw [show nextX J y 2 fn 0 = emptyX y fn by simp [nextX]] at hs ⊢
      exact l02Move_empty_ok p b off c J x y t fn w hJ (by omega) (by cases t <;> simp_all) hb hc hp hs
theorem okW2_ofd {J : List Int} {x y : Nat → Int} (h : okW2 J x y = true) : OkJ J ∧ OkX J y := by
  unfold okW2 at h
  rw [Bool.and_eq_true] at h
  exact ⟨okZ_J h.1, of_cb h.2⟩
noncomputable def dmC (J : List Int) (x y : Nat → Int) (t : Bool) (k f g : Int) : Int := if okW2 J x y = true then movC J t y k f g else 1
noncomputable def dmX (J : List Int) (x y : Nat → Int) (t : Bool) (k f g : Int) : Nat → Int := if okW2 J x y = true then movX J t y k f g else fun _ => 0
theorem doMove_any (b off c : Nat) (J : List Int) (x y : Nat → Int) (t : Bool) (k f g : Int) (w : World) (hn : J.length ≤ 1048576) (hb : b < w.heap.size) (hc : At .i16 w b off J) (hi : I16 J) (hfb : -128 ≤ f ∧ f ≤ 127) (hgb : -128 ≤ g ∧ g ≤ 127) :
    Calls Try.prog 11 #[puzV (some ⟨b, off, none⟩) J.length c x t, watV y, movV k f g] w fun e w' => e = .returned (.tuple #[watV (dmX J x y t k f g), .int .i64 (dmC J x y t k f g)]) ∧ Below w.heap.size w w' := by
  have k0 := (((blk_new w #[.slice (some ⟨b, off, none⟩) J.length c, .int .i16 (x 0), .int .i16 (x 1), .int .i16 (x 2), .int .i16 (x 3), .bool t] 35).alloc (.cells #[.int .i16 (y 0), .int .i16 (y 1), .int .i16 (y 2), .int .i16 (y 3)] 31)).alloc (.cells #[.int .i8 k, .int .i8 f, .int .i8 g] 38)).alloc (.cells #[.int .i16 0, .int .i16 0, .int .i16 0, .int .i16 0] 31)
  have k1 := ((blk_new (w.alloc (.cells #[.slice (some ⟨b, off, none⟩) J.length c, .int .i16 (x 0), .int .i16 (x 1), .int .i16 (x 2), .int .i16 (x 3), .bool t] 35)) #[.int .i16 (y 0), .int .i16 (y 1), .int .i16 (y 2), .int .i16 (y 3)] 31).alloc (.cells #[.int .i8 k, .int .i8 f, .int .i8 g] 38)).alloc (.cells #[.int .i16 0, .int .i16 0, .int .i16 0, .int .i16 0] 31)
  have k2 := (blk_new ((w.alloc (.cells #[.slice (some ⟨b, off, none⟩) J.length c, .int .i16 (x 0), .int .i16 (x 1), .int .i16 (x 2), .int .i16 (x 3), .bool t] 35)).alloc (.cells #[.int .i16 (y 0), .int .i16 (y 1), .int .i16 (y 2), .int .i16 (y 3)] 31)) #[.int .i8 k, .int .i8 f, .int .i8 g] 38).alloc (.cells #[.int .i16 0, .int .i16 0, .int .i16 0, .int .i16 0] 31)
  have k3 := blk_new (((w.alloc (.cells #[.slice (some ⟨b, off, none⟩) J.length c, .int .i16 (x 0), .int .i16 (x 1), .int .i16 (x 2), .int .i16 (x 3), .bool t] 35)).alloc (.cells #[.int .i16 (y 0), .int .i16 (y 1), .int .i16 (y 2), .int .i16 (y 3)] 31)).alloc (.cells #[.int .i8 k, .int .i8 f, .int .i8 g] 38)) #[.int .i16 0, .int .i16 0, .int .i16 0, .int .i16 0] 31
  have hB := ((((Below.refl w.heap.size w).alloc (Nat.le_refl _) (.cells #[.slice (some ⟨b, off, none⟩) J.length c, .int .i16 (x 0), .int .i16 (x 1), .int .i16 (x 2), .int .i16 (x 3), .bool t] 35)).alloc (by simp) (.cells #[.int .i16 (y 0), .int .i16 (y 1), .int .i16 (y 2), .int .i16 (y 3)] 31)).alloc (by simp <;> omega) (.cells #[.int .i8 k, .int .i8 f, .int .i8 g] 38)).alloc (by simp <;> omega) (.cells #[.int .i16 0, .int .i16 0, .int .i16 0, .int .i16 0] 31)
  have hsz : w.heap.size + 4 = ((((w.alloc (.cells #[.slice (some ⟨b, off, none⟩) J.length c, .int .i16 (x 0), .int .i16 (x 1), .int .i16 (x 2), .int .i16 (x 3), .bool t] 35)).alloc (.cells #[.int .i16 (y 0), .int .i16 (y 1), .int .i16 (y 2), .int .i16 (y 3)] 31)).alloc (.cells #[.int .i8 k, .int .i8 f, .int .i8 g] 38)).alloc (.cells #[.int .i16 0, .int .i16 0, .int .i16 0, .int .i16 0] 31)).heap.size := by simp
  simp only [World.size_alloc] at k1 k2 k3
  have hc1 := hc.below hB hb
  have hb1 := Nat.lt_of_lt_of_le hb hB.size
  clear hc
  have HV := Lib.hid (fun W (h1 : b < W.heap.size) (h2 : At .i16 W b off J) => validWater_any b off c J x y t W hn h1 h2 hi)
  unfold dmC dmX
  cases hok : okW2 J x y
  · rw [hok] at HV
    clear hok
    simp only [Bool.false_eq_true, if_false]
    obtain ⟨c0, c1, c2, c3, c4, c5, -⟩ := k0.six
    obtain ⟨d0, d1, d2, d3, -⟩ := k1.four
    obtain ⟨r0, r1, r2, -⟩ := k2.three
    obtain ⟨z0, z1, z2, z3, z4⟩ := k3.four
    go_enter Try.func11, Try.ntmps11
    go_wp2_with fail
    refine (HV.out _ hb1 hc1).mono ?_
    rintro e w2 ⟨rfl, hb2⟩
    have HB2 := Lib.hid (hB.trans (hb2.mono hB.size))
    replace k0 := k0.below hb2 k0.lt
    replace k1 := k1.below hb2 k1.lt
    replace k2 := k2.below hb2 k2.lt
    replace k3 := k3.below hb2 k3.lt
    replace hc1 := hc1.below hb2 hb1
    replace hb1 := Nat.lt_of_lt_of_le hb1 (hb2).size
    clear c0 c1 c2 c3 c4 c5 d0 d1 d2 d3 r0 r1 r2 z0 z1 z2 z3 z4
    obtain ⟨c0, c1, c2, c3, c4, c5, -⟩ := k0.six
    obtain ⟨d0, d1, d2, d3, -⟩ := k1.four
    obtain ⟨r0, r1, r2, -⟩ := k2.three
    obtain ⟨z0, z1, z2, z3, z4⟩ := k3.four
    clear hb2 hB hb1 hc1
    go_wp2
    refine bodyPost_ret (v := .tuple #[watV (fun _ => 0), .int .i64 1]) (by simp [results, Try.results11, go_sem, z0, z1, z2, z3]) rfl ⟨rfl, ?_⟩
    have hle : w.heap.size ≤ w.heap.size + 1 + 1 + 1 := by omega
    first
      | exact ((((HB2.out.setCell hle _).setCell hle _).setCell hle _).setCell hle _)
      | exact HB2.out
  · rw [hok] at HV
    obtain ⟨hJ, hy⟩ := okW2_ofd hok
    clear hok
    simp only [if_true]
    have HM := Lib.hid (fun W (h1 : b < W.heap.size) (h2 : At .i16 W b off J) => moved_any b off c J x y t k f g W hJ hy hfb hgb h1 h2)
    have HE := Lib.hid (show movX J t y k f g = movX J t y k f g from rfl)
    generalize movC J t y k f g = C at *
    generalize movX J t y k f g = E at *
    clear hJ hy
    obtain ⟨c0, c1, c2, c3, c4, c5, -⟩ := k0.six
    obtain ⟨d0, d1, d2, d3, -⟩ := k1.four
    obtain ⟨r0, r1, r2, -⟩ := k2.three
    obtain ⟨z0, z1, z2, z3, z4⟩ := k3.four
    go_enter Try.func11, Try.ntmps11
    go_wp2_with fail
    refine (HV.out _ hb1 hc1).mono ?_
    rintro e w2 ⟨rfl, hb2⟩
    have HB2 := Lib.hid (hB.trans (hb2.mono hB.size))
    replace k0 := k0.below hb2 k0.lt
    replace k1 := k1.below hb2 k1.lt
    replace k2 := k2.below hb2 k2.lt
    replace k3 := k3.below hb2 k3.lt
    replace hc1 := hc1.below hb2 hb1
    replace hb1 := Nat.lt_of_lt_of_le hb1 (hb2).size
    clear c0 c1 c2 c3 c4 c5 d0 d1 d2 d3 r0 r1 r2 z0 z1 z2 z3 z4
    obtain ⟨c0, c1, c2, c3, c4, c5, -⟩ := k0.six
    obtain ⟨d0, d1, d2, d3, -⟩ := k1.four
    obtain ⟨r0, r1, r2, -⟩ := k2.three
    obtain ⟨z0, z1, z2, z3, z4⟩ := k3.four
    clear hb2 hB
    go_wp2_with fail
    refine (HM.out _ hb1 hc1).mono ?_
    rintro e w3 ⟨rfl, hb2⟩
    have HB3 := Lib.hid (HB2.out.trans (hb2.mono HB2.out.size))
    replace k0 := k0.below hb2 k0.lt
    replace k1 := k1.below hb2 k1.lt
    replace k2 := k2.below hb2 k2.lt
    replace k3 := k3.below hb2 k3.lt
    replace hc1 := hc1.below hb2 hb1
    replace hb1 := Nat.lt_of_lt_of_le hb1 (hb2).size
    clear c0 c1 c2 c3 c4 c5 d0 d1 d2 d3 r0 r1 r2 z0 z1 z2 z3 z4
    obtain ⟨c0, c1, c2, c3, c4, c5, -⟩ := k0.six
    obtain ⟨d0, d1, d2, d3, -⟩ := k1.four
    obtain ⟨r0, r1, r2, -⟩ := k2.three
    obtain ⟨z0, z1, z2, z3, z4⟩ := k3.four
    clear hb2
    go_wp2
    refine bodyPost_ret (v := .tuple #[watV (E), .int .i64 C]) (by simp [results, Try.results11, go_sem, z0, z1, z2, z3]) rfl ⟨rfl, ?_⟩
    have hle : w.heap.size ≤ w.heap.size + 1 + 1 + 1 := by omega
    first
      | exact ((((HB3.out.setCell hle _).setCell hle _).setCell hle _).setCell hle _)
      | exact HB3.out
theorem specDoMove_any (b off c : Nat) (J : List Int) (x y : Nat → Int) (t : Bool) (k f g : Int) (w : World) (hn : J.length ≤ 1048576) (hb : b < w.heap.size) (hc : At .i16 w b off J) (hkb : -128 ≤ k ∧ k ≤ 127) (hfb : -128 ≤ f ∧ f ≤ 127) (hgb : -128 ≤ g ∧ g ≤ 127) :
    Calls Try.prog 7 #[puzV (some ⟨b, off, none⟩) J.length c x t, watV y, movV k f g] w fun e w' => e = .returned (.tuple #[watV (dmX J x y t k f g), .int .i64 (dmC J x y t k f g)]) ∧ Below w.heap.size w w' := by
  have k0 := (((blk_new w #[.slice (some ⟨b, off, none⟩) J.length c, .int .i16 (x 0), .int .i16 (x 1), .int .i16 (x 2), .int .i16 (x 3), .bool t] 35).alloc (.cells #[.int .i16 (y 0), .int .i16 (y 1), .int .i16 (y 2), .int .i16 (y 3)] 31)).alloc (.cells #[.int .i8 k, .int .i8 f, .int .i8 g] 38)).alloc (.cells #[.int .i16 0, .int .i16 0, .int .i16 0, .int .i16 0] 31)
  have k1 := ((blk_new (w.alloc (.cells #[.slice (some ⟨b, off, none⟩) J.length c, .int .i16 (x 0), .int .i16 (x 1), .int .i16 (x 2), .int .i16 (x 3), .bool t] 35)) #[.int .i16 (y 0), .int .i16 (y 1), .int .i16 (y 2), .int .i16 (y 3)] 31).alloc (.cells #[.int .i8 k, .int .i8 f, .int .i8 g] 38)).alloc (.cells #[.int .i16 0, .int .i16 0, .int .i16 0, .int .i16 0] 31)
  have k2 := (blk_new ((w.alloc (.cells #[.slice (some ⟨b, off, none⟩) J.length c, .int .i16 (x 0), .int .i16 (x 1), .int .i16 (x 2), .int .i16 (x 3), .bool t] 35)).alloc (.cells #[.int .i16 (y 0), .int .i16 (y 1), .int .i16 (y 2), .int .i16 (y 3)] 31)) #[.int .i8 k, .int .i8 f, .int .i8 g] 38).alloc (.cells #[.int .i16 0, .int .i16 0, .int .i16 0, .int .i16 0] 31)
  have k3 := blk_new (((w.alloc (.cells #[.slice (some ⟨b, off, none⟩) J.length c, .int .i16 (x 0), .int .i16 (x 1), .int .i16 (x 2), .int .i16 (x 3), .bool t] 35)).alloc (.cells #[.int .i16 (y 0), .int .i16 (y 1), .int .i16 (y 2), .int .i16 (y 3)] 31)).alloc (.cells #[.int .i8 k, .int .i8 f, .int .i8 g] 38)) #[.int .i16 0, .int .i16 0, .int .i16 0, .int .i16 0] 31
  have hB := ((((Below.refl w.heap.size w).alloc (Nat.le_refl _) (.cells #[.slice (some ⟨b, off, none⟩) J.length c, .int .i16 (x 0), .int .i16 (x 1), .int .i16 (x 2), .int .i16 (x 3), .bool t] 35)).alloc (by simp) (.cells #[.int .i16 (y 0), .int .i16 (y 1), .int .i16 (y 2), .int .i16 (y 3)] 31)).alloc (by simp <;> omega) (.cells #[.int .i8 k, .int .i8 f, .int .i8 g] 38)).alloc (by simp <;> omega) (.cells #[.int .i16 0, .int .i16 0, .int .i16 0, .int .i16 0] 31)
  have hsz : w.heap.size + 4 = ((((w.alloc (.cells #[.slice (some ⟨b, off, none⟩) J.length c, .int .i16 (x 0), .int .i16 (x 1), .int .i16 (x 2), .int .i16 (x 3), .bool t] 35)).alloc (.cells #[.int .i16 (y 0), .int .i16 (y 1), .int .i16 (y 2), .int .i16 (y 3)] 31)).alloc (.cells #[.int .i8 k, .int .i8 f, .int .i8 g] 38)).alloc (.cells #[.int .i16 0, .int .i16 0, .int .i16 0, .int .i16 0] 31)).heap.size := by simp
  simp only [World.size_alloc] at k1 k2 k3
  have hc1 := hc.below hB hb
  have hb1 := Nat.lt_of_lt_of_le hb hB.size
  clear hc
  have HO := Lib.hid (l02Ok_any w.heap.size b off c J x t _ hn hb1 hc1 k0)
  unfold dmC dmX okW2
  cases hok : okZ J x
  · rw [hok] at HO
    clear hok
    simp only [Bool.false_and, Bool.false_eq_true, if_false]
    go_enter Try.func7, Try.ntmps7
    go_wp2_with fail
    refine HO.out.mono ?_
    rintro e w2 ⟨rfl, hb2⟩
    have HB2 := Lib.hid (hB.trans (hb2.mono hB.size))
    clear HO
    replace k0 := k0.below hb2 k0.lt
    replace k1 := k1.below hb2 k1.lt
    replace k2 := k2.below hb2 k2.lt
    replace k3 := k3.below hb2 k3.lt
    replace hc1 := hc1.below hb2 hb1
    replace hb1 := Nat.lt_of_lt_of_le hb1 (hb2).size
    obtain ⟨c0, c1, c2, c3, c4, c5, -⟩ := k0.six
    obtain ⟨d0, d1, d2, d3, -⟩ := k1.four
    obtain ⟨r0, r1, r2, -⟩ := k2.three
    obtain ⟨z0, z1, z2, z3, z4⟩ := k3.four
    clear hb2 hB hb1 hc1
    go_wp2
    refine bodyPost_ret (v := .tuple #[watV (fun _ => 0), .int .i64 1]) (by simp [results, Try.results7, go_sem, z0, z1, z2, z3]) rfl ⟨rfl, ?_⟩
    have hle : w.heap.size ≤ w.heap.size + 1 + 1 + 1 := by omega
    first
      | exact ((((HB2.out.setCell hle _).setCell hle _).setCell hle _).setCell hle _)
      | exact HB2.out
  rw [hok] at HO
  simp only [Bool.true_and]
  have HW := Lib.hid (fun W (h1 : b < W.heap.size) (h2 : At .i16 W b off J) => l02Water_any b off c J y W h1 h2)
  cases hy0 : okX J y
  · rw [hy0] at HW
    clear hok hy0
    simp only [Bool.false_eq_true, if_false]
    go_enter Try.func7, Try.ntmps7
    go_wp2_with fail
    refine HO.out.mono ?_
    rintro e w2 ⟨rfl, hb2⟩
    have HB2 := Lib.hid (hB.trans (hb2.mono hB.size))
    clear HO
    replace k0 := k0.below hb2 k0.lt
    replace k1 := k1.below hb2 k1.lt
    replace k2 := k2.below hb2 k2.lt
    replace k3 := k3.below hb2 k3.lt
    replace hc1 := hc1.below hb2 hb1
    replace hb1 := Nat.lt_of_lt_of_le hb1 (hb2).size
    obtain ⟨c0, c1, c2, c3, c4, c5, -⟩ := k0.six
    obtain ⟨d0, d1, d2, d3, -⟩ := k1.four
    obtain ⟨r0, r1, r2, -⟩ := k2.three
    obtain ⟨z0, z1, z2, z3, z4⟩ := k3.four
    clear hb2 hB
    go_wp2_with fail
    refine (HW.out _ hb1 hc1).mono ?_
    rintro e w3 ⟨rfl, hb2⟩
    have HB3 := Lib.hid (HB2.out.trans (hb2.mono HB2.out.size))
    replace k0 := k0.below hb2 k0.lt
    replace k1 := k1.below hb2 k1.lt
    replace k2 := k2.below hb2 k2.lt
    replace k3 := k3.below hb2 k3.lt
    replace hc1 := hc1.below hb2 hb1
    replace hb1 := Nat.lt_of_lt_of_le hb1 (hb2).size
    clear c0 c1 c2 c3 c4 c5 d0 d1 d2 d3 r0 r1 r2 z0 z1 z2 z3 z4
    obtain ⟨c0, c1, c2, c3, c4, c5, -⟩ := k0.six
    obtain ⟨d0, d1, d2, d3, -⟩ := k1.four
    obtain ⟨r0, r1, r2, -⟩ := k2.three
    obtain ⟨z0, z1, z2, z3, z4⟩ := k3.four
    clear hb2 hb1 hc1
    go_wp2
    refine bodyPost_ret (v := .tuple #[watV (fun _ => 0), .int .i64 1]) (by simp [results, Try.results7, go_sem, z0, z1, z2, z3]) rfl ⟨rfl, ?_⟩
    have hle : w.heap.size ≤ w.heap.size + 1 + 1 + 1 := by omega
    first
      | exact ((((HB3.out.setCell hle _).setCell hle _).setCell hle _).setCell hle _)
      | exact HB3.out
  · obtain ⟨hJ, hy⟩ := okW2_ofd (show okW2 J x y = true by unfold okW2; rw [hok, hy0]; rfl)
    rw [hy0] at HW
    clear hok hy0
    simp only [if_true]
    have HM := Lib.hid (fun W (h1 : b < W.heap.size) (h2 : At .i16 W b off J) (h3 : Blk W w.heap.size #[.slice (some ⟨b, off, none⟩) J.length c, .int .i16 (x 0), .int .i16 (x 1), .int .i16 (x 2), .int .i16 (x 3), .bool t] 35) => l02Move_any w.heap.size b off c J x y t k f g W hJ hy hkb hfb hgb h1 h2 h3)
    generalize movC J t y k f g = C at *
    generalize movX J t y k f g = E at *
    clear hJ hy
    go_enter Try.func7, Try.ntmps7
    go_wp2_with fail
    refine HO.out.mono ?_
    rintro e w2 ⟨rfl, hb2⟩
    have HB2 := Lib.hid (hB.trans (hb2.mono hB.size))
    clear HO
    replace k0 := k0.below hb2 k0.lt
    replace k1 := k1.below hb2 k1.lt
    replace k2 := k2.below hb2 k2.lt
    replace k3 := k3.below hb2 k3.lt
    replace hc1 := hc1.below hb2 hb1
    replace hb1 := Nat.lt_of_lt_of_le hb1 (hb2).size
    obtain ⟨c0, c1, c2, c3, c4, c5, -⟩ := k0.six
    obtain ⟨d0, d1, d2, d3, -⟩ := k1.four
    obtain ⟨r0, r1, r2, -⟩ := k2.three
    obtain ⟨z0, z1, z2, z3, z4⟩ := k3.four
    clear hb2 hB
    go_wp2_with fail
    refine (HW.out _ hb1 hc1).mono ?_
    rintro e w3 ⟨rfl, hb2⟩
    have HB3 := Lib.hid (HB2.out.trans (hb2.mono HB2.out.size))
    replace k0 := k0.below hb2 k0.lt
    replace k1 := k1.below hb2 k1.lt
    replace k2 := k2.below hb2 k2.lt
    replace k3 := k3.below hb2 k3.lt
    replace hc1 := hc1.below hb2 hb1
    replace hb1 := Nat.lt_of_lt_of_le hb1 (hb2).size
    clear c0 c1 c2 c3 c4 c5 d0 d1 d2 d3 r0 r1 r2 z0 z1 z2 z3 z4
    obtain ⟨c0, c1, c2, c3, c4, c5, -⟩ := k0.six
    obtain ⟨d0, d1, d2, d3, -⟩ := k1.four
    obtain ⟨r0, r1, r2, -⟩ := k2.three
    obtain ⟨z0, z1, z2, z3, z4⟩ := k3.four
    clear hb2
    go_wp2_with fail
    refine (HM.out _ hb1 hc1 k0).mono ?_
    rintro e w4 ⟨rfl, hb2⟩
    have HB4 := Lib.hid (HB3.out.trans (hb2.mono HB3.out.size))
    replace k0 := k0.below hb2 k0.lt
    replace k1 := k1.below hb2 k1.lt
    replace k2 := k2.below hb2 k2.lt
    replace k3 := k3.below hb2 k3.lt
    replace hc1 := hc1.below hb2 hb1
    replace hb1 := Nat.lt_of_lt_of_le hb1 (hb2).size
    clear c0 c1 c2 c3 c4 c5 d0 d1 d2 d3 r0 r1 r2 z0 z1 z2 z3 z4
    obtain ⟨c0, c1, c2, c3, c4, c5, -⟩ := k0.six
    obtain ⟨d0, d1, d2, d3, -⟩ := k1.four
    obtain ⟨r0, r1, r2, -⟩ := k2.three
    obtain ⟨z0, z1, z2, z3, z4⟩ := k3.four
    clear hb2
    go_wp2
    refine bodyPost_ret (v := .tuple #[watV (E), .int .i64 C]) (by simp [results, Try.results7, go_sem, z0, z1, z2, z3]) rfl ⟨rfl, ?_⟩
    have hle : w.heap.size ≤ w.heap.size + 1 + 1 + 1 := by omega
    first
      | exact ((((HB4.out.setCell hle _).setCell hle _).setCell hle _).setCell hle _)
      | exact HB4.out
end Go.Proofs.Ytodbbdfgbkbfbaa
