/-
  The walks of RunsDown, in the program and in its model.
-/
import Derived.Test.YtfigoidpkihnnaaH4
namespace Go.Proofs.Ytfigoidpkihnnaa
open Go.RowKit
set_option maxRecDepth 100000

/-- The greatest one of the first k tops, at least 0. -/
def m0To (x : Nat → Int) : Nat → Int
  | 0 => 0
  | k + 1 => if x k < m0To x k then m0To x k else x k
/-- The four tops as a list. -/
def topL (x : Nat → Int) : List Int := [x 0, x 1, x 2, x 3]
theorem topL_get (x : Nat → Int) {k : Nat} (hk : k < 4) : (topL x).getD k 0 = x k := by
  match k, hk with
  | 0, _ => rfl
  | 1, _ => rfl
  | 2, _ => rfl
  | 3, _ => rfl
theorem topL_i16 {x : Nat → Int} (h : W16 x) : I16 (topL x) := fun j => by
  by_cases hj : j < 4
  · rw [topL_get x hj]; exact h j hj
  · rw [getD_ge (by show 4 ≤ j; omega)]; omega
theorem m0To_ge (x : Nat → Int) (k : Nat) : 0 ≤ m0To x k ∧ ∀ j, j < k → x j ≤ m0To x k := by
  induction k with
  | zero => exact ⟨Int.le_refl _, fun j hj => absurd hj (by omega)⟩
  | succ k ih =>
    unfold m0To
    by_cases h : x k < m0To x k
    · rw [if_pos h]
      refine ⟨ih.1, fun j hj => ?_⟩
      by_cases e : j = k
      · subst e; omega
      · exact ih.2 j (by omega)
    · rw [if_neg h]
      refine ⟨by have := ih.1; omega, fun j hj => ?_⟩
      by_cases e : j = k
      · subst e; omega
      · have := ih.2 j (by omega); omega
theorem m0To_mem (x : Nat → Int) (k : Nat) : m0To x k = 0 ∨ ∃ j, j < k ∧ m0To x k = x j := by
  induction k with
  | zero => exact .inl rfl
  | succ k ih =>
    unfold m0To
    by_cases h : x k < m0To x k
    · rw [if_pos h]
      rcases ih with e | ⟨j, hj, e⟩
      · exact .inl e
      · exact .inr ⟨j, by omega, e⟩
    · rw [if_neg h]; exact .inr ⟨k, by omega, rfl⟩
/-- Of valid tops the greatest one. -/
theorem m0_max {J : List Int} {x : Nat → Int} (hl : J.length ≤ 4) (h : OkX J x) : m0To x J.length = mxTo (topL x) 3 := by
  obtain ⟨h0, h1⟩ := m0To_ge x J.length
  have h2 : ∀ j, j < 4 → x j ≤ mxTo (topL x) 3 := fun j hj => by have := mxTo_ge (topL x) 3 j (by omega); rwa [topL_get x hj] at this
  obtain ⟨j, hj, e⟩ := mxTo_mem (topL x) 3
  rw [topL_get x (by omega)] at e
  have h3 : x j ≤ m0To x J.length := by
    by_cases hjl : j < J.length
    · exact h1 j hjl
    · have := h j (by omega); rw [getD_ge (by omega)] at this; omega
  have h4 := (h 0 (by omega)).1
  have h5 := h2 0 (by omega)
  rcases m0To_mem x J.length with e2 | ⟨j2, hj2, e2⟩
  · omega
  · have := h2 j2 (by omega); omega
theorem m0To_bd {J : List Int} {x : Nat → Int} (hJ : Each J J.length) (h : OkX J x) (k : Nat) (hk : k ≤ 4) : 0 ≤ m0To x k ∧ m0To x k ≤ 60 := by
  refine ⟨(m0To_ge x k).1, ?_⟩
  rcases m0To_mem x k with e | ⟨j, hj, e⟩
  · omega
  · rw [e]; exact (h.w16 hJ j (by omega)).2
noncomputable def rdC (J : List Int) (x : Nat → Int) : Int := if okT J x = true then 0 else 1
noncomputable def rdV (J : List Int) (x : Nat → Int) : Int := if okT J x = true then mxTo (topL x) 3 else 0
theorem okT_G {J : List Int} {x : Nat → Int} (h : okT J x = true) : OkG J := by
  unfold okT at h
  exact of_okG (by cases h1 : okG J <;> simp_all)
theorem okT_X {J : List Int} {x : Nat → Int} (h : okT J x = true) : OkX J x := by
  unfold okT okX at h
  exact of_cb (by cases h1 : okG J <;> simp_all)
theorem l00Max_any (a b : Int) (w : World) : Calls Try.prog 24 #[.int .i64 a, .int .i64 b] w fun e w' => e = .returned (.int .i64 (if b < a then a else b)) ∧ w = w' := by
  by_cases h : b < a
  · rw [if_pos h]
    go_enter Try.func24, Try.ntmps24
    go_wp2
    go_ret
    exact ⟨rfl, rfl⟩
  · rw [if_neg h]
    go_enter Try.func24, Try.ntmps24
    go_wp2
    go_ret
    exact ⟨rfl, rfl⟩
theorem greatest_any (x : Nat → Int) (w : World) (hx : W16 x) :
    Calls Try.prog 25 #[watV x] w fun e w' => e = .returned (.int .i16 (mxTo (topL x) 3)) ∧ Below w.heap.size w w' := by
  have k0 := blk_new w #[.int .i16 (x 0), .int .i16 (x 1), .int .i16 (x 2), .int .i16 (x 3)] 31
  have HB := Lib.hid ((Below.refl w.heap.size w).alloc (Nat.le_refl _) (.cells #[.int .i16 (x 0), .int .i16 (x 1), .int .i16 (x 2), .int .i16 (x 3)] 31))
  have hat : At .i16 (w.alloc (.cells #[.int .i16 (x 0), .int .i16 (x 1), .int .i16 (x 2), .int .i16 (x 3)] 31)) w.heap.size 0 (topL x) := fun j hj => by
    have hj4 : j < 4 := hj
    rw [Nat.zero_add, k0.wat hj4, topL_get x hj4]
  have HM := Lib.hid (maxI_any w.heap.size 0 4 (topL x) _ (by show 1 ≤ 4; omega) (by show 4 ≤ 1048576; omega) (topL_i16 hx) hat)
  clear hat k0
  go_enter Try.func25, Try.ntmps25
  go_wp2_with fail
  refine HM.out.mono ?_
  rintro e w' ⟨rfl, rfl⟩
  go_wp2
  go_ret
  exact ⟨rfl, HB.out⟩
theorem runsDown_any (b off c : Nat) (J : List Int) (x : Nat → Int) (w : World) (hn : J.length ≤ 1048576) (hb : b < w.heap.size) (hc : At .i16 w b off J) (hi : I16 J) (hx : W16 x) :
    Calls Try.prog 15 #[.slice (some ⟨b, off, none⟩) J.length c, watV x] w fun e w' => e = .returned (.tuple #[.int .i64 (rdV J x), .int .i64 (rdC J x)]) ∧ Below w.heap.size w w' := by
  have k0 := blk_new w #[.int .i16 (x 0), .int .i16 (x 1), .int .i16 (x 2), .int .i16 (x 3)] 31
  have hB := (Below.refl w.heap.size w).alloc (Nat.le_refl _) (.cells #[.int .i16 (x 0), .int .i16 (x 1), .int .i16 (x 2), .int .i16 (x 3)] 31)
  have HV := Lib.hid (validTops_any b off c J x _ hn (Nat.lt_of_lt_of_le hb hB.size) (hc.below hB hb) hi)
  have HK := Lib.hid k0
  have HB := Lib.hid hB
  obtain ⟨c0, c1, c2, c3, -⟩ := k0.four
  clear hB hc
  unfold rdV rdC
  cases hok : okT J x
  · rw [hok] at HV
    clear hok
    simp only [Bool.false_eq_true, if_false]
    go_enter Try.func15, Try.ntmps15
    go_wp2_with fail
    refine HV.out.mono ?_
    rintro e w2 ⟨rfl, hb2⟩
    have HB2 := Lib.hid (HB.out.trans (hb2.mono HB.out.size))
    clear hb2
    go_wp2
    go_ret2
    exact ⟨rfl, HB2.out⟩
  · rw [hok] at HV
    clear hok
    have hm := mxTo_bd (topL_i16 hx) 3
    have HG := Lib.hid (fun W => greatest_any x W hx)
    simp only [if_true]
    generalize mxTo (topL x) 3 = m at *
    go_enter Try.func15, Try.ntmps15
    go_wp2_with fail
    refine HV.out.mono ?_
    rintro e w2 ⟨rfl, hb2⟩
    have HB2 := Lib.hid (HB.out.trans (hb2.mono HB.out.size))
    have HK2 := Lib.hid (HK.out.below hb2 HK.out.lt)
    clear hb2 c0 c1 c2 c3
    obtain ⟨c0, c1, c2, c3, -⟩ := HK2.out.four
    go_wp2_with fail
    refine (HG.out _).mono ?_
    rintro e w3 ⟨rfl, hb3⟩
    have HB3 := Lib.hid (HB2.out.trans (hb3.mono HB2.out.size))
    clear hb3 c0 c1 c2 c3
    go_wp2
    go_ret2
    exact ⟨rfl, HB3.out⟩
theorem specRunsDown_any (b off c : Nat) (J : List Int) (x : Nat → Int) (w : World) (hn : J.length ≤ 1048576) (hb : b < w.heap.size) (hc : At .i16 w b off J) (hx : W16 x) :
    Calls Try.prog 14 #[.slice (some ⟨b, off, none⟩) J.length c, watV x] w fun e w' => e = .returned (.tuple #[.int .i64 (rdV J x), .int .i64 (rdC J x)]) ∧ Below w.heap.size w w' := by
  have k0 := blk_new w #[.int .i16 (x 0), .int .i16 (x 1), .int .i16 (x 2), .int .i16 (x 3)] 31
  have hB := (Below.refl w.heap.size w).alloc (Nat.le_refl _) (.cells #[.int .i16 (x 0), .int .i16 (x 1), .int .i16 (x 2), .int .i16 (x 3)] 31)
  have HV := Lib.hid (l07Ok_any b off c J x _ hn (Nat.lt_of_lt_of_le hb hB.size) (hc.below hB hb))
  have HK := Lib.hid k0
  have HB := Lib.hid hB
  obtain ⟨c0, c1, c2, c3, -⟩ := k0.four
  clear hB hc
  unfold rdV rdC
  cases hok : okT J x
  · rw [hok] at HV
    clear hok
    simp only [Bool.false_eq_true, if_false]
    go_enter Try.func14, Try.ntmps14
    go_wp2_with fail
    refine HV.out.mono ?_
    rintro e w2 ⟨rfl, hb2⟩
    have HB2 := Lib.hid (HB.out.trans (hb2.mono HB.out.size))
    clear hb2
    go_wp2
    go_ret2
    exact ⟨rfl, HB2.out⟩
  · rw [hok] at HV
    have HG := Lib.hid (okT_G hok)
    have HX := Lib.hid (okT_X hok)
    have hl4 := HG.out.1.2
    clear hok
    have HR := Lib.hid (m0_max hl4 HX.out)
    simp only [if_true]
    go_enter Try.func14, Try.ntmps14
    go_wp2_with fail
    refine HV.out.mono ?_
    rintro e w2 ⟨rfl, hb2⟩
    have HB2 := Lib.hid (HB.out.trans (hb2.mono HB.out.size))
    have HK2 := Lib.hid (HK.out.below hb2 HK.out.lt)
    clear hb2 c0 c1 c2 c3
    go_wp2
    go_loop [6, 7] (fun m i => ∃ k : Nat, k ≤ J.length ∧ i = .int .i64 k ∧ m = .int .i64 (m0To x k)) (fun _ i => J.length - (intOf i).toNat)
    case atStart => exact ⟨0, Nat.zero_le _, rfl, rfl⟩
    case round =>
      obtain ⟨k, hk, rfl, rfl⟩ := hrel
      by_cases hlt : k < J.length
      · have hcell := HK2.out.wat (k := k) (by omega)
        have hm := m0To_bd HG.out.2.1.each HX.out k (by omega)
        have hy := hx k (by omega)
        have HS := Lib.hid (show m0To x (k + 1) = if x k < m0To x k then m0To x k else x k from rfl)
        generalize x k = y at *
        generalize m0To x k = m at *
        have hk4 : (k : Int) < 4 := by omega
        go_wp2_with (go_at_call 24; refine (l00Max_any _ _ _).mono ?_; rintro e w' ⟨rfl, rfl⟩)
        go_round
        case rel => exact ⟨k + 1, by omega, by go_num, by rw [HS.out]⟩
        case measure => simp [intOf]; omega
      · obtain rfl : k = J.length := by omega
        have HR2 := Lib.hid (HR.out)
        go_wp2
        go_ret2
        exact ⟨by rw [HR2.out]; rfl, HB2.out⟩
end Go.Proofs.Ytfigoidpkihnnaa
