/-
  The walk of MovesFrom's model.
-/
import Derived.Test.YtodbbdfgbkbfbaaMovesFrom
import Derived.Deep.AppendLies
namespace Go.Proofs.Ytodbbdfgbkbfbaa
open Go.RowKit
set_option maxRecDepth 100000
set_option linter.unusedVariables false

theorem ownsRow_below {w w' : World} {base : Nat} {e : TypeId} {size : Nat} {v : Value} {n : Nat} {xs : List Value} (h : w.ownsRow base e size v n xs) (hb : Below w.heap.size w w') : w'.ownsRow base e size v n xs := by
  refine ⟨h.1, ?_⟩
  rcases h.2 with hn | ⟨g, cap, cur, rfl, hB, hg, rest⟩
  · exact .inl hn
  · exact .inr ⟨g, cap, cur, rfl, hB, (hb.block g (Array.getElem?_eq_some_iff.1 hg).1).trans hg, rest⟩
theorem below_set4 {B : Nat} {w W : World} {v0 v1 v2 v3 : Value} (h : Below B w W) : Below B w ((((W.setCell ⟨B, 0, none⟩ v0).setCell ⟨B, 1, none⟩ v1).setCell ⟨B, 2, none⟩ v2).setCell ⟨B, 3, none⟩ v3) :=
  (((h.setCell (Nat.le_refl B) v0).setCell (Nat.le_refl B) v1).setCell (Nat.le_refl B) v2).setCell (Nat.le_refl B) v3
/-- What the loop of the model keeps. -/
structure SfK (b off c : Nat) (J : List Int) (x y : Nat → Int) (t : Bool) (gl : Nat) (ms : List Mv) (w wr : World) : Prop where
  b0 : Blk wr w.heap.size #[.slice (some ⟨b, off, none⟩) J.length c, .int .i16 (x 0), .int .i16 (x 1), .int .i16 (x 2), .int .i16 (x 3), .bool t] 35
  b1 : Blk wr (w.heap.size + 1) #[.int .i16 (y 0), .int .i16 (y 1), .int .i16 (y 2), .int .i16 (y 3)] 31
  bel : Below w.heap.size w wr
  li : MAt wr gl 0 ms
  ll : gl < wr.heap.size
theorem SfK.below {b off c : Nat} {J : List Int} {x y : Nat → Int} {t : Bool} {gl : Nat} {ms : List Mv} {w wr w' : World} (h : SfK b off c J x y t gl ms w wr) (hb : Below wr.heap.size wr w') : SfK b off c J x y t gl ms w w' :=
  ⟨h.b0.below hb h.b0.lt, h.b1.below hb h.b1.lt, h.bel.trans (hb.mono h.bel.size), h.li.below hb h.ll, Nat.lt_of_lt_of_le h.ll hb.size⟩
theorem SfK.grown {b off c : Nat} {J : List Int} {x y : Nat → Int} {t : Bool} {gl : Nat} {ms : List Mv} {w wr w' : World} {row : Option Nat} (h : SfK b off c J x y t gl ms w wr) (hg : wr.grownBy w' row) (h1 : ∀ k, row = some k → w.heap.size + 1 + 1 ≤ k) (h2 : row ≠ some gl) : SfK b off c J x y t gl ms w w' := by
  have q0 : some w.heap.size ≠ row := fun e => by have := h1 _ e.symm; omega
  have q1 : some (w.heap.size + 1) ≠ row := fun e => by have := h1 _ e.symm; omega
  have fb : ∀ q, wr.cell? ⟨gl, q, none⟩ = w'.cell? ⟨gl, q, none⟩ := fun q => (hg.cell_far ⟨gl, q, none⟩ h.ll (fun e => h2 e.symm)).symm
  refine ⟨(hg.block _ h.b0.lt q0).trans h.b0, (hg.block _ h.b1.lt q1).trans h.b1, h.bel.grown hg h.bel.size (fun k e => by have := h1 _ e; omega), fun j hj => ?_, Nat.lt_of_lt_of_le h.ll hg.size⟩
  rw [← fb, ← fb, ← fb]
  exact h.li j hj
set_option maxHeartbeats 4000000 in
theorem specMovesFrom_any (b off c : Nat) (J : List Int) (x y : Nat → Int) (t : Bool) (w : World) (hn : J.length ≤ 1048576) (hb : b < w.heap.size) (hc : At .i16 w b off J) :
    Calls Try.prog 19 #[puzV (some ⟨b, off, none⟩) J.length c x t, watV y] w fun e w' => ∃ v, e = .returned (.tuple #[v, .int .i64 (mfC J x y)]) ∧ OwnX w.heap.size w' v (mfL J x y t) ∧ Below w.heap.size w w' := by
  obtain ⟨i0, hinf, hz0, hz1, hz2⟩ := info_parts Try.infoM
  have k0 := (blk_new w #[.slice (some ⟨b, off, none⟩) J.length c, .int .i16 (x 0), .int .i16 (x 1), .int .i16 (x 2), .int .i16 (x 3), .bool t] 35).alloc (.cells #[.int .i16 (y 0), .int .i16 (y 1), .int .i16 (y 2), .int .i16 (y 3)] 31)
  have k1 := blk_new (w.alloc (.cells #[.slice (some ⟨b, off, none⟩) J.length c, .int .i16 (x 0), .int .i16 (x 1), .int .i16 (x 2), .int .i16 (x 3), .bool t] 35)) #[.int .i16 (y 0), .int .i16 (y 1), .int .i16 (y 2), .int .i16 (y 3)] 31
  have hB := ((Below.refl w.heap.size w).alloc (Nat.le_refl _) (.cells #[.slice (some ⟨b, off, none⟩) J.length c, .int .i16 (x 0), .int .i16 (x 1), .int .i16 (x 2), .int .i16 (x 3), .bool t] 35)).alloc (by simp) (.cells #[.int .i16 (y 0), .int .i16 (y 1), .int .i16 (y 2), .int .i16 (y 3)] 31)
  have hsz : w.heap.size + 2 = ((w.alloc (.cells #[.slice (some ⟨b, off, none⟩) J.length c, .int .i16 (x 0), .int .i16 (x 1), .int .i16 (x 2), .int .i16 (x 3), .bool t] 35)).alloc (.cells #[.int .i16 (y 0), .int .i16 (y 1), .int .i16 (y 2), .int .i16 (y 3)] 31)).heap.size := by simp
  simp only [World.size_alloc] at k1
  have hc1 := hc.below hB hb
  have hb1 := Nat.lt_of_lt_of_le hb hB.size
  have HO := Lib.hid (l02Ok_any w.heap.size b off c J x t _ hn hb1 hc1 k0)
  have HCJ := Lib.hid hc
  have HW := Lib.hid (fun W (h1 : b < W.heap.size) (h2 : At .i16 W b off J) => l02Water_any b off c J y W h1 h2)
  unfold mfC mfL okW2
  clear hc
  cases hok : okZ J x
  · rw [hok] at HO
    clear hok HW
    simp only [Bool.false_and, Bool.false_eq_true, if_false]
    go_enter Try.func19, Try.ntmps19
    go_wp2_with fail
    refine HO.out.mono ?_
    rintro e w2 ⟨rfl, hb2⟩
    have HB2 := Lib.hid (hB.trans (hb2.mono hB.size))
    clear hb2 hB hc1 hb1 HO
    go_wp2
    go_ret2
    exact ⟨_, rfl, ⟨_, _, rfl, .inl rfl⟩, HB2.out.alloc HB2.out.size _⟩
  rw [hok] at HO
  simp only [Bool.true_and]
  cases hy0 : okX J y
  · rw [hy0] at HW
    clear hok hy0
    simp only [Bool.false_eq_true, if_false]
    go_enter Try.func19, Try.ntmps19
    go_wp2_with fail
    refine HO.out.mono ?_
    rintro e w2 ⟨rfl, hb2⟩
    have hBB := hB.trans (hb2.mono hB.size)
    replace k0 := k0.below hb2 k0.lt
    replace k1 := k1.below hb2 k1.lt
    replace hc1 := hc1.below hb2 hb1
    replace hb1 := Nat.lt_of_lt_of_le hb1 hb2.size
    clear hb2 hB HO
    obtain ⟨c0, c1, c2, c3, c4, c5, -⟩ := k0.six
    obtain ⟨d0, d1, d2, d3, -⟩ := k1.four
    go_wp2_with fail
    refine (HW.out _ hb1 hc1).mono ?_
    rintro e w3 ⟨rfl, hb3⟩
    have HB3 := Lib.hid (hBB.trans (hb3.mono hBB.size))
    clear hb3 hc1 hb1 hBB k0 k1
    clear c0 c1 c2 c3 c4 c5 d0 d1 d2 d3
    go_wp2
    go_ret2
    exact ⟨_, rfl, ⟨_, _, rfl, .inl rfl⟩, HB3.out.alloc HB3.out.size _⟩
  obtain ⟨hJ, hy⟩ := okW2_ofd (show okW2 J x y = true by unfold okW2; rw [hok, hy0]; rfl)
  rw [hy0] at HW
  clear hok hy0
  simp only [if_true]
  have hl := hJ.1
  have hMM := allM_mall hl
  have hML := allM_len _ hl.2
  have HALL := Lib.hid (fun W (h : Blk W w.heap.size #[.slice (some ⟨b, off, none⟩) J.length c, .int .i16 (x 0), .int .i16 (x 1), .int .i16 (x 2), .int .i16 (x 3), .bool t] 35) => l02All_any w.heap.size b off J.length c x t W hl h)
  have HM := Lib.hid (fun k gl W (h1 : SfK b off c J x y t gl (allM J.length) w W) => show Calls Try.prog 27 #[.pointer (some ⟨w.heap.size, 0, none⟩), watV y, movV (mvI (allM J.length) k).1 (mvI (allM J.length) k).2.1 (mvI (allM J.length) k).2.2] W fun e w' => e = .returned (.tuple #[watV (movX J t y (mvI (allM J.length) k).1 (mvI (allM J.length) k).2.1 (mvI (allM J.length) k).2.2), .int .i64 (movC J t y (mvI (allM J.length) k).1 (mvI (allM J.length) k).2.1 (mvI (allM J.length) k).2.2)]) ∧ Below W.heap.size W w' from
    l02Move_any w.heap.size b off c J x y t (mvI (allM J.length) k).1 (mvI (allM J.length) k).2.1 (mvI (allM J.length) k).2.2 W hJ hy (hMM k).bk (hMM k).bf (hMM k).bg (Nat.lt_of_lt_of_le hb h1.bel.size) (HCJ.out.below h1.bel hb) h1.b0)
  have HJY := Lib.hid (And.intro hJ hy)
  clear hJ hy hMM
  go_enter Try.func19, Try.ntmps19
  go_wp2_with fail
  refine HO.out.mono ?_
  rintro e w2 ⟨rfl, hb2⟩
  have hBB := hB.trans (hb2.mono hB.size)
  replace k0 := k0.below hb2 k0.lt
  replace k1 := k1.below hb2 k1.lt
  replace hc1 := hc1.below hb2 hb1
  replace hb1 := Nat.lt_of_lt_of_le hb1 hb2.size
  clear hb2 hB HO
  obtain ⟨c0, c1, c2, c3, c4, c5, -⟩ := k0.six
  obtain ⟨d0, d1, d2, d3, -⟩ := k1.four
  go_wp2_with fail
  refine (HW.out _ hb1 hc1).mono ?_
  rintro e w3 ⟨rfl, hb3⟩
  have hB3 := hBB.trans (hb3.mono hBB.size)
  replace k0 := k0.below hb3 k0.lt
  replace k1 := k1.below hb3 k1.lt
  clear hb3 hc1 hb1 hBB
  clear c0 c1 c2 c3 c4 c5 d0 d1 d2 d3
  have hws := k1.lt
  have hBA := (Below.refl w3.heap.size w3).alloc (Nat.le_refl _) (.cells #[] 38)
  have hOW := World.ownsRow_made (base := w.heap.size + 1 + 1) (e := 38) (size := 3) w3 #[] 0 (by omega) (by unfold maxLen; omega) (by simp)
  have HA0 := Lib.hid (HALL.out _ (k0.below hBA k0.lt))
  have HK0 := Lib.hid (And.intro (k0.below hBA k0.lt) (And.intro (k1.below hBA k1.lt) (And.intro (hB3.trans (hBA.mono hB3.size)) hOW)))
  clear k0 k1 hB3 hBA hOW
  go_wp2_with fail
  refine HA0.out.mono ?_
  rintro e w5 ⟨v, rfl, hO5, hb5⟩
  obtain ⟨gl, gc, rfl, hgc, hgl0, hgl1, hMA, hFR⟩ := hO5
  have hS : SfK b off c J x y t gl (allM J.length) w w5 := ⟨HK0.out.1.below hb5 HK0.out.1.lt, HK0.out.2.1.below hb5 HK0.out.2.1.lt, HK0.out.2.2.1.trans (hb5.mono HK0.out.2.2.1.size), hMA, hgl1⟩
  have hO := ownsRow_below HK0.out.2.2.2 hb5
  have hne : (Value.slice (some ⟨w3.heap.size, 0, none⟩) 0 0).ownBlock ≠ some gl := by
    intro e
    have e2 : w3.heap.size = gl := by simpa [Value.ownBlock] using e
    rw [World.size_alloc] at hgl0
    omega
  have HI := Lib.hid (And.intro hS (And.intro hO hne))
  clear hS hO hne hMA hFR hgl1 hb5 hgl0 HA0 HK0 hws
  go_wp2_with fail
  go_loopw [6, 8] (fun v iv wr => ∃ k : Nat, iv = .int .i64 k ∧ k ≤ (allM J.length).length ∧ SfK b off c J x y t gl (allM J.length) w wr ∧ wr.ownsRow (w.heap.size + 1 + 1) 38 3 v (kp J t y ((allM J.length).take k)).length (mvals (kp J t y ((allM J.length).take k))) ∧ v.ownBlock ≠ some gl) (fun _ iv _ => (allM J.length).length - (intOf iv).toNat)
  case atStart => exact ⟨0, rfl, Nat.zero_le _, HI.out.1, by rw [List.take_zero]; exact HI.out.2.1, HI.out.2.2⟩
  case round =>
    obtain ⟨k, rfl, hk, hS, hown, hob⟩ := hrel
    by_cases hlt : k < (allM J.length).length
    · have hkl : (k : Int) < ((allM J.length).length : Int) := by omega
      have HK := Lib.hid (fun W (h : SfK b off c J x y t gl (allM J.length) w W) => HM.out k gl W h)
      have HLI := Lib.hid (fun W (h : SfK b off c J x y t gl (allM J.length) w W) => h.li k hlt)
      have HC := Lib.hid (movC_bd J t y (mvI (allM J.length) k).1 (mvI (allM J.length) k).2.1 (mvI (allM J.length) k).2.2)
      have HST := Lib.hid (kp_step (J := J) (t := t) (y := y) hlt)
      have HBD := Lib.hid (show bad J t y (allM J.length) k = (movC J t y (mvI (allM J.length) k).1 (mvI (allM J.length) k).2.1 (mvI (allM J.length) k).2.2 != 0) from rfl)
      have HMV := Lib.hid (show mvals [mvI (allM J.length) k] = [.int .i8 (mvI (allM J.length) k).1, .int .i8 (mvI (allM J.length) k).2.1, .int .i8 (mvI (allM J.length) k).2.2] from rfl)
      have hkpl := kp_len J t y ((allM J.length).take k)
      have hkt : ((allM J.length).take k).length ≤ 28 := by rw [List.length_take]; omega
      generalize hKQ : (kp J t y ((allM J.length).take k)) = Q at *
      generalize hK1 : kp J t y ((allM J.length).take (k + 1)) = Q1 at *
      have HQS := Lib.hid (And.intro hKQ hK1)
      clear hKQ hK1
      generalize movC J t y (mvI (allM J.length) k).1 (mvI (allM J.length) k).2.1 (mvI (allM J.length) k).2.2 = C at *
      generalize movX J t y (mvI (allM J.length) k).1 (mvI (allM J.length) k).2.1 (mvI (allM J.length) k).2.2 = E at *
      generalize hM3 : mvI (allM J.length) k = m3 at *
      obtain ⟨v0, v1, v2⟩ := m3
      have HM3 := Lib.hid hM3
      clear hM3
      simp only at HK HLI HMV
      go_upto_region 8 with fail
      have keepS : ∀ W', Below wr.heap.size wr W' → (W'.cell? ⟨w.heap.size + 1, 0, none⟩ = some (.int .i16 (y 0)) ∧ W'.cell? ⟨w.heap.size + 1, 1, none⟩ = some (.int .i16 (y 1)) ∧ W'.cell? ⟨w.heap.size + 1, 2, none⟩ = some (.int .i16 (y 2)) ∧ W'.cell? ⟨w.heap.size + 1, 3, none⟩ = some (.int .i16 (y 3)) ∧ W'.cell? ⟨gl, k * 3, none⟩ = some (.int .i8 v0) ∧ W'.cell? ⟨gl, k * 3 + 1, none⟩ = some (.int .i8 v1) ∧ W'.cell? ⟨gl, k * 3 + 2, none⟩ = some (.int .i8 v2)) := fun W' h => by
        have h1 := hS.below h
        have h2 := HLI.out W' h1
        rw [Nat.zero_add] at h2
        exact ⟨h1.b1.cell 0, h1.b1.cell 1, h1.b1.cell 2, h1.b1.cell 3, h2.1, h2.2.1, h2.2.2⟩
      go_cut [9, 10] (fun s9 s10 wx => ∃ Bq, s9 = .pointer (some ⟨Bq, 0, none⟩) ∧ s10 = .int .i64 C ∧ Below wr.heap.size wr wx)
      case first =>
        have HB0 := Lib.hid (show Below wr.heap.size wr wr.drew from (Below.refl _ _).drew)
        have HBZ := Lib.hid (show Below wr.heap.size wr (wr.alloc (.cells #[.int .i16 0, .int .i16 0, .int .i16 0, .int .i16 0] 31)).drew from ((Below.refl _ _).alloc (Nat.le_refl _) _).drew)
        have HZ0 := Lib.hid (show Blk (wr.alloc (.cells #[.int .i16 0, .int .i16 0, .int .i16 0, .int .i16 0] 31)).drew wr.heap.size #[.int .i16 0, .int .i16 0, .int .i16 0, .int .i16 0] 31 from blk_new wr #[.int .i16 0, .int .i16 0, .int .i16 0, .int .i16 0] 31)
        go_region_held3 (fun W' => W'.cell? ⟨w.heap.size + 1, 0, none⟩ = some (.int .i16 (y 0)) ∧ W'.cell? ⟨w.heap.size + 1, 1, none⟩ = some (.int .i16 (y 1)) ∧ W'.cell? ⟨w.heap.size + 1, 2, none⟩ = some (.int .i16 (y 2)) ∧ W'.cell? ⟨w.heap.size + 1, 3, none⟩ = some (.int .i16 (y 3)) ∧ W'.cell? ⟨gl, k * 3, none⟩ = some (.int .i8 v0) ∧ W'.cell? ⟨gl, k * 3 + 1, none⟩ = some (.int .i8 v1) ∧ W'.cell? ⟨gl, k * 3 + 2, none⟩ = some (.int .i8 v2))
          (exact keepS _ (by first | assumption | exact HB0.out | exact HBZ.out | exact Below.alloc (by assumption) (Below.size (by assumption)) _ | exact below_set4 (by assumption)))
          (first
            | (go_at_call 27; with_reducible refine (HK.out _ (hS.below (by first | assumption | exact HB0.out | exact HBZ.out | exact Below.alloc (by assumption) (Below.size (by assumption)) _ | exact below_set4 (by assumption)))).mono ?_; rintro e w4 ⟨rfl, hb4⟩; have hq := Below.trans (by first | assumption | exact HB0.out | exact HBZ.out | exact Below.alloc (by assumption) (Below.size (by assumption)) _ | exact below_set4 (by assumption)) (hb4.mono (Below.size (by first | assumption | exact HB0.out | exact HBZ.out | exact Below.alloc (by assumption) (Below.size (by assumption)) _ | exact below_set4 (by assumption)))); try (have hz1 := HZ0.out.below hb4 HZ0.out.lt; obtain ⟨zz0, zz1, zz2, zz3, zz4⟩ := hz1.four)))
        all_goals (go_wp2_with fail; go_meet; exact ⟨_, rfl, rfl, (by first | assumption | exact HB0.out | exact HBZ.out | exact Below.alloc (by assumption) (Below.size (by assumption)) _ | exact below_set4 (by assumption))⟩)
      case rest =>
        obtain ⟨Bq, rfl, rfl, hbx⟩ := hcut
        have hS2 := hS.below hbx
        have hown2 := ownsRow_below hown hbx
        clear hS hown keepS hbx HK
        have hC := HC.out
        by_cases hC0 : C = 0
        · have hbad : bad J t y (allM J.length) k = false := by rw [HBD.out, hC0]; rfl
          have HQ1 := Lib.hid (show Q1 = Q ++ [(v0, v1, v2)] by rw [HST.out, hbad]; simp)
          have HC0 := Lib.hid hC0
          have hli := HLI.out _ hS2
          rw [Nat.zero_add] at hli
          obtain ⟨m0, m1, m2⟩ := hli
          subst hC0
          clear hbad
          have HS2 := Lib.hid hS2
          clear hS2
          obtain ⟨wq, rfl⟩ : ∃ wq : World, wq = wc := ⟨_, rfl⟩
          have hsz := HS2.out.bel.size
          have hs1 := HS2.out.b1.lt
          go_wp2_with (at_builtin; refine wpList_append_lies _ rfl _ _ 46 rfl (w.heap.size + 1 + 1) 38 i0 (.agg #[.int .i8 0, .int .i8 0, .int .i8 0]) 3 3 Try.underlying46 hinf hz0 hz1 hz2 rfl (by decide) _ _ _ rfl (hown2.alloc _) ⟨wq.heap.size, 0, none⟩ 1 1 [.int .i8 v0, .int .i8 v1, .int .i8 v2] rfl rfl (World.news_of_block (cs := #[.int .i8 v0, .int .i8 v1, .int .i8 v2]) (t := 38) (fr := (0, 0)) (heap_alloc_new wq _)) (by simp [Value.oneCell']) (by omega) (by unfold maxLen; omega) (by omega) (by simp; omega) _ rfl ?_)
          intro g' cap' w1 hown' hgrow hat hlt'
          have HSN := Lib.hid (SfK.grown (HS2.out.below ((Below.refl _ _).alloc (Nat.le_refl _) _)) hgrow (fun j hj => (hown2.lt j hj).1) hob)
          have HON := Lib.hid (show w1.ownsRow (w.heap.size + 1 + 1) 38 3 (Value.slice (some ⟨g', 0, none⟩) (Q.length + 1) cap') Q1.length (mvals Q1) by rw [HQ1.out, mvals_snoc, List.length_append]; exact hown')
          have HNE := Lib.hid (show (Value.slice (some ⟨g', 0, none⟩) (Q.length + 1) cap').ownBlock ≠ some gl by
            have hl2 := HS2.out.ll
            intro e
            have e2 : g' = gl := by simpa [Value.ownBlock] using e
            rcases hat with h | h
            · exact hob (h.trans (by rw [e2]))
            · have h5 : g' = wq.heap.size + 1 := h.trans (World.size_alloc _ _)
              omega)
          clear hown' hgrow hat hlt' m0 m1 m2 hown2
          go_wp2
          go_roundw
          case rel => exact ⟨k + 1, by go_num, by omega, HSN.out, by rw [HQS.out.2]; exact HON.out, HNE.out⟩
          case measure => simp [intOf]; omega
        · have hbad : bad J t y (allM J.length) k = true := by rw [HBD.out]; simp [hC0]
          have HQ1 := Lib.hid (show Q1 = Q by rw [HST.out, hbad]; simp)
          have HS2 := Lib.hid hS2
          have HON := Lib.hid hown2
          clear hbad hS2 hown2
          go_wp2
          go_roundw
          case rel => exact ⟨k + 1, by go_num, by omega, HS2.out, by rw [HQS.out.2, HQ1.out]; exact HON.out, hob⟩
          case measure => simp [intOf]; omega
    · have hkk : k = (allM J.length).length := by omega
      have hQ : kp J t y ((allM J.length).take k) = kp J t y (allM J.length) := by rw [hkk, List.take_length]
      rw [hQ] at hown
      have HON := Lib.hid hown
      have hBL := hS.bel
      have hnk : ¬ (k : Int) < ((allM J.length).length : Int) := by omega
      clear hkk hown hQ hS
      go_wp2
      go_ret2
      refine ⟨_, rfl, ?_, hBL⟩
      by_cases h0 : kp J t y (allM J.length) = []
      · rcases HON.out.2 with ⟨hv, _⟩ | ⟨g9, cap9, cur9, hv, _⟩
        · exact ⟨none, 0, by rw [h0, hv]; rfl, .inl h0⟩
        · exact ⟨some ⟨g9, 0, none⟩, cap9, hv, .inl h0⟩
      · obtain ⟨g9, c9, hv, _, hB9, hg9, hM9, hF9⟩ := OwnM.ofOwns HON.out rfl (List.length_pos_iff.2 h0)
        exact ⟨some ⟨g9, 0, none⟩, c9, hv, .inr ⟨g9, rfl, by omega, hg9, hM9, hF9⟩⟩
end Go.Proofs.Ytodbbdfgbkbfbaa
