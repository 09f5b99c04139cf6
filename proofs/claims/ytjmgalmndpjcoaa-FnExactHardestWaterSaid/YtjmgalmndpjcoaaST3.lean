/-
  The program's table of steps: a range over the map of arrivals.
-/
import Derived.Test.YtjmgalmndpjcoaaST2
import Derived.Maps.RangeWalk
namespace Go.Proofs.Ytjmgalmndpjcoaa
open Go.RowKit Go.Maps Go.MapKept Go.ChangeMaps
set_option maxRecDepth 100000
set_option linter.unusedVariables false

theorem ranges_block {P : Program} {k : TypeId} {w w' : World} {b r n : Nat} {R : Value → Option (DataW Value × List MemPlace)} {D : DataW Value} {left : Lit → Bool} {cnt : Nat} (h : w.ranges P k R b r n D left cnt) (h1 : w'.heap[b]? = w.heap[b]?) (h2 : w'.heap[r]? = w.heap[r]?) : w'.ranges P k R b r n D left cnt := by
  obtain ⟨es, clock, since, seen, c0, a1, a2, a3, a4, a5, rest⟩ := h
  exact ⟨es, clock, since, seen, c0, h1.trans a1, a2, a3, a4, h2.trans a5, rest⟩
theorem left_after {left : Lit → Bool} {z kl : Lit} (h : (left z && !z.sameKey kl) = false) : left z = false ∨ z = kl := by
  by_cases e : z = kl
  · exact .inr e
  · rw [sameKey_ne e] at h
    simp at h
    exact .inl h
/-- The table while the range is under way. -/
structure TbR (J : List Int) (s : GS) (F : Value → Option Value) (mb r n h : Nat) (D : DataW Value) (wr : World) (left : Lit → Bool) (cnt : Nat) (xs : List Int) : Prop where
  rg : wr.ranges Try.prog 30 HR mb r n D left cnt
  len : xs.length = nW J
  tb : Blk wr h (ncells .i16 xs) 23
  done : ∀ i, i < nW J → ∀ kl, keyOf Try.prog 30 (watV (atV J i)) = some kl → left kl = false → xs.getD i 0 = s.tb.getD i 0
  todo : ∀ key kl, keyOf Try.prog 30 key = some kl → left kl = true → (F key).isSome = true
theorem TbR.step {J : List Int} {s : GS} {F : Value → Option Value} {mb r n h : Nat} {D : DataW Value} {wr W : World} {left : Lit → Bool} {cnt : Nat} {xs : List Int} (hJ : OkJ J) (H : TbR J s F mb r n h D wr left cnt xs) {i0 : Nat} (hi : i0 < nW J) {kl : Lit} (hkl : keyOf Try.prog 30 (watV (atV J i0)) = some kl) {cnt' : Nat}
    (hrg : W.ranges Try.prog 30 HR mb r n D (fun z => left z && !z.sameKey kl) cnt') (hb : Blk W h (ncells .i16 xs) 23) (h1 : h ≠ mb) (h2 : h ≠ r) :
    TbR J s F mb r n h D (W.setCell ⟨h, i0, none⟩ (.int .i16 (s.tb.getD i0 0))) (fun z => left z && !z.sameKey kl) cnt' (xs.set i0 (s.tb.getD i0 0)) := by
  refine ⟨ranges_block hrg (heap_setCell_other W ⟨h, i0, none⟩ mb _ (fun e => h1 e.symm)) (heap_setCell_other W ⟨h, i0, none⟩ r _ (fun e => h2 e.symm)), by rw [List.length_set]; exact H.len, ?_, ?_, ?_⟩
  · have := hb.set i0 (.int .i16 (s.tb.getD i0 0))
    rwa [ncells_set _ _ _ _ (by rw [H.len]; exact hi)] at this
  · intro i hiN kl' hk' hl
    rw [gs_set _ _ _ _ (by rw [H.len]; exact hi)]
    by_cases e : i = i0
    · subst e; rw [if_pos rfl]
    · rw [if_neg e]
      rcases left_after hl with h3 | h3
      · exact H.done i hiN kl' hk' h3
      · exact absurd (at_inj hJ hiN hi (keyW.inj hk' (h3 ▸ hkl))) e
  · intro key kl' hk' hl
    simp only [Bool.and_eq_true] at hl
    exact H.todo key kl' hk' hl.1
set_option maxHeartbeats 300000 in
theorem stepsTable_any (b off c : Nat) (J : List Int) (x : Nat → Int) (t : Bool) (w : World) (hJ : OkJ J) (hx : OkX J x) (hb : b < w.heap.size) (hc : At .i16 w b off J) :
    Calls Try.prog 41 #[puzV (some ⟨b, off, none⟩) J.length c x t] w fun e w' => ∃ h, e = .returned (.slice (some ⟨h, 0, none⟩) (nW J) (nW J)) ∧ w.heap.size ≤ h ∧ Blk w' h (ncells .i16 (gsJ J x t).tb) 23 ∧ Below w.heap.size w w' := by
  have hnw := nW_eq hJ
  have hI := gsJ_inv (t := t) hJ hx
  have k0 := blk_new w #[.slice (some ⟨b, off, none⟩) J.length c, .int .i16 (x 0), .int .i16 (x 1), .int .i16 (x 2), .int .i16 (x 3), .bool t] 32
  have hB := (Below.refl w.heap.size w).alloc (Nat.le_refl _) (.cells #[.slice (some ⟨b, off, none⟩) J.length c, .int .i16 (x 0), .int .i16 (x 1), .int .i16 (x 2), .int .i16 (x 3), .bool t] 32)
  have hc1 := hc.below hB hb
  have hb1 := Nat.lt_of_lt_of_le hb hB.size
  have HCS := Lib.hid (fun W (h : At .i16 W b off J) => countStates_any b off c J W hJ.1.2 hJ.2.1 h)
  have HRP := Lib.hid (fun g c W h1 h2 => repeat_any g c (nW J) W hnw.2 h1 h2)
  have HFD := Lib.hid (fun W2 (h1 : b < W2.heap.size) (h2 : At .i16 W2 b off J) => (show Calls Try.prog 46 _ W2 fun e w' => ∃ R mb g cap, e = .returned (.agg #[.slice (some ⟨g, 0, none⟩) (gsJ J x t).q.length cap, .map (some mb)]) ∧ PMem J [] W2 R mb (.slice (some ⟨g, 0, none⟩) (gsJ J x t).q.length cap) (gsJ J x t) (gsJ J x t).q w' from search_any b off c J x t W2 hJ hx h1 h2))
  have HIO := Lib.hid (fun (i : Nat) (hi : i < nW J) W (h1 : b < W.heap.size) (h2 : At .i16 W b off J) => (show Calls Try.prog 64 #[.slice (some ⟨b, off, none⟩) J.length c, watV (atV J i)] W fun e w' => e = .returned (.int .i64 (i : Int)) ∧ Below W.heap.size W w' by
    have h := indexOf_any b off c J (atV J i) W hJ.1.2 hJ.2.1 (at_ok hJ _) h1 h2
    rwa [ix_at_all hJ (by omega) (by rw [← hnw.1]; omega)] at h))
  have HJ := Lib.hid hJ
  have HKP := Lib.hid (fun W (h : Below w.heap.size w W) => (show b < W.heap.size ∧ At .i16 W b off J from ⟨Nat.lt_of_lt_of_le hb h.size, hc.below h hb⟩))
  generalize gsJ J x t = s at *
  have HI := Lib.hid hI
  clear hI hx hJ hc
  go_enter Try.func41, Try.ntmps41
  have hbA := hB.alloc hB.size (.cells #[.int .i16 (-1)] 23)
  have kA := k0.alloc (.cells #[.int .i16 (-1)] 23)
  have gA := blk_new (w.alloc (.cells #[.slice (some ⟨b, off, none⟩) J.length c, .int .i16 (x 0), .int .i16 (x 1), .int .i16 (x 2), .int .i16 (x 3), .bool t] 32)) #[.int .i16 (-1)] 23
  simp only [World.size_alloc] at gA
  obtain ⟨c0, c1, c2, c3, c4, c5, -⟩ := kA.six
  have HCC := Lib.hid (HCS.out _ (HKP.out _ hbA).2)
  have HRR := Lib.hid (HRP.out (w.heap.size + 1) 1 _ gA.lt (gA.cell 0))
  have HA := Lib.hid (And.intro hbA kA)
  clear hB k0 hc1 hb1 HCS HRP
  go_wp2_with fail
  refine HCC.out.mono ?_
  rintro e w2 ⟨rfl, rfl⟩
  go_wp2_with fail
  rw [← hnw.1]
  refine HRR.out.mono ?_
  rintro e w3 ⟨h, rfl, hh0, hT, hb3⟩
  have hB3 := HA.out.1.trans (hb3.mono HA.out.1.size)
  have k3 := HA.out.2.below hb3 HA.out.2.lt
  have hwh : w.heap.size < h := by simp at hh0; omega
  have hTl := hT.lt
  clear c0 c1 c2 c3 c4 c5 HA HRR HCC hbA kA gA hb3 hh0
  obtain ⟨c0, c1, c2, c3, c4, c5, -⟩ := k3.six
  have hfl := field_res1
  have HF := Lib.hid (HFD.out w3 (HKP.out w3 hB3).1 (HKP.out w3 hB3).2)
  clear HFD
  go_wp2_with fail
  refine HF.out.mono ?_
  rintro e w4 ⟨R, mb, g, cap, rfl, hP⟩
  have hb4 := hP.below
  have hB4 := hB3.trans (hb4.mono hB3.size)
  have hT4 := hT.below hb4 hT.lt
  have k4 := k3.below hb4 k3.lt
  have hmb := hP.lo.2
  obtain ⟨F, ⟨D, hown, hD⟩, hS⟩ := hP.map
  have hmlt := hown.lt
  have HD := Lib.hid hD
  have HS := Lib.hid hS
  clear c0 c1 c2 c3 c4 c5 hP hT k3 hB3 HF hD hS hb4
  go_wp2_with (at_range; refine wpList_range_own _ rfl _ 72 rfl 30 80 keyW Try.underlying72 HR mb s.q.length D rfl hown ?_)
  intro w5 hrg hgr hsz5
  have hkl := k4.lt
  have hTl4 := hT4.lt
  have hB5 : Below w.heap.size w w5 := hB4.grown hgr hB4.size (fun j hj => by cases hj)
  have hT5 : Blk w5 h (ncells .i16 (List.replicate (nW J) (-1))) 23 := (hgr.block h hTl4 (by simp)).trans hT4
  have k5 : Blk w5 w.heap.size #[.slice (some ⟨b, off, none⟩) J.length c, .int .i16 (x 0), .int .i16 (x 1), .int .i16 (x 2), .int .i16 (x 3), .bool t] 32 := (hgr.block w.heap.size hkl (by simp)).trans k4
  have hhm : h ≠ mb := by omega
  have hrh : h ≠ w4.heap.size := by omega
  have HR0 := Lib.hid (show TbR J s F mb w4.heap.size s.q.length h D w5 (Maps.has D) (Maps.size D) (List.replicate (nW J) (-1)) from
    ⟨hrg, by simp, hT5, fun i hi kl hk hl => by
      rw [gs_rep _ _ _ hi]
      have h1 := (HD.out _ kl hk).1
      rw [hl, HS.out.1 i hi] at h1
      have h2 := (HI.out.far i hi).1
      unfold arO at h1
      by_cases h0 : 0 ≤ s.tb.getD i 0
      · rw [if_pos h0] at h1; cases h1
      · omega, fun key kl hk hl => by have h1 := (HD.out key kl hk).1; rw [hl] at h1; exact h1.symm⟩)
  have HK5 := Lib.hid (And.intro k5 hB5)
  have hwr4 : w.heap.size < w4.heap.size := by omega
  clear hrg hT5 k5 hB5 hgr hown hB4 hT4 k4 hfl hsz5
  generalize w4.heap.size = r at *
  clear hnw
  go_wp2_with fail
  go_loopw [15] (fun _ wr => ∃ left cnt xs, TbR J s F mb r s.q.length h D wr left cnt xs ∧ Blk wr w.heap.size #[.slice (some ⟨b, off, none⟩) J.length c, .int .i16 (x 0), .int .i16 (x 1), .int .i16 (x 2), .int .i16 (x 3), .bool t] 32 ∧ Below w.heap.size w wr) (fun _ w => w.rangeLeft mb r)
  case atStart => exact ⟨_, _, _, HR0.out, HK5.out.1, HK5.out.2⟩
  case round =>
    clear HR0 HK5
    obtain ⟨left, cnt, xs, hT, hP, hB⟩ := hrel
    have hcnt := hT.rg.left_eq
    have HCN := Lib.hid hcnt
    go_wp2_with (at_next; refine wpList_next_ranges _ rfl _ rfl 30 keyW HR id id (fun key kl _ => ⟨key, rfl⟩) (fun v y _ => ⟨v, rfl⟩) mb r s.q.length D left cnt rfl hT.rg ?_ ?_)
    · intro h0 hl
      have HX := Lib.hid (show Blk wr h (ncells .i16 s.tb) 23 by
        have e : xs = s.tb := by
          apply List.ext_getElem
          · rw [hT.len, HI.out.tb]
          · intro i h1 h2
            have hi : i < nW J := by rw [← hT.len]; exact h1
            obtain ⟨kl, hkl⟩ := keyW_mk (atV J i) (fun j hj => by have := atV_bd (i := j) HJ.out.2.1 (i : Int); omega)
            have h3 := hT.done i hi kl hkl (hl kl)
            rw [List.getD_eq_getElem?_getD, List.getD_eq_getElem?_getD, List.getElem?_eq_getElem h1, List.getElem?_eq_getElem h2] at h3
            exact h3
        rw [← e]; exact hT.tb)
      clear hT hP hl hcnt
      go_wp2
      go_ret
      exact ⟨h, rfl, by omega, HX.out, hB⟩
    · intro x1 c1 kl y1 y2 w' cnt' hk hlk hHR hat hrg hltc hgr hsz hen
      clear hsz
      have hsome := hT.todo x1 kl hk hlk
      obtain ⟨i0, hi0, rfl⟩ := HS.out.2 x1 hsome
      have hy : y1 = .held c1 := by unfold HR at hHR; simp at hHR; exact hHR.1.symm
      have hc2 := (HD.out _ kl hk).2 c1
      have hc3 : D.atKey kl (.held c1) = y1 := hat _
      rw [hc3, hy] at hc2
      have hc4 : c1 = (F (watV (atV J i0))).getD c1 := by injection hc2
      have hF := HS.out.1 i0 hi0
      have htb : 0 ≤ s.tb.getD i0 0 := by
        rw [hF] at hsome
        unfold arO at hsome
        by_cases h0 : 0 ≤ s.tb.getD i0 0
        · exact h0
        · rw [if_neg h0] at hsome; cases hsome
      have hc5 : c1 = .agg #[.int .i16 (atV J (s.fr.getD i0 0).toNat 0), .int .i16 (atV J (s.fr.getD i0 0).toNat 1), .int .i16 (atV J (s.fr.getD i0 0).toNat 2), .int .i16 (atV J (s.fr.getD i0 0).toNat 3), .int .i8 (mvI (allM J.length) (s.mv.getD i0 0).toNat).1, .int .i8 (mvI (allM J.length) (s.mv.getD i0 0).toNat).2.1, .int .i8 (mvI (allM J.length) (s.mv.getD i0 0).toNat).2.2, .int .i16 (s.tb.getD i0 0)] := by
        rw [hc4, hF]; unfold arO; rw [if_pos htb]; rfl
      clear hy hc2 hc3 hc4 hat hHR hF hsome hcnt
      subst hc5
      have HST := Lib.hid (fun W (h1 : W.ranges Try.prog 30 HR mb r s.q.length D (fun z => left z && !z.sameKey kl) cnt') (h2 : Blk W h (ncells .i16 xs) 23) => TbR.step HJ.out hT hi0 hk h1 h2 hhm hrh)
      have hxl := hT.len
      have hTb : Blk w' h (ncells .i16 xs) 23 := (hgr.block h hT.tb.lt (fun e => hrh (Option.some.inj e))).trans hT.tb
      have hP' : Blk w' w.heap.size #[.slice (some ⟨b, off, none⟩) J.length c, .int .i16 (x 0), .int .i16 (x 1), .int .i16 (x 2), .int .i16 (x 3), .bool t] 32 := (hgr.block w.heap.size hP.lt (fun e => by have := Option.some.inj e; omega)).trans hP
      have hB' : Below w.heap.size w w' := hB.grown hgr hB.size (fun j hj => by have e : r = j := Option.some.inj hj; omega)
      have hwl := hTb.lt
      clear hT hP hB hgr htb hk
      generalize hz : s.tb.getD i0 0 = z at *
      clear hz
      generalize atV J (s.fr.getD i0 0).toNat = A at *
      generalize mvI (allM J.length) (s.mv.getD i0 0).toNat = m at *
      have hH6 := (hTb.alloc (.cells #[.int .i16 (atV J (i0 : Int) 0), .int .i16 (atV J (i0 : Int) 1), .int .i16 (atV J (i0 : Int) 2), .int .i16 (atV J (i0 : Int) 3)] 30)).alloc (.cells #[.int .i16 (A 0), .int .i16 (A 1), .int .i16 (A 2), .int .i16 (A 3), .int .i8 m.1, .int .i8 m.2.1, .int .i8 m.2.2, .int .i16 z] 80)
      have hP6 := (hP'.alloc (.cells #[.int .i16 (atV J (i0 : Int) 0), .int .i16 (atV J (i0 : Int) 1), .int .i16 (atV J (i0 : Int) 2), .int .i16 (atV J (i0 : Int) 3)] 30)).alloc (.cells #[.int .i16 (A 0), .int .i16 (A 1), .int .i16 (A 2), .int .i16 (A 3), .int .i8 m.1, .int .i8 m.2.1, .int .i8 m.2.2, .int .i16 z] 80)
      have hB6 := (hB'.alloc hB'.size (.cells #[.int .i16 (atV J (i0 : Int) 0), .int .i16 (atV J (i0 : Int) 1), .int .i16 (atV J (i0 : Int) 2), .int .i16 (atV J (i0 : Int) 3)] 30)).alloc (by simp; have := hB'.size; omega) (.cells #[.int .i16 (A 0), .int .i16 (A 1), .int .i16 (A 2), .int .i16 (A 3), .int .i8 m.1, .int .i8 m.2.1, .int .i8 m.2.2, .int .i16 z] 80)
      have hR6 := (hrg.alloc (.cells #[.int .i16 (atV J (i0 : Int) 0), .int .i16 (atV J (i0 : Int) 1), .int .i16 (atV J (i0 : Int) 2), .int .i16 (atV J (i0 : Int) 3)] 30)).alloc (.cells #[.int .i16 (A 0), .int .i16 (A 1), .int .i16 (A 2), .int .i16 (A 3), .int .i8 m.1, .int .i8 m.2.1, .int .i8 m.2.2, .int .i16 z] 80)
      have h46 := (blk_new w' #[.int .i16 (atV J (i0 : Int) 0), .int .i16 (atV J (i0 : Int) 1), .int .i16 (atV J (i0 : Int) 2), .int .i16 (atV J (i0 : Int) 3)] 30).alloc (.cells #[.int .i16 (A 0), .int .i16 (A 1), .int .i16 (A 2), .int .i16 (A 3), .int .i8 m.1, .int .i8 m.2.1, .int .i8 m.2.2, .int .i16 z] 80)
      have h56 := blk_new (w'.alloc (.cells #[.int .i16 (atV J (i0 : Int) 0), .int .i16 (atV J (i0 : Int) 1), .int .i16 (atV J (i0 : Int) 2), .int .i16 (atV J (i0 : Int) 3)] 30)) #[.int .i16 (A 0), .int .i16 (A 1), .int .i16 (A 2), .int .i16 (A 3), .int .i8 m.1, .int .i8 m.2.1, .int .i8 m.2.2, .int .i16 z] 80
      simp only [World.size_alloc] at h56
      clear hTb hP' hB' hrg
      go_upto_region 5 with fail
      generalize (w'.alloc (.cells #[.int .i16 (atV J (i0 : Int) 0), .int .i16 (atV J (i0 : Int) 1), .int .i16 (atV J (i0 : Int) 2), .int .i16 (atV J (i0 : Int) 3)] 30)).alloc (.cells #[.int .i16 (A 0), .int .i16 (A 1), .int .i16 (A 2), .int .i16 (A 3), .int .i8 m.1, .int .i8 m.2.1, .int .i8 m.2.2, .int .i16 z] 80) = w6 at *
      generalize w'.heap.size = b4 at *
      have hmr := hR6.owns.lt
      have hrl := hR6.lt
      have hxi : i0 < xs.length := by rw [hxl]; exact hi0
      have keepS : ∀ W', Below w6.heap.size w6 W' → (W'.cell? ⟨w.heap.size, 0, none⟩ = some (.slice (some ⟨b, off, none⟩) J.length c) ∧ W'.cell? ⟨b4, 0, none⟩ = some (.int .i16 (atV J (i0 : Int) 0)) ∧ W'.cell? ⟨b4, 1, none⟩ = some (.int .i16 (atV J (i0 : Int) 1)) ∧ W'.cell? ⟨b4, 2, none⟩ = some (.int .i16 (atV J (i0 : Int) 2)) ∧ W'.cell? ⟨b4, 3, none⟩ = some (.int .i16 (atV J (i0 : Int) 3)) ∧ W'.cell? ⟨b4 + 1, 7, none⟩ = some (.int .i16 z)) := fun W' hb => by
        have q1 := hP6.below hb hP6.lt
        have q2 := h46.below hb h46.lt
        have q3 := h56.below hb h56.lt
        exact ⟨q1.cell 0, q2.cell 0, q2.cell 1, q2.cell 2, q2.cell 3, q3.cell 7⟩
      have keep2 : ∀ W', Below w6.heap.size w6 W' → ((W'.setCell ⟨h, i0, none⟩ (.int .i16 z)).cell? ⟨w.heap.size, 0, none⟩ = some (.slice (some ⟨b, off, none⟩) J.length c) ∧ (W'.setCell ⟨h, i0, none⟩ (.int .i16 z)).cell? ⟨b4, 0, none⟩ = some (.int .i16 (atV J (i0 : Int) 0)) ∧ (W'.setCell ⟨h, i0, none⟩ (.int .i16 z)).cell? ⟨b4, 1, none⟩ = some (.int .i16 (atV J (i0 : Int) 1)) ∧ (W'.setCell ⟨h, i0, none⟩ (.int .i16 z)).cell? ⟨b4, 2, none⟩ = some (.int .i16 (atV J (i0 : Int) 2)) ∧ (W'.setCell ⟨h, i0, none⟩ (.int .i16 z)).cell? ⟨b4, 3, none⟩ = some (.int .i16 (atV J (i0 : Int) 3)) ∧ (W'.setCell ⟨h, i0, none⟩ (.int .i16 z)).cell? ⟨b4 + 1, 7, none⟩ = some (.int .i16 z)) := fun W' hb => by
        have q1 := (hP6.below hb hP6.lt).setOther (show w.heap.size ≠ h by omega) i0 (.int .i16 z)
        have q2 := (h46.below hb h46.lt).setOther (show b4 ≠ h by omega) i0 (.int .i16 z)
        have q3 := (h56.below hb h56.lt).setOther (show b4 + 1 ≠ h by omega) i0 (.int .i16 z)
        exact ⟨q1.cell 0, q2.cell 0, q2.cell 1, q2.cell 2, q2.cell 3, q3.cell 7⟩
      have HCE := Lib.hid (fun W' (hb : Below w6.heap.size w6 W') => (show W'.cell? ⟨h, i0, none⟩ = some (.int .i16 (xs.getD i0 0)) ∧ W'.frozen? ⟨h, i0, none⟩ = false from ⟨((hH6.below hb hH6.lt).cell i0).trans (ncells_get _ _ _ hxi), (hH6.below hb hH6.lt).free i0⟩))
      have HFIN := Lib.hid (fun W' (hb : Below w6.heap.size w6 W') => And.intro (HST.out W' (ranges_block hR6 (hb.block mb hmr) (hb.block r hrl)) (hH6.below hb hH6.lt)) (And.intro ((hP6.below hb hP6.lt).setOther (show w.heap.size ≠ h by omega) i0 (.int .i16 z)) (show Below w.heap.size w (W'.setCell ⟨h, i0, none⟩ (.int .i16 z)) from (hB6.trans (hb.mono hB6.size)).setCell (show w.heap.size ≤ h by omega) _)))
      have HB6 := Lib.hid hB6
      have HB0 := Lib.hid (show Below w6.heap.size w6 w6.drew from (Below.refl _ _).drew)
      have HKI := Lib.hid (fun W' (hb : Below w6.heap.size w6 W') => HIO.out i0 hi0 W' (HKP.out W' (HB6.out.trans (hb.mono HB6.out.size))).1 (HKP.out W' (HB6.out.trans (hb.mono HB6.out.size))).2)
      have hii : (i0 : Int) < (nW J : Int) := by omega
      have HLT := Lib.hid hltc
      clear hH6 hP6 hB6 hR6 h46 h56 HST hltc hen
      go_region_held3 (fun W' => W'.cell? ⟨w.heap.size, 0, none⟩ = some (.slice (some ⟨b, off, none⟩) J.length c) ∧ W'.cell? ⟨b4, 0, none⟩ = some (.int .i16 (atV J (i0 : Int) 0)) ∧ W'.cell? ⟨b4, 1, none⟩ = some (.int .i16 (atV J (i0 : Int) 1)) ∧ W'.cell? ⟨b4, 2, none⟩ = some (.int .i16 (atV J (i0 : Int) 2)) ∧ W'.cell? ⟨b4, 3, none⟩ = some (.int .i16 (atV J (i0 : Int) 3)) ∧ W'.cell? ⟨b4 + 1, 7, none⟩ = some (.int .i16 z))
        (first | exact keepS _ (by first | assumption | exact HB0.out) | exact keep2 _ (by assumption))
        (first
          | (go_at_call 64; with_reducible refine (HKI.out _ (by first | assumption | exact HB0.out)).mono ?_; rintro e w8 ⟨rfl, hb8⟩; have hq := Below.trans (by first | assumption | exact HB0.out) (hb8.mono (Below.size (by first | assumption | exact HB0.out))); obtain ⟨ze0, ze1⟩ := HCE.out _ hq))
      all_goals
        have HRR := Lib.hid (HFIN.out w8 hq)
        clear keepS keep2 HCE HFIN HKI HB0 HB6 ze0 ze1 hq hb8
        generalize w8.setCell ⟨h, i0, none⟩ (.int .i16 z) = w9 at *
        have hml := HRR.out.1.rg.left_eq
        go_wp2
        go_roundw
        case rel => exact ⟨_, _, _, HRR.out.1, HRR.out.2.1, HRR.out.2.2⟩
        case measure => rw [hml, HCN.out]; exact HLT.out
end Go.Proofs.Ytjmgalmndpjcoaa
