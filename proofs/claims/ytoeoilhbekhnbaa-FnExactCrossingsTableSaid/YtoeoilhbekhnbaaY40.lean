/-
  CrossingsTable in the program: a range over the map of landings.
-/
import Derived.Test.YtoeoilhbekhnbaaY39
import Derived.Test.YtoeoilhbekhnbaaR2
import Derived.Maps.RangeWalk
namespace Go.Proofs.Ytoeoilhbekhnbaa
open Go.RowKit Go.Maps Go.MapKept Go.ChangeMaps
set_option maxRecDepth 100000
set_option linter.unusedVariables false

theorem ranges_block {P : Program} {k : TypeId} {w w' : World} {b r n : Nat} {R : Value → Option (DataW Value × List MemPlace)} {D : DataW Value} {left : Lit → Bool} {cnt : Nat} (h : w.ranges P k R b r n D left cnt) (h1 : w'.heap[b]? = w.heap[b]?) (h2 : w'.heap[r]? = w.heap[r]?) : w'.ranges P k R b r n D left cnt := by
  obtain ⟨es, clock, since, seen, c0, a1, a2, a3, a4, a5, rest⟩ := h
  exact ⟨es, clock, since, seen, c0, h1.trans a1, a2, a3, a4, h2.trans a5, rest⟩
theorem left_after {left : Lit → Bool} {z kl : Lit} (h : (left z && !z.sameKey kl) = false) : left z = false ∨ z = kl := by
  by_cases e : z = kl
  · exact .inr e
  · rw [sameKey_ne e] at h
    simp at h
    exact .inl h
theorem rep_get (N : Nat) (v : Int) (i : Nat) (h : i < N) : (List.replicate N v).getD i 0 = v := by
  simp [List.getD_eq_getElem?_getD, h]
/-- The table while the range is under way. -/
structure TbC (l : Int) (N : Nat) (s : St) (F : Value → Option Value) (mb r n h : Nat) (D : DataW Value) (wr : World) (left : Lit → Bool) (cnt : Nat) (xs : List Int) : Prop where
  rg : wr.ranges Try.prog 64 HR mb r n D left cnt
  len : xs.length = N
  tb : Blk wr h (ncells .i16 xs) 58
  done : ∀ i, i < N → ∀ kl, keyOf Try.prog 64 (bkV l (i : Nat)) = some kl → left kl = false → xs.getD i 0 = s.tb.getD i 0
  todo : ∀ key kl, keyOf Try.prog 64 key = some kl → left kl = true → (F key).isSome = true
theorem TbC.step {l : Int} {N : Nat} {s : St} {F : Value → Option Value} {mb r n h : Nat} {D : DataW Value} {wr W : World} {left : Lit → Bool} {cnt : Nat} {xs : List Int} (hl : 1 ≤ l ∧ l ≤ 8) (hN : (N : Int) = 2 * (allI l + 1)) (H : TbC l N s F mb r n h D wr left cnt xs) {i0 : Nat} (hi : i0 < N) {kl : Lit} (hkl : keyOf Try.prog 64 (bkV l (i0 : Nat)) = some kl) {cnt' : Nat}
    (hrg : W.ranges Try.prog 64 HR mb r n D (fun z => left z && !z.sameKey kl) cnt') (hb : Blk W h (ncells .i16 xs) 58) (h1 : h ≠ mb) (h2 : h ≠ r) :
    TbC l N s F mb r n h D (W.setCell ⟨h, i0, none⟩ (.int .i16 (s.tb.getD i0 0))) (fun z => left z && !z.sameKey kl) cnt' (xs.set i0 (s.tb.getD i0 0)) := by
  refine ⟨ranges_block hrg (heap_setCell_other W ⟨h, i0, none⟩ mb _ (fun e => h1 e.symm)) (heap_setCell_other W ⟨h, i0, none⟩ r _ (fun e => h2 e.symm)), by rw [List.length_set]; exact H.len, ?_, ?_, ?_⟩
  · have := hb.set i0 (.int .i16 (s.tb.getD i0 0))
    rwa [ncells_set _ _ _ _ (by rw [H.len]; exact hi)] at this
  · intro i hiN kl' hk' hl'
    rw [getD_set _ _ _ _ (by rw [H.len]; exact hi)]
    by_cases e : i = i0
    · subst e; rw [if_pos rfl]
    · rw [if_neg e]
      rcases left_after hl' with h3 | h3
      · exact H.done i hiN kl' hk' h3
      · exact absurd (bk_inj hl ⟨by omega, by omega⟩ ⟨by omega, by omega⟩ (keyB.inj hk' (h3 ▸ hkl))) (by omega)
  · intro key kl' hk' hl'
    simp only [Bool.and_eq_true] at hl'
    exact H.todo key kl' hk' hl'.1
set_option maxHeartbeats 1000000 in
theorem crossingsTable_any (l k : Int) (a : Option Addr) (c : Nat) (xs : List Int) (w : World) (hs : Sl .u16 w.heap.size w a xs) (hl : B8 l) (hk : B8 k) (hn : xs.length ≤ 1048576) (hw : U16 xs) :
    Calls Try.prog 12 #[ferV l k a xs.length c] w fun e w' => ∃ v, e = .returned (.tuple #[v, .int .i64 (ctC l k xs)]) ∧ OwnV .i16 w.heap.size w' v (ctL l k xs) ∧ Below w.heap.size w w' := by
  have F0 := (FR.start w).box #[.int .i8 l, .int .i8 k, .slice a xs.length c] 30
  obtain ⟨c0, c1, c2, -⟩ := (F0.blk _ List.mem_cons_self).three
  have HO := Lib.hid (validFerry_any l k a c xs _ (hs.up F0.below (Nat.le_refl _)) hl hk hn hw)
  have HF := Lib.hid F0
  unfold ctL ctC
  cases hok : okY l k xs
  · rw [hok] at HO
    simp only [Bool.false_eq_true, if_false]
    clear hok F0 hs hl hk hw
    go_enter Try.func12, Try.ntmps12
    go_wp2_with fail
    refine HO.out.mono ?_
    rintro e w2 ⟨rfl, hb⟩
    have HB := Lib.hid (HF.out.next hb).below
    clear hb HF HO c0 c1 c2
    go_wp2
    go_ret2
    exact ⟨_, rfl, OwnV.nil _ _ _ _ _, HB.out⟩
  rw [hok] at HO
  simp only [if_true]
  have h8 := (okY_t hok).1
  have hk8 : 0 ≤ k ∧ k ≤ 8 := by have := okY_t hok; omega
  have hN := nB_eq h8
  have hN1 : 1 ≤ nB l := by omega
  have HCB := Lib.hid (fun W => (show Calls Try.prog 38 #[ferV l k a xs.length c] W fun e w' => e = .returned (.int .i64 (nB l : Nat)) ∧ Below W.heap.size W w' by
    rw [hN.1]; exact countBanks_any l k a xs.length c W h8))
  have HRP := Lib.hid (fun g c W h1 h2 => repeat_any g c (nB l) W ⟨hN1, by omega⟩ h1 h2)
  have HFD := Lib.hid (fun W2 (h1 : Below w.heap.size w W2) => landings_any l k a c xs W2 (hs.up h1 (Nat.le_refl _)) hn hw h8 hk8)
  have HI := Lib.hid (stA_inv (k := k) (xs := xs) h8 hN.1)
  have HJ := Lib.hid (And.intro h8 hN.1)
  have HIO := Lib.hid (fun (i : Nat) (hi : i < nB l) W => (show Calls Try.prog 40 #[ferV l k a xs.length c, bankV (bkN l (i : Int)) (bkF l (i : Int))] W fun e w' => e = .returned (.int .i64 (i : Int)) ∧ Below W.heap.size W w' by
    have hq := bk_num (l := l) (i := (i : Int)) h8 ⟨by omega, by omega⟩
    have ha := allI_le h8
    have h := number_any l k a xs.length c (bkN l (i : Int)) (bkF l (i : Int)) W h8 (by omega)
    rwa [hq.1] at h))
  have HKM := Lib.hid (fun (i : Nat) (hi : i < nB l) => keyB_mk (bkN l (i : Int)) (bkF l (i : Int)) (by have hq := bk_num (l := l) (i := (i : Int)) h8 ⟨by omega, by omega⟩; have ha := allI_le h8; omega))
  have hN5 := hN.2.1
  generalize stA l k xs (nB l) = s at *
  generalize nB l = N at *
  clear hok F0 hs hl hk hw hN h8 hk8
  go_enter Try.func12, Try.ntmps12
  go_wp2_with fail
  refine HO.out.mono ?_
  rintro e w2 ⟨rfl, hb⟩
  have F2 := HF.out.next hb
  have FA := F2.box #[.int .i16 (-1)] 58
  have gA := FA.blk _ List.mem_cons_self
  dsimp only at gA
  have gAl := gA.lt
  clear c0 c1 c2
  obtain ⟨c0, c1, c2, -⟩ := (FA.blk _ (List.mem_cons_of_mem _ List.mem_cons_self)).three
  clear hb HF HO F2
  go_wp2_with fail
  refine (Calls.fr FA (HCB.out _)).mono ?_
  rintro e w3 ⟨rfl, FB⟩
  have gB := FB.blk _ List.mem_cons_self
  dsimp only at gB
  have HRR := Lib.hid (HRP.out w2.heap.size 1 w3 gB.lt (gB.cell 0))
  clear c0 c1 c2 FA gA gAl HCB HRP
  go_wp2_with fail
  refine HRR.out.mono ?_
  rintro e w4 ⟨h, rfl, hh0, hT, hb4⟩
  have F4 := FB.next hb4
  have gF := F4.blk _ (List.mem_cons_of_mem _ List.mem_cons_self)
  dsimp only at gF
  have hwh : w.heap.size < h := by have := gB.lt; have := F4.below.size; have h9 := (FB.blk _ (List.mem_cons_of_mem _ List.mem_cons_self)).lt; dsimp only at h9; omega
  obtain ⟨c0, c1, c2, -⟩ := gF.three
  have HFX := Lib.hid (HFD.out w4 F4.below)
  have hTl := hT.lt
  have HB4 := Lib.hid F4.below
  clear gB FB HRR hb4 HFD F4 hh0
  go_wp2_with fail
  refine HFX.out.mono ?_
  rintro e w5 ⟨O, X, mb, g, cap, rfl, hP⟩
  have hb5 := hP.below
  have hB5 := HB4.out.trans (hb5.mono HB4.out.size)
  have hT5 := hT.below hb5 hT.lt
  have k5 := gF.below hb5 gF.lt
  have hmb := hP.lo.2.2
  obtain ⟨F, nn, hnn, ⟨D, hown, hD⟩, hS⟩ := hP.map
  have hmlt := hown.lt
  have HD := Lib.hid hD
  have HS := Lib.hid hS
  clear c0 c1 c2 hP hT gF HB4 HFX hD hS hb5 hnn
  go_wp2_with (at_range; refine wpList_range_own _ rfl _ 60 rfl 64 66 keyB Try.underlying60 HR mb nn D rfl hown ?_)
  intro w6 hrg hgr hsz6
  have hkl := k5.lt
  have hTl5 := hT5.lt
  have hB6 : Below w.heap.size w w6 := hB5.grown hgr hB5.size (fun j hj => by cases hj)
  have hT6 : Blk w6 h (ncells .i16 (List.replicate N (-1))) 58 := (hgr.block h hTl5 (by simp)).trans hT5
  have k6 : Blk w6 w.heap.size #[.int .i8 l, .int .i8 k, .slice a xs.length c] 30 := (hgr.block w.heap.size hkl (by simp)).trans k5
  have hhm : h ≠ mb := by omega
  have hrh : h ≠ w5.heap.size := by omega
  have HR0 := Lib.hid (show TbC l N s F mb w5.heap.size nn h D w6 (Maps.has D) (Maps.size D) (List.replicate N (-1)) from
    ⟨hrg, by simp, hT6, fun i hi kl hk hl => by
      rw [rep_get _ _ _ hi]
      have h1 := (HD.out _ kl hk).1
      rw [hl, HS.out.1 i hi] at h1
      have h2 := (HI.out.far i hi).1
      unfold lgO at h1
      by_cases h0 : 0 ≤ s.tb.getD i 0
      · rw [if_pos h0] at h1; cases h1
      · omega, fun key kl hk hl => by have h1 := (HD.out key kl hk).1; rw [hl] at h1; exact h1.symm⟩)
  have HK6 := Lib.hid (And.intro k6 hB6)
  have hwr5 : w.heap.size < w5.heap.size := by omega
  clear hrg hT6 k6 hB6 hgr hown hB5 hT5 k5 hsz6
  generalize w5.heap.size = r at *
  go_wp2_with fail
  go_loopw [17] (fun _ wr => ∃ left cnt ys, TbC l N s F mb r nn h D wr left cnt ys ∧ Blk wr w.heap.size #[.int .i8 l, .int .i8 k, .slice a xs.length c] 30 ∧ Below w.heap.size w wr) (fun _ w => w.rangeLeft mb r)
  case atStart => exact ⟨_, _, _, HR0.out, HK6.out.1, HK6.out.2⟩
  case round =>
    clear HR0 HK6
    obtain ⟨left, cnt, ys, hT, hP, hB⟩ := hrel
    have hcnt := hT.rg.left_eq
    have HCN := Lib.hid hcnt
    go_wp2_with (at_next; refine wpList_next_ranges _ rfl _ rfl 64 keyB HR id id (fun key kl _ => ⟨key, rfl⟩) (fun v y _ => ⟨v, rfl⟩) mb r nn D left cnt rfl hT.rg ?_ ?_)
    · intro h0 hl
      have HX := Lib.hid (show OwnV .i16 w.heap.size wr (.slice (some ⟨h, 0, none⟩) N N) s.tb by
        have e : ys = s.tb := by
          apply List.ext_getElem
          · rw [hT.len, HI.out.tb]
          · intro i h1 h2
            have hi : i < N := by rw [← hT.len]; exact h1
            obtain ⟨kl, hkl⟩ := HKM.out i hi
            have h3 := hT.done i hi kl hkl (hl kl)
            rw [List.getD_eq_getElem?_getD, List.getD_eq_getElem?_getD, List.getElem?_eq_getElem h1, List.getElem?_eq_getElem h2] at h3
            exact h3
        have h5 := hT.tb
        rw [e] at h5
        exact ownV_of_blk h5 (by omega) HI.out.tb.symm)
      have HBB := Lib.hid hB
      clear hT hP hl hcnt hB
      go_wp2
      go_ret2
      exact ⟨_, rfl, HX.out, HBB.out⟩
    · intro x1 c1 kl y1 y2 w' cnt' hk hlk hHR hat hrg hltc hgr hsz hen
      clear hsz
      have hsome := hT.todo x1 kl hk hlk
      obtain ⟨i0, hi0, rfl⟩ := HS.out.2 x1 hsome
      have hy : y1 = .held c1 := by unfold HR at hHR; simp at hHR; exact hHR.1.symm
      have hc2 := (HD.out _ kl hk).2 c1
      have hc3 : D.atKey kl (.held c1) = y1 := hat _
      rw [hc3, hy] at hc2
      have hc4 : c1 = (F (bkV l (i0 : Nat))).getD c1 := by injection hc2
      have hF := HS.out.1 i0 hi0
      have htb : 0 ≤ s.tb.getD i0 0 := by
        rw [hF] at hsome
        unfold lgO at hsome
        by_cases h0 : 0 ≤ s.tb.getD i0 0
        · exact h0
        · rw [if_neg h0] at hsome; cases hsome
      have hc5 : c1 = lgV l s i0 := by
        rw [hc4, hF]; unfold lgO; rw [if_pos htb]; rfl
      clear hy hc2 hc3 hc4 hat hHR hF hsome hcnt y1 y2
      have HST := Lib.hid (fun W (h1 : W.ranges Try.prog 64 HR mb r nn D (fun z => left z && !z.sameKey kl) cnt') (h2 : Blk W h (ncells .i16 ys) 58) => TbC.step HJ.out.1 HJ.out.2 hT hi0 hk h1 h2 hhm hrh)
      have hxl := hT.len
      have hTb : Blk w' h (ncells .i16 ys) 58 := (hgr.block h hT.tb.lt (fun e => hrh (Option.some.inj e))).trans hT.tb
      have hP' : Blk w' w.heap.size #[.int .i8 l, .int .i8 k, .slice a xs.length c] 30 := (hgr.block w.heap.size hP.lt (fun e => by have := Option.some.inj e; omega)).trans hP
      have hB' : Below w.heap.size w w' := hB.grown hgr hB.size (fun j hj => by have e : r = j := Option.some.inj hj; omega)
      have hwl := hTb.lt
      have HKI0 := Lib.hid (HIO.out i0 hi0)
      unfold lgV at hc5
      clear hT hP hB hgr htb hk
      generalize hz : s.tb.getD i0 0 = z at *
      clear hz
      generalize bkN l (s.fr.getD i0 0) = y1 at *
      generalize bkF l (s.fr.getD i0 0) = y2 at *
      generalize s.by'.getD i0 0 = y3 at *
      generalize s.wy.getD i0 0 = y5 at *
      subst hc5
      have hH6 := (hTb.alloc (.cells #[.int .u16 (bkN l (i0 : Int)), .bool (bkF l (i0 : Int))] 64)).alloc (.cells #[.int .u16 y1, .bool y2, .int .u16 y3, .int .i16 z, .int .i64 y5] 66)
      have hP6 := (hP'.alloc (.cells #[.int .u16 (bkN l (i0 : Int)), .bool (bkF l (i0 : Int))] 64)).alloc (.cells #[.int .u16 y1, .bool y2, .int .u16 y3, .int .i16 z, .int .i64 y5] 66)
      have hB6 := (hB'.alloc hB'.size (.cells #[.int .u16 (bkN l (i0 : Int)), .bool (bkF l (i0 : Int))] 64)).alloc (by simp; have := hB'.size; omega) (.cells #[.int .u16 y1, .bool y2, .int .u16 y3, .int .i16 z, .int .i64 y5] 66)
      have hR6 := (hrg.alloc (.cells #[.int .u16 (bkN l (i0 : Int)), .bool (bkF l (i0 : Int))] 64)).alloc (.cells #[.int .u16 y1, .bool y2, .int .u16 y3, .int .i16 z, .int .i64 y5] 66)
      have h46 := (blk_new w' #[.int .u16 (bkN l (i0 : Int)), .bool (bkF l (i0 : Int))] 64).alloc (.cells #[.int .u16 y1, .bool y2, .int .u16 y3, .int .i16 z, .int .i64 y5] 66)
      have h56 := blk_new (w'.alloc (.cells #[.int .u16 (bkN l (i0 : Int)), .bool (bkF l (i0 : Int))] 64)) #[.int .u16 y1, .bool y2, .int .u16 y3, .int .i16 z, .int .i64 y5] 66
      simp only [World.size_alloc] at h56
      clear hTb hP' hB' hrg
      unfold bkV at hen ⊢
      go_upto_region 7 with fail
      generalize (w'.alloc (.cells #[.int .u16 (bkN l (i0 : Int)), .bool (bkF l (i0 : Int))] 64)).alloc (.cells #[.int .u16 y1, .bool y2, .int .u16 y3, .int .i16 z, .int .i64 y5] 66) = w6 at *
      generalize w'.heap.size = b4 at *
      have hmr := hR6.owns.lt
      have hrl := hR6.lt
      have hxi : i0 < ys.length := by rw [hxl]; exact hi0
      have keepS : ∀ W', Below w6.heap.size w6 W' → (W'.cell? ⟨w.heap.size, 0, none⟩ = some (.int .i8 l) ∧ W'.cell? ⟨w.heap.size, 1, none⟩ = some (.int .i8 k) ∧ W'.cell? ⟨w.heap.size, 2, none⟩ = some (.slice a xs.length c) ∧ W'.cell? ⟨b4, 0, none⟩ = some (.int .u16 (bkN l (i0 : Int))) ∧ W'.cell? ⟨b4, 1, none⟩ = some (.bool (bkF l (i0 : Int))) ∧ W'.cell? ⟨b4 + 1, 3, none⟩ = some (.int .i16 z)) := fun W' hb => by
        have q1 := hP6.below hb hP6.lt
        have q2 := h46.below hb h46.lt
        have q3 := h56.below hb h56.lt
        exact ⟨q1.cell 0, q1.cell 1, q1.cell 2, q2.cell 0, q2.cell 1, q3.cell 3⟩
      have keep2 : ∀ W', Below w6.heap.size w6 W' → ((W'.setCell ⟨h, i0, none⟩ (.int .i16 z)).cell? ⟨w.heap.size, 0, none⟩ = some (.int .i8 l) ∧ (W'.setCell ⟨h, i0, none⟩ (.int .i16 z)).cell? ⟨w.heap.size, 1, none⟩ = some (.int .i8 k) ∧ (W'.setCell ⟨h, i0, none⟩ (.int .i16 z)).cell? ⟨w.heap.size, 2, none⟩ = some (.slice a xs.length c) ∧ (W'.setCell ⟨h, i0, none⟩ (.int .i16 z)).cell? ⟨b4, 0, none⟩ = some (.int .u16 (bkN l (i0 : Int))) ∧ (W'.setCell ⟨h, i0, none⟩ (.int .i16 z)).cell? ⟨b4, 1, none⟩ = some (.bool (bkF l (i0 : Int))) ∧ (W'.setCell ⟨h, i0, none⟩ (.int .i16 z)).cell? ⟨b4 + 1, 3, none⟩ = some (.int .i16 z)) := fun W' hb => by
        have q1 := (hP6.below hb hP6.lt).setOther (show w.heap.size ≠ h by omega) i0 (.int .i16 z)
        have q2 := (h46.below hb h46.lt).setOther (show b4 ≠ h by omega) i0 (.int .i16 z)
        have q3 := (h56.below hb h56.lt).setOther (show b4 + 1 ≠ h by omega) i0 (.int .i16 z)
        exact ⟨q1.cell 0, q1.cell 1, q1.cell 2, q2.cell 0, q2.cell 1, q3.cell 3⟩
      have HCE := Lib.hid (fun W' (hb : Below w6.heap.size w6 W') => (show W'.cell? ⟨h, i0, none⟩ = some (.int .i16 (ys.getD i0 0)) ∧ W'.frozen? ⟨h, i0, none⟩ = false from ⟨((hH6.below hb hH6.lt).cell i0).trans (ncells_get _ _ _ hxi), (hH6.below hb hH6.lt).free i0⟩))
      have HFIN := Lib.hid (fun W' (hb : Below w6.heap.size w6 W') => And.intro (HST.out W' (ranges_block hR6 (hb.block mb hmr) (hb.block r hrl)) (hH6.below hb hH6.lt)) (And.intro ((hP6.below hb hP6.lt).setOther (show w.heap.size ≠ h by omega) i0 (.int .i16 z)) (show Below w.heap.size w (W'.setCell ⟨h, i0, none⟩ (.int .i16 z)) from (hB6.trans (hb.mono hB6.size)).setCell (show w.heap.size ≤ h by omega) _)))
      have HB0 := Lib.hid (show Below w6.heap.size w6 w6.drew from (Below.refl _ _).drew)
      have HKI := Lib.hid (fun W' (hb : Below w6.heap.size w6 W') => HKI0.out W')
      have hii : (i0 : Int) < (N : Int) := by omega
      have HLT := Lib.hid hltc
      clear hH6 hP6 hB6 hR6 h46 h56 HST hltc hen
      go_region_held3 (fun W' => W'.cell? ⟨w.heap.size, 0, none⟩ = some (.int .i8 l) ∧ W'.cell? ⟨w.heap.size, 1, none⟩ = some (.int .i8 k) ∧ W'.cell? ⟨w.heap.size, 2, none⟩ = some (.slice a xs.length c) ∧ W'.cell? ⟨b4, 0, none⟩ = some (.int .u16 (bkN l (i0 : Int))) ∧ W'.cell? ⟨b4, 1, none⟩ = some (.bool (bkF l (i0 : Int))) ∧ W'.cell? ⟨b4 + 1, 3, none⟩ = some (.int .i16 z))
        (first | exact keepS _ (by first | assumption | exact HB0.out) | exact keep2 _ (by assumption))
        (first
          | (go_at_call 40; with_reducible refine (HKI.out _ (by first | assumption | exact HB0.out)).mono ?_; rintro e w8 ⟨rfl, hb8⟩; have hq := Below.trans (by first | assumption | exact HB0.out) (hb8.mono (Below.size (by first | assumption | exact HB0.out))); obtain ⟨ze0, ze1⟩ := HCE.out _ hq))
      all_goals
        have HRR := Lib.hid (HFIN.out w8 hq)
        clear keepS keep2 HCE HFIN HKI HB0 ze0 ze1 hq hb8
        generalize w8.setCell ⟨h, i0, none⟩ (.int .i16 z) = w9 at *
        have hml := HRR.out.1.rg.left_eq
        go_wp2
        go_roundw
        case rel => exact ⟨_, _, _, HRR.out.1, HRR.out.2.1, HRR.out.2.2⟩
        case measure => rw [hml, HCN.out]; exact HLT.out
end Go.Proofs.Ytoeoilhbekhnbaa
