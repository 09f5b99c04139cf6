/-
  The walk of ReadWeighing.
-/
import Derived.Test.YtlbiakoofpgdmaaW3
namespace Go.Proofs.Ytlbiakoofpgdmaa
open Go.RowKit Go.Shelf
set_option maxRecDepth 100000
set_option linter.unusedVariables false

theorem rp_of_rw {c : Int} {g : Bool} {s : ByteArray} {p : Nat} (hp : plI c g = (p : Int)) (h1 : 1 ≤ p ∧ p ≤ 14) (h : RwOk c g s) : RpOk s :=
  ⟨by have := h.1; omega, h.2.1⟩
theorem valX_list (s : ByteArray) (h : s.size ≤ 14) : ((valsTo s s.size).map (Value.int .i8) ++ (weigC (fun _ => 0)).toList.drop s.size) = (weigC (valX s)).toList := by
  have hl := valsTo_length s s.size (Nat.le_refl _)
  apply List.ext_getElem?
  intro j
  by_cases hj : j < s.size
  · rw [List.getElem?_append_left (by rw [List.length_map, hl]; exact hj), List.getElem?_map]
    have e := valsTo_getD s s.size j (Nat.le_refl _) hj
    rw [List.getD_eq_getElem?_getD, List.getElem?_eq_getElem (by rw [hl]; exact hj)] at e
    simp only [Option.getD_some] at e
    rw [List.getElem?_eq_getElem (by rw [hl]; exact hj), e]
    have := weigC_get (valX s) j (by omega)
    rw [valX_in s j hj] at this
    simpa using this.symm
  · rw [List.getElem?_append_right (by rw [List.length_map, hl]; omega), List.length_map, hl, List.getElem?_drop, show s.size + (j - s.size) = j by omega]
    by_cases h14 : j < 14
    · have a := weigC_get (fun _ => 0) j h14
      have b := weigC_get (valX s) j h14
      have hv : valX s j = 0 := by unfold valX; rw [dif_neg hj]
      rw [hv] at b
      rw [Array.getElem?_toList, Array.getElem?_toList, a, b]
    · rw [List.getElem?_eq_none (by simp; omega), List.getElem?_eq_none (by simp; omega)]
theorem blk_setRow {w : World} {g : Nat} {cs ds : Array Value} {t : TypeId} (h : Blk w g cs t) : Blk (w.setRow g ds) g ds t := setRow_heap w g cs ds t (0, 0) h
theorem FR.setTopRow {w0 w : World} {b : Nat} {cs : Array Value} {t : TypeId} {L : List (Nat × Array Value × TypeId)} (h : FR w0 ((b, cs, t) :: L) w) (ds : Array Value) :
    FR w0 ((b, ds, t) :: L) (w.setRow b ds) := by
  have hb : Below b w (w.setRow b ds) := below_setRow (Below.refl b w) (Nat.le_refl b) ds
  obtain ⟨h0, hL⟩ := h.top _ _ rfl
  refine ⟨h.below.trans (hb.mono h0), fun p hp => ?_, (fun p L' e => by cases e; exact ⟨h0, hL⟩)⟩
  rcases List.mem_cons.1 hp with rfl | hp
  · exact blk_setRow (h.blk (b, cs, t) List.mem_cons_self)
  · exact (h.blk p (List.mem_cons_of_mem _ hp)).below hb (hL p hp)
theorem okGw_okG {c k : Int} {g : Bool} {x : Nat → Int} (h : okT c k = true) : okG c k g x = okGw c g x := by unfold okG; rw [h]; rfl
set_option maxHeartbeats 8000000 in
theorem readWeighing_any (c k : Int) (n g : Bool) (s : ByteArray) (w : World) (hc : B8 c) (hk : B8 k) (hs : s.size ≤ 1048576) :
    Calls Try.prog 26 #[taskV c k n g, .string s] w fun e w' => e = .returned (.tuple #[weigV (rwV c k g s), .int .i64 (rwC c k g s)]) ∧ Below w.heap.size w w' := by
  have F0 := ((FR.start w).box #[.int .i8 c, .int .i8 k, .bool n, .bool g] 32).box (weigC (fun _ => 0)) 34
  simp only [World.size_alloc] at F0
  have HV := Lib.hid (fun W => validTask_any c k n g W hc hk)
  obtain ⟨c0, c1, c2, c3, -⟩ := (F0.blk _ (List.mem_cons_of_mem _ List.mem_cons_self)).four
  cases hok : okT c k
  · rw [hok] at HV
    have HN := Lib.hid (rw_bad (g := g) (s := s) hok)
    clear hc hk hok
    go_enter Try.func26, Try.ntmps26
    go_wp2_with fail
    refine (HV.out _).mono ?_
    rintro e w2 ⟨rfl, hb⟩
    have F1 := F0.next hb
    clear hb F0 c0 c1 c2 c3
    obtain ⟨e0, e1, e2, e3, e4, e5, e6, e7, e8, e9, e10, e11, e12, e13, e14⟩ := Blk.fourteen (x := fun _ => 0) (F1.blk _ (List.mem_cons_self))
    have HF := Lib.hid F1
    clear F1
    go_wp2
    exact bodyPost_ret (res_rw_impl (x := fun _ => 0) (Blk.set14 (z := fun _ => 0) (fun _ => 0) (HF.out.blk _ (List.mem_cons_self))) _ rfl rfl) rfl ⟨by rw [HN.out.1, HN.out.2], below14 HF.out.below (by omega) (fun _ => 0)⟩
  · rw [hok] at HV
    have HW := Lib.hid (fun x W hx => validWeighing_any c k n g x W hc hk hx)
    have HP := Lib.hid (fun W => placesOf_any c k n g W hc)
    have HRd := Lib.hid (fun W => readPlacing_any s W)
    have HRy := Lib.hid (fun h => rw_yes (g := g) (s := s) hok h)
    have HRn := Lib.hid (fun h => rw_no (g := g) (s := s) hok h)
    have HGG := Lib.hid (fun x => okGw_okG (g := g) (x := x) hok)
    obtain ⟨hm, hk2, hmc⟩ := okT_t hok
    have hp : ∃ p : Nat, plI c g = (p : Int) ∧ 1 ≤ p ∧ p ≤ 14 := by
      unfold plI
      split
      · exact ⟨c.toNat + 1, by omega, by omega, by omega⟩
      · exact ⟨c.toNat, by omega, by omega, by omega⟩
    obtain ⟨p, hp, hp1, hp14⟩ := hp
    rw [hp] at HP
    have HPL := Lib.hid hp
    have hpz : (p : Int) ≤ 14 := by omega
    have hpz1 : (1 : Int) ≤ (p : Int) := by omega
    clear hc hk hok hm hk2 hmc
    by_cases hrp : RpOk s
    case neg =>
      have HN := Lib.hid (HRn.out (fun h => hrp (rp_of_rw hp ⟨hp1, hp14⟩ h)))
      rw [(rp_f hrp).2] at HRd
      clear hrp hp
      go_enter Try.func26, Try.ntmps26
      go_wp2_with fail
      refine (HV.out _).mono ?_
      rintro e w2 ⟨rfl, hb⟩
      have F1 := F0.next hb
      clear hb F0 c0 c1 c2 c3
      go_wp2_with fail
      refine (HRd.out _).mono ?_
      rintro e w3 ⟨v, rfl, -, hb⟩
      have F2 := F1.next hb
      clear hb F1
      obtain ⟨e0, e1, e2, e3, e4, e5, e6, e7, e8, e9, e10, e11, e12, e13, e14⟩ := Blk.fourteen (x := fun _ => 0) (F2.blk _ (List.mem_cons_self))
      have HF := Lib.hid F2
      clear F2
      go_wp2
      exact bodyPost_ret (res_rw_impl (x := fun _ => 0) (Blk.set14 (z := fun _ => 0) (fun _ => 0) (HF.out.blk _ (List.mem_cons_self))) _ rfl rfl) rfl ⟨by rw [HN.out.1, HN.out.2], below14 HF.out.below (by omega) (fun _ => 0)⟩
    rw [(rp_t hrp).1, (rp_t hrp).2] at HRd
    have hlen := valsTo_length s s.size (Nat.le_refl _)
    have hs1 := hrp.1
    have HGOOD := Lib.hid hrp.2
    have HRd2 := Lib.hid (fun W => show Calls Try.prog 47 #[.string s] W fun e w' => ∃ b q, e = .returned (.tuple #[.slice (some ⟨b, 0, none⟩) s.size q, .int .i64 0]) ∧ W.heap.size ≤ b ∧ b < w'.heap.size ∧ At .i8 w' b 0 (valsTo s s.size) ∧ Below W.heap.size W w' from
      (HRd.out W).mono fun e w' ⟨v, he, ho, hb⟩ => by
        rcases ho with ⟨hnil, _⟩ | ⟨b, q, hv, h1, h2, h3, _⟩
        · rw [hnil] at hlen; simp at hlen; omega
        · rw [hlen] at hv
          exact ⟨b, q, by rw [he, hv], h1, h2, h3, hb⟩)
    clear HRd hrp
    by_cases hsz : s.size = p
    case neg =>
      have HN := Lib.hid (HRn.out (fun h => hsz (by have := h.1; omega)))
      have hq : ((s.size : Int) != (p : Int)) = true := by simp; omega
      clear hp hlen
      go_enter Try.func26, Try.ntmps26
      go_wp2_with fail
      refine (HV.out _).mono ?_
      rintro e w2 ⟨rfl, hb⟩
      have F1 := F0.next hb
      clear hb F0 c0 c1 c2 c3
      go_wp2_with fail
      refine (HRd2.out _).mono ?_
      rintro e w3 ⟨b, q, rfl, -, -, -, hb⟩
      have F2 := F1.next hb
      clear hb F1
      obtain ⟨c0, c1, c2, c3, -⟩ := (F2.blk _ (List.mem_cons_of_mem _ List.mem_cons_self)).four
      go_wp2_with fail
      refine (HP.out _).mono ?_
      rintro e w4 ⟨rfl, hb⟩
      have F3 := F2.next hb
      clear hb F2 c0 c1 c2 c3
      obtain ⟨e0, e1, e2, e3, e4, e5, e6, e7, e8, e9, e10, e11, e12, e13, e14⟩ := Blk.fourteen (x := fun _ => 0) (F3.blk _ (List.mem_cons_self))
      have HF := Lib.hid F3
      clear F3
      go_wp2
      exact bodyPost_ret (res_rw_impl (x := fun _ => 0) (Blk.set14 (z := fun _ => 0) (fun _ => 0) (HF.out.blk _ (List.mem_cons_self))) _ rfl rfl) rfl ⟨by rw [HN.out.1, HN.out.2], below14 HF.out.below (by omega) (fun _ => 0)⟩
    have hq : ((s.size : Int) != (p : Int)) = false := by simp; omega
    have hcs : ((valsTo s s.size).map (Value.int .i8)).length = Nat.min p 14 := by rw [List.length_map, hlen, hsz]; exact (Nat.min_eq_left hp14).symm
    have HCS := Lib.hid hcs
    have HVL := Lib.hid (valX_list s (by omega))
    have hu8 := Try.underlying70
    have hiz : (Try.prog.info? 22).map (·.size) = some 1 := by kernel_rfl
    have HO8 := Lib.hid (show ∀ v ∈ (valsTo s s.size).map (Value.int .i8), v.oneCell' = true from fun v hv => by obtain ⟨y, _, rfl⟩ := List.mem_map.1 hv; rfl)
    clear hp hcs
    go_enter Try.func26, Try.ntmps26
    go_wp2_with fail
    refine (HV.out _).mono ?_
    rintro e w2 ⟨rfl, hb⟩
    have F1 := F0.next hb
    clear hb F0 c0 c1 c2 c3
    go_wp2_with fail
    refine (HRd2.out _).mono ?_
    rintro e w3 ⟨b, q, rfl, hb1, hb2, hat, hb⟩
    have F2 := F1.next hb
    clear hb F1
    obtain ⟨c0, c1, c2, c3, -⟩ := (F2.blk _ (List.mem_cons_of_mem _ List.mem_cons_self)).four
    go_wp2_with fail
    refine (HP.out _).mono ?_
    rintro e w4 ⟨rfl, hb⟩
    have F3 := F2.next hb
    have hat4 := hat.below hb hb2
    have hbz := Nat.lt_of_lt_of_le hb2 hb.size
    clear hb F2 c0 c1 c2 c3 hat hb2 hb1
    have hz3 := (F3.blk _ List.mem_cons_self).lt
    have F4 : FR w (rwL w.heap.size w4.heap.size c k n g (fun _ => 0)) (w4.alloc (.cells #[.int .i8 0, .int .i8 0, .int .i8 0, .int .i8 0, .int .i8 0, .int .i8 0, .int .i8 0, .int .i8 0, .int .i8 0, .int .i8 0, .int .i8 0, .int .i8 0, .int .i8 0, .int .i8 0] 34)) := F3.box (weigC (fun _ => 0)) 34
    have hsrc := Lib.hid (show ∀ j v, ((valsTo s s.size).map (Value.int .i8))[j]? = some v → (w4.alloc (.cells #[.int .i8 0, .int .i8 0, .int .i8 0, .int .i8 0, .int .i8 0, .int .i8 0, .int .i8 0, .int .i8 0, .int .i8 0, .int .i8 0, .int .i8 0, .int .i8 0, .int .i8 0, .int .i8 0] 34)).cell? ((⟨b, 0, none⟩ : Addr).add j) = some v from fun j v hv => by
      have hj : j < (valsTo s s.size).length := by have := (List.getElem?_eq_some_iff.1 hv).1; simpa using this
      have h1 := hat4.below ((Below.refl w4.heap.size w4).alloc (Nat.le_refl _) (.cells #[.int .i8 0, .int .i8 0, .int .i8 0, .int .i8 0, .int .i8 0, .int .i8 0, .int .i8 0, .int .i8 0, .int .i8 0, .int .i8 0, .int .i8 0, .int .i8 0, .int .i8 0, .int .i8 0] 34)) hbz j hj
      rw [Addr.add_mid, h1]
      rw [List.getElem?_map, List.getElem?_eq_getElem hj] at hv
      simp only [Option.map_some, Option.some.injEq] at hv
      rw [← hv, List.getD_eq_getElem?_getD, List.getElem?_eq_getElem hj]
      rfl)
    have HF4 := Lib.hid F4
    have hBlk := (F4.blk _ List.mem_cons_self)
    dsimp only at hBlk hz3
    clear F3 F4 hat4
    have hcopy := run_copy_row (P := Try.prog) (w4.alloc (.cells #[.int .i8 0, .int .i8 0, .int .i8 0, .int .i8 0, .int .i8 0, .int .i8 0, .int .i8 0, .int .i8 0, .int .i8 0, .int .i8 0, .int .i8 0, .int .i8 0, .int .i8 0, .int .i8 0] 34)) 70 72 3 22 w4.heap.size 0 14 14 ⟨b, 0, none⟩ p q (weigC (fun _ => 0)) 34 ((valsTo s s.size).map (Value.int .i8)) hu8 hiz hBlk HCS.out hsrc.out (by rw [HCS.out, Nat.zero_add]; exact Nat.min_le_right _ _) HO8.out
    have hrow : ((weigC (fun _ => 0)).toList.take 0 ++ (valsTo s s.size).map (Value.int .i8) ++ (weigC (fun _ => 0)).toList.drop (0 + ((valsTo s s.size).map (Value.int .i8)).length)).toArray = weigC (valX s) := by
      rw [HCS.out, Nat.zero_add, show Nat.min p 14 = s.size from by rw [hsz]; exact Nat.min_eq_left hp14, List.take_zero, List.nil_append, HVL.out]
    rw [hrow, HCS.out, show Nat.min p 14 = p from Nat.min_eq_left hp14] at hcopy
    have F5 := HF4.out.setTopRow (weigC (valX s))
    generalize (w4.alloc (.cells #[.int .i8 0, .int .i8 0, .int .i8 0, .int .i8 0, .int .i8 0, .int .i8 0, .int .i8 0, .int .i8 0, .int .i8 0, .int .i8 0, .int .i8 0, .int .i8 0, .int .i8 0, .int .i8 0] 34)).setRow w4.heap.size (weigC (valX s)) = W5 at *
    have HWx := Lib.hid (fun W => HW.out (valX s) W (valX_8 s))
    rw [HGG.out] at HWx
    obtain ⟨c0, c1, c2, c3, -⟩ := (F5.blk _ (List.mem_cons_of_mem _ (List.mem_cons_of_mem _ List.mem_cons_self))).four
    obtain ⟨d0, d1, d2, d3, d4, d5, d6, d7, d8, d9, d10, d11, d12, d13, -⟩ := Blk.fourteen (x := valX s) (F5.blk _ List.mem_cons_self)
    clear hrow hBlk
    cases hgw : okGw c g (valX s)
    · rw [hgw] at HWx
      have HN := Lib.hid (HRn.out (fun h => by have := h.2.2; rw [hgw] at this; simp at this))
      clear hgw
      go_wp2_with fail
      clear hcopy
      refine (HWx.out _).mono ?_
      rintro e w6 ⟨rfl, hb⟩
      have F6 := F5.next hb
      clear hb F5 c0 c1 c2 c3 d0 d1 d2 d3 d4 d5 d6 d7 d8 d9 d10 d11 d12 d13
      obtain ⟨e0, e1, e2, e3, e4, e5, e6, e7, e8, e9, e10, e11, e12, e13, e14⟩ := Blk.fourteen (x := fun _ => 0) (F6.blk _ (List.mem_cons_of_mem _ List.mem_cons_self))
      have HF := Lib.hid F6
      clear F6
      go_wp2
      exact bodyPost_ret (res_rw_impl (x := fun _ => 0) (Blk.set14 (z := fun _ => 0) (fun _ => 0) (HF.out.blk _ (List.mem_cons_of_mem _ List.mem_cons_self))) _ rfl rfl) rfl ⟨by rw [HN.out.1, HN.out.2], below14 HF.out.below (by omega) (fun _ => 0)⟩
    · rw [hgw] at HWx
      have HY := Lib.hid (HRy.out ⟨by rw [HPL.out]; omega, fun j h => HGOOD.out j h, hgw⟩)
      clear hgw
      go_wp2_with fail
      clear hcopy
      refine (HWx.out _).mono ?_
      rintro e w6 ⟨rfl, hb⟩
      have F6 := F5.next hb
      clear hb F5 c0 c1 c2 c3 d0 d1 d2 d3 d4 d5 d6 d7 d8 d9 d10 d11 d12 d13
      obtain ⟨d0, d1, d2, d3, d4, d5, d6, d7, d8, d9, d10, d11, d12, d13, -⟩ := Blk.fourteen (x := valX s) (F6.blk _ List.mem_cons_self)
      obtain ⟨e0, e1, e2, e3, e4, e5, e6, e7, e8, e9, e10, e11, e12, e13, e14⟩ := Blk.fourteen (x := fun _ => 0) (F6.blk _ (List.mem_cons_of_mem _ List.mem_cons_self))
      have HF := Lib.hid F6
      clear F6
      generalize hvx : valX s = vx at *
      clear hvx
      go_wp2
      exact bodyPost_ret (res_rw_impl (x := vx) (Blk.set14 (z := fun _ => 0) vx (HF.out.blk _ (List.mem_cons_of_mem _ List.mem_cons_self))) _ rfl rfl) rfl ⟨by rw [HY.out.1, HY.out.2], below14 HF.out.below (by omega) vx⟩
end Go.Proofs.Ytlbiakoofpgdmaa
