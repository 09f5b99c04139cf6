/-
  The walk of NeedlessWeight's model.
-/
import Derived.Test.YtmmdldbaoemdoaaNeedless2
import Derived.Deep.DeepCutAuto
import Derived.Deep.RegionLaw
import Derived.Deep.RegionHeld3
namespace Go.Proofs.Ytmmdldbaoemdoaa
open Go.RowKit Go.Maps
set_option linter.unusedVariables false

/-- append onto a row of one's own, at a step of a region that draws its order. -/
theorem step_append_mine {P : Program} (w : World) {ops : Array Oper} {o : Oper} {a : Act} {K : Act → World → Prop} {Q : Exit → Act → World → Prop} {E : Prop} (hgd : o.guard = none) (s x : Operand) (t : TypeId)
    (ho : o.op = .call { callee := .builtin .append, args := #[s, x], argTypes := #[t, t] })
    (base : Nat) (e : TypeId) (i : TypeInfo) (z : Value) (size bytes : Nat) (ht : P.underlying t = some (.slice e)) (hi : P.info? e = some i) (hz : i.zero = some z)
    (hsize : i.size = size) (hby : i.bytes = bytes) (hzs : z.cells.size = size) (hsz : 0 < size)
    (v : Value) (n : Nat) (xs : List Value) (hs : a.eval s = v) (hown : w.ownsRow base e size v n xs)
    (ad : Addr) (m c : Nat) (news : List Value) (hx : a.eval x = .slice (some ad) m c) (hl : news.length = m * size) (hnews : ∀ j u, news[j]? = some u → w.cell? (ad.add j) = some u) (h1 : ∀ u ∈ news, u.oneCell' = true)
    (h63 : n + m ≤ maxLen) (hbytes : (n + m) * bytes ≤ 140737488355328) (hbase : base ≤ w.heap.size)
    (h : ∀ v' w', w'.ownsRow base e size v' (n + m) (xs ++ news) → w.grownBy w' v.ownBlock → K (a.put o.dst v') w') :
    if Region.wanted o (yielded ops a.tmps) = true then Oper.wp P o a w K Q else E := by
  have hw : Region.wanted o (yielded ops a.tmps) = true := by simp [Region.wanted, hgd]
  rw [if_pos hw]
  obtain ⟨v', w', hr, h2, h3, _⟩ := run_append_own (P := P) w base t o.type e i z size bytes ht hi hz hsize hby hzs hsz v n xs hown ad m c news hl hnews h1 h63 hbytes hbase
  unfold Oper.wp execOp
  simp only [ho, resolve, invoke, builtin, Sem.run_bind, Sem.run_pure, Result.andThen_ok, List.map_toArray, List.map_cons, List.map_nil, hs, hx, hr]
  exact h v' w' h2 h3
theorem cells_takeA {w : World} {b off : Nat} {ws : List Int} (h : At .i16 w b off ws) (i : Nat) : ∀ j u, ((ws.take i).map (Value.int .i16))[j]? = some u → w.cell? ((⟨b, off, none⟩ : Addr).add j) = some u := by
  intro j u hu
  rw [Addr.add_lit]
  exact cells_take h i j u hu
theorem OwnV.slice {k : IntKind} {B : Nat} {w : World} {v : Value} {xs : List Int} (h : OwnV k B w v xs) : ∃ a c, v = .slice a xs.length c := by
  rcases h with ⟨rfl, a, c, rfl⟩ | ⟨b, c, rfl, _⟩
  · exact ⟨a, c, rfl⟩
  · exact ⟨_, c, rfl⟩
set_option maxRecDepth 100000 in
theorem specNeedlessWeight_any (b off c : Nat) (ws : List Int) (most : Int) (both : Bool) (w : World) (hn : ws.length ≤ 1048576) (hb : b < w.heap.size) (hc : At .i16 w b off ws) (hi16 : I16 ws) (hlc : ws.length ≤ c) :
    Calls Try.prog 5 #[.slice (some ⟨b, off, none⟩) ws.length c, .int .i64 most, .bool both] w fun e w' => e = .returned (.tuple #[.int .i64 (nlV ws most both).1, .int .i64 (nlV ws most both).2]) ∧ Below w.heap.size w w' := by
  have hV := Lib.hid (l01Ok_any b off c ws w hn hc hi16)
  have HI := Lib.hid (fun W => l00In_any most 1 2000 W)
  obtain ⟨i0, hinf, hz0, hz1, hz2⟩ := info_parts Try.info_n16
  unfold nlV
  cases hok : okW ws
  · rw [hok] at hV
    clear hok
    simp only [Bool.false_eq_true, if_false]
    go_enter Try.func5, Try.ntmps5
    go_wp2_with fail
    refine hV.out.mono ?_
    rintro e w' ⟨rfl, hd⟩
    have hB := hd.below
    clear hd
    go_wp2
    go_ret2
    exact ⟨rfl, hB⟩
  rw [hok] at hV
  have HO := Lib.hid (show OkW ws from of_cb hok)
  clear hok
  simp only [if_true]
  by_cases hm : 1 ≤ most ∧ most ≤ 2000
  rotate_left
  · rw [cb_f hm]
    rw [show inB most 1 2000 = false from cb_f hm] at HI
    clear hm
    simp only [Bool.false_eq_true, if_false]
    go_enter Try.func5, Try.ntmps5
    go_wp2_with fail
    refine hV.out.mono ?_
    rintro e w' ⟨rfl, hd⟩
    have hB := hd.below
    clear hd
    go_wp2_with (go_at_call 16; refine (HI.out _).mono ?_; rintro e w' ⟨rfl, rfl⟩)
    go_ret2
    exact ⟨rfl, hB⟩
  rw [cb_t hm]
  rw [show inB most 1 2000 = true from cb_t hm] at HI
  simp only [if_true]
  have hm0 : 0 ≤ most ∧ most ≤ 2000 := by omega
  have HR := Lib.hid (miss_cov ws both most hm.1)
  have HRM := Lib.hid (fun W (h1 : b < W.heap.size) (h2 : At .i16 W b off ws) => l01Missing_any b off c ws most both W h1 h2 HO.out hm0)
  have hl16 := HO.out.2.1
  have hl1 := HO.out.1
  by_cases hcov : Cov ws both most
  rotate_left
  · rw [cb_f hcov]
    have hlt : 0 < (missTo (plOf both) ws most.toNat).length := List.length_pos_iff.2 (fun h => hcov (HR.out.1 h))
    clear hcov HR
    simp only [Bool.false_eq_true, if_false]
    generalize missTo (plOf both) ws most.toNat = r at *
    go_enter Try.func5, Try.ntmps5
    go_wp2_with fail
    refine hV.out.mono ?_
    rintro e w1 ⟨rfl, hd⟩
    have hB := hd.below
    have hb1 := Nat.lt_of_lt_of_le hb hB.size
    have hc1 := hc.below hB hb
    clear hd hc
    go_wp2_with (go_at_call 16; refine (HI.out _).mono ?_; rintro e w' ⟨rfl, rfl⟩)
    refine (HRM.out w1 hb1 hc1).mono ?_
    rintro e w2 ⟨v, rfl, hO, hb2⟩
    have hBB := hB.trans (hb2.mono hB.size)
    obtain ⟨ao, c2, rfl⟩ := hO.slice
    go_wp2
    go_ret2
    exact ⟨rfl, hBB⟩
  rw [cb_t hcov]
  have hge : (missTo (plOf both) ws most.toNat).length = 0 := by rw [HR.out.2 hcov]; rfl
  clear hcov HR
  simp only [if_true]
  have HX := Lib.hid (fun W i g o2 c2 (hi : i < ws.length) (h1l : 1 < ws.length) (h1 : g < W.heap.size) (h2 : At .i16 W g o2 (rmv ws i)) => l01Missing_any g o2 c2 (rmv ws i) most both W h1 h2 (rmv_ok HO.out hi h1l) hm0)
  have HC := Lib.hid (fun i => miss_cov (rmv ws i) both most hm.1)
  have HONE := Lib.hid (fun h => rmv_one (ws := ws) h both hm.1)
  generalize hW : missTo (plOf both) ws most.toNat = r at *
  clear hW
  have HG := Lib.hid hge
  clear hge
  go_enter Try.func5, Try.ntmps5
  go_wp2_with fail
  refine hV.out.mono ?_
  rintro e w1 ⟨rfl, hd⟩
  have hB := hd.below
  have hb1 := Nat.lt_of_lt_of_le hb hB.size
  have hc1 := hc.below hB hb
  clear hd hc
  go_wp2_with (go_at_call 16; refine (HI.out _).mono ?_; rintro e w' ⟨rfl, rfl⟩)
  refine (HRM.out w1 hb1 hc1).mono ?_
  rintro e w2 ⟨v, rfl, hO, hb2⟩
  have hBB := hB.trans (hb2.mono hB.size)
  have hc2 := hc1.below hb2 hb1
  have hb3 := Nat.lt_of_lt_of_le hb1 hb2.size
  obtain ⟨ao, cc2, rfl⟩ := hO.slice
  rw [HG.out]
  clear hb2 hB hc1 hb1 hO
  go_wp2_with fail
  go_loopw [8] (fun i wr => ∃ k : Nat, i = .int .i64 k ∧ k ≤ ws.length ∧ (∀ j, j < k → ¬ Cov (rmv ws j) both most) ∧ Below w2.heap.size w2 wr) (fun i _ => ws.length - (intOf i).toNat)
  case atStart => exact ⟨0, rfl, Nat.zero_le _, fun j h => absurd h (by omega), Below.refl _ _⟩
  case round =>
    obtain ⟨k, rfl, hk, hno, hbr⟩ := hrel
    have HNO := Lib.hid hno
    clear hno
    by_cases hlt : k < ws.length ∧ 1 < ws.length
    · obtain ⟨hlt, hone⟩ := hlt
      have hcr := hc2.below hbr hb3
      have hbr3 := Nat.lt_of_lt_of_le hb3 hbr.size
      have HCK := Lib.hid (HC.out k)
      have HXK := Lib.hid (fun W g o2 c2 => HX.out W k g o2 c2 hlt hone)
      have hk1 : (k : Int) + 1 ≤ (ws.length : Int) := by omega
      have hkc : (k : Int) ≤ (c : Int) := by omega
      go_upto_region 10 with fail
      go_cut [9] (fun v wx => ∃ g c2, v = .slice (some ⟨g, 0, none⟩) (rmv ws k).length c2 ∧ g < wx.heap.size ∧ At .i16 wx g 0 (rmv ws k) ∧ Below wr.heap.size wr wx)
      case first =>
        have hr0 := hbr.size
        have HT := Lib.hid (cells_take hcr k)
        have HD := Lib.hid (cells_drop hcr (k + 1))
        by_cases hce : c = k + 1
        · subst hce
          have HL := Lib.hid (show ((ws.take k).map (Value.int .i16)).length = k * 1 by simp; omega)
          have HL2 := Lib.hid (show ([] : List Value).length = 0 * 1 by simp)
          have HDN := Lib.hid (show (ws.drop (k + 1)).map (Value.int .i16) = [] by rw [List.drop_eq_nil_of_le (by omega)]; rfl)
          have hBA := (Below.refl wr.heap.size wr).alloc (Nat.le_refl _) (.cells #[] 40)
          have HA := Lib.hid (show At .i16 (wr.alloc (.cells #[] 40)).drew b off ws from hcr.below hBA.drew hbr3)
          have HOA := Lib.hid (show (wr.alloc (.cells #[] 40)).drew.ownsRow wr.heap.size 40 1 (.slice (some ⟨wr.heap.size, 0, none⟩) 0 0) 0 [] from World.ownsRow_made wr #[] 0 (Nat.le_refl _) (by unfold maxLen; omega) (by simp))
          have HBA := Lib.hid (show Below wr.heap.size wr (wr.alloc (.cells #[] 40)).drew from hBA.drew)
          clear hBA
          have HM1 := Lib.hid (show 0 + k ≤ maxLen by unfold maxLen; omega)
          have HM2 := Lib.hid (show (0 + k) * 2 ≤ 140737488355328 by omega)
          have HM3 := Lib.hid (show 0 + k + 0 ≤ maxLen by unfold maxLen; omega)
          have HM4 := Lib.hid (show (0 + k + 0) * 2 ≤ 140737488355328 by omega)
          have hle3 : (k : Int) ≤ (k : Int) + 1 := by omega
          have hw0 : 0 ≤ (k : Int) + 1 := by omega
          have hwt : ((k : Int) + 1).toNat = k + 1 := by omega
          have hw : IntKind.i64.wrap ((k : Int) + 1) = (k : Int) + 1 := IntWalk.i64_in _ (by omega)
          go_region_law (first
            | (refine step_append_mine (wr.alloc (.cells #[] 40)).drew (by rfl) _ _ _ (by rfl) wr.heap.size 40 i0 (.int .i16 0) 1 2 Try.underlying25 hinf hz0 hz1 hz2 rfl (by decide) _ 0 [] (by rfl) HOA.out ⟨b, off, none⟩ k _ ((ws.take k).map (Value.int .i16)) (by rfl) HL.out (cells_takeA HA.out k) (oneCells _) HM1.out HM2.out HBA.out.size ?_; intro v1 w4 hown1 hg1; have HB4 := Lib.hid (HBA.out.grown hg1 HBA.out.size (fun j hj => (HOA.out.lt j hj).1)); have HO1 := Lib.hid hown1; clear hown1 hg1)
            | (refine step_append_mine w4 (by rfl) _ _ _ (by rfl) wr.heap.size 40 i0 (.int .i16 0) 1 2 Try.underlying25 hinf hz0 hz1 hz2 rfl (by decide) _ _ _ (by rfl) HO1.out ⟨b, off, none⟩ 0 _ [] (by rfl) HL2.out (fun j u h => by simp at h) (fun u h => by simp at h) HM3.out HM4.out HB4.out.size ?_; intro v2 w5 hown2 hg2; have HB5 := Lib.hid (HB4.out.grown hg2 HB4.out.size (fun j hj => (HO1.out.lt j hj).1)); have HO2 := Lib.hid hown2; clear hown2 hg2))
          clear hw hw0 hwt
          have hrl : (rmv ws k).length = 0 + k + 0 := by rw [rmv_len hlt]; omega
          have HP := (OwnV.ofOwns (xs := rmv ws k) hrl.symm (by rw [rmv_map, HDN.out]; exact HO2.out)).parts (by omega)
          obtain ⟨g, c2, hv, hg, hA⟩ := HP
          subst hv
          have HZ := Lib.hid (And.intro hg hA)
          clear hg hA hrl
          go_simp
          go_wp2_with fail
          go_meet
          refine ⟨g, c2, ?_, HZ.out.1, HZ.out.2, HB5.out⟩
          first | rfl | (simp [Act.put]; done) | (unfold Act.put; rfl)
        · have HL := Lib.hid (show ((ws.take k).map (Value.int .i16)).length = k * 1 by simp; omega)
          have HL2 := Lib.hid (show ((ws.drop (k + 1)).map (Value.int .i16)).length = (ws.length - (k + 1)) * 1 by simp)
          have hBA := (Below.refl wr.heap.size wr).alloc (Nat.le_refl _) (.cells #[] 40)
          have HA := Lib.hid (show At .i16 (wr.alloc (.cells #[] 40)).drew b off ws from hcr.below hBA.drew hbr3)
          have HOA := Lib.hid (show (wr.alloc (.cells #[] 40)).drew.ownsRow wr.heap.size 40 1 (.slice (some ⟨wr.heap.size, 0, none⟩) 0 0) 0 [] from World.ownsRow_made wr #[] 0 (Nat.le_refl _) (by unfold maxLen; omega) (by simp))
          have HBA := Lib.hid (show Below wr.heap.size wr (wr.alloc (.cells #[] 40)).drew from hBA.drew)
          clear hBA
          have HM1 := Lib.hid (show 0 + k ≤ maxLen by unfold maxLen; omega)
          have HM2 := Lib.hid (show (0 + k) * 2 ≤ 140737488355328 by omega)
          have HM3 := Lib.hid (show 0 + k + (ws.length - (k + 1)) ≤ maxLen by unfold maxLen; omega)
          have HM4 := Lib.hid (show (0 + k + (ws.length - (k + 1))) * 2 ≤ 140737488355328 by omega)
          have hw0 : 0 ≤ (k : Int) + 1 := by omega
          have hwt : ((k : Int) + 1).toNat = k + 1 := by omega
          have hw : IntKind.i64.wrap ((k : Int) + 1) = (k : Int) + 1 := IntWalk.i64_in _ (by omega)
          go_region_law (first
            | (refine step_append_mine (wr.alloc (.cells #[] 40)).drew (by rfl) _ _ _ (by rfl) wr.heap.size 40 i0 (.int .i16 0) 1 2 Try.underlying25 hinf hz0 hz1 hz2 rfl (by decide) _ 0 [] (by rfl) HOA.out ⟨b, off, none⟩ k c ((ws.take k).map (Value.int .i16)) (by rfl) HL.out (cells_takeA HA.out k) (oneCells _) HM1.out HM2.out HBA.out.size ?_; intro v1 w4 hown1 hg1; have HB4 := Lib.hid (HBA.out.grown hg1 HBA.out.size (fun j hj => (HOA.out.lt j hj).1)); have HO1 := Lib.hid hown1; clear hown1 hg1)
            | (refine step_append_mine w4 (by rfl) _ _ _ (by rfl) wr.heap.size 40 i0 (.int .i16 0) 1 2 Try.underlying25 hinf hz0 hz1 hz2 rfl (by decide) _ _ _ (by rfl) HO1.out ⟨b, off + (k + 1), none⟩ (ws.length - (k + 1)) (c - (k + 1)) ((ws.drop (k + 1)).map (Value.int .i16)) (by rfl) HL2.out (cells_drop (hcr.below HB4.out hbr3) (k + 1)) (oneCells _) HM3.out HM4.out HB4.out.size ?_; intro v2 w5 hown2 hg2; have HB5 := Lib.hid (HB4.out.grown hg2 HB4.out.size (fun j hj => (HO1.out.lt j hj).1)); have HO2 := Lib.hid hown2; clear hown2 hg2))
          clear hw hw0 hwt
          have hrl : (rmv ws k).length = 0 + k + (ws.length - (k + 1)) := by rw [rmv_len hlt]; omega
          have HP := (OwnV.ofOwns (xs := rmv ws k) hrl.symm (by rw [rmv_map]; exact HO2.out)).parts (by omega)
          obtain ⟨g, c2, hv, hg, hA⟩ := HP
          subst hv
          have HZ := Lib.hid (And.intro hg hA)
          clear hg hA hrl
          go_simp
          go_wp2_with fail
          go_meet
          refine ⟨g, c2, ?_, HZ.out.1, HZ.out.2, HB5.out⟩
          first | rfl | (simp [Act.put]; done) | (unfold Act.put; rfl)
      case rest =>
        obtain ⟨g, c2, rfl, hg, hA, hb4⟩ := hcut
        go_wp2_with fail
        refine (HXK.out _ g 0 c2 hg hA).mono ?_
        rintro e w5 ⟨v, rfl, hO5, hb5⟩
        have HB5 := Lib.hid (hbr.trans ((hb4.trans (hb5.mono hb4.size)).mono hbr.size))
        obtain ⟨a5, c5, rfl⟩ := hO5.slice
        clear hA hg hb4 hb5 hcr hbr3 hO5
        generalize missTo (plOf both) (rmv ws k) most.toNat = q at *
        by_cases hq : q = []
        · have HF := Lib.hid (fstV_eq (n := ws.length) (H := fun i => Cov (rmv ws i) both most) (r := ((k : Int), 0)) (.inl ⟨k, hlt, HCK.out.1 hq, HNO.out, rfl⟩))
          subst hq
          go_wp2
          go_ret2
          exact ⟨by rw [HF.out]; rfl, hBB.trans (HB5.out.mono hBB.size)⟩
        · have HNN := Lib.hid (show ∀ j, j < k + 1 → ¬ Cov (rmv ws j) both most from fun j hj hcj => by
            by_cases e : j = k
            · subst e; exact hq (HCK.out.2 hcj)
            · exact HNO.out j (by omega) hcj)
          have hql : 0 < q.length := List.length_pos_iff.2 hq
          clear hq
          go_wp2
          go_roundw
          case rel => exact ⟨k + 1, by go_num, by omega, HNN.out, HB5.out⟩
          case measure => simp [intOf]; omega
    · have hno2 : ∀ j, j < ws.length → ¬ Cov (rmv ws j) both most := fun j hj => by
        by_cases h1 : ws.length = 1
        · have : j = 0 := by omega
          subst this
          exact HONE.out h1
        · exact HNO.out j (by omega)
      have HF := Lib.hid (fstV_eq (n := ws.length) (H := fun i => Cov (rmv ws i) both most) (r := (0, 6)) (.inr ⟨hno2, rfl⟩))
      clear hno2
      by_cases hk2 : k < ws.length
      · have h1 : ¬ 1 < ws.length := fun h => hlt ⟨hk2, h⟩
        clear hlt
        go_wp2
        go_ret2
        exact ⟨by rw [HF.out]; rfl, hBB.trans (hbr.mono hBB.size)⟩
      · clear hlt
        go_wp2
        go_ret2
        exact ⟨by rw [HF.out]; rfl, hBB.trans (hbr.mono hBB.size)⟩
end Go.Proofs.Ytmmdldbaoemdoaa
