/-
  The walk of waysBySum.
-/
import Derived.Test.YthbanajodohbbaaWayMath
import Derived.Test.YthbanajodohbbaaValid
namespace Go.Proofs.Ythbanajodohbbaa
open Go.RowKit Go.Maps

theorem run_makeMap_hint {P : Program} (t k e : TypeId) (ht : P.underlying t = some (.map k e)) (n : Int) (w : World) : (Instr.makeMap t (some (.int .i64 n))).run P w = .ok (.map (some w.heap.size)) (w.alloc (.map #[] 0)) := by
  simp [Instr.makeMap, run_underlying ht, asInt, asIntOf, Result.andThen]
theorem wpList_insert_own {H : Type} {P : Program} (w : World) {ops : Array Oper} {rest : List Oper} {o : Oper} {a : Act} {Q : Exit → Act → World → Prop}
    (hg : o.guard = none) (m x v : Operand) (t : TypeId) (hop : o.op = Op.insert t m x v)
    (k e : TypeId) (K : Keyed P k) (ht : P.underlying t = some (.map k e)) (R : Value → Option (DataW H × List MemPlace)) (b n : Nat) (D : DataW H)
    (hm : a.eval m = .map (some b)) (hown : w.ownsMap P k R b n D) (hn : n < maxLen) (key val : Value) (kl : Lit) (hx : a.eval x = key) (hv : a.eval v = val) (hkey : keyOf P k key = some kl)
    (d : DataW H) (ps : List MemPlace) (hval : R val = some (d, ps))
    (hK : ∀ w', w'.ownsMap P k R b (n + 1) (D.put kl d) → w.grownBy w' (some b) → wpList P ops Q rest (a.put o.dst undef) w') :
    wpList P ops Q (o :: rest) a w := by
  refine wpList_plain hg fun K' hK' => ?_
  obtain ⟨w', hrun, r1, r2⟩ := hown.update K ht hn hkey hval
  unfold Oper.wp
  simp [execOp, hop, hm, hx, hv, hrun, Result.andThen]
  exact hK' _ _ (hK w' r1 r2)
theorem keyI : Keyed Try.prog 2 := int_keyed Try.underlying2
theorem lit_wf {s : Int} (h : -9223372036854775808 ≤ s ∧ s ≤ 9223372036854775807) : (Lit.int .i64 s).wf = true := by
  simp only [Lit.wf, Bool.and_eq_true, decide_eq_true_eq]; exact h
noncomputable abbrev Elem : Value → Option (D0 × List MemPlace) := plainElem Try.prog 2
theorem plOf_at (w : World) (b : Nat) (both : Bool) (t : TypeId) (h : w.heap[b]? = some (.cells ((plOf both).map (Value.int .i8)).toArray t)) : At .i8 w b 0 (plOf both) := fun j hj => by
  rw [Nat.zero_add]
  simp only [World.cell?, h]
  simp [List.getD_eq_getElem?_getD, List.getElem?_eq_getElem hj]
theorem places_any (both : Bool) (w : World) :
    Calls Try.prog 41 #[.bool both] w fun e w' => e = .returned (.slice (some ⟨w.heap.size, 0, none⟩) (plOf both).length (plOf both).length) ∧ At .i8 w' w.heap.size 0 (plOf both) ∧ w'.heap.size = w.heap.size + 1 ∧ w.grownBy w' none := by
  have hh : ∀ o, (w.alloc o).heap[w.heap.size]? = some o := fun o => by unfold World.alloc; exact Array.getElem?_push_size
  cases both
  · go_enter Try.func41, Try.ntmps41
    go_wp2
    go_ret
    exact ⟨rfl, plOf_at _ _ false 39 (hh _), by simp, World.grownBy_alloc w _ none⟩
  · go_enter Try.func41, Try.ntmps41
    go_wp2
    go_ret
    exact ⟨rfl, plOf_at _ _ true 39 (hh _), by simp, World.grownBy_alloc w _ none⟩
set_option maxRecDepth 100000 in
set_option maxHeartbeats 2000000 in
theorem waysBySum_any (b off c : Nat) (ws : List Int) (both : Bool) (w : World) (hl : ws.length ≤ 16) (hw : ∀ j, j < ws.length → 1 ≤ ws.getD j 0 ∧ ws.getD j 0 ≤ 2000) (hb : b < w.heap.size) (hc : At .i16 w b off ws) :
    Calls Try.prog 28 #[.slice (some ⟨b, off, none⟩) ws.length c, .bool both] w fun e w' => ∃ (m n : Nat) (D : D0), e = .returned (.map (some m)) ∧ w'.ownsMap Try.prog 2 Elem m n D ∧ MapIs D (wayFn (plOf both) ws ws.length) (2000 * ws.length) ∧ Below w.heap.size w w' := by
  have hmm := @run_makeMap Try.prog
  have hmh := run_makeMap_hint (P := Try.prog) 54 2 2 Try.underlying54
  go_enter Try.func28, Try.ntmps28
  go_wp2_with (refine wpList_insert_own _ rfl _ _ _ 54 rfl 2 2 keyI Try.underlying54 Elem w.heap.size 0 (.map []) rfl (World.ownsMap_made w _ _ _) (by unfold maxLen; omega) _ _ (ky 0) rfl rfl (keyOf_int_mk Try.underlying2 (lit_wf (by omega))) (dl 1) [] (plainElem_int Try.underlying2 (lit_wf (by omega))) ?_; intro w1 hown1 hg1)
  have hg1' := hg1
  have hs1 : w.heap.size + 1 ≤ w1.heap.size := by have := hg1.size; simpa using this
  have B1 : Below w.heap.size w w1 := ((Below.refl _ w).alloc (Nat.le_refl _) _).grown hg1 (by simp) (fun j e => by cases e; exact Nat.le_refl _)
  have hbd := plOf_bd both
  refine (places_any both w1).mono ?_
  rintro e w2 ⟨rfl, hlist, hs2, hg2⟩
  have hown2 := hown1.kept hg2 (by simp)
  have B2 : Below w.heap.size w w2 := B1.grown hg2 B1.size (fun j e => by cases e)
  have hc2 := hc.below B2 hb
  have hgl : w1.heap.size < w2.heap.size := by omega
  have hb2 : b < w2.heap.size := by omega
  have hM2 : MapIs ((DataW.map []).put (ky 0) (dl 1)) (wayFn (plOf both) ws 0) 0 := ((mapIs_empty 0).put (s := 0) (v := 1) (by omega)).congr (fun s => rfl) (Int.le_refl _)
  generalize hgl' : w1.heap.size = gl at *
  generalize ((DataW.map []).put (ky 0) (dl 1)) = D0' at *
  clear hown1 hg1 hg1' hs1 B1 hs2 hg2 hgl' hc
  generalize hpl : plOf both = pl at *
  have hpl3 : pl.length ≤ 3 := by rw [← hpl]; exact plOf_length both
  have HW := Lib.hid hw
  have HBD := Lib.hid hbd
  have HWB := Lib.hid (show ∀ k s, 0 ≤ wayFn pl ws k s ∧ wayFn pl ws k s ≤ 3 ^ k by rw [← hpl]; exact fun k s => wayFn_bd both ws k s)
  clear hw hbd
  go_wp2_with fail
  go_loopw [5, 20] (fun mv iv wr => ∃ (k m n : Nat) (D : D0), iv = .int .i64 k ∧ mv = .map (some m) ∧ k ≤ ws.length ∧ wr.ownsMap Try.prog 2 Elem m n D ∧ n ≤ 3 ^ k ∧ MapIs D (wayFn pl ws k) (2000 * (k : Int)) ∧ Below w2.heap.size w2 wr) (fun _ iv _ => ws.length - (intOf iv).toNat)
  case atStart => exact ⟨0, _, _, _, rfl, rfl, Nat.zero_le _, hown2, Nat.le_refl _, hM2, Below.refl _ _⟩
  case round =>
    obtain ⟨k, m, n, D, rfl, rfl, hk, hown, hnk, hM, hB⟩ := hrel
    have HM := Lib.hid hM
    clear hM
    by_cases hlt : k < ws.length
    · have hck := (hc2.below hB hb2) k hlt
      have hlr := hlist.below hB hgl
      have hwk := HW.out k hlt
      have H3 := Lib.hid (pow3_16 k (by omega))
      have HSZ := Lib.hid hown.size_le
      have hsr := hB.size
      have HWk := Lib.hid (show ∀ s, 0 ≤ wayFn pl ws k s ∧ wayFn pl ws k s ≤ 3 ^ k from fun s => HWB.out k s)
      have HST := Lib.hid (show ∀ s, wayFn pl ws (k + 1) s = (pl.map (fun x => wayFn pl ws k (s - x * ws.getD k 0))).sum from fun s => rfl)
      generalize ws.getD k 0 = wt at *
      generalize wayFn pl ws k = f at *
      go_wp2_with (first
        | (at_len; refine wpList_len_own _ rfl _ 54 rfl 2 2 Try.underlying54 _ m n D rfl hown ?_)
        | (at_range; refine wpList_range_own _ rfl _ 54 rfl 2 2 keyI Try.underlying54 _ m n _ rfl (hown.alloc _) ?_; intro w0 hrg0 hg0 hs0))
      go_frame
      rw [World.size_alloc] at hrg0 hs0 ⊢
      have hmlt := hown.lt
      have hog0 : w0.ownsMap Try.prog 2 Elem wr.heap.size 0 (.map []) := (World.ownsMap_made wr _ _ _).kept hg0 (by simp)
      have hB0 : Below w2.heap.size w2 w0 := (hB.alloc hsr _).grown hg0 (by simp; omega) (fun j e => by cases e)
      have hM0 : MapIs (.map []) (Gf pl f wt (has D)) (2000 * ((k + 1 : Nat) : Int)) := (mapIs_empty _).congr (fun s => (Gf_start pl HM.out wt s).symm) (Int.le_refl _)
      have hsr0 : wr.heap.size < w0.heap.size := by rw [hs0]; omega
      have hle0 : Maps.size D ≤ Maps.size D := Nat.le_refl _
      have hz0 : 0 ≤ 3 * (Maps.size D - Maps.size D) := Nat.zero_le _
      clear hg0 hs0 hown
      generalize hg : wr.heap.size = g at *
      generalize hSD : Maps.size D = SD at *
      have hsd : SD ≤ 43046721 := by have h1 := HSZ.out; have h2 := H3.out; have h3 : ((3 ^ k : Nat) : Int) = 3 ^ k := by simp
                                     omega
      go_loopw [10] (fun _ wi => ∃ (left : Lit → Bool) (cnt n' : Nat) (Dn : D0), wi.ranges Try.prog 2 Elem m (g + 1) n D left cnt ∧ cnt ≤ SD ∧ wi.ownsMap Try.prog 2 Elem g n' Dn ∧ n' ≤ 3 * (SD - cnt) ∧ MapIs Dn (Gf pl f wt left) (2000 * ((k + 1 : Nat) : Int)) ∧ Below w2.heap.size w2 wi)
        (fun _ wi => wi.rangeLeft m (g + 1))
      case atStart => exact ⟨_, _, _, _, hrg0, hle0, hog0, hz0, hM0, hB0⟩
      case round =>
        obtain ⟨left, cnt, n', Dn, hrg, hcs, hog, hn', hMn, hBi⟩ := hrel
        have HMN := Lib.hid hMn
        clear hMn
        go_wp2_with (at_next; refine wpList_next_ranges_ii _ rfl _ rfl 2 2 .i64 .i64 keyI Try.underlying2 Try.underlying2 m (g + 1) n _ _ _ rfl hrg ?_ ?_)
        · -- nothing is left
          intro hc0 hl0
          have HL0 := Lib.hid hl0
          have HC0 := Lib.hid hc0
          clear hl0 hc0
          go_wp2
          go_roundw
          case rel => exact ⟨k + 1, g, n', Dn, by go_num, rfl, hlt, hog, by have h1 := HSZ.out; rw [Nat.pow_succ]; omega, HMN.out.congr (fun s => by rw [Gf_done pl f wt HL0.out s, HST.out s]) (Int.le_refl _), hBi⟩
          case measure => simp [intOf]; omega
        · intro x cc w3 cnt1 hwx hwc hlx hat hrg1 hlt1 hg1 hs1 hen
          have HXB := Lib.hid (show f x = cc ∧ -(2000 * (k : Int)) ≤ x ∧ x ≤ 2000 * (k : Int) from by
            refine ⟨?_, ?_⟩
            · have h1 := HM.out.2.1 x
              rw [hat (dl 0)] at h1
              exact (dl_inj h1).symm
            · have hh : has D (ky x) = true := by
                cases hq : has D (ky x)
                · have h1 := atKey_of_not_has (z := dl (cc + 1)) hq
                  rw [hat] at h1
                  have := dl_inj h1
                  omega
                · rfl
              obtain ⟨s, e1, e2, e3⟩ := HM.out.2.2 _ hh
              injection e1 with _ e1
              subst e1
              exact ⟨e2, e3⟩)
          have hxb := HXB.out.2
          have hcb : 0 ≤ cc ∧ cc ≤ 43046721 := by have h1 := HWk.out x; have h2 := H3.out; have h3 := HXB.out.1; omega
          have hog1 := hog.kept hg1 (by intro e; have := Option.some.inj e; omega)
          have hBi1 : Below w2.heap.size w2 w3 := hBi.grown hg1 hBi.size (fun j e => by cases e; omega)
          have hM1 : MapIs Dn (GM pl 0 f wt (fun z => left z && !z.sameKey (ky x)) left) (2000 * ((k + 1 : Nat) : Int)) := HMN.out.congr (fun s => (GM_zero _ _ _ _ _ s).symm) (Int.le_refl _)
          have HLX := Lib.hid hlx
          have hlr3 := hlist.below hBi1 hgl
          have HAT := Lib.hid hat
          have HLQ := Lib.hid hrg.left_eq
          have hH3 := H3.out
          clear hat hlx hwx hwc hrg hog hBi hg1 hs1
          generalize hleft : (fun z => left z && !z.sameKey (Lit.int IntKind.i64 x)) = left' at *
          have HLE := Lib.hid hleft
          clear hleft
          go_wp2_with fail
          go_loopw [39] (fun iv wj => ∃ (mm n2 : Nat) (D2 : D0), iv = .int .i64 mm ∧ mm ≤ pl.length ∧ wj.ranges Try.prog 2 Elem m (g + 1) n D left' cnt1 ∧ wj.ownsMap Try.prog 2 Elem g n2 D2 ∧ n2 ≤ 3 * (SD - cnt) + mm ∧ MapIs D2 (GM pl mm f wt left' left) (2000 * ((k + 1 : Nat) : Int)) ∧ Below w2.heap.size w2 wj)
            (fun iv _ => pl.length - (intOf iv).toNat)
          case atStart => exact ⟨0, n', Dn, rfl, Nat.zero_le _, hrg1, hog1, by omega, hM1, hBi1⟩
          case round =>
            obtain ⟨mm, n2, D2, rfl, hmm', hrg2, hog2, hn2, hM2, hBj⟩ := hrel
            by_cases hlm : mm < pl.length
            · have hpm : wr.cell? ⟨gl, mm, none⟩ = some (.int .i8 (pl.getD mm 0)) := by
                have := (hlist.below hBj hgl) mm hlm
                rwa [Nat.zero_add] at this
              have hpb := HBD.out mm
              have HGB := Lib.hid (GM_bd pl mm (M := 3 ^ k) HWk.out wt left' left)
              have HGS := Lib.hid (show ∀ s, GM pl (mm + 1) f wt left' left s = GM pl mm f wt left' left s + (if s = x + pl.getD mm 0 * wt then f x else 0) from fun s => by rw [← HLE.out]; exact GM_step pl mm hlm HLX.out s)
              have HM2 := Lib.hid hM2
              clear hM2
              generalize pl.getD mm 0 = pp at *
              have hpw : -2000 ≤ pp * wt ∧ pp * wt ≤ 2000 := by
                have h4 : pp = -1 ∨ pp = 0 ∨ pp = 1 := by omega
                rcases h4 with e | e | e <;> rw [e] <;> omega
              have hHP := Lib.hid (show -9223372036854775808 ≤ x + pp * wt ∧ x + pp * wt ≤ 9223372036854775807 from by omega)
              go_wp2_with (first
                | (at_lookup; refine wpList_lookup_own_int _ rfl _ _ 54 rfl 2 2 .i64 keyI Try.underlying54 Try.underlying2 (Try.zeroValue2 _) g n2 D2 rfl hog2 _ (ky (x + pp * wt)) rfl (keyOf_int_mk Try.underlying2 (lit_wf hHP.out)) ?_; intro c2 hat2 _; have HC2 := Lib.hid (show c2 = GM pl mm f wt left' left (x + pp * wt) from dl_inj (hat2.symm.trans (HM2.out.2.1 _))); clear hat2; have hc2b : 0 ≤ c2 ∧ c2 ≤ 129140163 := by (have h1 := HGB.out (x + pp * wt); have h2 := HC2.out; have h3 : (pl.length : Int) * 3 ^ k ≤ 3 * 3 ^ k := Int.mul_le_mul_of_nonneg_right (by omega) (by omega); omega))
                | (at_mapUpdate; refine wpList_mapUpdate_own _ rfl _ _ _ 54 rfl 2 2 keyI Try.underlying54 Elem g n2 D2 rfl hog2 (by unfold maxLen; omega) _ _ (ky (x + pp * wt)) rfl rfl (keyOf_int_mk Try.underlying2 (lit_wf hHP.out)) (dl (c2 + cc)) [] (plainElem_int Try.underlying2 (lit_wf (by omega))) ?_; intro w4 hog3 hg3; go_frame))
              go_roundw
              case rel =>
                refine ⟨mm + 1, n2 + 1, _, by go_num, hlm, hrg2.kept hg3 (fun e => by have := Option.some.inj e; omega) (fun e => by have := Option.some.inj e; omega), hog3, by omega, ?_, hBj.grown hg3 hBj.size (fun j e => by cases e; exact hsr)⟩
                refine (HM2.out.put (s := x + pp * wt) (v := c2 + cc) (by omega)).congr (fun s => ?_) (Int.le_refl _)
                rw [HGS.out s, HXB.out.1]
                by_cases e : s = x + pp * wt
                · rw [if_pos e, if_pos e, HC2.out, e]
                · rw [if_neg e, if_neg e, Int.add_zero]
              case measure => simp [intOf]; omega
            · have HE := Lib.hid (show mm = pl.length by omega)
              have HM2 := Lib.hid hM2
              clear hM2
              go_wp2
              go_roundw
              case rel => exact ⟨left', cnt1, n2, D2, hrg2, by omega, hog2, by omega, HM2.out.congr (fun s => by rw [HE.out]; exact GM_end pl f wt left' left s) (Int.le_refl _), hBj⟩
              case measure => rw [hrg2.left_eq, HLQ.out]; exact hlt1
    · have HK := Lib.hid (show k = ws.length by omega)
      go_wp2
      go_ret
      subst hpl
      exact ⟨m, n, D, rfl, hown, by rw [← HK.out]; exact HM.out, B2.trans (hB.mono B2.size)⟩
end Go.Proofs.Ythbanajodohbbaa
