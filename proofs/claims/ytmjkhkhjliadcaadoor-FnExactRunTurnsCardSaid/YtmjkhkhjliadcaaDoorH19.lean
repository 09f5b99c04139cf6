/-
  Turning and waiting at once; the times of a plan, in the program.
-/
import Derived.Test.YtmjkhkhjliadcaaDoorH18
namespace Go.Proofs.YtmjkhkhjliadcaaDoor
open Go.RowKit
set_option maxRecDepth 100000
set_option linter.unusedVariables false

theorem tw_far (h b off c : Nat) (J : List Int) (x : Nat → Int) (s : Int) (w : World) (hl : J.length ≤ 4) (hf : 2 ^ J.length ≤ s)
    (hr : w.rowIs h 47 5 (hgF x (.slice (some ⟨b, off, none⟩) J.length c))) :
    Calls Tryd.prog 24 #[.pointer (some ⟨h, 0, none⟩), .int .u8 s] w fun e w' => e = .returned (.tuple #[.int .i64 0, .iface 69 (.agg #[.int .u8 s])]) ∧ w = w' := by
  have HT := Lib.hid (turnFar_any h b off c J x s w hl hf hr)
  clear hr hf
  go_enter Tryd.func24, Tryd.ntmps24
  go_wp2_with fail
  refine HT.out.mono ?_
  rintro e w' ⟨rfl, rfl⟩
  go_wp2
  go_ret2
  exact ⟨rfl, rfl⟩
theorem tw_out (h b off c : Nat) (J : List Int) (x : Nat → Int) (s : Int) (w : World) (hl : J.length ≤ 4) (hE : Each J J.length) (hx : OkX J x) (hs : 0 ≤ s ∧ s ≤ 255) (hf : ¬ 2 ^ J.length ≤ s) (hbh : b < h) (hc : At .i16 w b off J)
    (hm : lsTo (trTo J x s J.length) 4 = 0)
    (hr : w.rowIs h 47 5 (hgF x (.slice (some ⟨b, off, none⟩) J.length c))) :
    Calls Tryd.prog 24 #[.pointer (some ⟨h, 0, none⟩), .int .u8 s] w fun e w' => e = .returned (.tuple #[.int .i64 0, .iface 71 (.agg #[])]) ∧ Oth h w w' := by
  have hlt := World.rowIs.lt hr
  have HT := Lib.hid (turnO_any h b off c J x s w hl hE hx hs hf hbh hc hr)
  have HW := Lib.hid (fun W hr' => waitNone_any h (trTo J x s J.length) (.slice (some ⟨b, off, none⟩) J.length c) W (fun i hi => (trTo_ok (s := s) hE hx J.length (Nat.le_refl _) i hi).1) hm hr')
  clear hr hf hc hm hx hE
  go_enter Tryd.func24, Tryd.ntmps24
  go_wp2_with fail
  refine HT.out.mono ?_
  rintro e w2 ⟨rfl, hr2, ho2⟩
  have HR2 := Lib.hid hr2
  have HO2 := Lib.hid ho2
  clear hr2 ho2
  go_wp2_with fail
  refine (HW.out _ HR2.out).mono ?_
  rintro e w3 ⟨rfl, hb3⟩
  have HO3 := Lib.hid (HO2.out.trans (Oth.of (Nat.le_of_lt (World.rowIs.lt HR2.out)) hb3))
  clear hb3
  go_wp2
  go_ret2
  exact ⟨rfl, HO3.out⟩
theorem tw_ok (h b off c : Nat) (J : List Int) (x : Nat → Int) (s : Int) (w : World) (hl : J.length ≤ 4) (hE : Each J J.length) (hx : OkX J x) (hs : 0 ≤ s ∧ s ≤ 255) (hf : ¬ 2 ^ J.length ≤ s) (hbh : b < h) (hc : At .i16 w b off J)
    (hm : ¬ lsTo (trTo J x s J.length) 4 = 0)
    (hr : w.rowIs h 47 5 (hgF x (.slice (some ⟨b, off, none⟩) J.length c))) :
    Calls Tryd.prog 24 #[.pointer (some ⟨h, 0, none⟩), .int .u8 s] w fun e w' => e = .returned (.tuple #[.int .i64 (lsTo (trTo J x s J.length) 4), .nilIface]) ∧ w'.rowIs h 47 5 (hgF (wtTo (trTo J x s J.length) (lsTo (trTo J x s J.length) 4) 4) (.slice (some ⟨b, off, none⟩) J.length c)) ∧ Oth h w w' := by
  have hlt := World.rowIs.lt hr
  have HT := Lib.hid (turnO_any h b off c J x s w hl hE hx hs hf hbh hc hr)
  have hok := trTo_ok (s := s) hE hx J.length (Nat.le_refl _)
  have HW := Lib.hid (fun W hr' => waitO_any h (trTo J x s J.length) (.slice (some ⟨b, off, none⟩) J.length c) W (hok.s16 hE) (fun i hi => (hok i hi).1) hm hr')
  have hmb := lsTo_bd (hok.s16 hE) 4 (Nat.le_refl _)
  clear hr hf hc hm hx hE hok
  generalize wtTo (trTo J x s J.length) (lsTo (trTo J x s J.length) 4) 4 = E at *
  generalize lsTo (trTo J x s J.length) 4 = m at *
  go_enter Tryd.func24, Tryd.ntmps24
  go_wp2_with fail
  refine HT.out.mono ?_
  rintro e w2 ⟨rfl, hr2, ho2⟩
  have HR2 := Lib.hid hr2
  have HO2 := Lib.hid ho2
  clear hr2 ho2
  go_wp2_with fail
  refine (HW.out _ HR2.out).mono ?_
  rintro e w3 ⟨rfl, hr3, ho3⟩
  have HO3 := Lib.hid (HO2.out.trans ho3)
  have HR3 := Lib.hid hr3
  clear hr3 ho3
  go_wp2
  go_ret2
  exact ⟨rfl, HR3.out, HO3.out⟩
theorem Oth.setNew {h : Nat} {w w' : World} (o : Oth h w w') {g : Nat} (hh : h ≤ w.heap.size) (hg : w.heap.size ≤ g) (i : Nat) (v : Value) : Oth h w (w'.setCell ⟨g, i, none⟩ v) :=
  ⟨o.below.setCell (show h ≤ (⟨g, i, none⟩ : Addr).block from Nat.le_trans hh hg) v, fun k hk hne => (heap_setCell_other w' ⟨g, i, none⟩ k v (by show k ≠ g; omega)).trans (o.blk k hk hne)⟩
theorem Oth.row {h : Nat} {w w' : World} (o : Oth h w w') {g : Nat} {t : TypeId} {n : Nat} {f : Nat → Value} (hr : w.rowIs g t n f) (hne : g ≠ h) : w'.rowIs g t n f := World.rowIs.of_block hr (o.blk g (World.rowIs.lt hr) hne)
/-- How a plan's times come back. -/
def TimesEnd (h b off c : Nat) (J : List Int) (x : Nat → Int) (P : List Int) (B : Nat) (w' : World) (v er : Value) : Prop :=
  (rnC J x P = 0 ∧ er = .nilIface ∧ OwnV .i64 B w' v (rnL J x P P.length) ∧ w'.rowIs h 47 5 (hgF (rnX J x P P.length) (.slice (some ⟨b, off, none⟩) J.length c))) ∨
  (rnC J x P = 3 ∧ ∃ s, er = .iface 63 (.agg #[.int .i64 s])) ∨
  (rnC J x P = 2 ∧ ∃ s, er = .iface 69 (.agg #[.int .u8 s])) ∨
  (rnC J x P = 4 ∧ er = .iface 71 (.agg #[]))
set_option maxHeartbeats 2000000 in
theorem timesOf_any (h b off c p po pc : Nat) (J : List Int) (x : Nat → Int) (P : List Int) (w : World) (hn : P.length ≤ 1048576) (hl : J.length ≤ 4) (hE : Each J J.length) (hx : OkX J x) (hbh : b < h) (hph : p < h) (hc : At .i16 w b off J) (hpc : At .u8 w p po P) (hu : HYPU P)
    (hr : w.rowIs h 47 5 (hgF x (.slice (some ⟨b, off, none⟩) J.length c))) :
    Calls Tryd.prog 23 #[.slice (some ⟨p, po, none⟩) P.length pc, .func (.func 24) #[.pointer (some ⟨h, 0, none⟩)] #[]] w fun e w' => ∃ v er, e = .returned (.tuple #[v, er]) ∧ Oth h w w' ∧ TimesEnd h b off c J x P w.heap.size w' v er := by
  have hlt := World.rowIs.lt hr
  by_cases hlong : 60 < P.length
  · have HR := Lib.hid (ru_long (J := J) (x := x) hlong)
    have hd : decide ((60 : Int) < (P.length : Int)) = true := by simp; omega
    clear hlong
    go_enter Tryd.func23, Tryd.ntmps23
    go_wp2
    go_ret2
    exact ⟨_, _, rfl, Oth.refl _ _, .inr (.inl ⟨HR.out.2.2, _, rfl⟩)⟩
  have HQ0 := Lib.hid (show ∀ c0, rcTo J x P P.length = c0 → c0 ≠ 0 → rnC J x P = c0 from fun c0 h h0 => (ru_bad hlong h h0).2.2)
  have HQ1 := Lib.hid (show rcTo J x P P.length = 0 → rnC J x P = 0 from fun h => (ru_ok hlong h).2.2)
  have hd : decide ((60 : Int) < (P.length : Int)) = false := by simp; omega
  have hl60 : P.length ≤ 60 := by omega
  have HC := Lib.hid hc
  have HP := Lib.hid hpc
  have HU := Lib.hid hu
  have HE := Lib.hid hE
  have HX := Lib.hid hx
  have HR0 := Lib.hid hr
  clear hlong hc hpc hu hE hx hr
  have hmk := run_make_row' (P := Tryd.prog) 26 2 (.int .i64 0) 8 Tryd.underlying26 Tryd.info_i64c rfl .i64 .i64 P.length (by omega) (by omega)
  go_enter Tryd.func23, Tryd.ntmps23
  go_wp2
  clear hmk
  have hne : w.heap.size ≠ h := by omega
  go_loopw [7, 24] (fun tm iv wr => ∃ k : Nat, iv = .int .i64 k ∧ k ≤ P.length ∧ tm = .int .i64 (rnT J x P k) ∧ wr.rowIs w.heap.size 2 P.length (fun j => if j < k then .int .i64 (rnT J x P (j + 1)) else .int .i64 0) ∧ wr.rowIs h 47 5 (hgF (rnX J x P k) (.slice (some ⟨b, off, none⟩) J.length c)) ∧ Oth h w wr ∧ rcTo J x P k = 0) (fun _ iv _ => P.length - (intOf iv).toNat)
  case atStart =>
    have ho := Oth.of (Nat.le_of_lt hlt) ((Below.refl w.heap.size w).alloc (Nat.le_refl _) (.cells (Array.replicate P.length (.int .i64 0)) 2))
    exact ⟨0, rfl, Nat.zero_le _, rfl, by simpa using World.rowIs_made w (.int .i64 0) P.length 2, rowIs_b HR0.out ((Below.refl w.heap.size w).alloc (Nat.le_refl _) _) hlt, Oth.of (Nat.le_of_lt hlt) ((Below.refl w.heap.size w).alloc (Nat.le_refl _) _), rfl⟩
  case round =>
    obtain ⟨k, rfl, hk, rfl, hrow, hrr, ho, hrc⟩ := hrel
    by_cases hltk : k < P.length
    · have hkl : (k : Int) < (P.length : Int) := by omega
      have hcell := (HP.out.below ho.below hph) k hltk
      have hsb := HU.out k
      have HCW := Lib.hid (HC.out.below ho.below hbh)
      have hxo := rnX_ok P HE.out HX.out k
      have HRW := Lib.hid hrow
      have HO := Lib.hid ho
      by_cases hf : 2 ^ J.length ≤ P.getD k 0
      · have HTW := Lib.hid (tw_far h b off c J (rnX J x P k) (P.getD k 0) wr hl hf hrr)
        have HRC := Lib.hid (HQ0.out 2 (rcTo_far hrc hf hltk) (by omega))
        clear hrc hrow hrr ho hf hxo
        generalize P.getD k 0 = s at *
        go_wp2_with fail
        refine HTW.out.mono ?_
        rintro e w4 ⟨rfl, rfl⟩
        go_wp2
        go_ret2
        exact ⟨_, _, rfl, HO.out, .inr (.inr (.inl ⟨HRC.out, _, rfl⟩))⟩
      by_cases hm : rnM J x P k = 0
      · have HTW := Lib.hid (tw_out h b off c J (rnX J x P k) (P.getD k 0) wr hl HE.out hxo hsb hf hbh HCW.out hm hrr)
        have HRC := Lib.hid (HQ0.out 4 (rcTo_out hrc hf hm hltk) (by omega))
        clear hrc hrow hrr ho hf hxo hm
        generalize P.getD k 0 = s at *
        go_wp2_with fail
        refine HTW.out.mono ?_
        rintro e w4 ⟨rfl, ho4⟩
        have HO4 := Lib.hid (HO.out.trans ho4)
        clear ho4
        go_wp2
        go_ret2
        exact ⟨_, _, rfl, HO4.out, .inr (.inr (.inr ⟨HRC.out, rfl⟩))⟩
      · have HTW := Lib.hid (tw_ok h b off c J (rnX J x P k) (P.getD k 0) wr hl HE.out hxo hsb hf hbh HCW.out hm hrr)
        rw [show wtTo (trTo J (rnX J x P k) (P.getD k 0) J.length) (lsTo (trTo J (rnX J x P k) (P.getD k 0) J.length) 4) 4 = rnX J x P (k + 1) from rfl, show lsTo (trTo J (rnX J x P k) (P.getD k 0) J.length) 4 = rnM J x P k from rfl] at HTW
        have HGO := Lib.hid (rcTo_go hrc hf hm)
        have hmb := rnM_bd P HE.out HX.out k
        have htb := rnT_bd P HE.out HX.out k
        have HTS := Lib.hid (rnT_step J x P k)
        clear hrc hrow hrr ho hf hxo hm
        generalize P.getD k 0 = s at *
        generalize rnM J x P k = m at *
        generalize hT0 : rnT J x P k = t0 at *
        have HT0 := Lib.hid hT0
        clear hT0
        go_wp2_with fail
        refine HTW.out.mono ?_
        rintro e w4 ⟨rfl, hr4, ho4⟩
        have HO4 := Lib.hid (HO.out.trans ho4)
        have HR4 := Lib.hid hr4
        have hrow4 := ho4.row HRW.out hne
        have hw := hrow4.cell (i := k) hltk
        have hfr := hrow4.frozen k
        simp only [Nat.lt_irrefl, if_false] at hw
        have HROW := Lib.hid ((hrow4.set k (.int .i64 (t0 + m))).congr (g := fun j => if j < k + 1 then .int .i64 (rnT J x P (j + 1)) else .int .i64 0) (fun i hi => by
          by_cases e : i = k
          · subst e; simp [HTS.out]
          · by_cases e2 : i < k
            · simp [e, e2, Nat.lt_succ_of_lt e2]
            · simp [e, e2, show ¬ i < k + 1 by omega]))
        have HR5 := Lib.hid (World.rowIs.of_block HR4.out (heap_setCell_other w4 ⟨w.heap.size, k, none⟩ h (.int .i64 (t0 + m)) (by show h ≠ w.heap.size; omega)))
        have HO5 := Lib.hid (HO4.out.setNew (Nat.le_of_lt hlt) (Nat.le_refl _) k (.int .i64 (t0 + m)))
        clear ho4 hr4 hrow4
        go_wp2
        go_roundw
        case rel => exact ⟨k + 1, by go_num, by omega, by rw [HTS.out], HROW.out, HR5.out, HO5.out, HGO.out⟩
        case measure => simp [intOf]; omega
    · obtain rfl : k = P.length := by omega
      have HRC := Lib.hid (HQ1.out hrc)
      have HO := Lib.hid ho
      have HRW := Lib.hid hrow
      have HRR := Lib.hid hrr
      clear hrc hrow hrr ho
      go_wp2
      go_ret2
      refine ⟨_, _, rfl, HO.out, .inl ⟨HRC.out, rfl, ?_, HRR.out⟩⟩
      have h2 : RowOf .i64 2 wr w.heap.size (rnL J x P P.length) := by
        unfold RowOf
        rw [rnL_len]
        refine HRW.out.congr (fun i hi => ?_)
        have : (rnL J x P P.length).getD i 0 = rnT J x P (i + 1) := by unfold rnL; simp [List.getD_eq_getElem?_getD, hi]
        rw [this, if_pos hi]
      have h3 := OwnV.row (c := P.length) h2 (Nat.le_refl _)
      rw [rnL_len] at h3
      exact h3
end Go.Proofs.YtmjkhkhjliadcaaDoor
