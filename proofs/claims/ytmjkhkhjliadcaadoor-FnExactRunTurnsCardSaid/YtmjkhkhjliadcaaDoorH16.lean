/-
  The model's run of a plan.
-/
import Derived.Test.YtmjkhkhjliadcaaDoorH15
import Derived.Test.YtmjkhkhjliadcaaDoorFG
import Derived.Deep.DeepCutAuto
import Derived.BigQuiet
namespace Go.Proofs.YtmjkhkhjliadcaaDoor
open Go.RowKit
set_option maxRecDepth 100000
set_option linter.unusedVariables false

theorem Tryd.info_i64c : (Tryd.prog.info? 2).map (fun i => (i.zero, i.size, i.bytes)) = some (some (.int .i64 0), 1, 8) := by kernel_rfl
theorem row_next {w w' : World} {base : Nat} {e : TypeId} {size : Nat} {v : Value} {n : Nat} {xs : List Value} (h : w.ownsRow base e size v n xs) (hb : Below w.heap.size w w') : w'.ownsRow base e size v n xs := by
  refine ⟨h.1, ?_⟩
  rcases h.2 with hn | ⟨g, cap, cur, rfl, hB, hg, rest⟩
  · exact .inl hn
  · exact .inr ⟨g, cap, cur, rfl, hB, (hb.block g (Array.getElem?_eq_some_iff.1 hg).1).trans hg, rest⟩
theorem row_set {w : World} {base : Nat} {e : TypeId} {size : Nat} {v : Value} {n : Nat} {xs : List Value} (h : w.ownsRow base e size v n xs) {b : Nat} (hb : b < base) (i : Nat) (u : Value) : (w.setCell ⟨b, i, none⟩ u).ownsRow base e size v n xs := by
  refine ⟨h.1, ?_⟩
  rcases h.2 with hn | ⟨g, cap, cur, rfl, hB, hg, rest⟩
  · exact .inl hn
  · exact .inr ⟨g, cap, cur, rfl, hB, (heap_setCell_other w ⟨b, i, none⟩ g u (by show g ≠ b; omega)).trans hg, rest⟩
theorem rowIs_b {w w' : World} {h B : Nat} {t : TypeId} {n : Nat} {f : Nat → Value} (hr : w.rowIs h t n f) (hb : Below B w w') (hB : h < B) : w'.rowIs h t n f := World.rowIs.of_block hr (hb.block h hB)
theorem top_set {w : World} {h : Nat} {x y : Nat → Int} {t : TypeId} (hr : w.rowIs h t 4 (fun i => .int .i16 (x i))) :
    ((((w.setCell ⟨h, 0, none⟩ (.int .i16 (y 0))).setCell ⟨h, 1, none⟩ (.int .i16 (y 1))).setCell ⟨h, 2, none⟩ (.int .i16 (y 2))).setCell ⟨h, 3, none⟩ (.int .i16 (y 3))).rowIs h t 4 (fun i => .int .i16 (y i)) :=
  ((((hr.set 0 (.int .i16 (y 0))).set 1 (.int .i16 (y 1))).set 2 (.int .i16 (y 2))).set 3 (.int .i16 (y 3))).congr (fun i hi => by
    have : i = 0 ∨ i = 1 ∨ i = 2 ∨ i = 3 := by omega
    rcases this with rfl | rfl | rfl | rfl <;> simp)
set_option maxHeartbeats 4000000 in
theorem l07Run_any (b off c p po pc : Nat) (J : List Int) (x : Nat → Int) (P : List Int) (w : World) (hn : P.length ≤ 1048576) (hl : J.length ≤ 4) (hE : Each J J.length) (hx : OkX J x) (hb : b < w.heap.size) (hc : At .i16 w b off J) (hp : p < w.heap.size) (hpc : At .u8 w p po P) (hu : ∀ j, 0 ≤ P.getD j 0 ∧ P.getD j 0 ≤ 255) :
    Calls Tryd.prog 21 #[.slice (some ⟨b, off, none⟩) J.length c, watV x, .slice (some ⟨p, po, none⟩) P.length pc] w fun e w' => ∃ v, e = .returned (.tuple #[v, watV (ruX J x P), .int .i64 (rnC J x P)]) ∧ OwnV .i64 w.heap.size w' v (ruL J x P) ∧ Below w.heap.size w w' := by
  obtain ⟨i0, hi0, hz0, hz1, hz2⟩ := info_parts Tryd.info_i64c
  have k1 := (blk_new w #[.int .i16 (x 0), .int .i16 (x 1), .int .i16 (x 2), .int .i16 (x 3)] 27).alloc (.cells #[.int .i16 0, .int .i16 0, .int .i16 0, .int .i16 0] 27)
  have k2 := blk_new (w.alloc (.cells #[.int .i16 (x 0), .int .i16 (x 1), .int .i16 (x 2), .int .i16 (x 3)] 27)) #[.int .i16 0, .int .i16 0, .int .i16 0, .int .i16 0] 27
  have hB := ((Below.refl w.heap.size w).alloc (Nat.le_refl _) (.cells #[.int .i16 (x 0), .int .i16 (x 1), .int .i16 (x 2), .int .i16 (x 3)] 27)).alloc (by simp) (.cells #[.int .i16 0, .int .i16 0, .int .i16 0, .int .i16 0] 27)
  have hsz : ((w.alloc (.cells #[.int .i16 (x 0), .int .i16 (x 1), .int .i16 (x 2), .int .i16 (x 3)] 27)).alloc (.cells #[.int .i16 0, .int .i16 0, .int .i16 0, .int .i16 0] 27)).heap.size = w.heap.size + 2 := by simp
  simp only [World.size_alloc] at k2
  have HC := Lib.hid hc
  have HP := Lib.hid hpc
  have HU := Lib.hid hu
  have HE := Lib.hid hE
  have HX := Lib.hid hx
  have HSZ := Lib.hid hsz
  have hle : w.heap.size ≤ w.heap.size + 1 := by omega
  clear hc hpc hu hE hx hsz
  by_cases hlong : 60 < P.length
  · have HR := Lib.hid (ru_long (J := J) (x := x) hlong)
    obtain ⟨z0, z1, z2, z3, z4⟩ := k2.four
    have HB := Lib.hid hB
    clear hB k1 k2
    have hd : decide ((60 : Int) < (P.length : Int)) = true := by simp; omega
    go_enter Tryd.func21, Tryd.ntmps21
    go_wp2
    refine bodyPost_ret (v := .tuple #[.slice (some ⟨w.heap.size + 1 + 1, 0, none⟩) 0 0, watV noT, .int .i64 3]) (by simp [results, Tryd.results21, go_sem, z0, z1, z2, z3, noT]) rfl ⟨_, by rw [HR.out.2.1, HR.out.2.2], by rw [HR.out.1]; exact OwnV.nil _ _ _ _ _, ?_⟩
    repeat (first | exact HB.out | refine Below.setCell ?_ hle _ | refine Below.drew ?_ | refine below_drewN ?_ _ | refine Below.alloc ?_ (by have := HB.out.size; simp; omega) _)
  have HQ0 := Lib.hid (show ∀ c0, rcTo J x P P.length = c0 → c0 ≠ 0 → ruL J x P = [] ∧ ruX J x P = noT ∧ rnC J x P = c0 from fun c0 h h0 => ru_bad hlong h h0)
  have HQ1 := Lib.hid (show rcTo J x P P.length = 0 → ruL J x P = rnL J x P P.length ∧ ruX J x P = rnX J x P P.length ∧ rnC J x P = 0 from fun h => ru_ok hlong h)
  have hd : decide ((60 : Int) < (P.length : Int)) = false := by simp; omega
  have hl60 : P.length ≤ 60 := by omega
  clear hlong
  have HSS := Lib.hid (fun W => l07Sets_any (some ⟨b, off, none⟩) c J.length W hl)
  have hpw := pow_len hl
  go_enter Tryd.func21, Tryd.ntmps21
  go_wp2
  have hOW := World.ownsRow_made (base := w.heap.size + 1 + 1) (e := 2) (size := 1) ((w.alloc (.cells #[.int .i16 (x 0), .int .i16 (x 1), .int .i16 (x 2), .int .i16 (x 3)] 27)).alloc (.cells #[.int .i16 0, .int .i16 0, .int .i16 0, .int .i16 0] 27)) #[] 0 (by simp) (by unfold maxLen; omega) (by simp)
  replace k1 := k1.alloc (.cells #[] 2)
  replace k2 := k2.alloc (.cells #[] 2)
  replace hB := hB.alloc (by simp; omega) (.cells #[] 2)
  rw [HSZ.out] at hOW
  generalize hg : (((w.alloc (.cells #[.int .i16 (x 0), .int .i16 (x 1), .int .i16 (x 2), .int .i16 (x 3)] 27)).alloc (.cells #[.int .i16 0, .int .i16 0, .int .i16 0, .int .i16 0] 27)).alloc (.cells #[] 2)) = wb at *
  clear hg HSZ
  have K1 := Lib.hid k1.rows
  have K2 := Lib.hid k2
  have HB := Lib.hid hB
  have HOW := Lib.hid hOW
  clear k1 k2 hB hOW
  go_loopw [9, 10, 11] (fun v now iv wr => ∃ k : Nat, iv = .int .i64 k ∧ k ≤ P.length ∧ now = .int .i64 (rnT J x P k) ∧ wr.ownsRow (w.heap.size + 1 + 1) 2 1 v k ((rnL J x P k).map (Value.int .i64)) ∧ wr.rowIs w.heap.size 27 4 (fun i => .int .i16 (rnX J x P k i)) ∧ Blk wr (w.heap.size + 1) #[.int .i16 0, .int .i16 0, .int .i16 0, .int .i16 0] 27 ∧ Below w.heap.size w wr ∧ rcTo J x P k = 0) (fun _ _ iv _ => P.length - (intOf iv).toNat)
  case atStart => exact ⟨0, rfl, Nat.zero_le _, rfl, HOW.out, K1.out, K2.out, HB.out, rfl⟩
  case round =>
    obtain ⟨k, rfl, hk, rfl, hown, hr, hz, hBr, hrc⟩ := hrel
    by_cases hlt : k < P.length
    · have hcell := (HP.out.below hBr hp) k hlt
      have hkl : (k : Int) < (P.length : Int) := by omega
      have hsb := HU.out k
      by_cases hf : 2 ^ J.length ≤ P.getD k 0
      · have HR := Lib.hid (HQ0.out 2 (rcTo_far hrc hf hlt) (by omega))
        have HBr := Lib.hid hBr
        have HZ := Lib.hid hz
        clear hrc hr hown hBr hz
        generalize P.getD k 0 = s at *
        generalize (2 : Int) ^ J.length = q at *
        have hd2 : decide (q ≤ s) = true := by simpa using hf
        go_wp2
        go_quiet ((go_at_call 29; exact Calls.quiet_same (HSS.out _)))
        have HZd := Lib.hid (show Blk (wr.drewN nq) (w.heap.size + 1) #[.int .i16 0, .int .i16 0, .int .i16 0, .int .i16 0] 27 from HZ.out)
        have HBd := Lib.hid (show Below w.heap.size w (wr.drewN nq) from below_drewN HBr.out nq)
        generalize wr.drewN nq = wd at *
        obtain ⟨z0, z1, z2, z3, z4⟩ := (HZd.out.alloc (.cells #[] 2)).four
        go_wp2
        refine bodyPost_ret (v := .tuple #[.slice (some ⟨wd.heap.size, 0, none⟩) 0 0, watV noT, .int .i64 2]) (by simp [results, Tryd.results21, go_sem, z0, z1, z2, z3, noT]) rfl ⟨_, by rw [HR.out.2.1, HR.out.2.2], by rw [HR.out.1]; exact OwnV.nil _ _ _ _ _, ?_⟩
        repeat (first | exact HBd.out | refine Below.setCell ?_ hle _ | refine Below.drew ?_ | refine below_drewN ?_ _ | refine Below.alloc ?_ (by have := HBd.out.size; simp; omega) _)
      · have hrm := rnM_bd P HE.out HX.out k
        have htb := rnT_bd P HE.out HX.out k
        have HT := Lib.hid (fun W (hW : b < W.heap.size) (h : At .i16 W b off J) => l07Turn_any b off c J (rnX J x P k) (P.getD k 0) W hl HE.out (rnX_ok P HE.out HX.out k) hW h)
        have HWt := Lib.hid (fun W => l07Wait_any (rnY J x P k) W ((rnY_ok P HE.out HX.out k).s16 HE.out))
        rw [show trTo J (rnX J x P k) (P.getD k 0) J.length = rnY J x P k from rfl] at HT
        rw [show lsTo (rnY J x P k) 4 = rnM J x P k from rfl, ← rnX_step] at HWt
        have HOUT := Lib.hid (fun h0 => HQ0.out 4 (rcTo_out hrc hf h0 hlt) (by omega))
        have HGO := Lib.hid (fun h0 => rcTo_go hrc hf h0)
        have HTS := Lib.hid (rnT_step J x P k)
        have HLS := Lib.hid (rnL_snoc J x P k)
        have hLL := rnL_len J x P k
        clear hrc
        generalize hE1 : rnX J x P (k + 1) = E at *
        generalize hXk : rnX J x P k = xk at *
        generalize hE2 : rnT J x P (k + 1) = t1 at *
        generalize hE3 : rnT J x P k = t0 at *
        generalize hE4 : rnL J x P (k + 1) = l1 at *
        generalize hE5 : rnL J x P k = l0 at *
        have HEQ := Lib.hid (And.intro hE1 (And.intro hE2 hE4))
        clear hE1 hXk hE2 hE3 hE4 hE5
        generalize rnY J x P k = Y at *
        generalize rnM J x P k = m at *
        generalize P.getD k 0 = s at *
        generalize (2 : Int) ^ J.length = q at *
        have hd2 : decide (q ≤ s) = false := by simpa using hf
        have HR1 := Lib.hid hr
        have HZ1 := Lib.hid hz
        have HB1 := Lib.hid hBr
        have HO1 := Lib.hid hown
        clear hr hz hBr hown hf
        go_wp2
        go_quiet ((go_at_call 29; exact Calls.quiet_same (HSS.out _)))
        have HRd := Lib.hid (show (wr.drewN nq).rowIs w.heap.size 27 4 (fun i => .int .i16 (xk i)) from HR1.out)
        have HZd := Lib.hid (show Blk (wr.drewN nq) (w.heap.size + 1) #[.int .i16 0, .int .i16 0, .int .i16 0, .int .i16 0] 27 from HZ1.out)
        have HBd := Lib.hid (show Below w.heap.size w (wr.drewN nq) from below_drewN HB1.out nq)
        have HOd := Lib.hid (row_next HO1.out (below_drewN (Below.refl _ wr) nq))
        have hcd : (wr.drewN nq).cell? ⟨p, po + k, none⟩ = some (.int .u8 s) := hcell
        clear hcell HR1 HZ1 HB1 HO1
        generalize wr.drewN nq = wd at *
        go_upto_region 10 with fail
        have hbd : b < wd.heap.size := Nat.lt_of_lt_of_le hb HBd.out.size
        have HCD := Lib.hid hcd
        have hpd : p < wd.heap.size := Nat.lt_of_lt_of_le hp HBd.out.size
        clear hcd
        have hAtW : ∀ L W', GR wd L [] W' → b < W'.heap.size ∧ At .i16 W' b off J := fun L W' h =>
          ⟨Nat.lt_of_lt_of_le hbd h.size, (HC.out.below HBd.out hb).below h.below hbd⟩
        have keepS : ∀ L W', GR wd L [] W' → (W'.cell? ⟨w.heap.size, 0, none⟩ = some (.int .i16 (xk 0)) ∧ W'.cell? ⟨w.heap.size, 1, none⟩ = some (.int .i16 (xk 1)) ∧ W'.cell? ⟨w.heap.size, 2, none⟩ = some (.int .i16 (xk 2)) ∧ W'.cell? ⟨w.heap.size, 3, none⟩ = some (.int .i16 (xk 3)) ∧ W'.cell? ⟨p, po + k, none⟩ = some (.int .u8 s)) := fun L W' h => by
          have h1 := rowIs_b HRd.out h.below (World.rowIs.lt HRd.out)
          exact ⟨h1.cell (by omega), h1.cell (by omega), h1.cell (by omega), h1.cell (by omega), (h.below.cell (p := ⟨p, po + k, none⟩) hpd).trans HCD.out⟩
        have F0 := GR.start wd
        go_cut [12, 13] (fun s12 s13 wx => ∃ Bq, s12 = .pointer (some ⟨Bq, 0, none⟩) ∧ s13 = .int .i64 m ∧ GR wd ((Bq, #[.int .i16 (E 0), .int .i16 (E 1), .int .i16 (E 2), .int .i16 (E 3)], 27) :: []) [] wx)
        case first =>
          go_region_held3 (fun W' => W'.cell? ⟨w.heap.size, 0, none⟩ = some (.int .i16 (xk 0)) ∧ W'.cell? ⟨w.heap.size, 1, none⟩ = some (.int .i16 (xk 1)) ∧ W'.cell? ⟨w.heap.size, 2, none⟩ = some (.int .i16 (xk 2)) ∧ W'.cell? ⟨w.heap.size, 3, none⟩ = some (.int .i16 (xk 3)) ∧ W'.cell? ⟨p, po + k, none⟩ = some (.int .u8 s))
            (exact keepS _ _ (by first | assumption | exact GR.drew (by assumption) | exact GR.drew (GR.box (by assumption) _ _) | exact GR.drew (GR.setTop4 (by assumption)) | exact GR.box (by first | assumption | exact GR.drew (by assumption)) _ _ | exact GR.setTop4 (by assumption)))
            (first
              | (go_at_call 31; with_reducible refine (Calls.gr (by first | assumption | exact GR.drew (by assumption) | exact GR.drew (GR.box (by assumption) _ _) | exact GR.drew (GR.setTop4 (by assumption)) | exact GR.box (by first | assumption | exact GR.drew (by assumption)) _ _ | exact GR.setTop4 (by assumption)) (HT.out _ (hAtW _ _ (by first | assumption | exact GR.drew (by assumption) | exact GR.drew (GR.box (by assumption) _ _) | exact GR.drew (GR.setTop4 (by assumption)) | exact GR.box (by first | assumption | exact GR.drew (by assumption)) _ _ | exact GR.setTop4 (by assumption))).1 (hAtW _ _ (by first | assumption | exact GR.drew (by assumption) | exact GR.drew (GR.box (by assumption) _ _) | exact GR.drew (GR.setTop4 (by assumption)) | exact GR.box (by first | assumption | exact GR.drew (by assumption)) _ _ | exact GR.setTop4 (by assumption))).2)).mono ?_; rintro e w' ⟨rfl, F2⟩)
              | (go_at_call 30; with_reducible refine (Calls.gr (by first | assumption | exact GR.drew (by assumption) | exact GR.drew (GR.box (by assumption) _ _) | exact GR.drew (GR.setTop4 (by assumption)) | exact GR.box (by first | assumption | exact GR.drew (by assumption)) _ _ | exact GR.setTop4 (by assumption)) (HWt.out _)).mono ?_; rintro e w' ⟨rfl, F5⟩; try (obtain ⟨zz0, zz1, zz2, zz3, zz4⟩ := (F5.blk _ List.mem_cons_self).four)))
          all_goals (go_wp2_with fail; go_meet; exact ⟨_, rfl, rfl, (by first | assumption | exact GR.drew (by assumption) | exact GR.drew (GR.box (by assumption) _ _) | exact GR.drew (GR.setTop4 (by assumption)) | exact GR.box (by first | assumption | exact GR.drew (by assumption)) _ _ | exact GR.setTop4 (by assumption))⟩)
        case rest =>
          obtain ⟨Bq, rfl, rfl, F3⟩ := hcut
          have HZc := Lib.hid (HZd.out.below F3.below HZd.out.lt)
          have HBc := Lib.hid (HBd.out.trans (F3.below.mono HBd.out.size))
          have HRc := Lib.hid (rowIs_b HRd.out F3.below (World.rowIs.lt HRd.out))
          have HOc := Lib.hid (row_next HOd.out F3.below)
          by_cases hm : m = 0
          · have HR := Lib.hid (HOUT.out hm)
            obtain ⟨z0, z1, z2, z3, z4⟩ := (HZc.out.alloc (.cells #[] 2)).four
            have hd3 : (m == 0) = true := by simpa using hm
            clear F0 F3 keepS hAtW hm
            go_wp2
            refine bodyPost_ret (v := .tuple #[.slice (some ⟨wc.heap.size, 0, none⟩) 0 0, watV noT, .int .i64 4]) (by simp [results, Tryd.results21, go_sem, z0, z1, z2, z3, noT]) rfl ⟨_, by rw [HR.out.2.1, HR.out.2.2], by rw [HR.out.1]; exact OwnV.nil _ _ _ _ _, ?_⟩
            repeat (first | exact HBc.out | refine Below.setCell ?_ hle _ | refine Below.drew ?_ | refine below_drewN ?_ _ | refine Below.alloc ?_ (by have := HBc.out.size; simp; omega) _)
          · have hd3 : (m == 0) = false := by simpa using hm
            have HGO2 := Lib.hid (HGO.out hm)
            obtain ⟨q0, q1, q2, q3, -⟩ := (F3.blk _ List.mem_cons_self).four
            obtain ⟨e0, e1, e2, e3⟩ := row_four HRc.out
            have e4 := fun i => HRc.out.frozen i
            clear F0 F3 keepS hAtW hm
            go_upto_region 15 with fail
            have HRq := Lib.hid (top_set (y := E) HRc.out)
            have HZq := Lib.hid ((((HZc.out.setOther (g := w.heap.size) (by omega) 0 (.int .i16 (E 0))).setOther (g := w.heap.size) (by omega) 1 (.int .i16 (E 1))).setOther (g := w.heap.size) (by omega) 2 (.int .i16 (E 2))).setOther (g := w.heap.size) (by omega) 3 (.int .i16 (E 3)))
            have HBq := Lib.hid ((((HBc.out.setCell (p := ⟨w.heap.size, 0, none⟩) (Nat.le_refl _) (.int .i16 (E 0))).setCell (p := ⟨w.heap.size, 1, none⟩) (Nat.le_refl _) (.int .i16 (E 1))).setCell (p := ⟨w.heap.size, 2, none⟩) (Nat.le_refl _) (.int .i16 (E 2))).setCell (p := ⟨w.heap.size, 3, none⟩) (Nat.le_refl _) (.int .i16 (E 3)))
            have hOq := row_set (row_set (row_set (row_set HOc.out (show w.heap.size < w.heap.size + 1 + 1 by omega) 0 (.int .i16 (E 0))) (show w.heap.size < w.heap.size + 1 + 1 by omega) 1 (.int .i16 (E 1))) (show w.heap.size < w.heap.size + 1 + 1 by omega) 2 (.int .i16 (E 2))) (show w.heap.size < w.heap.size + 1 + 1 by omega) 3 (.int .i16 (E 3))
            generalize ((((wc.setCell ⟨w.heap.size, 0, none⟩ (.int .i16 (E 0))).setCell ⟨w.heap.size, 1, none⟩ (.int .i16 (E 1))).setCell ⟨w.heap.size, 2, none⟩ (.int .i16 (E 2))).setCell ⟨w.heap.size, 3, none⟩ (.int .i16 (E 3))) = wq0 at *
            clear q0 q1 q2 q3 e0 e1 e2 e3 e4
            obtain ⟨wq, rfl⟩ : ∃ wq : World, wq = wq0 := ⟨_, rfl⟩
            have hsz := HZq.out.lt
            go_wp2_with (first
              | (at_builtin; refine wpList_append_own _ rfl _ _ 26 rfl (w.heap.size + 1 + 1) 2 i0 (.int .i64 0) 1 8 Tryd.underlying26 hi0 hz0 hz1 hz2 rfl (by decide) _ _ _ rfl (hOq.alloc _) ⟨wq.heap.size, 0, none⟩ 1 1 [.int .i64 (t0 + m)] rfl rfl ?c1 ?c2 ?c3 ?c4 ?c5 ?_)
              | go_in)
            case c1 =>
              intro j u hj
              match j, hj with
              | 0, hj => simp at hj; subst hj; simp [Addr.add]
            case c2 => intro u hu; simp at hu; subst hu; rfl
            case c3 => unfold maxLen; omega
            case c4 => omega
            case c5 => simp; omega
            intro u' w5 hown' hgrow _
            have q0 : some w.heap.size ≠ u9.ownBlock := fun e => by have := (hOq.lt _ e.symm).1; omega
            have q1 : some (w.heap.size + 1) ≠ u9.ownBlock := fun e => by have := (hOq.lt _ e.symm).1; omega
            have hal := (Below.refl wq.heap.size wq).alloc (Nat.le_refl _) (.cells #[.int .i64 (t0 + m)] 2)
            have HR5 := Lib.hid (World.rowIs.of_block (rowIs_b HRq.out hal (by omega)) (hgrow.block _ (by simp; omega) q0))
            have HZ5 := Lib.hid (show Blk w5 (w.heap.size + 1) #[.int .i16 0, .int .i16 0, .int .i16 0, .int .i16 0] 27 from (hgrow.block _ (by simp; omega) q1).trans (HZq.out.alloc _))
            have HB5 := Lib.hid ((HBq.out.alloc HBq.out.size _).grown hgrow (by simp; omega) (fun j hj => by have := (hOq.lt j hj).1; omega))
            have HO5 := Lib.hid hown'
            clear hown' hgrow hOq q0 q1 hal
            go_wp2
            go_roundw
            case rel => exact ⟨k + 1, by go_num, by omega, by rw [HEQ.out.2.1, HTS.out], by rw [HEQ.out.2.2, HLS.out, HTS.out, List.map_append]; exact HO5.out, by rw [HEQ.out.1]; exact HR5.out, HZ5.out, HB5.out, HGO2.out⟩
            case measure => simp [intOf]; omega
    · obtain rfl : k = P.length := by omega
      have HR := Lib.hid (HQ1.out hrc)
      have HO := Lib.hid hown
      have HBr := Lib.hid hBr
      have hLL := rnL_len J x P P.length
      have HLL := Lib.hid hLL
      obtain ⟨e0, e1, e2, e3⟩ := row_four hr
      obtain ⟨z0, z1, z2, z3, z4⟩ := hz.four
      clear hrc hr hown hBr hz hLL
      generalize rnX J x P P.length = E at *
      go_wp2
      have hO4 := row_set (row_set (row_set (row_set HO.out (show w.heap.size + 1 < w.heap.size + 1 + 1 by omega) 0 (.int .i16 (E 0))) (show w.heap.size + 1 < w.heap.size + 1 + 1 by omega) 1 (.int .i16 (E 1))) (show w.heap.size + 1 < w.heap.size + 1 + 1 by omega) 2 (.int .i16 (E 2))) (show w.heap.size + 1 < w.heap.size + 1 + 1 by omega) 3 (.int .i16 (E 3))
      have HOF := Lib.hid (row_next hO4 ((Below.refl _ _).drew))
      clear hO4
      go_region
      go_wp2
      refine bodyPost_ret (v := .tuple #[u9, watV E, .int .i64 0]) (by simp [results, Tryd.results21, go_sem, z0, z1, z2, z3]) rfl ⟨u9, by rw [HR.out.2.1, HR.out.2.2], ?_, ?_⟩
      · rw [HR.out.1]
        exact (OwnV.ofOwns HLL.out.symm HOF.out).mono (by omega)
      · exact ((((HBr.out.setCell hle _).setCell hle _).setCell hle _).setCell hle _).drew
end Go.Proofs.YtmjkhkhjliadcaaDoor
