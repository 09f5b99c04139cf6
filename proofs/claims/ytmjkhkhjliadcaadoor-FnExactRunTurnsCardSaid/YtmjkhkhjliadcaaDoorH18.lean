/-
  Turning and waiting, and what else stays as it was.
-/
import Derived.Test.YtmjkhkhjliadcaaDoorH13
import Derived.Test.YtmjkhkhjliadcaaDoorH17
namespace Go.Proofs.YtmjkhkhjliadcaaDoor
open Go.RowKit
set_option maxRecDepth 100000

/-- Of what was there only block h has changed. -/
structure Oth (h : Nat) (w w' : World) : Prop where
  below : Below h w w'
  blk : ∀ k, k < w.heap.size → k ≠ h → w'.heap[k]? = w.heap[k]?
theorem Oth.refl (h : Nat) (w : World) : Oth h w w := ⟨Below.refl _ _, fun _ _ _ => rfl⟩
theorem Oth.size {h : Nat} {w w' : World} (o : Oth h w w') : w.heap.size ≤ w'.heap.size := o.below.size
theorem Oth.setCell {h : Nat} {w w' : World} (o : Oth h w w') (i : Nat) (v : Value) : Oth h w (w'.setCell ⟨h, i, none⟩ v) :=
  ⟨o.below.setCell (show h ≤ (⟨h, i, none⟩ : Addr).block from Nat.le_refl _) v, fun k hk hne => (heap_setCell_other w' ⟨h, i, none⟩ k v hne).trans (o.blk k hk hne)⟩
theorem Oth.drew {h : Nat} {w w' : World} (o : Oth h w w') : Oth h w w'.drew := ⟨o.below.drew, o.blk⟩
theorem Oth.of {h : Nat} {w w' : World} (hh : h ≤ w.heap.size) (hb : Below w.heap.size w w') : Oth h w w' := ⟨hb.mono hh, fun k hk _ => hb.block k hk⟩
theorem Oth.trans {h : Nat} {a b c : World} (o : Oth h a b) (q : Oth h b c) : Oth h a c :=
  ⟨o.below.trans q.below, fun k hk hne => (q.blk k (Nat.lt_of_lt_of_le hk o.size) hne).trans (o.blk k hk hne)⟩
theorem turnO_any (h b off c : Nat) (J : List Int) (x : Nat → Int) (s : Int) (w : World) (hl : J.length ≤ 4) (hE : Each J J.length) (hx : OkX J x) (hs : 0 ≤ s ∧ s ≤ 255) (hf : ¬ 2 ^ J.length ≤ s) (hbh : b < h) (hc : At .i16 w b off J)
    (hr : w.rowIs h 47 5 (hgF x (.slice (some ⟨b, off, none⟩) J.length c))) :
    Calls Tryd.prog 34 #[.pointer (some ⟨h, 0, none⟩), .int .u8 s] w fun e w' => e = .returned .nilIface ∧ w'.rowIs h 47 5 (hgF (trTo J x s J.length) (.slice (some ⟨b, off, none⟩) J.length c)) ∧ Oth h w w' := by
  obtain ⟨c0, c1, c2, c3, c4⟩ := hg_five hr
  have HSS := Lib.hid (fun W => sets_any (some ⟨b, off, none⟩) c J.length W hl)
  have hp := pow_len hl
  have HC := Lib.hid hc
  have HX := Lib.hid hx
  have HE := Lib.hid hE
  have HR0 := Lib.hid hr
  clear hc hx hE hr
  generalize (2 : Int) ^ J.length = q at *
  have hd : decide (q ≤ s) = false := by simpa using hf
  go_enter Tryd.func34, Tryd.ntmps34
  go_wp2_with fail
  refine (HSS.out _).mono ?_
  rintro e w' ⟨rfl, rfl⟩
  go_wp2
  clear c0 c1 c2 c3 c4 hd hf hp
  go_loopw [5, 6, 22] (fun _ _ i wr => ∃ k : Nat, k ≤ J.length ∧ i = .int .i64 k ∧ wr.rowIs h 47 5 (hgF (trTo J x s k) (.slice (some ⟨b, off, none⟩) J.length c)) ∧ Oth h w wr) (fun _ _ i _ => J.length - (intOf i).toNat)
  case atStart => exact ⟨0, Nat.zero_le _, rfl, HR0.out.congr (fun i _ => by unfold hgF; simp [trTo]), Oth.refl _ _⟩
  case round =>
    obtain ⟨k, hk, rfl, hr, hB⟩ := hrel
    have HR := Lib.hid hr
    have HB2 := Lib.hid hB
    by_cases hlt : k < J.length
    · have hk4 : k < 4 := by omega
      have hcell := (HC.out.below hB.below hbh) k hlt
      have hw := hr.cell (i := k) (by omega)
      have hfr := hr.frozen k
      clear hr hB
      have hxk := HX.out k hk4
      have hJk := HE.out k hlt
      have hold : hgF (trTo J x s k) (.slice (some ⟨b, off, none⟩) J.length c) k = .int .i16 (x k) := by unfold hgF trTo; rw [if_pos hk4, if_neg (by omega)]
      rw [hold] at hw
      have hkl : (k : Int) < (J.length : Int) := by omega
      have hk4' : (k : Int) < 4 := by omega
      have hbb := bit_and hs k
      cases hbit : bitT s k
      · rw [hbit] at hbb
        have HS := Lib.hid (HR.out.congr (g := hgF (trTo J x s (k + 1)) (.slice (some ⟨b, off, none⟩) J.length c)) (fun i _ => by
          unfold hgF trTo
          by_cases e : i = k
          · subst e; simp [hbit]
          · simp only [show (i < k + 1) = (i < k) by simp; omega]))
        go_wp2
        go_roundw
        case rel => exact ⟨k + 1, by omega, by go_num, HS.out, HB2.out⟩
        case measure => simp [intOf]; omega
      · rw [hbit] at hbb
        have HS := Lib.hid ((HR.out.set k (.int .i16 (J.getD k 0 - x k))).congr (g := hgF (trTo J x s (k + 1)) (.slice (some ⟨b, off, none⟩) J.length c)) (fun i _ => by
          unfold hgF trTo
          by_cases e : i = k
          · subst e; simp [hbit, hk4]
          · simp only [e, if_false, show (i < k + 1) = (i < k) by simp; omega]))
        have HB3 := Lib.hid (HB2.out.setCell k (.int .i16 (J.getD k 0 - x k)))
        clear hold
        generalize J.getD k 0 = m at *
        generalize x k = y at *
        go_wp2
        go_region
        go_wp2
        go_roundw
        case rel => exact ⟨k + 1, by omega, by go_num, HS.out, HB3.out.drew⟩
        case measure => simp [intOf]; omega
    · obtain rfl : k = J.length := by omega
      clear hr hB
      go_wp2
      go_ret
      exact ⟨rfl, HR.out, HB2.out⟩
theorem waitO_any (h : Nat) (x : Nat → Int) (v : Value) (w : World) (hw16 : W16 x) (hx : ∀ i, i < 4 → 0 ≤ x i) (hm : ¬ lsTo x 4 = 0)
    (hr : w.rowIs h 47 5 (hgF x v)) :
    Calls Tryd.prog 35 #[.pointer (some ⟨h, 0, none⟩)] w fun e w' => e = .returned (.tuple #[.int .i64 (lsTo x 4), .nilIface]) ∧ w'.rowIs h 47 5 (hgF (wtTo x (lsTo x 4) 4) v) ∧ Oth h w w' := by
  obtain ⟨c0, c1, c2, c3, c4⟩ := hg_five hr
  have hlt : h < w.heap.size := World.rowIs.lt hr
  have HO := Lib.hid (fun W => haveRunOut_any x W)
  have hd : decide (lsTo x 4 = 0) = false := by simpa using hm
  rw [allOut_ls hx, hd] at HO
  have HN := Lib.hid (fun W => nextEvent_any x W hw16)
  rw [ne_ls hx] at HN
  have hbd := lsTo_bd hw16 4 (Nat.le_refl _)
  have HLT := Lib.hid (fun W => later_any x (lsTo x 4) W hw16 hx hbd.1 (fun i hi hp => by
    rcases lsTo_spec x 4 with ⟨e, _⟩ | ⟨_, _, h3⟩
    · exact absurd e hm
    · exact h3 i hi hp) hbd.2)
  have HR := Lib.hid hr
  clear hd hr
  generalize wtTo x (lsTo x 4) 4 = E at *
  generalize lsTo x 4 = m at *
  go_enter Tryd.func35, Tryd.ntmps35
  go_wp2_with fail
  refine (HO.out _).mono ?_
  rintro e w2 ⟨rfl, hb2⟩
  have HB2 := Lib.hid hb2
  have HR2 := Lib.hid (rowIs_below HR.out hb2 hlt)
  clear hb2 c0 c1 c2 c3 c4
  obtain ⟨c0, c1, c2, c3, c4⟩ := hg_five HR2.out
  go_wp2_with fail
  refine (HN.out _).mono ?_
  rintro e w3 ⟨rfl, hb3⟩
  have HB3 := Lib.hid (HB2.out.trans (hb3.mono HB2.out.size))
  have HR3 := Lib.hid (rowIs_below HR2.out hb3 (World.rowIs.lt HR2.out))
  clear hb3 c0 c1 c2 c3 c4
  obtain ⟨c0, c1, c2, c3, c4⟩ := hg_five HR3.out
  go_wp2_with fail
  refine (HLT.out _).mono ?_
  rintro e w4 ⟨rfl, hb4⟩
  have HB4 := Lib.hid (HB3.out.trans (hb4.mono HB3.out.size))
  have HR4 := Lib.hid (rowIs_below HR3.out hb4 (World.rowIs.lt HR3.out))
  clear hb4 c0 c1 c2 c3 c4
  obtain ⟨c0, c1, c2, c3, c4⟩ := hg_five HR4.out
  have hfr : ∀ i, w4.frozen? ⟨h, i, none⟩ = false := fun i => HR4.out.frozen i
  go_wp2
  go_ret2
  refine ⟨rfl, hg_set HR4.out, ?_⟩
  exact ((((Oth.of (Nat.le_of_lt hlt) HB4.out).setCell 0 _).setCell 1 _).setCell 2 _).setCell 3 _
end Go.Proofs.YtmjkhkhjliadcaaDoor
