/-
  Waiting: the program's method; the codes of refusals.
-/
import Derived.Test.YtmjkhkhjliadcaaDoorH11
import Derived.Test.YtmjkhkhjliadcaaDoorAS2
import Derived.Test.YtmjkhkhjliadcaaDoorAS3
namespace Go.Proofs.YtmjkhkhjliadcaaDoor
open Go.RowKit
set_option maxRecDepth 100000

theorem hg_set {w : World} {h : Nat} {x y : Nat → Int} {v : Value} {t : TypeId} (hr : w.rowIs h t 5 (hgF x v)) :
    ((((w.setCell ⟨h, 0, none⟩ (.int .i16 (y 0))).setCell ⟨h, 1, none⟩ (.int .i16 (y 1))).setCell ⟨h, 2, none⟩ (.int .i16 (y 2))).setCell ⟨h, 3, none⟩ (.int .i16 (y 3))).rowIs h t 5 (hgF y v) :=
  ((((hr.set 0 (.int .i16 (y 0))).set 1 (.int .i16 (y 1))).set 2 (.int .i16 (y 2))).set 3 (.int .i16 (y 3))).congr (fun i hi => by
    have : i = 0 ∨ i = 1 ∨ i = 2 ∨ i = 3 ∨ i = 4 := by omega
    rcases this with rfl | rfl | rfl | rfl | rfl <;> simp [hgF])
theorem rowIs_below {w w' : World} {h B : Nat} {t : TypeId} {n : Nat} {f : Nat → Value} (hr : w.rowIs h t n f) (hb : Below B w w') (hB : h < B) : w'.rowIs h t n f := World.rowIs.of_block hr (hb.block h hB)
theorem waitNone_any (h : Nat) (x : Nat → Int) (v : Value) (w : World) (hx : ∀ i, i < 4 → 0 ≤ x i) (hm : lsTo x 4 = 0)
    (hr : w.rowIs h 47 5 (hgF x v)) :
    Calls Tryd.prog 35 #[.pointer (some ⟨h, 0, none⟩)] w fun e w' => e = .returned (.tuple #[.int .i64 0, .iface 71 (.agg #[])]) ∧ Below w.heap.size w w' := by
  obtain ⟨c0, c1, c2, c3, c4⟩ := hg_five hr
  have HO := Lib.hid (fun W => haveRunOut_any x W)
  rw [allOut_ls hx, hm] at HO
  go_enter Tryd.func35, Tryd.ntmps35
  go_wp2_with fail
  refine (HO.out _).mono ?_
  rintro e w2 ⟨rfl, hb2⟩
  have HB2 := Lib.hid hb2
  clear hb2 c0 c1 c2 c3 c4
  go_wp2
  go_ret2
  exact ⟨rfl, HB2.out⟩
theorem wait_any (h : Nat) (x : Nat → Int) (v : Value) (w : World) (hw16 : W16 x) (hx : ∀ i, i < 4 → 0 ≤ x i) (hm : ¬ lsTo x 4 = 0)
    (hr : w.rowIs h 47 5 (hgF x v)) :
    Calls Tryd.prog 35 #[.pointer (some ⟨h, 0, none⟩)] w fun e w' => e = .returned (.tuple #[.int .i64 (lsTo x 4), .nilIface]) ∧ w'.rowIs h 47 5 (hgF (wtTo x (lsTo x 4) 4) v) ∧ Below h w w' := by
  obtain ⟨c0, c1, c2, c3, c4⟩ := hg_five hr
  have hlt : h < w.heap.size := World.rowIs.lt hr
  have HO := Lib.hid (fun W => haveRunOut_any x W)
  have hd : decide (lsTo x 4 = 0) = false := by simpa using hm
  rw [allOut_ls hx, hd] at HO
  have HN := Lib.hid (fun W => nextEvent_any x W hw16)
  rw [ne_ls hx] at HN
  have hbd := lsTo_bd hw16 4 (Nat.le_refl _)
  have HLT := Lib.hid (fun W => later_any x (lsTo x 4) W hw16 hx hbd.1 (fun i hi hp => by
    rcases lsTo_spec x 4 with ⟨e, _⟩ | ⟨_, _, h3⟩
    · exact absurd e hm
    · exact h3 i hi hp) hbd.2)
  have HR := Lib.hid hr
  clear hd hr
  generalize wtTo x (lsTo x 4) 4 = E at *
  generalize lsTo x 4 = m at *
  go_enter Tryd.func35, Tryd.ntmps35
  go_wp2_with fail
  refine (HO.out _).mono ?_
  rintro e w2 ⟨rfl, hb2⟩
  have HB2 := Lib.hid hb2
  have HR2 := Lib.hid (rowIs_below HR.out hb2 hlt)
  clear hb2 c0 c1 c2 c3 c4
  obtain ⟨c0, c1, c2, c3, c4⟩ := hg_five HR2.out
  go_wp2_with fail
  refine (HN.out _).mono ?_
  rintro e w3 ⟨rfl, hb3⟩
  have HB3 := Lib.hid (HB2.out.trans (hb3.mono HB2.out.size))
  have HR3 := Lib.hid (rowIs_below HR2.out hb3 (World.rowIs.lt HR2.out))
  clear hb3 c0 c1 c2 c3 c4
  obtain ⟨c0, c1, c2, c3, c4⟩ := hg_five HR3.out
  go_wp2_with fail
  refine (HLT.out _).mono ?_
  rintro e w4 ⟨rfl, hb4⟩
  have HB4 := Lib.hid (HB3.out.trans (hb4.mono HB3.out.size))
  have HR4 := Lib.hid (rowIs_below HR3.out hb4 (World.rowIs.lt HR3.out))
  clear hb4 c0 c1 c2 c3 c4
  obtain ⟨c0, c1, c2, c3, c4⟩ := hg_five HR4.out
  have hfr : ∀ i, w4.frozen? ⟨h, i, none⟩ = false := fun i => HR4.out.frozen i
  go_wp2
  go_ret2
  refine ⟨rfl, hg_set HR4.out, ?_⟩
  have hB5 := HB4.out.mono (Nat.le_of_lt hlt)
  exact (((hB5.setCell (Nat.le_refl _) _).setCell (Nat.le_refl _) _).setCell (Nat.le_refl _) _).setCell (Nat.le_refl _) _
end Go.Proofs.YtmjkhkhjliadcaaDoor
