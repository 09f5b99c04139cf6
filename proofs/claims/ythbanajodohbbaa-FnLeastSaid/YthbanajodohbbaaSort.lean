/-
  Sorting a row in which only the last number is out of place: the program's sort (at most twelve numbers) and the model's loop do the same.
-/
import Derived.Test.YthbanajodohbbaaOwn
import Derived.Test.YthbanajodohbbaaShelf
import Derived.RegionTactic
import Derived.ChangeAlike
namespace Go.Proofs.Ythbanajodohbbaa
open Go.RowKit

/-- x has been moved down to the place j of ps. -/
def mv (ps : List Int) (x : Int) (j i : Nat) : Int := if i < j then ps.getD i 0 else if i = j then x else ps.getD (i - 1) 0
def insFrom (ps : List Int) (x : Int) : Nat → Nat
  | 0 => 0
  | j + 1 => if x < ps.getD j 0 then insFrom ps x j else j + 1
theorem insFrom_le (ps : List Int) (x : Int) (j : Nat) : insFrom ps x j ≤ j := by
  induction j with
  | zero => exact Nat.le_refl _
  | succ j ih => unfold insFrom; split <;> omega
theorem insFrom_lt {ps : List Int} {x : Int} {j : Nat} (h : x < ps.getD j 0) : insFrom ps x (j + 1) = insFrom ps x j := if_pos h
theorem insFrom_ge {ps : List Int} {x : Int} {j : Nat} (h : ¬ x < ps.getD j 0) : insFrom ps x (j + 1) = j + 1 := if_neg h
def insList (ps : List Int) (x : Int) : List Int := (List.range (ps.length + 1)).map (mv ps x (insFrom ps x ps.length))
theorem insList_length (ps : List Int) (x : Int) : (insList ps x).length = ps.length + 1 := by simp [insList]
theorem insList_getD (ps : List Int) (x : Int) (i : Nat) (h : i < ps.length + 1) : (insList ps x).getD i 0 = mv ps x (insFrom ps x ps.length) i := by
  simp [insList, List.getD_eq_getElem?_getD, h]
/-- The row in block g: ps with x moved down to the place j. -/
def CellsMv (w : World) (g : Nat) (ps : List Int) (x : Int) (j : Nat) : Prop :=
  (∀ i, i ≤ ps.length → w.cell? ⟨g, i, none⟩ = some (.int .i16 (mv ps x j i))) ∧ ∀ i, w.frozen? ⟨g, i, none⟩ = false
theorem mv_at (ps : List Int) (x : Int) (j : Nat) : mv ps x j j = x := by simp [mv]
theorem mv_below (ps : List Int) (x : Int) (j i : Nat) (h : i < j) : mv ps x j i = ps.getD i 0 := by simp [mv, h]
theorem CellsMv.step {w : World} {g : Nat} {ps : List Int} {x : Int} {j : Nat} (h : CellsMv w g ps x (j + 1)) (hj : j + 1 ≤ ps.length) :
    CellsMv ((w.setCell ⟨g, j + 1, none⟩ (.int .i16 (ps.getD j 0))).setCell ⟨g, j, none⟩ (.int .i16 x)) g ps x j := by
  have c1 := h.1 (j + 1) hj
  have c0 := h.1 j (by omega)
  refine ⟨fun i hi => ?_, fun i => (World.frozen?_setCell _ _ _ _).trans ((World.frozen?_setCell _ _ _ _).trans (h.2 i))⟩
  by_cases e0 : i = j
  · subst e0
    rw [mv_at]
    exact World.cell?_setCell_same _ _ _ ((World.cell?_setCell_other _ _ _ _ (by simp)).trans c0)
  · rw [World.cell?_setCell_other _ _ _ _ (by simp)]
    by_cases e1 : i = j + 1
    · subst e1
      rw [World.cell?_setCell_same _ _ _ c1]
      unfold mv; rw [if_neg (by omega), if_neg (by omega)]; rfl
    · rw [World.cell?_setCell_other _ _ _ _ (by simp), h.1 i hi]
      unfold mv
      by_cases e2 : i < j
      · rw [if_pos (by omega), if_pos e2]
      · rw [if_neg (by omega), if_neg (by omega), if_neg e2, if_neg e0]
theorem CellsMv.below {w w' : World} {g B : Nat} {ps : List Int} {x : Int} {j : Nat} (h : CellsMv w g ps x j) (hb : Below B w w') (hB : g < B) : CellsMv w' g ps x j :=
  ⟨fun i hi => (hb.cell (p := ⟨g, i, none⟩) hB).trans (h.1 i hi), fun i => (hb.frozen (p := ⟨g, i, none⟩) hB).trans (h.2 i)⟩
theorem CellsMv.dr {w w' : World} {g : Nat} {ps : List Int} {x : Int} {j : Nat} (h : CellsMv w g ps x j) (hd : Dr w w') : CellsMv w' g ps x j := by
  obtain ⟨q, rfl⟩ := hd; exact h
/-- Only block g may have changed, and something may have been drawn. -/
structure OnlyD (b : Nat) (w w' : World) : Prop where
  os : w'.os = w.os
  tape : w'.tape = w.tape
  output : w'.output = w.output
  size : w'.heap.size = w.heap.size
  block : ∀ k, k ≠ b → w'.heap[k]? = w.heap[k]?
theorem OnlyD.refl (b : Nat) (w : World) : OnlyD b w w := ⟨rfl, rfl, rfl, rfl, fun _ _ => rfl⟩
theorem OnlyD.trans {b : Nat} {a w w' : World} (h : OnlyD b a w) (k : OnlyD b w w') : OnlyD b a w' :=
  ⟨k.os.trans h.os, k.tape.trans h.tape, k.output.trans h.output, k.size.trans h.size, fun j hj => (k.block j hj).trans (h.block j hj)⟩
theorem OnlyD.dr {b : Nat} {w w' : World} (h : Dr w w') : OnlyD b w w' := by obtain ⟨q, rfl⟩ := h; exact ⟨rfl, rfl, rfl, rfl, fun _ _ => rfl⟩
theorem OnlyD.setCell {b : Nat} {w w' : World} (h : OnlyD b w w') (o : Nat) (v : Value) : OnlyD b w (w'.setCell ⟨b, o, none⟩ v) :=
  ⟨h.os, h.tape, h.output, by rw [← h.size]; simp, fun k hk => (Below.heap_setCell w' ⟨b, o, none⟩ v k hk).trans (h.block k hk)⟩
theorem OnlyD.below {b B : Nat} {a w w' : World} (hb : Below B a w) (h : OnlyD b w w') (hB : B ≤ b) : Below B a w' :=
  hb.trans ⟨h.os, h.tape, h.output, by rw [h.size]; exact Nat.le_refl _, fun k hk => h.block k (by omega)⟩

set_option maxRecDepth 100000 in
theorem insertion_any (g cap : Nat) (ps : List Int) (x : Int) (w : World) (hn : ps.length ≤ 11) (hs : ∀ i, 0 < i → i < ps.length → ps.getD (i - 1) 0 ≤ ps.getD i 0) (hc : CellsMv w g ps x ps.length) :
    Calls Try.prog 30 #[.slice (some ⟨g, 0, none⟩) (ps.length + 1) cap, .int .i64 0, .int .i64 (ps.length + 1)] w fun e w' => e = .returned (.tuple #[]) ∧ CellsMv w' g ps x (insFrom ps x ps.length) ∧ OnlyD g w w' := by
  have HS := Lib.hid hs
  clear hs
  go_enter Try.func30, Try.ntmps30
  go_wp2
  go_loopw [6] (fun i wr => ∃ k : Nat, 1 ≤ k ∧ k ≤ ps.length + 1 ∧ i = .int .i64 k ∧ (k ≤ ps.length → CellsMv wr g ps x ps.length) ∧ (k = ps.length + 1 → CellsMv wr g ps x (insFrom ps x ps.length)) ∧ OnlyD g w wr) (fun i _ => ps.length + 1 - (intOf i).toNat)
  case atStart => exact ⟨1, Nat.le_refl _, by omega, by go_num, fun _ => hc, fun h => by rw [show ps.length = 0 by omega] at hc ⊢; exact hc, OnlyD.refl _ _⟩
  case round =>
    obtain ⟨k, hk1, hk, rfl, hA, hZ, hO⟩ := hrel
    have HA := Lib.hid hA
    have HZ := Lib.hid hZ
    clear hA hZ
    obtain ⟨wo, rfl⟩ : ∃ wo : World, wo = wr := ⟨_, rfl⟩
    by_cases hlt : k < ps.length + 1
    · have hcur := HA.out (by omega)
      by_cases hlast : k = ps.length
      · -- the last number is moved down
        have HL := Lib.hid hlast
        clear hlast
        go_wp2_with fail
        go_loopw [7] (fun q wi => ∃ j : Nat, j ≤ ps.length ∧ q = .int .i64 j ∧ insFrom ps x ps.length = insFrom ps x j ∧ CellsMv wi g ps x j ∧ OnlyD g w wi) (fun q _ => (intOf q).toNat)
        case atStart => exact ⟨k, by omega, rfl, by rw [HL.out], by rw [HL.out]; exact hcur, hO⟩
        case round =>
          obtain ⟨j, hj, rfl, hins, hcm, hO2⟩ := hrel
          have HI := Lib.hid hins
          clear hins
          cases j with
          | zero =>
            have HF := Lib.hid (show insFrom ps x ps.length = 0 from HI.out)
            have hd : decide ((0 : Int) < ((0 : Nat) : Int)) = false := by decide
            go_wp2
            go_quiet (fail)
            go_wp2
            go_roundw
            case rel => exact ⟨k + 1, by omega, by omega, by go_num, fun h => absurd h (by have := HL.out; omega), fun _ => by rw [HF.out]; exact hcm.dr (Dr.of _ _), hO2.trans (OnlyD.dr (Dr.of _ _))⟩
            case measure => simp [intOf]; have := HL.out; omega
          | succ m =>
            have c1 := hcm.1 (m + 1) hj
            have c0 := hcm.1 m (by omega)
            rw [mv_at] at c1
            rw [mv_below ps x (m + 1) m (by omega)] at c0
            have f1 := hcm.2 (m + 1)
            have f0 := hcm.2 m
            have hk0 : (0 : Int) < ((m + 1 : Nat) : Int) := by omega
            by_cases hx : x < ps.getD m 0
            · have HF := Lib.hid (show insFrom ps x ps.length = insFrom ps x m from HI.out.trans (insFrom_lt hx))
              have Hst := Lib.hid (fun q : Nat => (hcm.dr (Dr.of wr q)).step hj)
              have hl := fun W => less16_any x (ps.getD m 0) W
              rw [decide_eq_true hx] at hl
              have HLs := Lib.hid hl
              clear hl hx
              generalize ps.getD m 0 = y at *
              go_wp2
              go_quiet ((go_at_call 36; exact Calls.quiet_same (HLs.out _)))
              go_wp2
              go_region
              all_goals go_wp2
              all_goals go_roundw
              case rel => exact ⟨m, by omega, rfl, HF.out, Hst.out _, ((hO2.trans (OnlyD.dr (Dr.of _ _))).setCell _ _).setCell _ _⟩
              case measure => simp [intOf]
            · have HF := Lib.hid (show insFrom ps x ps.length = m + 1 from HI.out.trans (insFrom_ge hx))
              have hl := fun W => less16_any x (ps.getD m 0) W
              rw [decide_eq_false hx] at hl
              have HLs := Lib.hid hl
              clear hl hx
              generalize ps.getD m 0 = y at *
              go_wp2
              go_quiet ((go_at_call 36; exact Calls.quiet_same (HLs.out _)))
              go_wp2
              go_roundw
              case rel => exact ⟨k + 1, by omega, by omega, by go_num, fun h => absurd h (by have := HL.out; omega), fun _ => by rw [HF.out]; exact hcm.dr (Dr.of _ _), hO2.trans (OnlyD.dr (Dr.of _ _))⟩
              case measure => simp [intOf]; have := HL.out; omega
      · -- the numbers before it stand as they should
        obtain ⟨m, rfl⟩ : ∃ m, k = m + 1 := ⟨k - 1, by omega⟩
        have c1 := hcur.1 (m + 1) (by omega)
        have c0 := hcur.1 m (by omega)
        rw [mv_below ps x _ _ (by omega)] at c1
        rw [mv_below ps x _ _ (by omega)] at c0
        have hk0 : (0 : Int) < ((m + 1 : Nat) : Int) := by omega
        have hx : ¬ ps.getD (m + 1) 0 < ps.getD m 0 := by have := HS.out (m + 1) (by omega) (by omega); simp only [Nat.add_sub_cancel] at this; omega
        have hl := fun W => less16_any (ps.getD (m + 1) 0) (ps.getD m 0) W
        rw [decide_eq_false hx] at hl
        have HLs := Lib.hid hl
        clear hl hx
        generalize ps.getD (m + 1) 0 = y1 at *
        generalize ps.getD m 0 = y0 at *
        have HL := Lib.hid hlast
        clear hlast
        go_wp2_with fail
        refine wp_loop_rounds 1 ?_
        rw [rounds_succ]
        go_wp2
        go_quiet ((go_at_call 36; exact Calls.quiet_same (HLs.out _)))
        go_wp2
        go_roundw
        case rel => exact ⟨m + 1 + 1, by omega, by omega, by go_num, fun _ => hcur.dr (Dr.of _ _), fun h => absurd h (by have := HL.out; omega), hO.trans (OnlyD.dr (Dr.of _ _))⟩
        case measure => simp [intOf]; omega
    · have HK := Lib.hid (HZ.out (by omega))
      go_wp2
      go_end0
      exact ⟨rfl, HK.out, hO⟩

set_option maxRecDepth 100000 in
theorem pdq_any (g cap : Nat) (ps : List Int) (x r : Int) (w : World) (hn : ps.length ≤ 11) (hs : ∀ i, 0 < i → i < ps.length → ps.getD (i - 1) 0 ≤ ps.getD i 0) (hc : CellsMv w g ps x ps.length) :
    Calls Try.prog 25 #[.slice (some ⟨g, 0, none⟩) (ps.length + 1) cap, .int .i64 0, .int .i64 (ps.length + 1), .int .i64 r] w fun e w' => e = .returned (.tuple #[]) ∧ CellsMv w' g ps x (insFrom ps x ps.length) ∧ OnlyD g w w' := by
  have HI := Lib.hid (insertion_any g cap ps x w hn hs hc)
  clear hs hc
  go_enter Try.func25, Try.ntmps25
  go_wp2
  refine wp_loop_rounds 1 ?_
  rw [rounds_succ]
  go_wp2_with fail
  refine HI.out.mono ?_
  rintro e w' ⟨rfl, h1, h2⟩
  go_wp2_with fail
  refine bodyPost_ret (results_none rfl _ _ _) rfl ?_
  exact ⟨rfl, h1, h2⟩
theorem sort_any (g cap : Nat) (ps : List Int) (x : Int) (w : World) (hn : ps.length ≤ 11) (hs : ∀ i, 0 < i → i < ps.length → ps.getD (i - 1) 0 ≤ ps.getD i 0) (hc : CellsMv w g ps x ps.length) :
    Calls Try.prog 17 #[.slice (some ⟨g, 0, none⟩) (ps.length + 1) cap] w fun e w' => e = .returned (.tuple #[]) ∧ CellsMv w' g ps x (insFrom ps x ps.length) ∧ OnlyD g w w' := by
  have HP := Lib.hid (fun r : Int => pdq_any g cap ps x r w hn hs hc)
  have HL := Lib.hid (fun W => Try.bits_Len ((ps.length : Int) + 1) W (by omega) (by omega))
  clear hs hc
  go_enter Try.func17, Try.ntmps17
  go_wp2_with fail
  refine (HL.out _).mono ?_
  rintro e w' ⟨rfl, rfl⟩
  go_wp2_with fail
  refine (HP.out _).mono ?_
  rintro e w' ⟨rfl, h1, h2⟩
  go_wp2_with fail
  go_end0
  exact ⟨rfl, h1, h2⟩
end Go.Proofs.Ythbanajodohbbaa
