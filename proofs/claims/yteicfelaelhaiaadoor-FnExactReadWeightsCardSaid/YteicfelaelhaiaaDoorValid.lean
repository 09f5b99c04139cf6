/-
  The walks of the functions that report validity, in the program and in its model.
-/
import Derived.Test.YteicfelaelhaiaaDoorScale
namespace Go.Proofs.YteicfelaelhaiaaDoor
open Go.RowKit

theorem isNaN16_any (x : Int) (w : World) : Calls Tryd.prog 46 #[.int .i16 x] w fun e w' => e = .returned (.bool false) ∧ w = w' := by
  go_enter Tryd.func46, Tryd.ntmps46
  go_wp2
  go_ret
  exact ⟨rfl, rfl⟩
theorem less16_any (x y : Int) (w : World) : Calls Tryd.prog 34 #[.int .i16 x, .int .i16 y] w fun e w' => e = .returned (.bool (decide (x < y))) ∧ w = w' := by
  by_cases h : x < y
  · go_enter Tryd.func34, Tryd.ntmps34
    go_wp2_with fail
    refine (isNaN16_any _ _).mono ?_
    rintro e w' ⟨rfl, rfl⟩
    go_wp2
    go_ret
    exact ⟨retb (by simp [h]), rfl⟩
  · go_enter Tryd.func34, Tryd.ntmps34
    go_wp2_with fail
    refine (isNaN16_any _ _).mono ?_
    rintro e w' ⟨rfl, rfl⟩
    go_wp2
    go_ret
    exact ⟨retb rfl, rfl⟩

def Srt (xs : List Int) : Prop := ∀ j, j < xs.length → 0 < j → xs.getD (j - 1) 0 ≤ xs.getD j 0
theorem isSorted_any (b off c : Nat) (xs : List Int) (w : World) (h1 : 1 ≤ xs.length) (hn : xs.length ≤ 1048576) (hc : At .i16 w b off xs) :
    Calls Tryd.prog 25 #[.slice (some ⟨b, off, none⟩) xs.length c] w fun e w' => e = .returned (.bool (cb (Srt xs))) ∧ Dr w w' := by
  go_enter Tryd.func25, Tryd.ntmps25
  go_wp2
  go_loopw [3] (fun i wr => ∃ k : Nat, k < xs.length ∧ i = .int .i64 k ∧ (∀ j, j < xs.length → k < j → xs.getD (j - 1) 0 ≤ xs.getD j 0) ∧ Dr w wr) (fun i _ => (intOf i).toNat)
  case atStart => exact ⟨xs.length - 1, by omega, by first | rfl | (congr 1; omega), fun j h h2 => absurd h2 (by omega), Dr.refl _⟩
  case round =>
    obtain ⟨k, hk, rfl, hg, hdr⟩ := hrel
    replace hc := hdr.at hc
    have Hg := Lib.hid hg
    clear hg
    by_cases h0 : k = 0
    · subst h0
      have Hr := Lib.hid (show cb (Srt xs) = true from cb_t (p := Srt xs) (fun j h h2 => Hg.out j h (by omega)))
      go_wp2
      go_ret
      exact ⟨retb Hr.out.symm, hdr⟩
    · obtain ⟨m, rfl⟩ : ∃ m, k = m + 1 := ⟨k - 1, by omega⟩
      have hcell := hc (m + 1) hk
      have hcell' := hc m (by omega)
      have hk0 : (0 : Int) < ((m + 1 : Nat) : Int) := by omega
      by_cases h2 : xs.getD (m + 1) 0 < xs.getD m 0
      · have Hr := Lib.hid (show cb (Srt xs) = false from cb_f (p := Srt xs) (fun h => by have := h (m + 1) hk (by omega); simp at this; simp at h2; omega))
        generalize xs.getD (m + 1) 0 = x at *
        generalize xs.getD m 0 = y at *
        have hL : ∀ W, Calls Tryd.prog 34 #[.int .i16 x, .int .i16 y] W fun e w' => e = .returned (.bool true) ∧ W = w' := fun W => by
          have := less16_any x y W; rwa [show decide (x < y) = true by simpa using h2] at this
        go_wp2
        go_quiet ((go_at_call 34; exact Calls.quiet_same (hL _)))
        go_wp2
        go_ret
        exact ⟨retb Hr.out.symm, hdr.trans (Dr.of _ _)⟩
      · have Hn := Lib.hid (show ∀ j, j < xs.length → m < j → xs.getD (j - 1) 0 ≤ xs.getD j 0 from fun j h hj => by
          by_cases e : j = m + 1
          · subst e; simp only [Nat.add_sub_cancel]; omega
          · exact Hg.out j h (by omega))
        generalize xs.getD (m + 1) 0 = x at *
        generalize xs.getD m 0 = y at *
        have hL : ∀ W, Calls Tryd.prog 34 #[.int .i16 x, .int .i16 y] W fun e w' => e = .returned (.bool false) ∧ W = w' := fun W => by
          have := less16_any x y W; rwa [show decide (x < y) = false by simpa using h2] at this
        go_wp2
        go_quiet ((go_at_call 34; exact Calls.quiet_same (hL _)))
        go_wp2
        go_roundw
        case rel => exact ⟨m, by omega, by go_num, Hn.out, hdr.trans (Dr.of _ _)⟩
        case measure => simp [intOf]

theorem validWeights_any (b off c : Nat) (xs : List Int) (w : World) (hn : xs.length ≤ 1048576) (hc : At .i16 w b off xs) (hwf : I16 xs) :
    Calls Tryd.prog 15 #[.slice (some ⟨b, off, none⟩) xs.length c] w fun e w' => e = .returned (.bool (okW xs)) ∧ Dr w w' := by
  by_cases hl : 1 ≤ xs.length ∧ xs.length ≤ 16
  · have hl2 : decide ((16 : Int) < (xs.length : Int)) = false := by simp; omega
    have hl0 : decide ((xs.length : Int) < 1) = false := by simp; omega
    have hi0 : (0 : Int) < (xs.length : Int) := by omega
    have hcell := hc 0 (by omega)
    simp only [Nat.add_zero] at hcell
    by_cases h1 : xs.getD 0 0 < 1
    · have Hr := Lib.hid (show okW xs = false from cb_f (p := OkW xs) (fun h => by have := (h.2.2.1 0 (by omega)).1; omega))
      generalize xs.getD 0 0 = x at *
      have hd : decide (x < 1) = true := by simpa using h1
      go_enter Tryd.func15, Tryd.ntmps15
      go_wp2
      go_ret
      exact ⟨retb Hr.out.symm, Dr.refl _⟩
    · have Hx := Lib.hid h1
      have hc' := Lib.hid hc
      by_cases hs : Srt xs
      · have Hr := Lib.hid (show okW xs = decide (sumI xs ≤ 2000) from by
          by_cases hs2 : sumI xs ≤ 2000
          · refine (show okW xs = true from cb_t (p := OkW xs) ⟨hl.1, hl.2, ?_, hs2⟩).trans (by simp [hs2])
            intro j hj
            refine ⟨?_, fun h => hs j hj h⟩
            induction j with
            | zero => have := Hx.out; omega
            | succ j ih => have h3 := ih (by omega); have h4 := hs (j + 1) hj (by omega); simp only [Nat.add_sub_cancel] at h4; omega
          · rw [show okW xs = false from cb_f (p := OkW xs) (fun h => hs2 h.2.2.2)]; simp [hs2])
        generalize xs.getD 0 0 = x at *
        have hd : decide (x < 1) = false := by simpa using h1
        have hS : ∀ W, At .i16 W b off xs → Calls Tryd.prog 25 #[.slice (some ⟨b, off, none⟩) xs.length c] W fun e w' => e = .returned (.bool true) ∧ Dr W w' := fun W h => by
          have := isSorted_any b off c xs W hl.1 hn h; rwa [cb_t hs] at this
        clear hc
        go_enter Tryd.func15, Tryd.ntmps15
        go_wp2_with fail
        refine (hS _ hc'.out).mono ?_
        rintro e w' ⟨rfl, q, rfl⟩
        go_wp2_with fail
        refine (sum_any b off c xs _ hn (hc'.out.drewN q) hwf).mono ?_
        rintro e w' ⟨rfl, rfl⟩
        go_wp2_with fail
        go_ret
        exact ⟨retb Hr.out.symm, Dr.of _ _⟩
      · have Hr := Lib.hid (show okW xs = false from cb_f (p := OkW xs) (fun h => hs (fun j hj h0 => (h.2.2.1 j hj).2 h0)))
        generalize xs.getD 0 0 = x at *
        have hd : decide (x < 1) = false := by simpa using h1
        have hS : ∀ W, At .i16 W b off xs → Calls Tryd.prog 25 #[.slice (some ⟨b, off, none⟩) xs.length c] W fun e w' => e = .returned (.bool false) ∧ Dr W w' := fun W h => by
          have := isSorted_any b off c xs W hl.1 hn h; rwa [cb_f hs] at this
        clear hc
        go_enter Tryd.func15, Tryd.ntmps15
        go_wp2_with fail
        refine (hS _ hc'.out).mono ?_
        rintro e w' ⟨rfl, q, rfl⟩
        go_wp2_with fail
        go_ret
        exact ⟨retb Hr.out.symm, Dr.of _ _⟩
  · have Hr := Lib.hid (show okW xs = false from cb_f (p := OkW xs) (fun h => hl ⟨h.1, h.2.1⟩))
    by_cases hl1 : xs.length < 1
    · have hd : decide ((xs.length : Int) < 1) = true := by simp; omega
      have hd' : (xs.length : Int) < 1 := by omega
      go_enter Tryd.func15, Tryd.ntmps15
      go_wp2
      go_ret
      exact ⟨retb Hr.out.symm, Dr.refl _⟩
    · have hd : decide ((xs.length : Int) < 1) = false := by simp; omega
      have hd2 : decide ((16 : Int) < (xs.length : Int)) = true := by simp; omega
      have hd3 : (16 : Int) < (xs.length : Int) := by omega
      go_enter Tryd.func15, Tryd.ntmps15
      go_wp2
      go_ret
      exact ⟨retb Hr.out.symm, Dr.refl _⟩

/-! ### validity of placings -/
def OkP (ps : List Int) : Prop := ∀ j, j < ps.length → -1 ≤ ps.getD j 0 ∧ ps.getD j 0 ≤ 1
noncomputable def okP (ps : List Int) : Bool := cb (OkP ps)
/-- weights and a placing that fit -/
def OkF (ws ps : List Int) : Prop := OkW ws ∧ ps.length = ws.length ∧ OkP ps
noncomputable def okF (ws ps : List Int) : Bool := cb (OkF ws ps)
theorem cb_and {p q r : Prop} (h : r ↔ p ∧ q) : cb r = (cb p && cb q) := by
  by_cases hp : p <;> by_cases hq : q
  · rw [cb_t hp, cb_t hq, cb_t (h.2 ⟨hp, hq⟩)]; rfl
  · rw [cb_t hp, cb_f hq, cb_f (fun k => hq (h.1 k).2)]; rfl
  · rw [cb_f hp, cb_f (fun k => hp (h.1 k).1)]; rfl
  · rw [cb_f hp, cb_f (fun k => hp (h.1 k).1)]; rfl
end Go.Proofs.YteicfelaelhaiaaDoor
