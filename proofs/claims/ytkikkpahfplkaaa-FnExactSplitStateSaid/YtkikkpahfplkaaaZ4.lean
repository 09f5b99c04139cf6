/-
  The walks of ValidState and its model.
-/
import Derived.Test.YtkikkpahfplkaaaZ1
namespace Go.Proofs.Ytkikkpahfplkaaa
open Go.RowKit
set_option maxRecDepth 100000
set_option linter.unusedVariables false

/-- How many candidates a state has. -/
def toS (x : Nat → Int) : Int := x 0 + x 1 + x 2 + x 3
/-- The first k numbers are such as a valid state has. -/
def FitS (l : Int) (x : Nat → Int) (k : Nat) : Prop := ∀ i, i < k → (0 ≤ x i ∧ x i ≤ 60) ∧ (l < (i : Int) → x i = 0)
def OkS (l : Int) (x : Nat → Int) : Prop := (0 ≤ l ∧ l ≤ 3) ∧ FitS l x 4 ∧ toS x ≤ 60
noncomputable def okS (l : Int) (x : Nat → Int) : Bool := cb (OkS l x)
theorem okS_t {l : Int} {x : Nat → Int} (h : okS l x = true) : OkS l x := of_cb h
theorem FitS.succ {l : Int} {x : Nat → Int} {k : Nat} (h : FitS l x k) (h1 : 0 ≤ x k ∧ x k ≤ 60) (h2 : l < (k : Int) → x k = 0) : FitS l x (k + 1) := fun i hi => by
  by_cases e : i = k
  · subst e; exact ⟨h1, h2⟩
  · exact h i (by omega)
def Sm (x : Nat → Int) : Prop := ∀ i, i < 4 → 0 ≤ x i ∧ x i ≤ 60
theorem FitS.sm {l : Int} {x : Nat → Int} (h : FitS l x 4) : Sm x := fun i hi => (h i hi).1
theorem OkS.sm {l : Int} {x : Nat → Int} (h : OkS l x) : Sm x := h.2.1.sm
theorem l06Total_any (x : Nat → Int) (w : World) (hx : Sm x) :
    Calls Try.prog 15 #[staV x] w fun e w' => e = .returned (.int .i64 (toS x)) ∧ Below w.heap.size w w' := by
  have F0 := (FR.start w).box (staC x) 23
  have HB := Lib.hid F0.below
  have HR := Lib.hid (show toS x = x 0 + x 1 + x 2 + x 3 from rfl)
  obtain ⟨c0, c1, c2, c3, -⟩ := (F0.blk _ List.mem_cons_self).four
  have h0 := hx 0 (by decide)
  have h1 := hx 1 (by decide)
  have h2 := hx 2 (by decide)
  have h3 := hx 3 (by decide)
  clear hx F0
  generalize x 0 = a0 at *
  generalize x 1 = a1 at *
  generalize x 2 = a2 at *
  generalize x 3 = a3 at *
  go_enter Try.func15, Try.ntmps15
  go_wp2
  go_ret
  exact ⟨reti HR.out.symm, HB.out⟩
theorem sumSt_any (x : Nat → Int) (w : World) (hx : Sm x) :
    Calls Try.prog 17 #[staV x] w fun e w' => e = .returned (.int .i64 (toS x)) ∧ Below w.heap.size w w' := by
  have F0 := (FR.start w).box (staC x) 23
  have HB := Lib.hid F0.below
  have HR := Lib.hid (show toS x = x 0 + x 1 + x 2 + x 3 from rfl)
  obtain ⟨c0, c1, c2, c3, -⟩ := (F0.blk _ List.mem_cons_self).four
  have h0 := hx 0 (by decide)
  have h1 := hx 1 (by decide)
  have h2 := hx 2 (by decide)
  have h3 := hx 3 (by decide)
  have i0 := fun W => index_sta0 x W
  have i1 := fun W => index_sta1 x W
  have i2 := fun W => index_sta2 x W
  have i3 := fun W => index_sta3 x W
  dsimp only [staV] at i0 i1 i2 i3
  clear hx F0
  generalize x 0 = a0 at *
  generalize x 1 = a1 at *
  generalize x 2 = a2 at *
  generalize x 3 = a3 at *
  go_enter Try.func17, Try.ntmps17
  go_wp2
  refine wp_loop_rounds 5 ?_
  iterate 5 (rw [rounds_succ]; go_wp2)
  go_ret
  exact ⟨reti HR.out.symm, HB.out⟩
set_option maxHeartbeats 2000000 in
theorem l06Valid_any (l : Int) (x : Nat → Int) (w : World) (hl : I64 l) (hx : S4 x) :
    Calls Try.prog 8 #[.int .i64 l, staV x] w fun e w' => e = .returned (.bool (okS l x)) ∧ Below w.heap.size w w' := by
  have F0 := (FR.start w).box (staC x) 23
  have HI := Lib.hid (fun n a b W => l00In_any n a b W)
  have HT := Lib.hid (fun W (h : Sm x) => l06Total_any x W h)
  have HB := Lib.hid F0
  have HK := Lib.hid (F0.blk _ List.mem_cons_self)
  clear F0
  unfold I64 at hl
  by_cases hl3 : 0 ≤ l ∧ l ≤ 3
  case neg =>
    have HR := Lib.hid (show okS l x = false from cb_f (fun h => hl3 h.1))
    have e := show inB l 0 3 = false from cb_f hl3
    clear hl3
    go_enter Try.func8, Try.ntmps8
    go_wp2_with fail
    refine (HI.out _ _ _ _).mono ?_
    rw [e]
    rintro e w2 ⟨rfl, rfl⟩
    go_wp2
    go_ret
    exact ⟨retb HR.out.symm, HB.out.below⟩
  have e := show inB l 0 3 = true from cb_t hl3
  have HL3 := Lib.hid hl3
  go_enter Try.func8, Try.ntmps8
  go_wp2_with fail
  refine (HI.out _ _ _ _).mono ?_
  rw [e]
  rintro e w2 ⟨rfl, rfl⟩
  clear e
  go_wp2
  go_loop [5] (fun iv => ∃ i : Nat, iv = .int .i64 (i : Int) ∧ i ≤ 4 ∧ FitS l x i) (fun iv => 4 - (intOf iv).toNat)
  case atStart => exact ⟨0, rfl, by omega, fun i h => absurd h (by omega)⟩
  case round =>
    obtain ⟨i, rfl, hi, hf⟩ := hrel
    have HFit := Lib.hid hf
    clear hf
    by_cases hlt : i < 4
    case neg =>
      obtain rfl : i = 4 := by omega
      have HR := Lib.hid (show okS l x = decide (toS x ≤ 60) from by
        by_cases h : toS x ≤ 60
        · rw [decide_eq_true h]; exact cb_t ⟨HL3.out, HFit.out, h⟩
        · rw [decide_eq_false h]; exact cb_f (fun h' => h h'.2.2))
      have HT2 := Lib.hid (fun W => HT.out W HFit.out.sm)
      obtain ⟨c0, c1, c2, c3, -⟩ := HK.out.four
      generalize toS x = r at *
      go_wp2_with fail
      refine (HT2.out _).mono ?_
      rintro e w2 ⟨rfl, hb⟩
      have HF := Lib.hid (HB.out.next hb).below
      clear hb c0 c1 c2 c3
      go_wp2
      go_ret
      exact ⟨retb HR.out.symm, HF.out⟩
    have hiz : (i : Int) < 4 := by omega
    have h1 := Blk.sta (x := x) HK.out i hlt
    have hxi := hx i hlt
    have HN := Lib.hid (fun a b => HFit.out.succ (k := i) a b)
    have HX := Lib.hid (show (¬ (0 ≤ x i ∧ x i ≤ 60) ∨ (l < (i : Int) ∧ x i ≠ 0)) → okS l x = false from fun h => cb_f (fun h' => by
      have := h'.2.1 i hlt
      rcases h with h | h
      · exact h this.1
      · exact h.2 (this.2 h.1)))
    generalize hgx : x i = xi at *
    clear hgx HFit hx
    by_cases hs1 : 0 ≤ xi ∧ xi ≤ 60
    case neg =>
      have HR := Lib.hid (HX.out (.inl hs1))
      have e := show inB xi 0 60 = false from cb_f hs1
      clear HX HN hs1
      go_wp2_with fail
      refine (HI.out _ _ _ _).mono ?_
      rw [e]
      rintro e w2 ⟨rfl, rfl⟩
      go_wp2
      go_ret
      exact ⟨retb HR.out.symm, HB.out.below⟩
    have e := show inB xi 0 60 = true from cb_t hs1
    by_cases hq : l < (i : Int)
    · by_cases hz : xi = 0
      · subst hz
        have HN2 := Lib.hid (HN.out (by omega) (fun _ => rfl))
        clear HX HN
        go_wp2_with fail
        refine (HI.out _ _ _ _).mono ?_
        rw [e]
        rintro e w2 ⟨rfl, rfl⟩
        go_wp2
        go_round
        case rel => exact ⟨i + 1, by go_num, by omega, HN2.out⟩
        case measure => simp [intOf]; omega
      · have HR := Lib.hid (HX.out (.inr ⟨hq, hz⟩))
        have hd4 : (xi != 0) = true := by simpa using hz
        clear HX HN
        go_wp2_with fail
        refine (HI.out _ _ _ _).mono ?_
        rw [e]
        rintro e w2 ⟨rfl, rfl⟩
        go_wp2
        go_ret
        exact ⟨retb HR.out.symm, HB.out.below⟩
    · have hd3 : decide (l < (i : Int)) = false := by simpa using hq
      have HN2 := Lib.hid (HN.out hs1 (fun h => absurd h hq))
      clear HX HN
      go_wp2_with fail
      refine (HI.out _ _ _ _).mono ?_
      rw [e]
      rintro e w2 ⟨rfl, rfl⟩
      go_wp2
      go_round
      case rel => exact ⟨i + 1, by go_num, by omega, HN2.out⟩
      case measure => simp [intOf]; omega
set_option maxHeartbeats 2000000 in
theorem validState_any (l : Int) (x : Nat → Int) (w : World) (hl : I64 l) (hx : S4 x) :
    Calls Try.prog 11 #[.int .i64 l, staV x] w fun e w' => e = .returned (.bool (okS l x)) ∧ Below w.heap.size w w' := by
  have F0 := (FR.start w).box (staC x) 23
  have HI := Lib.hid (fun n a b W => within_any n a b W)
  have HT := Lib.hid (fun W (h : Sm x) => sumSt_any x W h)
  have HB := Lib.hid F0
  have HK := Lib.hid (F0.blk _ List.mem_cons_self)
  obtain ⟨c0, c1, c2, c3, -⟩ := (F0.blk _ List.mem_cons_self).four
  clear F0
  unfold I64 at hl
  by_cases hl3 : 0 ≤ l ∧ l ≤ 3
  case neg =>
    have HR := Lib.hid (show okS l x = false from cb_f (fun h => hl3 h.1))
    have e := show inB l 0 3 = false from cb_f hl3
    clear hl3
    go_enter Try.func11, Try.ntmps11
    go_wp2_with fail
    refine (HI.out _ _ _ _).mono ?_
    rw [e]
    rintro e w2 ⟨rfl, rfl⟩
    go_wp2
    go_ret
    exact ⟨retb HR.out.symm, HB.out.below⟩
  have e := show inB l 0 3 = true from cb_t hl3
  have HL3 := Lib.hid hl3
  have HXX := Lib.hid (fun i h W => index_sta x i h W)
  go_enter Try.func11, Try.ntmps11
  go_wp2_with fail
  refine (HI.out _ _ _ _).mono ?_
  rw [e]
  rintro e w2 ⟨rfl, rfl⟩
  clear e
  go_wp2
  clear c0 c1 c2 c3
  go_loop [11] (fun iv => ∃ i : Nat, iv = .int .i64 (i : Int) ∧ i ≤ 4 ∧ FitS l x i) (fun iv => 4 - (intOf iv).toNat)
  case atStart => exact ⟨0, rfl, by omega, fun i h => absurd h (by omega)⟩
  case round =>
    obtain ⟨i, rfl, hi, hf⟩ := hrel
    have HFit := Lib.hid hf
    clear hf
    by_cases hlt : i < 4
    case neg =>
      obtain rfl : i = 4 := by omega
      have HR := Lib.hid (show okS l x = decide (toS x ≤ 60) from by
        by_cases h : toS x ≤ 60
        · rw [decide_eq_true h]; exact cb_t ⟨HL3.out, HFit.out, h⟩
        · rw [decide_eq_false h]; exact cb_f (fun h' => h h'.2.2))
      have HT2 := Lib.hid (fun W => HT.out W HFit.out.sm)
      obtain ⟨c0, c1, c2, c3, -⟩ := HK.out.four
      generalize toS x = r at *
      go_wp2_with fail
      refine (HT2.out _).mono ?_
      rintro e w2 ⟨rfl, hb⟩
      have HF := Lib.hid (HB.out.next hb).below
      clear hb c0 c1 c2 c3
      go_wp2
      go_ret
      exact ⟨retb HR.out.symm, HF.out⟩
    have hiz : (i : Int) < 4 := by omega
    have h1 := fun W => HXX.out i hlt W
    have hxi := hx i hlt
    have HN := Lib.hid (fun a b => HFit.out.succ (k := i) a b)
    have HX := Lib.hid (show (¬ (0 ≤ x i ∧ x i ≤ 60) ∨ (l < (i : Int) ∧ x i ≠ 0)) → okS l x = false from fun h => cb_f (fun h' => by
      have := h'.2.1 i hlt
      rcases h with h | h
      · exact h this.1
      · exact h.2 (this.2 h.1)))
    generalize hgx : x i = xi at *
    clear hgx HFit hx
    by_cases hs1 : 0 ≤ xi ∧ xi ≤ 60
    case neg =>
      have HR := Lib.hid (HX.out (.inl hs1))
      have e := show inB xi 0 60 = false from cb_f hs1
      clear HX HN hs1
      go_wp2_with fail
      refine (HI.out _ _ _ _).mono ?_
      rw [e]
      rintro e w2 ⟨rfl, rfl⟩
      go_wp2
      go_ret
      exact ⟨retb HR.out.symm, HB.out.below⟩
    have e := show inB xi 0 60 = true from cb_t hs1
    by_cases hq : l < (i : Int)
    · by_cases hz : xi = 0
      · subst hz
        have HN2 := Lib.hid (HN.out (by omega) (fun _ => rfl))
        clear HX HN
        go_wp2_with fail
        refine (HI.out _ _ _ _).mono ?_
        rw [e]
        rintro e w2 ⟨rfl, rfl⟩
        go_wp2
        go_round
        case rel => exact ⟨i + 1, by go_num, by omega, HN2.out⟩
        case measure => simp [intOf]; omega
      · have HR := Lib.hid (HX.out (.inr ⟨hq, hz⟩))
        have hd4 : (xi != 0) = true := by simpa using hz
        clear HX HN
        go_wp2_with fail
        refine (HI.out _ _ _ _).mono ?_
        rw [e]
        rintro e w2 ⟨rfl, rfl⟩
        go_wp2
        go_ret
        exact ⟨retb HR.out.symm, HB.out.below⟩
    · have hd3 : decide (l < (i : Int)) = false := by simpa using hq
      have HN2 := Lib.hid (HN.out hs1 (fun h => absurd h hq))
      clear HX HN
      go_wp2_with fail
      refine (HI.out _ _ _ _).mono ?_
      rw [e]
      rintro e w2 ⟨rfl, rfl⟩
      go_wp2
      go_round
      case rel => exact ⟨i + 1, by go_num, by omega, HN2.out⟩
      case measure => simp [intOf]; omega
end Go.Proofs.Ytkikkpahfplkaaa
