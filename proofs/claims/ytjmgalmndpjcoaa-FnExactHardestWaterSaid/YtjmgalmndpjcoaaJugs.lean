/-
  The walks of the functions that count waters and report validity.
-/
import Derived.Test.YtjmgalmndpjcoaaJugMath
namespace Go.Proofs.Ytjmgalmndpjcoaa
open Go.RowKit
set_option maxRecDepth 100000

theorem countStates_any (b off c : Nat) (J : List Int) (w : World) (hl : J.length ≤ 4) (hE : Each J J.length) (hc : At .i16 w b off J) :
    Calls Try.prog 63 #[.slice (some ⟨b, off, none⟩) J.length c] w fun e w' => e = .returned (.int .i64 (stTo J J.length)) ∧ w = w' := by
  have HE := Lib.hid hE
  clear hE
  go_enter Try.func63, Try.ntmps63
  go_wp2
  go_loop [3, 5, 8] (fun n _ i => ∃ k : Nat, k ≤ J.length ∧ i = .int .i64 k ∧ n = .int .i64 (stTo J k)) (fun _ _ i => J.length - (intOf i).toNat)
  case atStart => exact ⟨0, Nat.zero_le _, rfl, rfl⟩
  case round =>
    obtain ⟨k, hk, rfl, rfl⟩ := hrel
    by_cases hlt : k < J.length
    · have hcell := hc k hlt
      have hx := HE.out k hlt
      have hp := stTo_bd4 (HE.out.mono hk) (by omega)
      have hp2 := stTo_bd4 (HE.out.mono hlt) (by omega)
      have H := Lib.hid (stTo_step J k)
      rw [stTo_step] at hp2
      generalize J.getD k 0 = x at *
      generalize hP : stTo J k = P at *
      have HP := Lib.hid hP
      clear hP
      obtain ⟨q, hq⟩ : ∃ q, P * (x + 1) = q := ⟨_, rfl⟩
      rw [hq] at hp2
      have HQ := Lib.hid hq
      go_wp2
      go_round
      case rel => exact ⟨k + 1, by omega, by go_num, by rw [H.out, HQ.out]⟩
      case measure => simp [intOf]; omega
    · obtain rfl : k = J.length := by omega
      go_wp2
      go_ret
      exact ⟨rfl, rfl⟩
theorem validJugs_any (b off c : Nat) (J : List Int) (w : World) (hn : J.length ≤ 1048576) (hc : At .i16 w b off J) (hi : I16 J) :
    Calls Try.prog 60 #[.slice (some ⟨b, off, none⟩) J.length c] w fun e w' => e = .returned (.bool (okJ J)) ∧ w = w' := by
  by_cases h1 : J.length < 1
  · have Hr := Lib.hid (show okJ J = false from cb_f (p := OkJ J) (fun h => by have := h.1.1; omega))
    have hd : decide ((J.length : Int) < 1) = true := by simp; omega
    have hd' : (J.length : Int) < 1 := by omega
    go_enter Try.func60, Try.ntmps60
    go_wp2
    go_ret
    exact ⟨retb Hr.out.symm, rfl⟩
  have hd1 : decide ((J.length : Int) < 1) = false := by simp; omega
  by_cases h4 : 4 < J.length
  · have Hr := Lib.hid (show okJ J = false from cb_f (p := OkJ J) (fun h => by have := h.1.2; omega))
    have hd2 : decide ((4 : Int) < (J.length : Int)) = true := by simp; omega
    have hd3 : (4 : Int) < (J.length : Int) := by omega
    go_enter Try.func60, Try.ntmps60
    go_wp2
    go_ret
    exact ⟨retb Hr.out.symm, rfl⟩
  have hd2 : decide ((4 : Int) < (J.length : Int)) = false := by simp; omega
  have hl : J.length ≤ 4 := by omega
  clear h4
  go_enter Try.func60, Try.ntmps60
  go_wp2
  go_loop [4, 15] (fun _ i => ∃ k : Nat, k ≤ J.length ∧ i = .int .i64 k ∧ Each J k) (fun _ i => J.length - (intOf i).toNat)
  case atStart => exact ⟨0, Nat.zero_le _, rfl, fun j hj => absurd hj (by omega)⟩
  case round =>
    obtain ⟨k, hk, rfl, hE⟩ := hrel
    have HE := Lib.hid hE
    clear hE
    by_cases hlt : k < J.length
    · have hcell := hc k hlt
      have hx := hi k
      by_cases ho : 1 ≤ J.getD k 0 ∧ J.getD k 0 ≤ 60
      · have HS := Lib.hid (HE.out.snoc ho)
        have hin : ∀ W, Calls Try.prog 52 #[.int .i64 (J.getD k 0), .int .i64 1, .int .i64 60] W fun e w' => e = .returned (.bool true) ∧ W = w' := fun W => within_t _ 1 60 W ho
        have HI := Lib.hid hin
        clear hin ho
        generalize J.getD k 0 = x at *
        go_wp2_with (go_at_call 52; refine (HI.out _).mono ?_; rintro e w' ⟨rfl, rfl⟩)
        go_round
        case rel => exact ⟨k + 1, by omega, by go_num, HS.out⟩
        case measure => simp [intOf]; omega
      · have Hr := Lib.hid (show okJ J = false from cb_f (p := OkJ J) (fun h => ho (h.2.1 k hlt)))
        have hin : ∀ W, Calls Try.prog 52 #[.int .i64 (J.getD k 0), .int .i64 1, .int .i64 60] W fun e w' => e = .returned (.bool false) ∧ W = w' := fun W => within_f _ 1 60 W ho
        have HI := Lib.hid hin
        clear hin ho
        generalize J.getD k 0 = x at *
        go_wp2_with (go_at_call 52; refine (HI.out _).mono ?_; rintro e w' ⟨rfl, rfl⟩)
        go_ret
        exact ⟨retb Hr.out.symm, rfl⟩
    · obtain rfl : k = J.length := by omega
      have hb := stTo_bd4 HE.out hl
      have Hr := Lib.hid (show okJ J = decide (stTo J J.length ≤ 5000) from by
        by_cases h5 : stTo J J.length ≤ 5000
        · rw [okJ_of ⟨⟨by omega, hl⟩, HE.out, h5⟩]; simp [h5]
        · rw [show okJ J = false from cb_f (p := OkJ J) (fun h => h5 h.2.2)]; simp [h5])
      go_wp2_with (go_at_call 63; refine (countStates_any b off c J _ hl HE.out hc).mono ?_; rintro e w' ⟨rfl, rfl⟩)
      go_ret
      exact ⟨retb Hr.out.symm, rfl⟩
theorem l02States_any (b off c : Nat) (J : List Int) (w : World) (hn : J.length ≤ 1048576) (hc : At .i16 w b off J) :
    Calls Try.prog 57 #[.slice (some ⟨b, off, none⟩) J.length c] w fun e w' => e = .returned (.int .i64 (stV J)) ∧ w = w' := by
  by_cases hl : 1 ≤ J.length ∧ J.length ≤ 4
  rotate_left
  · have Hr := Lib.hid (show stV J = 0 from by unfold stV; rw [show okJ J = false from cb_f (p := OkJ J) (fun h => hl h.1)]; rfl)
    have hin : ∀ W, Calls Try.prog 67 #[.int .i64 (J.length : Int), .int .i64 1, .int .i64 4] W fun e w' => e = .returned (.bool false) ∧ W = w' := fun W => l00In_f _ 1 4 W (by omega)
    have HI := Lib.hid hin
    clear hin hl
    go_enter Try.func57, Try.ntmps57
    go_wp2_with (go_at_call 67; refine (HI.out _).mono ?_; rintro e w' ⟨rfl, rfl⟩)
    go_ret
    exact ⟨reti Hr.out.symm, rfl⟩
  have hin : ∀ W, Calls Try.prog 67 #[.int .i64 (J.length : Int), .int .i64 1, .int .i64 4] W fun e w' => e = .returned (.bool true) ∧ W = w' := fun W => l00In_t _ 1 4 W (by omega)
  have HI := Lib.hid hin
  have HL := Lib.hid hl
  have hl4 := hl.2
  clear hin hl
  go_enter Try.func57, Try.ntmps57
  go_wp2_with (go_at_call 67; refine (HI.out _).mono ?_; rintro e w' ⟨rfl, rfl⟩)
  go_loop [3, 4] (fun n i => ∃ k : Nat, k ≤ J.length ∧ i = .int .i64 k ∧ n = .int .i64 (stTo J k) ∧ Each J k) (fun _ i => J.length - (intOf i).toNat)
  case atStart => exact ⟨0, Nat.zero_le _, rfl, rfl, fun j hj => absurd hj (by omega)⟩
  case round =>
    obtain ⟨k, hk, rfl, rfl, hE⟩ := hrel
    have HE := Lib.hid hE
    clear hE
    by_cases hlt : k < J.length
    · have hcell := hc k hlt
      by_cases h1 : J.getD k 0 < 1
      · have Hr := Lib.hid (show stV J = 0 from by unfold stV; rw [show okJ J = false from cb_f (p := OkJ J) (fun h => by have := h.2.1 k hlt; omega)]; rfl)
        generalize J.getD k 0 = x at *
        have hd : decide (x < 1) = true := by simpa using h1
        go_wp2
        go_ret
        exact ⟨reti Hr.out.symm, rfl⟩
      have h1' : 1 ≤ J.getD k 0 := by omega
      by_cases h2 : 60 < J.getD k 0
      · have Hr := Lib.hid (show stV J = 0 from by unfold stV; rw [show okJ J = false from cb_f (p := OkJ J) (fun h => by have := h.2.1 k hlt; omega)]; rfl)
        generalize J.getD k 0 = x at *
        have hd : decide (x < 1) = false := by simpa using h1
        have hd2 : decide (60 < x) = true := by simpa using h2
        go_wp2
        go_ret
        exact ⟨reti Hr.out.symm, rfl⟩
      have h2' : J.getD k 0 ≤ 60 := by omega
      have HS := Lib.hid (HE.out.snoc ⟨h1', h2'⟩)
      have hp := stTo_bd4 (HE.out) (by omega)
      have hp2 := stTo_bd4 HS.out (by omega)
      have H := Lib.hid (stTo_step J k)
      rw [stTo_step] at hp2
      generalize J.getD k 0 = x at *
      have hd : decide (x < 1) = false := by simpa using h1
      have hd2 : decide (60 < x) = false := by simpa using h2
      generalize hP : stTo J k = P at *
      have HP := Lib.hid hP
      clear hP
      obtain ⟨q, hq⟩ : ∃ q, P * (x + 1) = q := ⟨_, rfl⟩
      rw [hq] at hp2
      have HQ := Lib.hid hq
      go_wp2
      go_round
      case rel => exact ⟨k + 1, by omega, by go_num, by rw [H.out, HQ.out], HS.out⟩
      case measure => simp [intOf]; omega
    · obtain rfl : k = J.length := by omega
      have hb := stTo_bd4 HE.out hl4
      by_cases h5 : 5000 < stTo J J.length
      · have Hr := Lib.hid (show stV J = 0 from by unfold stV; rw [show okJ J = false from cb_f (p := OkJ J) (fun h => by have := h.2.2; omega)]; rfl)
        generalize stTo J J.length = S at *
        go_wp2
        go_ret
        exact ⟨reti Hr.out.symm, rfl⟩
      · have Hr := Lib.hid (show stV J = stTo J J.length from by unfold stV; rw [okJ_of ⟨HL.out, HE.out, by omega⟩]; rfl)
        generalize stTo J J.length = S at *
        go_wp2
        go_ret
        exact ⟨reti Hr.out.symm, rfl⟩
end Go.Proofs.Ytjmgalmndpjcoaa
