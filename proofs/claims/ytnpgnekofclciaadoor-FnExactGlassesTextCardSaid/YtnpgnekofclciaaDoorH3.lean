/-
  The walks of the functions that report whether glasses and tops are valid, in the program and in its model.
-/
import Derived.Test.YtnpgnekofclciaaDoorH2
namespace Go.Proofs.YtnpgnekofclciaaDoor
open Go.RowKit
set_option maxRecDepth 100000

theorem maxG_any (b off c : Nat) (J : List Int) (w : World) (h1 : 1 ≤ J.length) (hl : J.length ≤ 1048576) (hi : I16 J) (hc : At .i16 w b off J) :
    Calls Tryd.prog 36 #[.slice (some ⟨b, off, none⟩) J.length c] w fun e w' => e = .returned (.int .i16 (mxTo J (J.length - 1))) ∧ w = w' := by
  have HI := Lib.hid hi
  have hd : decide ((J.length : Int) < 1) = false := by simp; omega
  have hc0 := hc 0 (by omega)
  rw [Nat.add_zero] at hc0
  go_enter Tryd.func36, Tryd.ntmps36
  generalize hx0 : J.getD 0 0 = x0 at *
  have HX := Lib.hid hx0
  clear hx0 hi
  go_wp2
  go_loop [3, 4] (fun m i => ∃ k : Nat, k + 1 ≤ J.length ∧ i = .int .i64 ((k : Int) + 1) ∧ m = .int .i16 (mxTo J k)) (fun _ i => J.length - (intOf i).toNat)
  case atStart => exact ⟨0, by omega, rfl, by rw [show mxTo J 0 = J.getD 0 0 from rfl, HX.out]⟩
  case round =>
    obtain ⟨k, hk, rfl, rfl⟩ := hrel
    by_cases hlt : k + 1 < J.length
    · have hcell := hc (k + 1) hlt
      have hm := mxTo_bd HI.out k
      have hx := HI.out (k + 1)
      by_cases hle : J.getD (k + 1) 0 ≤ mxTo J k
      · have HS := Lib.hid (show mxTo J (k + 1) = mxTo J k from if_pos hle)
        generalize J.getD (k + 1) 0 = x at *
        generalize mxTo J k = m at *
        go_wp2
        go_round
        case rel => exact ⟨k + 1, by omega, by go_num, by rw [HS.out]⟩
        case measure => simp [intOf]; omega
      · have HS := Lib.hid (show mxTo J (k + 1) = J.getD (k + 1) 0 from if_neg hle)
        generalize J.getD (k + 1) 0 = x at *
        generalize mxTo J k = m at *
        go_wp2
        go_round
        case rel => exact ⟨k + 1, by omega, by go_num, by rw [HS.out]⟩
        case measure => simp [intOf]; omega
    · obtain rfl : k = J.length - 1 := by omega
      go_wp2
      go_ret
      exact ⟨rfl, rfl⟩

end Go.Proofs.YtnpgnekofclciaaDoor
