/-
  The walks of TurnsIn, in the program and in its model, whole.
-/
import Derived.Test.YtlmmfcbdhmhekaaDoorTI1
namespace Go.Proofs.YtlmmfcbdhmhekaaDoor
open Go.RowKit
set_option maxRecDepth 100000

theorem turnsIn_any (a : Option Addr) (c : Nat) (P : List Int) (w : World) (hn : P.length ≤ 1048576) (hs : Sl .u8 w.heap.size w a P) (hu : U8L P) :
    Calls Tryd.prog 14 #[.slice a P.length c] w fun e w' => e = .returned (.tuple #[.int .i64 (tiV P), .int .i64 (plC P)]) ∧ w = w' := by
  have HC := Lib.hid (containsBig_any a c P w hn hs)
  by_cases hbig : bigTo P P.length
  · have HP := Lib.hid (plC_big hbig)
    have HT := Lib.hid (show tiV P = 0 from by unfold tiV; rw [HP.out]; rfl)
    rw [cb_t hbig] at HC
    clear hbig hs hu
    generalize P.length = n at *
    go_enter Tryd.func14, Tryd.ntmps14
    go_wp2_with fail
    refine HC.out.mono ?_
    rintro e w' ⟨rfl, rfl⟩
    go_wp2
    go_ret2
    exact ⟨by rw [HP.out, HT.out]; rfl, rfl⟩
  rw [cb_f hbig] at HC
  by_cases hl : 60 < P.length
  · have HP := Lib.hid (plC_long hbig hl)
    have HT := Lib.hid (show tiV P = 0 from by unfold tiV; rw [HP.out]; rfl)
    have hd : decide ((60 : Int) < (P.length : Int)) = true := by simp; omega
    clear hbig hs hu
    generalize P.length = n at *
    go_enter Tryd.func14, Tryd.ntmps14
    go_wp2_with fail
    refine HC.out.mono ?_
    rintro e w' ⟨rfl, rfl⟩
    go_wp2
    go_ret2
    exact ⟨by rw [HP.out, HT.out]; rfl, rfl⟩
  have HP := Lib.hid (plC_ok hbig hl)
  have HT := Lib.hid (show tiV P = ((tsTo P P.length : Nat) : Int) from by unfold tiV; rw [HP.out]; rfl)
  have hd : decide ((60 : Int) < (P.length : Int)) = false := by simp; omega
  have hl60 : P.length ≤ 60 := by omega
  clear hbig hl
  rcases hs with rfl | ⟨b, off, rfl, hb, hc⟩
  · simp only [List.length_nil] at HC hd ⊢
    go_enter Tryd.func14, Tryd.ntmps14
    go_wp2_with fail
    refine HC.out.mono ?_
    rintro e w' ⟨rfl, rfl⟩
    go_wp2
    refine wp_loop_rounds 1 ?_
    rw [rounds_succ]
    go_wp2
    go_ret2
    exact ⟨by rw [HP.out, HT.out]; rfl, rfl⟩
  have HU := Lib.hid hu
  clear hu
  go_enter Tryd.func14, Tryd.ntmps14
  go_wp2_with fail
  refine HC.out.mono ?_
  rintro e w' ⟨rfl, rfl⟩
  go_wp2
  go_loop [4, 14] (fun s i => ∃ k : Nat, i = .int .i64 k ∧ k ≤ P.length ∧ s = .int .i64 ((tsTo P k : Nat) : Int)) (fun _ i => P.length - (intOf i).toNat)
  case atStart => exact ⟨0, rfl, Nat.zero_le _, rfl⟩
  case round =>
    obtain ⟨k, rfl, hk, rfl⟩ := hrel
    by_cases hlt : k < P.length
    · have hcell := hc k hlt
      have hkl : (k : Int) < (P.length : Int) := by omega
      have ht := tsTo_le P k
      have hsz := sz_le (P.getD k 0).toNat
      have HS := Lib.hid (show tsTo P (k + 1) = tsTo P k + sz (P.getD k 0).toNat from rfl)
      have HG := Lib.hid (fun W => glassesIn_any (P.getD k 0) W (HU.out k))
      generalize sz (P.getD k 0).toNat = z at *
      generalize P.getD k 0 = x at *
      generalize tsTo P k = t at *
      go_wp2_with fail
      refine (HG.out _).mono ?_
      rintro e w2 ⟨rfl, rfl⟩
      go_wp2
      go_round
      case rel => exact ⟨k + 1, by go_num, by omega, by rw [HS.out]; simp⟩
      case measure => simp [intOf]; omega
    · obtain rfl : k = P.length := by omega
      go_wp2
      go_ret2
      exact ⟨by rw [HP.out, HT.out]; rfl, rfl⟩
end Go.Proofs.YtlmmfcbdhmhekaaDoor
