/-
  The walk of the model's ReadThings.
-/
import Derived.Test.YtlmmfcbdhmhekaaDoorTB5
namespace Go.Proofs.YtlmmfcbdhmhekaaDoor
open Go.RowKit
set_option maxRecDepth 100000
set_option linter.unusedVariables false

theorem rettb {a : Int} {b d : Bool} (h : b = d) : Ending.returned (.tuple #[.int .u16 a, .bool b]) = .returned (.tuple #[.int .u16 a, .bool d]) := by rw [h]
theorem l05Read_any (s : ByteArray) (w : World) (hs : s.size ≤ 1048576) :
    Calls Tryd.prog 10 #[.string s] w fun e w' => ∃ v : Int, e = .returned (.tuple #[.int .u16 v, .bool (okS s)]) ∧ (okS s = true → v = rdT s s.size) ∧ Below w.heap.size w w' := by
  by_cases hd : s = ⟨#[45]⟩
  · subst hd
    go_enter Tryd.func10, Tryd.ntmps10
    go_wp2
    go_ret2
    exact ⟨0, rettb okS_dash.symm, fun _ => by rw [show (ByteArray.mk #[45]).size = 1 from rfl, rd_dash]; rfl, Below.refl _ _⟩
  have hd1 : (s.toList == [45]) = false := by have h := tl_f hd; rwa [ByteArray.toList_eq (ByteArray.mk #[45])] at h
  have HD := Lib.hid hd
  clear hd
  go_enter Tryd.func10, Tryd.ntmps10
  go_wp2
  go_loopw [4, 5] (fun t i wr => ∃ k : Nat, i = .int .i64 k ∧ k ≤ s.size ∧ t = .int .u16 (rdT s k : Int) ∧ w = wr) (fun _ i _ => s.size - (intOf i).toNat)
  case atStart => exact ⟨0, rfl, Nat.zero_le _, rfl, rfl⟩
  case round =>
    obtain ⟨k, rfl, hk, rfl, rfl⟩ := hrel
    have hr := rd_lt s k
    by_cases hlt : k < s.size
    case neg =>
      obtain rfl : k = s.size := by omega
      have HO := Lib.hid (show okS s = (ttV (rdT s s.size) == s) from rfl)
      by_cases he : s = ⟨#[]⟩
      · have e1 : (s.toList == []) = true := by have h := tl_t he; rwa [ByteArray.toList_eq (ByteArray.mk #[])] at h
        have HF := Lib.hid (show okS s = false by rw [he]; exact okS_none)
        clear HO HD hd1
        generalize rdT s s.size = r at *
        go_wp2
        go_ret2
        exact ⟨r, rettb HF.out.symm, (fun h => by rw [HF.out] at h; cases h), Below.refl _ _⟩
      · have e1 : (s.toList == []) = false := by have h := tl_f he; rwa [ByteArray.toList_eq (ByteArray.mk #[])] at h
        have HT := Lib.hid (l05Text_any (rdT s s.size) w (by omega))
        rw [tt_lt (rd_lt s s.size)] at HO
        clear HD hd1 he
        generalize txV (rdT s s.size) = T at *
        obtain ⟨r, hrd⟩ : ∃ r, rdT s s.size = r := ⟨_, rfl⟩
        have HRD := Lib.hid hrd
        rw [hrd] at hr HT
        simp only [hrd]
        clear hrd
        go_wp2_with fail
        refine HT.out.mono ?_
        rintro e w2 ⟨rfl, hb⟩
        have HB := Lib.hid hb
        clear hb
        by_cases he : T = s
        · have HF := Lib.hid (show okS s = true by rw [HO.out]; exact bb_t he)
          have e2 : (T.toList == s.toList) = true := tl_t he
          clear HO he
          go_wp2
          go_ret2
          exact ⟨r, rettb HF.out.symm, (fun _ => by rw [HRD.out]), HB.out⟩
        · have HF := Lib.hid (show okS s = false by rw [HO.out]; exact bb_f he)
          have e2 : (T.toList == s.toList) = false := tl_f he
          clear HO he
          go_wp2
          go_ret2
          exact ⟨r, rettb HF.out.symm, (fun _ => by rw [HRD.out]), HB.out⟩
    have HE := Lib.hid (bt_eq s k hlt)
    cases hL : isL s[k]
    · have HF := Lib.hid (show okS s = false from bb_f (foreign_no hlt (by rw [← HE.out]; exact hL) HD.out))
      have hb := isL_f hL
      clear hL HE HD hd1
      generalize rdT s k = r at *
      by_cases h97 : s[k].toNat < 97
      · go_wp2
        go_ret2
        exact ⟨0, rettb HF.out.symm, (fun h => by rw [HF.out] at h; cases h), Below.refl _ _⟩
      · have h105 : ¬ s[k].toNat < 105 := by omega
        have h105' : 105 ≤ s[k].toNat := by omega
        go_wp2
        go_ret2
        exact ⟨0, rettb HF.out.symm, (fun h => by rw [HF.out] at h; cases h), Below.refl _ _⟩
    · have HN := Lib.hid (rd_let hlt HE.out.symm hL)
      clear HD hd1
      generalize rdT s k = r at *
      rcases let8 hL with h | h | h | h | h | h | h | h
      · rw [h] at HN
        rw [show (2 ^ ((97 : UInt8).toNat - 97) : Nat) = 1 from rfl] at HN
        have HN2 := Lib.hid (show bits .or .u16 (r : Int) 1 = (rdT s (k + 1) : Int) from HN.out)
        have hu : s[k].toNat = 97 := by rw [h]; rfl
        clear HN hL h HE
        go_wp2
        go_roundw
        case rel => exact ⟨k + 1, by go_num, by omega, by rw [← HN2.out], by first | trivial | rfl⟩
        case measure => simp [intOf]; omega
      · rw [h] at HN
        rw [show (2 ^ ((98 : UInt8).toNat - 97) : Nat) = 2 from rfl] at HN
        have HN2 := Lib.hid (show bits .or .u16 (r : Int) 2 = (rdT s (k + 1) : Int) from HN.out)
        have hu : s[k].toNat = 98 := by rw [h]; rfl
        clear HN hL h HE
        go_wp2
        go_roundw
        case rel => exact ⟨k + 1, by go_num, by omega, by rw [← HN2.out], by first | trivial | rfl⟩
        case measure => simp [intOf]; omega
      · rw [h] at HN
        rw [show (2 ^ ((99 : UInt8).toNat - 97) : Nat) = 4 from rfl] at HN
        have HN2 := Lib.hid (show bits .or .u16 (r : Int) 4 = (rdT s (k + 1) : Int) from HN.out)
        have hu : s[k].toNat = 99 := by rw [h]; rfl
        clear HN hL h HE
        go_wp2
        go_roundw
        case rel => exact ⟨k + 1, by go_num, by omega, by rw [← HN2.out], by first | trivial | rfl⟩
        case measure => simp [intOf]; omega
      · rw [h] at HN
        rw [show (2 ^ ((100 : UInt8).toNat - 97) : Nat) = 8 from rfl] at HN
        have HN2 := Lib.hid (show bits .or .u16 (r : Int) 8 = (rdT s (k + 1) : Int) from HN.out)
        have hu : s[k].toNat = 100 := by rw [h]; rfl
        clear HN hL h HE
        go_wp2
        go_roundw
        case rel => exact ⟨k + 1, by go_num, by omega, by rw [← HN2.out], by first | trivial | rfl⟩
        case measure => simp [intOf]; omega
      · rw [h] at HN
        rw [show (2 ^ ((101 : UInt8).toNat - 97) : Nat) = 16 from rfl] at HN
        have HN2 := Lib.hid (show bits .or .u16 (r : Int) 16 = (rdT s (k + 1) : Int) from HN.out)
        have hu : s[k].toNat = 101 := by rw [h]; rfl
        clear HN hL h HE
        go_wp2
        go_roundw
        case rel => exact ⟨k + 1, by go_num, by omega, by rw [← HN2.out], by first | trivial | rfl⟩
        case measure => simp [intOf]; omega
      · rw [h] at HN
        rw [show (2 ^ ((102 : UInt8).toNat - 97) : Nat) = 32 from rfl] at HN
        have HN2 := Lib.hid (show bits .or .u16 (r : Int) 32 = (rdT s (k + 1) : Int) from HN.out)
        have hu : s[k].toNat = 102 := by rw [h]; rfl
        clear HN hL h HE
        go_wp2
        go_roundw
        case rel => exact ⟨k + 1, by go_num, by omega, by rw [← HN2.out], by first | trivial | rfl⟩
        case measure => simp [intOf]; omega
      · rw [h] at HN
        rw [show (2 ^ ((103 : UInt8).toNat - 97) : Nat) = 64 from rfl] at HN
        have HN2 := Lib.hid (show bits .or .u16 (r : Int) 64 = (rdT s (k + 1) : Int) from HN.out)
        have hu : s[k].toNat = 103 := by rw [h]; rfl
        clear HN hL h HE
        go_wp2
        go_roundw
        case rel => exact ⟨k + 1, by go_num, by omega, by rw [← HN2.out], by first | trivial | rfl⟩
        case measure => simp [intOf]; omega
      · rw [h] at HN
        rw [show (2 ^ ((104 : UInt8).toNat - 97) : Nat) = 128 from rfl] at HN
        have HN2 := Lib.hid (show bits .or .u16 (r : Int) 128 = (rdT s (k + 1) : Int) from HN.out)
        have hu : s[k].toNat = 104 := by rw [h]; rfl
        clear HN hL h HE
        go_wp2
        go_roundw
        case rel => exact ⟨k + 1, by go_num, by omega, by rw [← HN2.out], by first | trivial | rfl⟩
        case measure => simp [intOf]; omega
end Go.Proofs.YtlmmfcbdhmhekaaDoor
