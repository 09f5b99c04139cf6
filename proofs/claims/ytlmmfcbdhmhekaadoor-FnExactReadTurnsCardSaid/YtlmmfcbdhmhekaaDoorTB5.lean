/-
  The walks of ReadThings, the program's and the model's.
-/
import Derived.Test.YtlmmfcbdhmhekaaDoorTB4
import Derived.Deep.DeepCutAuto
namespace Go.Proofs.YtlmmfcbdhmhekaaDoor
open Go.RowKit
set_option maxRecDepth 100000
set_option linter.unusedVariables false

theorem bb_t {a b : ByteArray} (h : a = b) : (a == b) = true := by
  subst h
  cases a with | mk d =>
  show (d == d) = true
  simp
theorem bb_f {a b : ByteArray} (h : a ≠ b) : (a == b) = false := by
  cases a with | mk d =>
  cases b with | mk e =>
  show (d == e) = false
  rw [beq_eq_false_iff_ne]
  rintro rfl
  exact h rfl
theorem tl_t {a b : ByteArray} (h : a = b) : (a.toList == b.toList) = true := by subst h; simp
theorem tl_f {a b : ByteArray} (h : a ≠ b) : (a.toList == b.toList) = false := by
  rw [beq_eq_false_iff_ne]
  intro e
  rw [ByteArray.toList_eq, ByteArray.toList_eq] at e
  exact h (ByteArray.ext (Array.toList_inj.1 e))
theorem retui {a b c d : Int} (h : a = b) (h2 : c = d) : Ending.returned (.tuple #[.int .u16 a, .int .i64 c]) = .returned (.tuple #[.int .u16 b, .int .i64 d]) := by rw [h, h2]
theorem rv_t {s : ByteArray} (h : okS s = true) : rvV s = rdT s s.size ∧ rvC s = 0 := by unfold rvV rvC; rw [if_pos h, if_pos h]; exact ⟨rfl, rfl⟩
theorem rv_f {s : ByteArray} (h : okS s = false) : rvV s = 0 ∧ rvC s = 5 := by unfold rvV rvC; rw [h]; exact ⟨rfl, rfl⟩
/-- The next number, for a letter. -/
theorem rd_let {s : ByteArray} {p : Nat} (hp : p < s.size) {u : UInt8} (hu : bt s p = u) (hl : isL u = true) : bits .or .u16 (rdT s p : Int) ((2 ^ (u.toNat - 97) : Nat) : Int) = (rdT s (p + 1) : Int) := by
  subst hu
  have h1 := isL_t hl
  have h2 : 2 ^ ((bt s p).toNat - 97) < 2 ^ 8 := Nat.pow_lt_pow_right (by decide) (by omega)
  rw [rd_t hl, or_nat (by have := rd_lt s p; omega) (by omega)]
theorem readThings_any (s : ByteArray) (w : World) (hs : s.size ≤ 1048576) :
    Calls Tryd.prog 13 #[.string s] w fun e w' => e = .returned (.tuple #[.int .u16 (rvV s), .int .i64 (rvC s)]) ∧ Below w.heap.size w w' := by
  go_enter Tryd.func13, Tryd.ntmps13
  go_wp2
  go_loopw [4, 9] (fun t i wr => ∃ k : Nat, i = .int .i64 k ∧ k ≤ s.size ∧ t = .int .u16 (rdT s k : Int) ∧ w = wr) (fun _ i _ => s.size - (intOf i).toNat)
  case atStart => exact ⟨0, rfl, Nat.zero_le _, rfl, rfl⟩
  case round =>
    obtain ⟨k, rfl, hk, rfl, rfl⟩ := hrel
    have hr := rd_lt s k
    by_cases hlt : k < s.size
    case neg =>
      obtain rfl : k = s.size := by omega
      have HT := Lib.hid (thingsText_any (rdT s s.size) w (by omega))
      have HR := Lib.hid (And.intro (fun h => rv_t (s := s) h) (fun h => rv_f (s := s) h))
      have HO := Lib.hid (show okS s = (ttV (rdT s s.size) == s) from rfl)
      generalize ttV (rdT s s.size) = T at *
      generalize rdT s s.size = r at *
      go_wp2_with fail
      refine HT.out.mono ?_
      rintro e w2 ⟨rfl, hb⟩
      have HB := Lib.hid hb
      clear hb
      by_cases he : T = s
      · have HR2 := Lib.hid (HR.out.1 (by rw [HO.out]; exact bb_t he))
        have e1 : (T.toList == s.toList) = true := tl_t he
        go_wp2
        go_ret2
        exact ⟨retui HR2.out.1.symm HR2.out.2.symm, HB.out⟩
      · have HR2 := Lib.hid (HR.out.2 (by rw [HO.out]; exact bb_f he))
        have e1 : (T.toList == s.toList) = false := tl_f he
        go_wp2
        go_ret2
        exact ⟨retui HR2.out.1.symm HR2.out.2.symm, HB.out⟩
    have HI := Lib.hid (fun W => index_any s[k] W)
    have HE := Lib.hid (bt_eq s k hlt)
    cases hL : isL s[k]
    · have HN := Lib.hid (show rdT s (k + 1) = rdT s k from rd_f (by rw [← HE.out]; exact hL))
      rw [show ixL s[k] = -1 by unfold ixL; rw [hL]; rfl] at HI
      clear hL HE
      generalize rdT s k = r at *
      go_wp2_with fail
      refine (HI.out _).mono ?_
      rintro e w2 ⟨rfl, rfl⟩
      go_wp2
      go_roundw
      case rel => exact ⟨k + 1, by go_num, by omega, by rw [HN.out], by first | trivial | rfl⟩
      case measure => simp [intOf]; omega
    · have HN := Lib.hid (rd_let hlt HE.out.symm hL)
      generalize rdT s k = r at *
      rcases let8 hL with h | h | h | h | h | h | h | h
      · rw [h] at HN
        rw [h, show ixL 97 = 0 from rfl, show ((97 : UInt8).toNat : Int) = 97 from rfl] at HI
        rw [show (2 ^ ((97 : UInt8).toNat - 97) : Nat) = 1 from rfl] at HN
        have HN2 := Lib.hid (show bits .or .u16 (r : Int) 1 = (rdT s (k + 1) : Int) from HN.out)
        have hu : s[k].toNat = 97 := by rw [h]; rfl
        clear HN hL h HE
        go_wp2_with fail
        refine (HI.out _).mono ?_
        rintro e w2 ⟨rfl, rfl⟩
        go_wp2
        go_roundw
        case rel => exact ⟨k + 1, by go_num, by omega, by rw [← HN2.out], by first | trivial | rfl⟩
        case measure => simp [intOf]; omega
      · rw [h] at HN
        rw [h, show ixL 98 = 1 from rfl, show ((98 : UInt8).toNat : Int) = 98 from rfl] at HI
        rw [show (2 ^ ((98 : UInt8).toNat - 97) : Nat) = 2 from rfl] at HN
        have HN2 := Lib.hid (show bits .or .u16 (r : Int) 2 = (rdT s (k + 1) : Int) from HN.out)
        have hu : s[k].toNat = 98 := by rw [h]; rfl
        clear HN hL h HE
        go_wp2_with fail
        refine (HI.out _).mono ?_
        rintro e w2 ⟨rfl, rfl⟩
        go_wp2
        go_roundw
        case rel => exact ⟨k + 1, by go_num, by omega, by rw [← HN2.out], by first | trivial | rfl⟩
        case measure => simp [intOf]; omega
      · rw [h] at HN
        rw [h, show ixL 99 = 2 from rfl, show ((99 : UInt8).toNat : Int) = 99 from rfl] at HI
        rw [show (2 ^ ((99 : UInt8).toNat - 97) : Nat) = 4 from rfl] at HN
        have HN2 := Lib.hid (show bits .or .u16 (r : Int) 4 = (rdT s (k + 1) : Int) from HN.out)
        have hu : s[k].toNat = 99 := by rw [h]; rfl
        clear HN hL h HE
        go_wp2_with fail
        refine (HI.out _).mono ?_
        rintro e w2 ⟨rfl, rfl⟩
        go_wp2
        go_roundw
        case rel => exact ⟨k + 1, by go_num, by omega, by rw [← HN2.out], by first | trivial | rfl⟩
        case measure => simp [intOf]; omega
      · rw [h] at HN
        rw [h, show ixL 100 = 3 from rfl, show ((100 : UInt8).toNat : Int) = 100 from rfl] at HI
        rw [show (2 ^ ((100 : UInt8).toNat - 97) : Nat) = 8 from rfl] at HN
        have HN2 := Lib.hid (show bits .or .u16 (r : Int) 8 = (rdT s (k + 1) : Int) from HN.out)
        have hu : s[k].toNat = 100 := by rw [h]; rfl
        clear HN hL h HE
        go_wp2_with fail
        refine (HI.out _).mono ?_
        rintro e w2 ⟨rfl, rfl⟩
        go_wp2
        go_roundw
        case rel => exact ⟨k + 1, by go_num, by omega, by rw [← HN2.out], by first | trivial | rfl⟩
        case measure => simp [intOf]; omega
      · rw [h] at HN
        rw [h, show ixL 101 = 4 from rfl, show ((101 : UInt8).toNat : Int) = 101 from rfl] at HI
        rw [show (2 ^ ((101 : UInt8).toNat - 97) : Nat) = 16 from rfl] at HN
        have HN2 := Lib.hid (show bits .or .u16 (r : Int) 16 = (rdT s (k + 1) : Int) from HN.out)
        have hu : s[k].toNat = 101 := by rw [h]; rfl
        clear HN hL h HE
        go_wp2_with fail
        refine (HI.out _).mono ?_
        rintro e w2 ⟨rfl, rfl⟩
        go_wp2
        go_roundw
        case rel => exact ⟨k + 1, by go_num, by omega, by rw [← HN2.out], by first | trivial | rfl⟩
        case measure => simp [intOf]; omega
      · rw [h] at HN
        rw [h, show ixL 102 = 5 from rfl, show ((102 : UInt8).toNat : Int) = 102 from rfl] at HI
        rw [show (2 ^ ((102 : UInt8).toNat - 97) : Nat) = 32 from rfl] at HN
        have HN2 := Lib.hid (show bits .or .u16 (r : Int) 32 = (rdT s (k + 1) : Int) from HN.out)
        have hu : s[k].toNat = 102 := by rw [h]; rfl
        clear HN hL h HE
        go_wp2_with fail
        refine (HI.out _).mono ?_
        rintro e w2 ⟨rfl, rfl⟩
        go_wp2
        go_roundw
        case rel => exact ⟨k + 1, by go_num, by omega, by rw [← HN2.out], by first | trivial | rfl⟩
        case measure => simp [intOf]; omega
      · rw [h] at HN
        rw [h, show ixL 103 = 6 from rfl, show ((103 : UInt8).toNat : Int) = 103 from rfl] at HI
        rw [show (2 ^ ((103 : UInt8).toNat - 97) : Nat) = 64 from rfl] at HN
        have HN2 := Lib.hid (show bits .or .u16 (r : Int) 64 = (rdT s (k + 1) : Int) from HN.out)
        have hu : s[k].toNat = 103 := by rw [h]; rfl
        clear HN hL h HE
        go_wp2_with fail
        refine (HI.out _).mono ?_
        rintro e w2 ⟨rfl, rfl⟩
        go_wp2
        go_roundw
        case rel => exact ⟨k + 1, by go_num, by omega, by rw [← HN2.out], by first | trivial | rfl⟩
        case measure => simp [intOf]; omega
      · rw [h] at HN
        rw [h, show ixL 104 = 7 from rfl, show ((104 : UInt8).toNat : Int) = 104 from rfl] at HI
        rw [show (2 ^ ((104 : UInt8).toNat - 97) : Nat) = 128 from rfl] at HN
        have HN2 := Lib.hid (show bits .or .u16 (r : Int) 128 = (rdT s (k + 1) : Int) from HN.out)
        have hu : s[k].toNat = 104 := by rw [h]; rfl
        clear HN hL h HE
        go_wp2_with fail
        refine (HI.out _).mono ?_
        rintro e w2 ⟨rfl, rfl⟩
        go_wp2
        go_roundw
        case rel => exact ⟨k + 1, by go_num, by omega, by rw [← HN2.out], by first | trivial | rfl⟩
        case measure => simp [intOf]; omega
end Go.Proofs.YtlmmfcbdhmhekaaDoor
