/-
  The walks of the functions that number waters, in the program and in its model.
-/
import Derived.Test.YtjmgalmndpjcoaaIxMath
namespace Go.Proofs.Ytjmgalmndpjcoaa
open Go.RowKit
set_option maxRecDepth 100000

theorem OkX.upTo {J : List Int} {y : Nat → Int} (h : OkX J y) (hl : J.length ≤ 4) : UpTo J y J.length := fun i hi => h i (by omega)
theorem indexOf_any (b off c : Nat) (J : List Int) (y : Nat → Int) (w : World) (hl : J.length ≤ 4) (hE : Each J J.length) (hy : OkX J y) (hb : b < w.heap.size) (hc : At .i16 w b off J) :
    Calls Try.prog 64 #[.slice (some ⟨b, off, none⟩) J.length c, watV y] w fun e w' => e = .returned (.int .i64 (ixTo J y J.length)) ∧ Below w.heap.size w w' := by
  have HE := Lib.hid hE
  have HY := Lib.hid hy
  clear hE hy
  go_enter Try.func64, Try.ntmps64
  go_wp2
  have k0 := blk_new w #[.int .i16 (y 0), .int .i16 (y 1), .int .i16 (y 2), .int .i16 (y 3)] 30
  have hB := (Below.refl w.heap.size w).alloc (Nat.le_refl _) (.cells #[.int .i16 (y 0), .int .i16 (y 1), .int .i16 (y 2), .int .i16 (y 3)] 30)
  have hc1 := hc.below hB hb
  clear hc
  generalize hg : w.alloc (.cells #[.int .i16 (y 0), .int .i16 (y 1), .int .i16 (y 2), .int .i16 (y 3)] 30) = wb at *
  clear hg
  have HB := Lib.hid hB
  clear hB
  go_loop [5, 6, 7, 8, 11] (fun n p _ _ i => ∃ k : Nat, k ≤ J.length ∧ i = .int .i64 k ∧ n = .int .i64 (ixTo J y k) ∧ p = .int .i64 (stTo J k)) (fun _ _ _ _ i => J.length - (intOf i).toNat)
  case atStart => exact ⟨0, Nat.zero_le _, rfl, rfl, rfl⟩
  case round =>
    obtain ⟨k, hk, rfl, rfl, rfl⟩ := hrel
    by_cases hlt : k < J.length
    · have hcell := hc1 k hlt
      have hx := HE.out k hlt
      have hk4 : k < 4 := by omega
      have hxy := k0.wat hk4
      have hyb := HY.out k hk4
      have hp := stTo_bd4 (HE.out.mono hk) (by omega)
      have hp2 := stTo_bd4 (HE.out.mono hlt) (by omega)
      have hi1 := ixTo_bd (HE.out.mono hk) (fun i hi => HY.out i (by omega))
      have hi2 := ixTo_bd (k := k + 1) (HE.out.mono hlt) (fun i hi => HY.out i (by omega))
      have H := Lib.hid (stTo_step J k)
      have H2 := Lib.hid (ixTo_step J y k)
      rw [ixTo_step] at hi2
      rw [stTo_step] at hp2 hi2
      generalize J.getD k 0 = x at *
      generalize y k = v at *
      generalize hP : stTo J k = P at *
      generalize hI : ixTo J y k = I at *
      have HP := Lib.hid hP
      have HI := Lib.hid hI
      clear hP hI
      obtain ⟨q, hq⟩ : ∃ q, P * (x + 1) = q := ⟨_, rfl⟩
      obtain ⟨r, hr⟩ : ∃ r, P * v = r := ⟨_, rfl⟩
      rw [hq] at hp2 hi2
      rw [hr] at hi2
      have HQ := Lib.hid hq
      have HR := Lib.hid hr
      have hr0 : 0 ≤ r := by rw [← hr]; exact Int.mul_nonneg (by omega) hyb.1
      go_wp2
      go_round
      case rel => exact ⟨k + 1, by omega, by go_num, by rw [H2.out, HR.out], by rw [H.out, HQ.out]⟩
      case measure => simp [intOf]; omega
    · obtain rfl : k = J.length := by omega
      go_wp2
      go_ret
      exact ⟨rfl, HB.out⟩
theorem l02Index_any (g b off c : Nat) (J : List Int) (x y : Nat → Int) (t : Bool) (w : World) (hl : J.length ≤ 4) (hl1 : 1 ≤ J.length) (hE : Each J J.length) (hy : OkX J y) (hb : b < w.heap.size) (hc : At .i16 w b off J)
    (hg : Blk w g #[.slice (some ⟨b, off, none⟩) J.length c, .int .i16 (x 0), .int .i16 (x 1), .int .i16 (x 2), .int .i16 (x 3), .bool t] 32) :
    Calls Try.prog 43 #[.pointer (some ⟨g, 0, none⟩), watV y] w fun e w' => e = .returned (.int .i64 (ixTo J y J.length)) ∧ Below w.heap.size w w' := by
  have HE := Lib.hid hE
  have HY := Lib.hid hy
  have HU := Lib.hid (hy.upTo hl)
  have HA := Lib.hid (hor_all J y)
  clear hE hy
  have k1 := hg.alloc (.cells #[.int .i16 (y 0), .int .i16 (y 1), .int .i16 (y 2), .int .i16 (y 3)] 30)
  obtain ⟨c0, c1, c2, c3, c4, c5, _⟩ := k1.six
  go_enter Try.func43, Try.ntmps43
  go_wp2
  clear c0 c1 c2 c3 c4 c5
  have k0 := blk_new w #[.int .i16 (y 0), .int .i16 (y 1), .int .i16 (y 2), .int .i16 (y 3)] 30
  have hB := (Below.refl w.heap.size w).alloc (Nat.le_refl _) (.cells #[.int .i16 (y 0), .int .i16 (y 1), .int .i16 (y 2), .int .i16 (y 3)] 30)
  have hc1 := hc.below hB hb
  clear hc hg
  generalize hgg : w.alloc (.cells #[.int .i16 (y 0), .int .i16 (y 1), .int .i16 (y 2), .int .i16 (y 3)] 30) = wb at *
  clear hgg
  have HB := Lib.hid hB
  obtain ⟨c0, _, _, _, _, _, _⟩ := k1.six
  clear hB
  go_loopw [5, 6] (fun n i wr => ∃ d : Nat, d ≤ J.length ∧ i = .int .i64 ((J.length : Int) - 1 - d) ∧ n = .int .i64 (horD J y d) ∧ ∃ q, wr = wb.drewN q) (fun _ i _ => (intOf i + 1).toNat)
  case atStart => exact ⟨0, Nat.zero_le _, by go_num, rfl, 0, rfl⟩
  case round =>
    obtain ⟨d, hd, rfl, rfl, q0, rfl⟩ := hrel
    by_cases hlt : d < J.length
    · have hh := horD_bd HE.out HU.out hd
      have hh2 := horD_bd HE.out HU.out hlt
      have hst := stTo_bd4 HE.out hl
      have H := Lib.hid (horD_step J y d)
      rw [horD_step] at hh2
      obtain ⟨m, hm⟩ : ∃ m : Nat, (J.length : Int) - 1 - d = (m : Int) := ⟨J.length - 1 - d, by omega⟩
      have hm2 : J.length - 1 - d = m := by omega
      rw [hm2] at H hh2
      have hml : m < J.length := by omega
      have hm4 : m < 4 := by omega
      have HM := Lib.hid hm
      have hcell := hc1 m hml
      have hx := HE.out m hml
      have hxy := k0.wat hm4
      have hyb := HY.out m hm4
      rw [hm]
      clear hm hm2
      generalize J.getD m 0 = z at *
      generalize y m = v at *
      generalize hP : horD J y d = P at *
      generalize stTo J J.length = S at *
      have HP := Lib.hid hP
      clear hP
      obtain ⟨q, hq⟩ : ∃ q, P * (z + 1) = q := ⟨_, rfl⟩
      rw [hq] at hh2
      have HQ := Lib.hid hq
      have hq0 : 0 ≤ q := by rw [← hq]; exact Int.mul_nonneg (by omega) (by omega)
      have hml' : (m : Int) < (J.length : Int) := by omega
      have hm4' : (m : Int) < 4 := by omega
      go_wp2
      go_quiet (fail)
      go_wp2
      go_roundw
      case rel => exact ⟨d + 1, by omega, by have := HM.out; go_num, by rw [H.out, HQ.out], _, rfl⟩
      case measure => simp [intOf]
    · obtain rfl : d = J.length := by omega
      rw [HA.out]
      go_wp2
      go_ret
      exact ⟨rfl, below_drewN HB.out _⟩
end Go.Proofs.Ytjmgalmndpjcoaa
