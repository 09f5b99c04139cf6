/-
  The walks of ArmsFrom, in the program and in its model: the greatest common divisor, by a loop and by a function that calls itself.
-/
import Derived.Test.YtmngeloenchpdaaRoot
namespace Go.Proofs.Ytmngeloenchpdaa
open Go.RowKit

theorem gcd_step (a b : Nat) : Nat.gcd b (a % b) = Nat.gcd a b := by
  rw [Nat.gcd_comm b (a % b), Nat.gcd_comm a b]; exact (Nat.gcd_rec b a).symm
theorem l01Gcd_any (n : Nat) : ∀ (a b : Nat) (w : World), b ≤ n → a ≤ 1000000 → b ≤ 1000000 →
    Calls Try.prog 48 #[.int .i64 (a : Int), .int .i64 (b : Int)] w fun e w' => e = .returned (.int .i64 ((Nat.gcd a b : Nat) : Int)) ∧ w = w' := by
  induction n with
  | zero =>
    intro a b w hb ha hb2
    obtain rfl : b = 0 := by omega
    rw [Nat.gcd_zero_right]
    go_enter Try.func48, Try.ntmps48
    go_wp2_with fail
    go_ret
    exact ⟨rfl, rfl⟩
  | succ n ih =>
    intro a b w hb ha hb2
    by_cases h0 : b = 0
    · subst h0
      rw [Nat.gcd_zero_right]
      clear ih
      go_enter Try.func48, Try.ntmps48
      go_wp2_with fail
      go_ret
      exact ⟨rfl, rfl⟩
    · have hm := Nat.mod_lt a (show 0 < b by omega)
      have hI := ih b (a % b) w (by omega) hb2 (by omega)
      rw [gcd_step] at hI
      have e : (((a % b : Nat) : Int)) = (a : Int) % (b : Int) := by simp
      rw [e] at hI
      have HI := Lib.hid hI
      have hne : ((b : Int) == 0) = false := by simp; omega
      have hb1 : (1 : Int) ≤ (b : Int) := by omega
      clear hI ih e hm
      go_enter Try.func48, Try.ntmps48
      go_wp2_with fail
      refine HI.out.mono ?_
      rintro e w' ⟨rfl, rfl⟩
      go_wp2_with fail
      go_ret
      exact ⟨rfl, rfl⟩
theorem divisor_any (a b : Nat) (w : World) (ha : a ≤ 1000000) (hb : b ≤ 1000000) :
    Calls Try.prog 47 #[.int .i64 (a : Int), .int .i64 (b : Int)] w fun e w' => e = .returned (.int .i64 ((Nat.gcd a b : Nat) : Int)) ∧ Dr w w' := by
  go_enter Try.func47, Try.ntmps47
  go_wp2
  go_loopw [0, 1] (fun p q wr => ∃ x y : Nat, p = .int .i64 x ∧ q = .int .i64 y ∧ x ≤ 1000000 ∧ y ≤ 1000000 ∧ Nat.gcd x y = Nat.gcd a b ∧ Dr w wr) (fun _ q _ => (intOf q).toNat)
  case atStart => exact ⟨a, b, rfl, rfl, ha, hb, rfl, Dr.refl _⟩
  case round =>
    obtain ⟨x, y, rfl, rfl, hx, hy, hg, hdr⟩ := hrel
    have Hg := Lib.hid hg
    clear hg
    by_cases h0 : y = 0
    · subst h0
      have H := Lib.hid (Nat.gcd_zero_right x)
      go_wp2
      go_ret
      exact ⟨reti (by rw [← Hg.out, H.out]), hdr⟩
    · have hm := Nat.mod_lt x (show 0 < y by omega)
      have hne : ((y : Int) == 0) = false := by simp; omega
      have hne2 : ((y : Int) != 0) = true := by simp; omega
      have hy1 : (1 : Int) ≤ (y : Int) := by omega
      have Hs := Lib.hid (gcd_step x y)
      clear h0
      go_wp2
      go_quiet (fail)
      go_wp2
      go_roundw
      case rel => exact ⟨y, x % y, rfl, by simp, hy, by omega, by rw [Hs.out, Hg.out], hdr.trans (Dr.of _ _)⟩
      case measure => simp [intOf]; omega

theorem quo64 (x g : Int) (h0 : 0 ≤ x) (h1 : x ≤ 1000000) (hg : 1 ≤ g) : wrap64 (x.tdiv g) = x / g := by
  rw [← IntWalk.i64_left]; exact IntWalk.i64_quo x g ⟨h0, by omega, hg⟩
def gI (a m : Int) : Int := ((Nat.gcd a.toNat m.toNat : Nat) : Int)
theorem gI_pos {a m : Int} (h : 1 ≤ a) : 1 ≤ gI a m := by
  unfold gI
  have := Nat.gcd_pos_of_pos_left (m := a.toNat) m.toNat (by omega)
  omega
theorem mbt_ok {a b : Int} (h : mbtC a b = 0) : (1 ≤ a ∧ a ≤ 1000000) ∧ 1 ≤ mbtV a b ∧ mbtV a b ≤ 1000000 := by
  unfold mbtC at h
  by_cases k : (1 ≤ a ∧ a ≤ 1000000) ∧ (1 ≤ b ∧ b ≤ 1000000)
  · rw [cb_t k] at h
    simp only [if_true] at h
    have hv : mbtV a b = sqV (a * b) := by unfold mbtV; rw [cb_t k]; rfl
    rw [hv]
    by_cases e : root (a * b) * root (a * b) = a * b
    · rw [(sqV_t rfl e).1]
      have hr := root_bd (a * b)
      have hab := ab_bd k.1 k.2
      refine ⟨k.1, ?_, hr.2⟩
      by_cases h0 : root (a * b) = 0
      · rw [h0] at e; omega
      · omega
    · rw [(sqV_f rfl e).2] at h; omega
  · rw [cb_f k] at h
    simp at h
noncomputable def arm1 (a b : Int) : Int := if mbtC a b = 0 then a / gI a (mbtV a b) else 0
noncomputable def arm2 (a b : Int) : Int := if mbtC a b = 0 then mbtV a b / gI a (mbtV a b) else 0
theorem mbtC_other {a b : Int} (h : ¬ mbtC a b = 0) : mbtC a b = 2 ∨ mbtC a b = 6 := by
  unfold mbtC at *
  split at h
  · rename_i k
    rw [if_pos k]
    unfold sqC at *
    split at h
    · omega
    · rename_i e; rw [if_neg e]; exact .inr rfl
  · rename_i k; rw [if_neg k]; exact .inl rfl
theorem ret3 {a b c x y z : Int} (h1 : a = x) (h2 : b = y) (h3 : c = z) : Ending.returned (.tuple #[.int .i64 a, .int .i64 b, .int .i64 c]) = .returned (.tuple #[.int .i64 x, .int .i64 y, .int .i64 z]) := by rw [h1, h2, h3]
theorem bnd_g {a m g : Int} (ha : 1 ≤ a ∧ a ≤ 1000000) (hg : 1 ≤ g) (_hm : 1 ≤ m) : 0 ≤ a / g ∧ a / g ≤ 1000000 := by
  have h1 : a / g ≤ a := Int.ediv_le_self _ (by omega)
  have h2 : 0 ≤ a / g := Int.ediv_nonneg (by omega) (by omega)
  omega

theorem specArmsFrom_any (a b : Int) (w : World) :
    Calls Try.prog 29 #[.int .i64 a, .int .i64 b] w fun e w' => e = .returned (.tuple #[.int .i64 (arm1 a b), .int .i64 (arm2 a b), .int .i64 (mbtC a b)]) ∧ Below w.heap.size w w' := by
  have hM := specMassByTwo_any a b w
  by_cases hC : mbtC a b = 0
  · have hk := mbt_ok hC
    have Hk := Lib.hid hk
    have HA := Lib.hid (show arm1 a b = a / gI a (mbtV a b) from by unfold arm1; rw [if_pos hC])
    have HB := Lib.hid (show arm2 a b = mbtV a b / gI a (mbtV a b) from by unfold arm2; rw [if_pos hC])
    have HC := Lib.hid hC
    rw [hC] at hM
    generalize mbtV a b = m at *
    have hg := gI_pos (m := m) hk.1.1
    have q1 := bnd_g hk.1 hg hk.2.1
    have q2 := bnd_g hk.2 hg hk.1.1
    have hG : ∀ W, Calls Try.prog 48 #[.int .i64 a, .int .i64 m] W fun e w' => e = .returned (.int .i64 (gI a m)) ∧ W = w' := fun W => by
      have := l01Gcd_any 1000000 a.toNat m.toNat W (by omega) (by omega) (by omega)
      rw [Int.toNat_of_nonneg (by omega), Int.toNat_of_nonneg (by omega)] at this
      exact this
    have HG := Lib.hid hG
    have HM := Lib.hid hM
    generalize gI a m = g at *
    have hne : (g == 0) = false := by simp; omega
    have HQ := Lib.hid (And.intro (quo64 a g (by omega) (by omega) hg) (quo64 m g (by omega) (by omega) hg))
    clear hG hC hM hk Hk
    go_enter Try.func29, Try.ntmps29
    go_wp2_with fail
    refine HM.out.mono ?_
    rintro e w1 ⟨rfl, b1⟩
    subst b1; have b1 := Below.refl w.heap.size w
    go_wp2_with fail
    refine (HG.out _).mono ?_
    rintro e w2 ⟨rfl, b2⟩
    subst b2; have b2 := Below.refl w.heap.size w
    go_wp2_with fail
    go_quiet (fail)
    go_wp2_with fail
    go_ret3
    exact ⟨ret3 (HQ.out.1.trans HA.out.symm) (HQ.out.2.trans HB.out.symm) HC.out.symm, below_drewN (b1.trans (b2.mono b1.size)) _⟩
  · have HA := Lib.hid (show arm1 a b = 0 from by unfold arm1; rw [if_neg hC])
    have HB := Lib.hid (show arm2 a b = 0 from by unfold arm2; rw [if_neg hC])
    have hc2 := mbtC_other hC
    have hne : (mbtC a b == 0) = false := by simpa using hC
    have hne2 : (mbtC a b != 0) = true := by simpa using hC
    have HM := Lib.hid hM
    clear hM hC hc2
    generalize mbtC a b = c at *
    generalize mbtV a b = m at *
    go_enter Try.func29, Try.ntmps29
    go_wp2_with fail
    refine HM.out.mono ?_
    rintro e w1 ⟨rfl, b1⟩
    subst b1; have b1 := Below.refl w.heap.size w
    go_wp2_with fail
    go_ret3
    exact ⟨ret3 HA.out.symm HB.out.symm rfl, b1⟩

theorem armsFrom_any (a b : Int) (w : World) :
    Calls Try.prog 28 #[.int .i64 a, .int .i64 b] w fun e w' => e = .returned (.tuple #[.int .i64 (arm1 a b), .int .i64 (arm2 a b), .int .i64 (mbtC a b)]) ∧ Below w.heap.size w w' := by
  have hM := massByTwo_any a b w
  by_cases hC : mbtC a b = 0
  · have hk := mbt_ok hC
    have Hk := Lib.hid hk
    have HA := Lib.hid (show arm1 a b = a / gI a (mbtV a b) from by unfold arm1; rw [if_pos hC])
    have HB := Lib.hid (show arm2 a b = mbtV a b / gI a (mbtV a b) from by unfold arm2; rw [if_pos hC])
    have HC := Lib.hid hC
    rw [hC] at hM
    generalize mbtV a b = m at *
    have hg := gI_pos (m := m) hk.1.1
    have q1 := bnd_g hk.1 hg hk.2.1
    have q2 := bnd_g hk.2 hg hk.1.1
    have hG : ∀ W, Calls Try.prog 47 #[.int .i64 a, .int .i64 m] W fun e w' => e = .returned (.int .i64 (gI a m)) ∧ Dr W w' := fun W => by
      have := divisor_any a.toNat m.toNat W (by omega) (by omega)
      rw [Int.toNat_of_nonneg (by omega), Int.toNat_of_nonneg (by omega)] at this
      exact this
    have HG := Lib.hid hG
    have HM := Lib.hid hM
    generalize gI a m = g at *
    have hne : (g == 0) = false := by simp; omega
    have HQ := Lib.hid (And.intro (quo64 a g (by omega) (by omega) hg) (quo64 m g (by omega) (by omega) hg))
    clear hG hC hM hk Hk
    go_enter Try.func28, Try.ntmps28
    go_wp2_with fail
    refine HM.out.mono ?_
    rintro e w1 ⟨rfl, b1⟩
    skip
    go_wp2_with fail
    refine (HG.out _).mono ?_
    rintro e w2 ⟨rfl, b2⟩
    replace b2 := b2.below
    go_wp2_with fail
    go_quiet (fail)
    go_wp2_with fail
    go_ret3
    exact ⟨ret3 (HQ.out.1.trans HA.out.symm) (HQ.out.2.trans HB.out.symm) HC.out.symm, below_drewN (b1.trans (b2.mono b1.size)) _⟩
  · have HA := Lib.hid (show arm1 a b = 0 from by unfold arm1; rw [if_neg hC])
    have HB := Lib.hid (show arm2 a b = 0 from by unfold arm2; rw [if_neg hC])
    have hc2 := mbtC_other hC
    have hne : (mbtC a b == 0) = false := by simpa using hC
    have hne2 : (mbtC a b != 0) = true := by simpa using hC
    have HM := Lib.hid hM
    clear hM hC hc2
    generalize mbtC a b = c at *
    generalize mbtV a b = m at *
    go_enter Try.func28, Try.ntmps28
    go_wp2_with fail
    refine HM.out.mono ?_
    rintro e w1 ⟨rfl, b1⟩
    skip
    go_wp2_with fail
    go_ret3
    exact ⟨ret3 HA.out.symm HB.out.symm rfl, b1⟩
end Go.Proofs.Ytmngeloenchpdaa
