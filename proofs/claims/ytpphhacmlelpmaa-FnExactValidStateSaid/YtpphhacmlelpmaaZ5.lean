/-
  The walks of weights: the number of ways to choose, a state's weight, the least number by the weight.
-/
import Derived.Test.YtpphhacmlelpmaaZ4
import Derived.Deep.RegionHeld3
namespace Go.Proofs.Ytpphhacmlelpmaa
open Go.RowKit
set_option maxRecDepth 100000
set_option linter.unusedVariables false

/-- What has been added up after j rounds, and in how many ways j can be chosen. -/
def chP (q : Nat) : Nat → Nat × Nat
  | 0 => (0, 1)
  | j + 1 => ((chP q j).1 + (chP q j).2, (chP q j).2 * (q - j) / (j + 1))
/-- In how many ways up to m of q can be chosen. -/
def cho (q m : Nat) : Nat := (chP q (m + 1)).1
theorem chP_small : ∀ q, q < 41 → ∀ j, j < 5 → (chP q j).1 ≤ 10701 ∧ (chP q j).2 ≤ 100000 := by decide +kernel
theorem chP_zero : ∀ q, q < 41 → ∀ j, j < 5 → q < j → (chP q j).2 = 0 := by decide +kernel
theorem chP_stop : ∀ q, q < 41 → ∀ m, m < 4 → ∀ j, j < 5 → q < j → j ≤ m + 1 → (chP q j).1 = (chP q (m + 1)).1 := by decide +kernel
theorem cho_le {q m : Nat} (hq : q < 41) (hm : m < 4) : cho q m ≤ 10701 := (chP_small q hq (m + 1) (by omega)).1
theorem ch_next (q j : Nat) (hq : q < 41) (hj : j < 5) : (((chP q j).2 : Int) * ((q : Int) - (j : Int))).tdiv ((j : Int) + 1) = ((chP q (j + 1)).2 : Int) := by
  by_cases h : j ≤ q
  · rw [show ((q : Int) - (j : Int)) = ((q - j : Nat) : Int) by omega, show ((j : Int) + 1) = ((j + 1 : Nat) : Int) by omega, ← Int.natCast_mul, Int.tdiv_eq_ediv_of_nonneg (by omega), ← Int.natCast_ediv]
    rfl
  · rw [chP_zero q hq j hj (by omega), show ((chP q (j + 1)).2) = (chP q j).2 * (q - j) / (j + 1) from rfl, chP_zero q hq j hj (by omega)]
    simp
theorem ch_round (q k : Nat) (hq : q ≤ 40) (hk : k ≤ 3) (hkq : k ≤ q) : 0 ≤ ((chP q k).2 : Int) * ((q : Int) - (k : Int)) ∧ ((chP q k).2 : Int) * ((q : Int) - (k : Int)) ≤ 4000000 := by
  have hs := (chP_small q (by omega) k (by omega))
  rw [show ((q : Int) - (k : Int)) = ((q - k : Nat) : Int) by omega, ← Int.natCast_mul]
  have : (chP q k).2 * (q - k) ≤ 100000 * 40 := Nat.mul_le_mul hs.2 (by omega)
  omega
set_option maxHeartbeats 1000000 in
theorem l06Choose_any (q m : Nat) (w : World) (hq : q ≤ 40) (hm : m ≤ 3) :
    Calls Try.prog 34 #[.int .i64 q, .int .i64 m] w fun e w' => e = .returned (.int .i64 (cho q m)) ∧ w = w' := by
  go_enter Try.func34, Try.ntmps34
  go_wp2
  go_loop [5, 6, 7] (fun s c j => ∃ k : Nat, j = .int .i64 k ∧ k ≤ m + 1 ∧ s = .int .i64 (chP q k).1 ∧ c = .int .i64 (chP q k).2) (fun _ _ j => 5 - (intOf j).toNat)
  case atStart => exact ⟨0, rfl, by omega, rfl, rfl⟩
  case round =>
    obtain ⟨k, rfl, hk, rfl, rfl⟩ := hrel
    by_cases hkm : k ≤ m
    · have h1 : decide ((k : Int) ≤ (m : Int)) = true := by simpa using hkm
      by_cases hkq : k ≤ q
      · have hn := ch_next q k (by omega) (by omega)
        have hpp := ch_round q k hq (by omega) hkq
        have hs := (chP_small q (by omega) k (by omega))
        have HS := Lib.hid (show ((chP q (k + 1)).1 : Int) = (chP q k).1 + (chP q k).2 from by rw [show (chP q (k + 1)).1 = (chP q k).1 + (chP q k).2 from rfl]; omega)
        have hs2 := (chP_small q (by omega) (k + 1) (by omega)).2
        generalize hg2 : (chP q (k + 1)).2 = c2 at *
        have HC := Lib.hid hg2
        clear hg2
        generalize (chP q k).2 = c at *
        generalize (chP q k).1 = s at *
        obtain ⟨p, ep⟩ : ∃ p, (c : Int) * ((q : Int) - (k : Int)) = p := ⟨_, rfl⟩
        rw [ep] at hn hpp
        have h2 : decide ((k : Int) ≤ (q : Int)) = true := by simpa using hkq
        go_wp2
        go_round
        case rel => exact ⟨k + 1, by go_num, by omega, by rw [HS.out], by rw [HC.out]⟩
        case measure => simp [intOf]; omega
      · have h2 : decide ((k : Int) ≤ (q : Int)) = false := by simpa using hkq
        have HR := Lib.hid (chP_stop q (by omega) m (by omega) k (by omega) (by omega) (by omega))
        go_wp2
        go_ret
        exact ⟨by rw [HR.out]; rfl, rfl⟩
    · have h1 : decide ((k : Int) ≤ (m : Int)) = false := by simpa using hkm
      obtain rfl : k = m + 1 := by omega
      go_wp2
      go_ret
      exact ⟨rfl, rfl⟩
set_option maxHeartbeats 1000000 in
theorem choices_any (q m : Nat) (w : World) (hq : q ≤ 40) (hm : m ≤ 3) :
    Calls Try.prog 35 #[.int .i64 q, .int .i64 m] w fun e w' => e = .returned (.int .i64 (cho q m)) ∧ w = w' := by
  go_enter Try.func35, Try.ntmps35
  go_wp2
  go_loop [5, 6, 10] (fun s c j => ∃ k : Nat, j = .int .i64 k ∧ k ≤ m + 1 ∧ s = .int .i64 (chP q k).1 ∧ c = .int .i64 (chP q k).2) (fun _ _ j => 5 - (intOf j).toNat)
  case atStart => exact ⟨0, rfl, by omega, rfl, rfl⟩
  case round =>
    obtain ⟨k, rfl, hk, rfl, rfl⟩ := hrel
    by_cases hkm : k ≤ m
    · have h1 : (k : Int) < (m : Int) + 1 := by omega
      have hn := ch_next q k (by omega) (by omega)
      have hs := (chP_small q (by omega) k (by omega))
      have hpp : 0 ≤ ((chP q k).2 : Int) * ((q : Int) - (k : Int)) ∧ ((chP q k).2 : Int) * ((q : Int) - (k : Int)) ≤ 4000000 := by
        by_cases hkq : k ≤ q
        · exact ch_round q k hq (by omega) hkq
        · rw [chP_zero q (by omega) k (by omega) (by omega)]; simp
      have HS := Lib.hid (show ((chP q (k + 1)).1 : Int) = (chP q k).1 + (chP q k).2 from by rw [show (chP q (k + 1)).1 = (chP q k).1 + (chP q k).2 from rfl]; omega)
      have hs2 := (chP_small q (by omega) (k + 1) (by omega)).2
      generalize hg2 : (chP q (k + 1)).2 = c2 at *
      have HC := Lib.hid hg2
      clear hg2
      generalize (chP q k).2 = c at *
      generalize (chP q k).1 = s at *
      obtain ⟨p, ep⟩ : ∃ p, (c : Int) * ((q : Int) - (k : Int)) = p := ⟨_, rfl⟩
      rw [ep] at hn hpp
      go_wp2
      go_round
      case rel => exact ⟨k + 1, by go_num, by omega, by rw [HS.out], by rw [HC.out]⟩
      case measure => simp [intOf]; omega
    · obtain rfl : k = m + 1 := by omega
      have h1 : ¬ (((m + 1 : Nat) : Int) < (m : Int) + 1) := by omega
      go_wp2
      go_ret
      exact ⟨rfl, rfl⟩
/-- What the first i numbers of a state weigh. -/
def wtP (l q : Nat) (x : Nat → Int) : Nat → Int
  | 0 => 0
  | i + 1 => wtP l q x i + x i * (cho q (l - i) : Int)
def wt (l q : Nat) (x : Nat → Int) : Int := wtP l q x (l + 1)
theorem wtP_bd {l q : Nat} {x : Nat → Int} (hx : Sm x) (hq : q ≤ 40) (hl : l ≤ 3) : ∀ i, i ≤ 4 → 0 ≤ wtP l q x i ∧ wtP l q x i ≤ 642060 * (i : Int) := by
  intro i hi
  induction i with
  | zero => exact ⟨Int.le_refl _, by simp [wtP]⟩
  | succ i ih =>
    have h := ih (by omega)
    have h2 := hx i (by omega)
    have h3 := cho_le (q := q) (m := l - i) (by omega) (by omega)
    have h4 : 0 ≤ x i * (cho q (l - i) : Int) := Int.mul_nonneg h2.1 (by omega)
    have h5 : x i * (cho q (l - i) : Int) ≤ 60 * 10701 := Int.mul_le_mul h2.2 (by omega) (by omega) (by omega)
    show 0 ≤ wtP l q x i + x i * (cho q (l - i) : Int) ∧ wtP l q x i + x i * (cho q (l - i) : Int) ≤ _
    omega
theorem wt_mul {x : Nat → Int} {i l q : Nat} (hx : Sm x) (hi : i < 4) (hq : q ≤ 40) (hl : l ≤ 3) : 0 ≤ x i * (cho q (l - i) : Int) ∧ x i * (cho q (l - i) : Int) ≤ 642060 := by
  have h2 := hx i hi
  have h3 := cho_le (q := q) (m := l - i) (by omega) (by omega)
  exact ⟨Int.mul_nonneg h2.1 (by omega), Int.mul_le_mul (c := 60) (d := 10701) h2.2 (by omega) (by omega) (by omega)⟩
set_option maxHeartbeats 2000000 in
theorem l06Weight_any (l q : Nat) (x : Nat → Int) (w : World) (hx : Sm x) (hq : q ≤ 40) (hl : l ≤ 3) :
    Calls Try.prog 24 #[.int .i64 l, staV x, .int .i64 q] w fun e w' => e = .returned (.int .i64 (wt l q x)) ∧ Below w.heap.size w w' := by
  have F0 := (FR.start w).box (staC x) 24
  have HC := Lib.hid (fun m W h => l06Choose_any q m W hq h)
  have HB := Lib.hid F0.below
  have HK := Lib.hid (F0.blk _ List.mem_cons_self)
  go_enter Try.func24, Try.ntmps24
  go_wp2
  clear F0
  generalize w.alloc (Obj.cells (staC x) 24) = w1 at *
  go_loopw [7, 8] (fun s j wr => ∃ k : Nat, j = .int .i64 k ∧ k ≤ l + 1 ∧ s = .int .i64 (wtP l q x k) ∧ Dr w1 wr) (fun _ j _ => 5 - (intOf j).toNat)
  case atStart => exact ⟨0, rfl, by omega, rfl, Dr.refl _⟩
  case round =>
    obtain ⟨k, rfl, hk, rfl, hd⟩ := hrel
    have HD := Lib.hid hd
    by_cases hkm : k ≤ l
    · have hkz : (k : Int) < 4 := by omega
      have h1 : decide ((k : Int) ≤ (l : Int)) = true := by simpa using hkm
      have c0 := Blk.sta (x := x) (hd.blk HK.out) k (by omega)
      have HM := Lib.hid (fun W => HC.out (l - k) W (by omega))
      have esub : (l : Int) - (k : Int) = ((l - k : Nat) : Int) := by omega
      have hb := wtP_bd hx hq hl k (by omega)
      have hm := wt_mul (i := k) (l := l) hx (by omega) hq hl
      have HS := Lib.hid (show wtP l q x (k + 1) = wtP l q x k + x k * (cho q (l - k) : Int) from rfl)
      generalize cho q (l - k) = ch at *
      generalize l - k = lk at *
      have ES := Lib.hid esub
      generalize wtP l q x k = s at *
      generalize x k = xk at *
      obtain ⟨p, ep⟩ : ∃ p, xk * (ch : Int) = p := ⟨_, rfl⟩
      rw [ep] at hm HS
      clear hd
      go_wp2
      go_quiet ((go_at_call 34; exact Calls.quiet_same (HM.out _)))
      go_wp2
      go_roundw
      case rel => exact ⟨k + 1, by go_num, by omega, by rw [HS.out], HD.out.trans (Dr.of _ _)⟩
      case measure => simp [intOf]; omega
    · have h1 : decide ((k : Int) ≤ (l : Int)) = false := by simpa using hkm
      obtain rfl : k = l + 1 := by omega
      clear hd
      go_wp2
      go_ret
      exact ⟨rfl, HB.out.trans (HD.out.below.mono HB.out.size)⟩
set_option maxHeartbeats 2000000 in
theorem weightSt_any (l q : Nat) (x : Nat → Int) (w : World) (hx : Sm x) (hq : q ≤ 40) (hl : l ≤ 3) :
    Calls Try.prog 25 #[staV x, .int .i64 l, .int .i64 q] w fun e w' => e = .returned (.int .i64 (wt l q x)) ∧ Below w.heap.size w w' := by
  have F0 := (FR.start w).box (staC x) 24
  have HC := Lib.hid (fun m W h => choices_any q m W hq h)
  have HB := Lib.hid F0.below
  have HK := Lib.hid (F0.blk _ List.mem_cons_self)
  go_enter Try.func25, Try.ntmps25
  go_wp2
  clear F0
  generalize w.alloc (Obj.cells (staC x) 24) = w1 at *
  go_loopw [7, 11] (fun s j wr => ∃ k : Nat, j = .int .i64 k ∧ k ≤ l + 1 ∧ s = .int .i64 (wtP l q x k) ∧ Dr w1 wr) (fun _ j _ => 5 - (intOf j).toNat)
  case atStart => exact ⟨0, rfl, by omega, rfl, Dr.refl _⟩
  case round =>
    obtain ⟨k, rfl, hk, rfl, hd⟩ := hrel
    have HD := Lib.hid hd
    by_cases hkm : k ≤ l
    · have hkz : (k : Int) < 4 := by omega
      have h1 : (k : Int) < (l : Int) + 1 := by omega
      have c0 := Blk.sta (x := x) (hd.blk HK.out) k (by omega)
      have HM := Lib.hid (fun W => HC.out (l - k) W (by omega))
      have esub : (l : Int) - (k : Int) = ((l - k : Nat) : Int) := by omega
      have hb := wtP_bd hx hq hl k (by omega)
      have hm := wt_mul (i := k) (l := l) hx (by omega) hq hl
      have HS := Lib.hid (show wtP l q x (k + 1) = wtP l q x k + x k * (cho q (l - k) : Int) from rfl)
      generalize cho q (l - k) = ch at *
      generalize l - k = lk at *
      have ES := Lib.hid esub
      generalize wtP l q x k = s at *
      generalize x k = xk at *
      obtain ⟨p, ep⟩ : ∃ p, xk * (ch : Int) = p := ⟨_, rfl⟩
      rw [ep] at hm HS
      clear hd
      go_wp2
      go_quiet ((go_at_call 35; exact Calls.quiet_same (HM.out _)))
      go_wp2
      go_roundw
      case rel => exact ⟨k + 1, by go_num, by omega, by rw [HS.out], HD.out.trans (Dr.of _ _)⟩
      case measure => simp [intOf]; omega
    · obtain rfl : k = l + 1 := by omega
      have h1 : ¬ (((l + 1 : Nat) : Int) < (l : Int) + 1) := by omega
      clear hd
      go_wp2
      go_ret
      exact ⟨rfl, HB.out.trans (HD.out.below.mono HB.out.size)⟩
end Go.Proofs.Ytpphhacmlelpmaa
