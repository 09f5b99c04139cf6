/-
  Bits of a set; whether a game is valid.
-/
import Derived.Test.YtijaghkbmgkjnaaDoorZ3
namespace Go.Proofs.YtijaghkbmgkjnaaDoor
open Go.RowKit
set_option maxRecDepth 100000
set_option linter.unusedVariables false

abbrev bw (x : Int) : BitVec 64 := BitVec.ofInt 64 x
theorem wrap_bw (b : BitVec 64) : IntKind.u64.wrap (b.toNat : Int) = (b.toNat : Int) := by
  have := b.isLt
  rw [IntKind.wrap_u64]; omega
theorem bits64_andNot (x y : Int) : bits .andNot .u64 x y = ((bw x &&& ~~~bw y).toNat : Int) := wrap_bw _
theorem bits64_and (x y : Int) : bits .and .u64 x y = ((bw x &&& bw y).toNat : Int) := wrap_bw _
theorem bits64_or (x y : Int) : bits .or .u64 x y = ((bw x ||| bw y).toNat : Int) := wrap_bw _
theorem full_eq : ∀ l, l < 61 → (18446744073709551615 : Int) / 2 ^ (64 - l) = ((2 ^ l - 1 : Nat) : Int) := by decide +kernel
theorem bw_nat (n : Nat) : bw (n : Int) = BitVec.ofNat 64 n := by
  simp [bw]
theorem lsb (s t i : Nat) (hi : i < 64) : (BitVec.ofNat 64 s &&& ~~~BitVec.ofNat 64 t).getLsbD i = (s.testBit i && !t.testBit i) := by
  simp only [BitVec.getLsbD_and, BitVec.getLsbD_not, BitVec.getLsbD_ofNat, hi, decide_true, Bool.true_and]
theorem set_eq (s l : Nat) (hs : s < 2 ^ 64) (hl : l ≤ 60) : (bits .andNot .u64 (s : Int) ((2 ^ l - 1 : Nat) : Int) = 0) ↔ (s / 2 ^ l = 0) := by
  rw [bits64_andNot, bw_nat, bw_nat]
  have h2 : (s / 2 ^ l = 0) ↔ ∀ i, l ≤ i → s.testBit i = false := by
    rw [Nat.div_eq_zero_iff]
    constructor
    · rintro (h | h) i hi
      · exact absurd h (Nat.ne_of_gt (Nat.two_pow_pos l))
      · exact Nat.testBit_lt_two_pow (Nat.lt_of_lt_of_le h (Nat.pow_le_pow_right (by omega) hi))
    · intro h
      exact .inr (Nat.lt_pow_two_of_testBit s h)
  rw [h2]
  constructor
  · intro h i hi
    have h0 : (BitVec.ofNat 64 s &&& ~~~BitVec.ofNat 64 (2 ^ l - 1)) = 0 := by
      apply BitVec.eq_of_toNat_eq
      exact Int.ofNat.inj h
    by_cases hi64 : i < 64
    · have h3 := congrArg (fun b => b.getLsbD i) h0
      have h4 : (s.testBit i && !(2 ^ l - 1).testBit i) = false := (lsb s _ i hi64).symm.trans (h3.trans (by simp))
      rw [Nat.testBit_two_pow_sub_one, decide_eq_false (show ¬ i < l by omega)] at h4
      simpa using h4
    · exact Nat.testBit_lt_two_pow (Nat.lt_of_lt_of_le hs (Nat.pow_le_pow_right (by omega) (by omega)))
  · intro h
    have h0 : (BitVec.ofNat 64 s &&& ~~~BitVec.ofNat 64 (2 ^ l - 1)) = 0 := by
      apply BitVec.eq_of_getLsbD_eq
      intro i hi
      rw [lsb s _ i hi, Nat.testBit_two_pow_sub_one]
      rcases Nat.lt_or_ge i l with h' | h'
      · rw [decide_eq_true h']; simp
      · rw [h i h']; simp
    rw [h0]; rfl
/-- All numbers of a set are numbers of a game of l numbers. -/
def inSet (l s : Int) : Bool := s / 2 ^ l.toNat == 0
theorem model_set (l s : Int) (hs : U64 s) (hl : 1 ≤ l ∧ l ≤ 60) : (bits .andNot .u64 s (18446744073709551615 / 2 ^ (64 - l).toNat) == 0) = inSet l s := by
  obtain ⟨m, rfl⟩ := Int.eq_ofNat_of_zero_le (show 0 ≤ l by omega)
  obtain ⟨n, rfl⟩ := Int.eq_ofNat_of_zero_le hs.1
  have hn := hs.2
  rw [show (64 - (m : Int)).toNat = 64 - m by omega, full_eq m (by omega)]
  unfold inSet
  rw [show ((m : Int).toNat) = m from rfl]
  have e : ((n : Int) / 2 ^ m) = ((n / 2 ^ m : Nat) : Int) := by rw [Int.natCast_ediv, Int.natCast_pow]; rfl
  rw [e, Bool.eq_iff_iff, beq_iff_eq, beq_iff_eq, set_eq n m (by omega) (by omega)]
  omega
/-- A set has a number. -/
def hasB (s n : Int) : Bool := bits .and .u64 (s / 2 ^ min (IntKind.u64.wrap n).toNat 64) 1 == 1
def bitN (s : Int) (k : Nat) : Bool := bits .and .u64 (s / 2 ^ k) 1 == 1
theorem has_nat (s : Int) (k : Nat) (hk : k ≤ 63) : hasB s (k : Int) = bitN s k := by
  unfold hasB bitN
  rw [IntKind.wrap_u64, show min ((k : Int) % 18446744073709551616).toNat 64 = k by omega]
theorem has_off (s n : Int) (hs : U64 s) (hn : -9223372036854775808 ≤ n ∧ n ≤ 9223372036854775807) (h : ¬ (0 ≤ n ∧ n ≤ 63)) : hasB s n = false := by
  unfold hasB
  rw [IntKind.wrap_u64, show min (n % 18446744073709551616).toNat 64 = 64 by omega]
  have : s / 2 ^ 64 = 0 := by unfold U64 at hs; omega
  rw [this]
  rfl
theorem and63 (k : Nat) (hk : k ≤ 63) : bits .and .i64 (k : Int) 63 = k := by
  have : ∀ k : Nat, k < 64 → bits .and .i64 (k : Int) 63 = k := by decide +kernel
  exact this k (by omega)
theorem has_any (s n : Int) (w : World) (hs : U64 s) (hn : -9223372036854775808 ≤ n ∧ n ≤ 9223372036854775807) :
    Calls Tryd.prog 38 #[.int .u64 s, .int .i64 n] w fun e w' => e = .returned (.bool (hasB s n)) ∧ w = w' := by
  go_enter Tryd.func38, Tryd.ntmps38
  go_wp2
  go_ret
  exact ⟨rfl, rfl⟩
theorem hasSet_any (l k : Int) (a : Option Addr) (n c : Nat) (s : Int) (w : World) (hs : U64 s) (hl : 1 ≤ l ∧ l ≤ 60) :
    Calls Tryd.prog 25 #[gamV l k a n c, .int .u64 s] w fun e w' => e = .returned (.bool (inSet l s)) ∧ Below w.heap.size w w' := by
  have HB := Lib.hid ((FR.start w).box #[.int .i8 l, .int .i8 k, .slice a n c] 31).below
  go_enter Tryd.func25, Tryd.ntmps25
  go_wp2
  go_ret
  exact ⟨rfl, HB.out⟩
/-- What the model takes for all numbers of a game. -/
def fullZ (l : Int) : Int := 18446744073709551615 / 2 ^ (64 - l).toNat
theorem full_any (l : Int) (w : World) (hn : 1 ≤ l ∧ l ≤ 60) :
    Calls Tryd.prog 19 #[.int .i64 l] w fun e w' => e = .returned (.int .u64 (fullZ l)) ∧ w = w' := by
  go_enter Tryd.func19, Tryd.ntmps19
  go_wp2
  go_ret
  exact ⟨rfl, rfl⟩
theorem l06Begin_any (l k : Int) (w : World) :
    Calls Tryd.prog 18 #[.int .i64 l, .int .i64 k] w fun e w' => e = .returned (.bool (inB l 1 60 && inB k 0 3)) ∧ w = w' := by
  have H1 := Lib.hid (fun W => l00In_any l 1 60 W)
  have H2 := Lib.hid (fun W => l00In_any k 0 3 W)
  generalize inB k 0 3 = r at *
  generalize inB l 1 60 = q at *
  cases q
  · go_enter Tryd.func18, Tryd.ntmps18
    go_wp2_with fail
    refine (H1.out _).mono ?_
    rintro e w2 ⟨rfl, rfl⟩
    go_wp2
    go_ret
    exact ⟨rfl, rfl⟩
  · go_enter Tryd.func18, Tryd.ntmps18
    go_wp2_with fail
    refine (H1.out _).mono ?_
    rintro e w2 ⟨rfl, rfl⟩
    go_wp2_with fail
    refine (H2.out _).mono ?_
    rintro e w2 ⟨rfl, rfl⟩
    go_wp2
    go_ret
    exact ⟨retb (by simp), rfl⟩
end Go.Proofs.YtijaghkbmgkjnaaDoor
