/-
  The walks of BoundOf and its model.
-/
import Derived.Test.YtgckboaejpgalaaOnes
namespace Go.Proofs.Ytgckboaejpgalaa
open Go.RowKit Go.Shelf
set_option maxRecDepth 100000
set_option linter.unusedVariables false

/-- The value of what is known of coins. -/
abbrev knownV (o h l g : Int) (n : Bool) : Value := .agg #[.int .u16 o, .int .u16 h, .int .u16 l, .int .u16 g, .bool n]
theorem maskI_w (m : Nat) (hm : m ≤ 13) : IntKind.u16.wrap (IntKind.u16.wrap (2 ^ m) - 1) = maskI m := by
  match m, hm with
  | 0, _ => rfl
  | 1, _ => rfl
  | 2, _ => rfl
  | 3, _ => rfl
  | 4, _ => rfl
  | 5, _ => rfl
  | 6, _ => rfl
  | 7, _ => rfl
  | 8, _ => rfl
  | 9, _ => rfl
  | 10, _ => rfl
  | 11, _ => rfl
  | 12, _ => rfl
  | 13, _ => rfl
/-- How many open, heavy and light coins there are at the beginning. -/
def stO (k : Int) (m : Nat) : Nat := if k = 2 then m else 0
def stH (k : Int) (m : Nat) : Nat := if k = 0 then m else 0
def stL (k : Int) (m : Nat) : Nat := if k = 1 then m else 0
theorem startOf_any (m : Nat) (k : Int) (nn gg : Bool) (w : World) (hm : 1 ≤ m ∧ m ≤ 13) (hk : 0 ≤ k ∧ k ≤ 2) :
    Calls Try.prog 32 #[taskV m k nn gg] w fun e W' => (∃ G, e = .returned (knownV (maskI (stO k m)) (maskI (stH k m)) (maskI (stL k m)) G nn)) ∧ Below w.heap.size w W' := by
  have hm8 : (m : Int) ≤ 13 := by omega
  have hM := Lib.hid (maskI_w m hm.2)
  have hB := fun (c1 c2 c3 : Obj) => Lib.hid ((((Below.refl w.heap.size w).alloc (Nat.le_refl _) c1).alloc (by simp) c2).alloc (by simp; omega) c3)
  rcases k_of hk with rfl | rfl | rfl
  · have hM0 := Lib.hid (show stO 0 m = 0 ∧ stH 0 m = m ∧ stL 0 m = 0 from ⟨rfl, rfl, rfl⟩)
    have e1 : ((0 : Int) == 0) = true := rfl
    cases gg
    · go_enter Try.func32, Try.ntmps32
      go_wp2
      exact bodyPost_ret (v := knownV 0 (IntKind.u16.wrap (IntKind.u16.wrap (2 ^ m) - 1)) 0 0 nn) (by simp [results, Try.results32, go_sem]) rfl ⟨⟨_, by rw [hM.out, hM0.out.1, hM0.out.2.1, hM0.out.2.2]; rfl⟩, (hB _ _ _).out⟩
    · go_enter Try.func32, Try.ntmps32
      go_wp2
      exact bodyPost_ret (v := knownV 0 (IntKind.u16.wrap (IntKind.u16.wrap (2 ^ m) - 1)) 0 (IntKind.u16.wrap (2 ^ m)) nn) (by simp [results, Try.results32, go_sem]) rfl ⟨⟨_, by rw [hM.out, hM0.out.1, hM0.out.2.1, hM0.out.2.2]; rfl⟩, (hB _ _ _).out⟩
  · have hM0 := Lib.hid (show stO 1 m = 0 ∧ stH 1 m = 0 ∧ stL 1 m = m from ⟨rfl, rfl, rfl⟩)
    have e1 : ((1 : Int) == 0) = false := rfl
    have e2 : ((1 : Int) == 1) = true := rfl
    cases gg
    · go_enter Try.func32, Try.ntmps32
      go_wp2
      exact bodyPost_ret (v := knownV 0 0 (IntKind.u16.wrap (IntKind.u16.wrap (2 ^ m) - 1)) 0 nn) (by simp [results, Try.results32, go_sem]) rfl ⟨⟨_, by rw [hM.out, hM0.out.1, hM0.out.2.1, hM0.out.2.2]; rfl⟩, (hB _ _ _).out⟩
    · go_enter Try.func32, Try.ntmps32
      go_wp2
      exact bodyPost_ret (v := knownV 0 0 (IntKind.u16.wrap (IntKind.u16.wrap (2 ^ m) - 1)) (IntKind.u16.wrap (2 ^ m)) nn) (by simp [results, Try.results32, go_sem]) rfl ⟨⟨_, by rw [hM.out, hM0.out.1, hM0.out.2.1, hM0.out.2.2]; rfl⟩, (hB _ _ _).out⟩
  · have hM0 := Lib.hid (show stO 2 m = m ∧ stH 2 m = 0 ∧ stL 2 m = 0 from ⟨rfl, rfl, rfl⟩)
    have e1 : ((2 : Int) == 0) = false := rfl
    have e2 : ((2 : Int) == 1) = false := rfl
    cases gg
    · go_enter Try.func32, Try.ntmps32
      go_wp2
      exact bodyPost_ret (v := knownV (IntKind.u16.wrap (IntKind.u16.wrap (2 ^ m) - 1)) 0 0 0 nn) (by simp [results, Try.results32, go_sem]) rfl ⟨⟨_, by rw [hM.out, hM0.out.1, hM0.out.2.1, hM0.out.2.2]; rfl⟩, (hB _ _ _).out⟩
    · go_enter Try.func32, Try.ntmps32
      go_wp2
      exact bodyPost_ret (v := knownV (IntKind.u16.wrap (IntKind.u16.wrap (2 ^ m) - 1)) 0 0 (IntKind.u16.wrap (2 ^ m)) nn) (by simp [results, Try.results32, go_sem]) rfl ⟨⟨_, by rw [hM.out, hM0.out.1, hM0.out.2.1, hM0.out.2.2]; rfl⟩, (hB _ _ _).out⟩
set_option maxHeartbeats 2000000 in
theorem countCases_any (a b c : Nat) (G : Int) (nn : Bool) (w : World) (ha : a ≤ 13) (hb : b ≤ 13) (hc : c ≤ 13) :
    Calls Try.prog 33 #[knownV (maskI a) (maskI b) (maskI c) G nn] w fun e W' => e = .returned (.int .i64 (2 * (a : Int) + b + c + (if nn = true then 1 else 0))) ∧ Below w.heap.size w W' := by
  have HB := Lib.hid ((Below.refl w.heap.size w).alloc (Nat.le_refl _) (.cells #[.int .u16 (maskI a), .int .u16 (maskI b), .int .u16 (maskI c), .int .u16 G, .bool nn] 55))
  have HA := Lib.hid (fun W => ones_mask a ha W)
  have HBm := Lib.hid (fun W => ones_mask b hb W)
  have HC := Lib.hid (fun W => ones_mask c hc W)
  have haz : (a : Int) ≤ 13 := by omega
  have hbz : (b : Int) ≤ 13 := by omega
  have hcz : (c : Int) ≤ 13 := by omega
  generalize maskI a = ma at *
  generalize maskI b = mb at *
  generalize maskI c = mc at *
  cases nn
  · go_enter Try.func33, Try.ntmps33
    go_wp2
    go_quiet ((first | (go_at_call 45; with_reducible exact Calls.quiet_dr (HA.out _)) | (go_at_call 45; with_reducible exact Calls.quiet_dr (HBm.out _)) | (go_at_call 45; with_reducible exact Calls.quiet_dr (HC.out _))))
    go_wp2
    go_ret
    exact ⟨by simp, below_drewN HB.out _⟩
  · go_enter Try.func33, Try.ntmps33
    go_wp2
    go_quiet ((first | (go_at_call 45; with_reducible exact Calls.quiet_dr (HA.out _)) | (go_at_call 45; with_reducible exact Calls.quiet_dr (HBm.out _)) | (go_at_call 45; with_reducible exact Calls.quiet_dr (HC.out _))))
    go_wp2
    go_ret
    exact ⟨by simp, below_drewN HB.out _⟩
/-- The least power of 3 that is at least so many cases. -/
def bndF (n : Nat) : Nat → Nat → Nat → Nat
  | 0, k, _ => k
  | f + 1, k, r => if r < n then bndF n f (k + 1) (r * 3) else k
def bnd (n : Nat) : Nat := bndF n 4 0 1
theorem bnd_le (n : Nat) (hn : n ≤ 27) : n ≤ 3 ^ bnd n ∧ ∀ j, j < bnd n → 3 ^ j < n := by
  have : ∀ n : Fin 28, n.1 ≤ 3 ^ bnd n.1 ∧ ∀ j : Fin 10, j.1 < bnd n.1 → 3 ^ j.1 < n.1 := by decide
  have hb : ∀ n : Fin 28, bnd n.1 ≤ 3 := by decide
  have h := this ⟨n, by omega⟩
  exact ⟨h.1, fun j hj => h.2 ⟨j, by have := hb ⟨n, by omega⟩; simp at this; omega⟩ hj⟩
theorem boundFor_any (n : Nat) (w : World) (hn : n ≤ 27) :
    Calls Try.prog 31 #[.int .i64 (n : Int)] w fun e W' => e = .returned (.int .i64 (bnd n : Int)) ∧ w = W' := by
  have hnz : (n : Int) ≤ 27 := by omega
  have HL := Lib.hid (bnd_le n hn)
  have hb3 : bnd n ≤ 3 := by have hb : ∀ n : Fin 28, bnd n.1 ≤ 3 := by decide
                             exact hb ⟨n, by omega⟩
  go_enter Try.func31, Try.ntmps31
  go_wp2
  go_loop [3, 4] (fun b r => ∃ j : Nat, j ≤ bnd n ∧ b = .int .i64 (j : Int) ∧ r = .int .i64 ((3 ^ j : Nat) : Int)) (fun b _ => 3 - (intOf b).toNat)
  case atStart => exact ⟨0, Nat.zero_le _, rfl, rfl⟩
  case round =>
    obtain ⟨j, hj, rfl, rfl⟩ := hrel
    have hp : 3 ^ j ≤ 3 ^ 3 := Nat.pow_le_pow_right (by omega) (by omega)
    have hs := Lib.hid (show 3 ^ (j + 1) = 3 ^ j * 3 from Nat.pow_succ 3 j)
    have hL := Lib.hid (show 3 ^ j < n → j < bnd n from fun h => by
      rcases Nat.lt_or_ge j (bnd n) with h' | h'
      · exact h'
      · have : j = bnd n := by omega
        rw [this] at h
        exact absurd h (by have := HL.out.1; omega))
    have hG := Lib.hid (show ¬ 3 ^ j < n → j = bnd n from fun h => by
      rcases Nat.lt_or_ge j (bnd n) with h' | h'
      · exact absurd (HL.out.2 j h') h
      · omega)
    generalize 3 ^ j = r at *
    by_cases hlt : r < n
    · have hj2 := hL.out hlt
      have hr : (r : Int) < (n : Int) := by omega
      have hr2 : (r : Int) ≤ 27 := by omega
      go_wp2
      go_round
      case rel => exact ⟨j + 1, by omega, by go_num, by rw [hs.out]; go_num⟩
      case measure => simp [intOf]; omega
    · have hr : ¬ (r : Int) < (n : Int) := by omega
      have HJ := Lib.hid (hG.out hlt)
      go_wp2
      go_ret
      exact ⟨reti (by rw [HJ.out]), rfl⟩
theorem l03Power_any (j : Nat) (w : World) (hj : j ≤ 3) :
    Calls Try.prog 29 #[.int .i64 (j : Int)] w fun e W' => e = .returned (.int .i64 ((3 ^ j : Nat) : Int)) ∧ w = W' := by
  go_enter Try.func29, Try.ntmps29
  go_wp2
  go_loop [0, 3] (fun a r => ∃ i : Nat, i ≤ j ∧ a = .int .i64 ((j - i : Nat) : Int) ∧ r = .int .i64 ((3 ^ i : Nat) : Int)) (fun a _ => (intOf a).toNat)
  case atStart => exact ⟨0, Nat.zero_le _, rfl, rfl⟩
  case round =>
    obtain ⟨i, hi, rfl, rfl⟩ := hrel
    have hp : 3 ^ i ≤ 3 ^ 3 := Nat.pow_le_pow_right (by omega) (by omega)
    have hs := Lib.hid (show 3 ^ (i + 1) = 3 ^ i * 3 from Nat.pow_succ 3 i)
    by_cases hlt : i < j
    · obtain ⟨d, hd⟩ : ∃ d, j - i = d + 1 := ⟨j - i - 1, by omega⟩
      have HD := Lib.hid (show j - (i + 1) = d by omega)
      have hd3 : (d : Int) ≤ 3 := by omega
      rw [hd]
      clear hd
      generalize 3 ^ i = r at *
      have hr2 : (r : Int) ≤ 27 := by omega
      go_wp2
      go_round
      case rel => exact ⟨i + 1, by omega, by rw [HD.out], by rw [hs.out]; try go_num⟩
      case measure => simp [intOf]
    · have HJ := Lib.hid (show i = j by omega)
      rw [show j - i = 0 by omega]
      generalize hgr : 3 ^ i = r at *
      have HR := Lib.hid hgr
      clear hgr
      go_wp2
      go_ret
      exact ⟨reti (by rw [← HR.out, HJ.out]; simp), rfl⟩
end Go.Proofs.Ytgckboaejpgalaa
