/-
  The walks of BoundOf and its model, whole.
-/
import Derived.Test.YtgckboaejpgalaaC7
namespace Go.Proofs.Ytgckboaejpgalaa
open Go.RowKit Go.Shelf
set_option maxRecDepth 100000
set_option linter.unusedVariables false

theorem upC_length (k : Int) (nn : Bool) (m : Nat) (hk : 0 ≤ k ∧ k ≤ 2) : (upC k nn m).length = 2 * stO k m + stH k m + stL k m + (if nn = true then 1 else 0) := by
  induction m with
  | zero => unfold upC stO stH stL; cases nn <;> simp
  | succ m ih =>
    rw [upC_succ, List.length_append, ih]
    rcases k_of hk with rfl | rfl | rfl
    · simp [cOf, stO, stH, stL]; omega
    · simp [cOf, stO, stH, stL]; omega
    · simp [cOf, stO, stH, stL]; omega
noncomputable def boV (c k : Int) (n : Bool) : Nat := if okT c k = true then bnd (upC k n c.toNat).length else 0
theorem boundOf_any (c k : Int) (nn gg : Bool) (w : World) (hc : B8 c) (hk : B8 k) :
    Calls Try.prog 13 #[taskV c k nn gg] w fun e W' => e = .returned (.tuple #[.int .i64 (boV c k nn : Nat), .int .i64 (casC c k)]) ∧ Below w.heap.size w W' := by
  have F0 := (FR.start w).box #[.int .i8 c, .int .i8 k, .bool nn, .bool gg] 26
  have HV := Lib.hid (fun W => validTask_any c k nn gg W hc hk)
  clear hc hk
  cases hok : okT c k
  · rw [hok] at HV
    have H0 := Lib.hid (show boV c k nn = 0 ∧ casC c k = 1 from ⟨by unfold boV; simp [hok], (cas_f nn hok).2⟩)
    clear hok
    go_enter Try.func13, Try.ntmps13
    go_wp2_with fail
    refine (HV.out _).mono ?_
    rintro e w2 ⟨rfl, hb⟩
    have F1 := F0.next hb
    clear hb F0
    go_wp2
    go_ret2
    exact ⟨by rw [H0.out.1, H0.out.2]; rfl, F1.below⟩
  · rw [hok] at HV
    obtain ⟨hm, hk, hmc⟩ := okT_t hok
    have H0 := Lib.hid (show boV c k nn = bnd (upC k nn c.toNat).length ∧ casC c k = 0 from ⟨by unfold boV; simp [hok], (cas_t nn hok).2⟩)
    have HL := upC_len k nn c.toNat
    have hlen := upC_length k nn c.toNat hk
    have HS := Lib.hid (fun W => startOf_any c.toNat k nn gg W hm hk)
    rw [← hmc] at HS
    have h1 : stO k c.toNat ≤ 13 := by unfold stO; split <;> omega
    have h2 : stH k c.toNat ≤ 13 := by unfold stH; split <;> omega
    have h3 : stL k c.toNat ≤ 13 := by unfold stL; split <;> omega
    have HC := Lib.hid (fun G W => countCases_any (stO k c.toNat) (stH k c.toNat) (stL k c.toNat) G nn W h1 h2 h3)
    have hlz : 2 * ((stO k c.toNat : Nat) : Int) + ((stH k c.toNat : Nat) : Int) + ((stL k c.toNat : Nat) : Int) + (if nn = true then 1 else 0) = (((upC k nn c.toNat).length : Nat) : Int) := by
      rw [hlen]; cases nn <;> simp
    rw [hlz] at HC
    have HB := Lib.hid (fun W => boundFor_any (upC k nn c.toNat).length W (by omega))
    clear hm hk hmc hok hlen h1 h2 h3 hlz HL
    generalize (upC k nn c.toNat).length = N at *
    generalize maskI (stO k c.toNat) = M0 at *
    generalize maskI (stH k c.toNat) = M1 at *
    generalize maskI (stL k c.toNat) = M2 at *
    go_enter Try.func13, Try.ntmps13
    go_wp2_with fail
    refine (HV.out _).mono ?_
    rintro e w2 ⟨rfl, hb⟩
    have F1 := F0.next hb
    clear hb F0
    obtain ⟨c0, c1, c2, c3, -⟩ := (F1.blk _ List.mem_cons_self).four
    go_wp2_with fail
    refine (HS.out _).mono ?_
    rintro e w3 ⟨⟨G, rfl⟩, hb⟩
    have F2 := F1.next hb
    clear hb F1 c0 c1 c2 c3
    go_wp2_with fail
    refine (HC.out _ _).mono ?_
    rintro e w4 ⟨rfl, hb⟩
    have F3 := F2.next hb
    clear hb F2
    go_wp2_with fail
    refine (HB.out _).mono ?_
    rintro e w5 ⟨rfl, rfl⟩
    have HF := Lib.hid F3.below
    clear F3
    go_wp2
    go_ret2
    exact ⟨by rw [H0.out.1, H0.out.2]; rfl, HF.out⟩
set_option maxHeartbeats 4000000 in
theorem specBoundOf_any (c k : Int) (nn gg : Bool) (w : World) (hc : B8 c) (hk : B8 k) :
    Calls Try.prog 12 #[taskV c k nn gg] w fun e W' => e = .returned (.tuple #[.int .i64 (boV c k nn : Nat), .int .i64 (casC c k)]) ∧ Below w.heap.size w W' := by
  have F0 := (FR.start w).box #[.int .i8 c, .int .i8 k, .bool nn, .bool gg] 26
  have HV := Lib.hid (fun W => l03Ok_any c k nn gg W hc hk)
  clear hc hk
  cases hok : okT c k
  · rw [hok] at HV
    have H0 := Lib.hid (show boV c k nn = 0 ∧ casC c k = 1 from ⟨by unfold boV; simp [hok], (cas_f nn hok).2⟩)
    clear hok
    go_enter Try.func12, Try.ntmps12
    go_wp2_with fail
    refine (HV.out _).mono ?_
    rintro e w2 ⟨rfl, hb⟩
    have F1 := F0.next hb
    clear hb F0
    go_wp2
    go_ret2
    exact ⟨by rw [H0.out.1, H0.out.2]; rfl, F1.below⟩
  · rw [hok] at HV
    obtain ⟨hm, hk, hmc⟩ := okT_t hok
    have H0 := Lib.hid (show boV c k nn = bnd (upC k nn c.toNat).length ∧ casC c k = 0 from ⟨by unfold boV; simp [hok], (cas_t nn hok).2⟩)
    have HL := upC_len k nn c.toNat
    have HC := Lib.hid (fun W => show Calls Try.prog 30 #[taskV (c.toNat : Int) k nn gg] W fun e W' => ∃ a q, e = .returned (.slice a (upC k nn c.toNat).length q) ∧ Below W.heap.size W W' from (l03Cases_own c.toNat k nn gg W hm.2 hk).mono fun e w' ⟨v, he, ⟨a, q, hv, _⟩, hb⟩ => ⟨a, q, by rw [he, hv], hb⟩)
    rw [← hmc] at HC
    have HP := Lib.hid l03Power_any
    have hN : (upC k nn c.toNat).length ≤ 27 := by omega
    have HG := Lib.hid (bnd_le _ hN)
    have hb3 : bnd (upC k nn c.toNat).length ≤ 3 := by have hb : ∀ n : Fin 28, bnd n.1 ≤ 3 := by decide
                                                       exact hb ⟨_, by omega⟩
    clear hm hk hmc hok HL
    generalize (upC k nn c.toNat).length = N at *
    generalize bnd N = B at *
    go_enter Try.func12, Try.ntmps12
    go_wp2_with fail
    refine (HV.out _).mono ?_
    rintro e w2 ⟨rfl, hb⟩
    have F1 := F0.next hb
    clear hb F0
    go_wp2_with fail
    go_loopw [4] (fun jv wr => ∃ j : Nat, j ≤ B ∧ jv = .int .i64 (j : Int) ∧ FR w [(w.heap.size, #[.int .i8 c, .int .i8 k, .bool nn, .bool gg], 26)] wr) (fun jv _ => 3 - (intOf jv).toNat)
    case atStart => exact ⟨0, Nat.zero_le _, rfl, F1⟩
    case round =>
      clear F1
      obtain ⟨j, hj, rfl, F2⟩ := hrel
      have hj3 : j ≤ 3 := by omega
      have hL := Lib.hid (show 3 ^ j < N → j < B from fun h => by
        rcases Nat.lt_or_ge j B with h' | h'
        · exact h'
        · have : j = B := by omega
          rw [this] at h
          exact absurd h (by have := HG.out.1; omega))
      have hG := Lib.hid (show ¬ 3 ^ j < N → j = B from fun h => by
        rcases Nat.lt_or_ge j B with h' | h'
        · exact absurd (HG.out.2 j h') h
        · omega)
      have HPj := Lib.hid (fun W => HP.out j W hj3)
      have hp : 3 ^ j ≤ 3 ^ 3 := Nat.pow_le_pow_right (by omega) hj3
      generalize 3 ^ j = r at *
      go_wp2_with fail
      have F3 := F2.drew
      go_region_held3 (fun w' => w'.cell? ⟨w.heap.size, 0, none⟩ = some (.int .i8 c) ∧ w'.cell? ⟨w.heap.size, 1, none⟩ = some (.int .i8 k) ∧ w'.cell? ⟨w.heap.size, 2, none⟩ = some (.bool nn) ∧ w'.cell? ⟨w.heap.size, 3, none⟩ = some (.bool gg))
        (first | exact ⟨(F5.blk _ List.mem_cons_self).cell 0, (F5.blk _ List.mem_cons_self).cell 1, (F5.blk _ List.mem_cons_self).cell 2, (F5.blk _ List.mem_cons_self).cell 3⟩ | exact ⟨(F4.blk _ List.mem_cons_self).cell 0, (F4.blk _ List.mem_cons_self).cell 1, (F4.blk _ List.mem_cons_self).cell 2, (F4.blk _ List.mem_cons_self).cell 3⟩ | exact ⟨(F3.blk _ List.mem_cons_self).cell 0, (F3.blk _ List.mem_cons_self).cell 1, (F3.blk _ List.mem_cons_self).cell 2, (F3.blk _ List.mem_cons_self).cell 3⟩)
        (first
          | (go_at_call 29; with_reducible refine (Calls.fr0 F3 (HPj.out _)).mono ?_; rintro e w4 ⟨rfl, F4⟩)
          | (go_at_call 30; with_reducible refine (HC.out _).mono ?_; rintro e w5 ⟨av, cv, rfl, hb⟩; have F5 := F4.next hb))
      clear F2 F3 F4
      by_cases hlt : r < N
      · have hrz : (r : Int) < (N : Int) := by omega
        have hj2 := hL.out hlt
        have HF := Lib.hid F5
        clear hb F5
        go_wp2
        go_roundw
        case rel => exact ⟨j + 1, by omega, by go_num, HF.out⟩
        case measure => simp [intOf]; omega
      · have hrz : ¬ (r : Int) < (N : Int) := by omega
        have hj2 := Lib.hid (hG.out hlt)
        have HF := Lib.hid F5.below
        clear hb F5
        go_wp2
        go_ret2
        exact ⟨by rw [H0.out.1, H0.out.2, hj2.out]; rfl, HF.out⟩
end Go.Proofs.Ytgckboaejpgalaa
