/-
  The walks of LeastByWeight.
-/
import Derived.Test.YtpphhacmlelpmaaZ6
namespace Go.Proofs.Ytpphhacmlelpmaa
open Go.RowKit
set_option maxRecDepth 100000
set_option linter.unusedVariables false

theorem lw_bad {l : Int} {x : Nat → Int} (h : okS l x = false) : lwV l x = 0 ∧ lwC l x = 1 := by
  unfold lwV lwC; rw [h]; exact ⟨rfl, rfl⟩
theorem lw_good {l : Int} {x : Nat → Int} (h : okS l x = true) : lwV l x = (lbw l.toNat x : Int) ∧ lwC l x = 0 := by
  unfold lwV lwC; rw [h]; exact ⟨rfl, rfl⟩
theorem pow_bd {k : Nat} (h : k ≤ 16) : 0 ≤ (2 : Int) ^ k ∧ (2 : Int) ^ k ≤ 65536 := by
  have h1 := Nat.pow_le_pow_right (n := 2) (by omega) h
  have h2 : ((2 ^ k : Nat) : Int) = (2 : Int) ^ k := Int.natCast_pow 2 k
  rw [← h2]
  exact ⟨Int.natCast_nonneg _, by have := Int.ofNat_le.2 h1; exact this⟩
theorem wrap_pow {k : Nat} (h : k ≤ 16) : wrap64 ((2 : Int) ^ k) = (2 : Int) ^ k := by
  have := pow_bd h
  generalize (2 : Int) ^ k = p at *
  unfold wrap64
  omega
theorem enough_lt {l q : Nat} {x : Nat → Int} (hq : q ≤ 16) (h : enough l q x = false) : decide (wrap64 ((2 : Int) ^ q) < wt l q x) = true := by
  rw [wrap_pow hq]
  have := not_cb h
  exact decide_eq_true (by omega)
theorem enough_ge {l q : Nat} {x : Nat → Int} (hq : q ≤ 16) (h : enough l q x = true) : decide (wrap64 ((2 : Int) ^ q) < wt l q x) = false := by
  rw [wrap_pow hq]
  have := of_cb h
  exact decide_eq_false (by omega)
set_option maxHeartbeats 2000000 in
theorem specLeastByWeight_any (l : Int) (x : Nat → Int) (w : World) (hl : I64 l) (hx : S4 x) :
    Calls Try.prog 13 #[.int .i64 l, staV x] w fun e w' => e = .returned (.tuple #[.int .i64 (lwV l x), .int .i64 (lwC l x)]) ∧ Below w.heap.size w w' := by
  have F0 := (FR.start w).box (staC x) 24
  have HV := Lib.hid (fun W => l06Valid_any l x W hl hx)
  obtain ⟨c0, c1, c2, c3, -⟩ := (F0.blk _ List.mem_cons_self).four
  cases h : okS l x
  · obtain ⟨e1, e2⟩ := lw_bad h
    rw [h] at HV
    rw [e1, e2]
    clear e1 e2 h hx
    go_enter Try.func13, Try.ntmps13
    go_wp2_with fail
    refine (HV.out _).mono ?_
    rintro e w2 ⟨rfl, hb⟩
    have HF := Lib.hid (F0.next hb).below
    clear hb F0 c0 c1 c2 c3
    go_wp2
    go_ret2
    exact ⟨rfl, HF.out⟩
  obtain ⟨e1, e2⟩ := lw_good h
  rw [e1, e2]
  have HO := Lib.hid (okS_t h)
  have h3 := (okS_t h).1
  obtain ⟨ln, rfl⟩ := Int.eq_ofNat_of_zero_le h3.1
  have HW := Lib.hid (fun qn W (hq : qn ≤ 40) => l06Weight_any ln qn x W HO.out.sm hq (by omega))
  rw [h] at HV
  rw [show ((ln : Int).toNat) = ln from rfl]
  clear e1 e2 h hx hl
  go_enter Try.func13, Try.ntmps13
  go_wp2_with fail
  refine (HV.out _).mono ?_
  rintro e w2 ⟨rfl, hb⟩
  have F1 := F0.next hb
  clear hb F0 c0 c1 c2 c3
  go_wp2
  go_loopw [6] (fun j wr => ∃ k : Nat, j = .int .i64 k ∧ k ≤ 16 ∧ (∀ i, i < k → enough ln i x = false) ∧ FR w [(w.heap.size, staC x, 24)] wr) (fun j _ => 17 - (intOf j).toNat)
  case atStart => exact ⟨0, rfl, by omega, fun i hi => absurd hi (by omega), F1⟩
  case round =>
    obtain ⟨k, rfl, hk, hn, hF⟩ := hrel
    have HN := Lib.hid hn
    have HM := Lib.hid (fun W => HW.out k W (by omega))
    obtain ⟨c0, c1, c2, c3, -⟩ := (hF.blk _ List.mem_cons_self).four
    clear hn
    cases he : enough ln k x
    · have HE := Lib.hid he
      have hlt : k < 16 := by
        rcases Nat.lt_or_ge k 16 with h | h
        · exact h
        · obtain rfl : k = 16 := by omega
          rw [wt_16 HO.out] at he; cases he
      have h1 := enough_lt hk he
      generalize wt ln k x = r at *
      clear he
      go_wp2_with fail
      refine (HM.out _).mono ?_
      rintro e w3 ⟨rfl, hb⟩
      have HF := Lib.hid (hF.next hb)
      clear hb hF c0 c1 c2 c3
      go_wp2
      go_roundw
      case rel => exact ⟨k + 1, by go_num, by omega, fun i hi => by
        by_cases e : i = k
        · subst e; exact HE.out
        · exact HN.out i (by omega), HF.out⟩
      case measure => simp [intOf]; omega
    · have h1 := enough_ge hk he
      have HR := Lib.hid (lbw_is hk he HN.out)
      generalize wt ln k x = r at *
      clear he
      go_wp2_with fail
      refine (HM.out _).mono ?_
      rintro e w3 ⟨rfl, hb⟩
      have HF := Lib.hid (hF.next hb).below
      clear hb hF c0 c1 c2 c3
      go_wp2
      go_ret2
      exact ⟨by rw [HR.out]; rfl, HF.out⟩
set_option maxHeartbeats 2000000 in
theorem leastByW_any (ln : Nat) (x : Nat → Int) (w : World) (h : OkS ln x) :
    Calls Try.prog 26 #[staV x, .int .i64 ln] w fun e w' => e = .returned (.int .i64 (lbw ln x)) ∧ Below w.heap.size w w' := by
  have F0 := (FR.start w).box (staC x) 24
  have HO := Lib.hid h
  have h3 := h.1
  have HW := Lib.hid (fun qn W (hq : qn ≤ 40) => weightSt_any ln qn x W HO.out.sm hq (by omega))
  clear h
  go_enter Try.func26, Try.ntmps26
  go_wp2
  go_loopw [5] (fun j wr => ∃ k : Nat, j = .int .i64 k ∧ k ≤ 16 ∧ (∀ i, i < k → enough ln i x = false) ∧ FR w [(w.heap.size, staC x, 24)] wr) (fun j _ => 17 - (intOf j).toNat)
  case atStart => exact ⟨0, rfl, by omega, fun i hi => absurd hi (by omega), F0⟩
  case round =>
    obtain ⟨k, rfl, hk, hn, hF⟩ := hrel
    have HN := Lib.hid hn
    have HM := Lib.hid (fun W => HW.out k W (by omega))
    have F1 := hF.drew
    clear hn F0
    cases he : enough ln k x
    · have HE := Lib.hid he
      have hlt : k < 16 := by
        rcases Nat.lt_or_ge k 16 with h | h
        · exact h
        · obtain rfl : k = 16 := by omega
          rw [wt_16 HO.out] at he; cases he
      have h1 := enough_lt hk he
      have h2 : decide (IntKind.i64.wrap ((2 : Int) ^ k) < wt ln k x) = true := by rw [IntWalk.i64_left]; exact h1
      generalize wt ln k x = r at *
      clear he
      go_wp2_with fail
      go_region_held3 (fun w' => w'.cell? ⟨w.heap.size, 0, none⟩ = some (.int .i64 (x 0)) ∧ w'.cell? ⟨w.heap.size, 1, none⟩ = some (.int .i64 (x 1)) ∧ w'.cell? ⟨w.heap.size, 2, none⟩ = some (.int .i64 (x 2)) ∧ w'.cell? ⟨w.heap.size, 3, none⟩ = some (.int .i64 (x 3)))
        (first | exact ⟨(F4.blk _ List.mem_cons_self).cell 0, (F4.blk _ List.mem_cons_self).cell 1, (F4.blk _ List.mem_cons_self).cell 2, (F4.blk _ List.mem_cons_self).cell 3⟩ | exact ⟨(F1.blk _ List.mem_cons_self).cell 0, (F1.blk _ List.mem_cons_self).cell 1, (F1.blk _ List.mem_cons_self).cell 2, (F1.blk _ List.mem_cons_self).cell 3⟩)
        (first | (go_at_call 25; with_reducible refine (Calls.fr F1 (HM.out _)).mono ?_; rintro e w4 ⟨rfl, F4⟩))
      have HF := Lib.hid F4
      clear F1 F4
      go_wp2
      go_roundw
      case rel => exact ⟨k + 1, by go_num, by omega, fun i hi => by
        by_cases e : i = k
        · subst e; exact HE.out
        · exact HN.out i (by omega), HF.out⟩
      case measure => simp [intOf]; omega
    · have h1 := enough_ge hk he
      have h2 : decide (IntKind.i64.wrap ((2 : Int) ^ k) < wt ln k x) = false := by rw [IntWalk.i64_left]; exact h1
      have HR := Lib.hid (lbw_is hk he HN.out)
      generalize wt ln k x = r at *
      clear he
      go_wp2_with fail
      go_region_held3 (fun w' => w'.cell? ⟨w.heap.size, 0, none⟩ = some (.int .i64 (x 0)) ∧ w'.cell? ⟨w.heap.size, 1, none⟩ = some (.int .i64 (x 1)) ∧ w'.cell? ⟨w.heap.size, 2, none⟩ = some (.int .i64 (x 2)) ∧ w'.cell? ⟨w.heap.size, 3, none⟩ = some (.int .i64 (x 3)))
        (first | exact ⟨(F4.blk _ List.mem_cons_self).cell 0, (F4.blk _ List.mem_cons_self).cell 1, (F4.blk _ List.mem_cons_self).cell 2, (F4.blk _ List.mem_cons_self).cell 3⟩ | exact ⟨(F1.blk _ List.mem_cons_self).cell 0, (F1.blk _ List.mem_cons_self).cell 1, (F1.blk _ List.mem_cons_self).cell 2, (F1.blk _ List.mem_cons_self).cell 3⟩)
        (first | (go_at_call 25; with_reducible refine (Calls.fr F1 (HM.out _)).mono ?_; rintro e w4 ⟨rfl, F4⟩))
      have HF := Lib.hid F4.below
      clear F1 F4
      go_wp2
      go_ret
      exact ⟨by rw [HR.out]; rfl, HF.out⟩
set_option maxHeartbeats 2000000 in
theorem leastByWeight_any (l : Int) (x : Nat → Int) (w : World) (hl : I64 l) (hx : S4 x) :
    Calls Try.prog 14 #[.int .i64 l, staV x] w fun e w' => e = .returned (.tuple #[.int .i64 (lwV l x), .int .i64 (lwC l x)]) ∧ Below w.heap.size w w' := by
  have F0 := (FR.start w).box (staC x) 24
  have HV := Lib.hid (fun W => validState_any l x W hl hx)
  obtain ⟨c0, c1, c2, c3, -⟩ := (F0.blk _ List.mem_cons_self).four
  cases h : okS l x
  · obtain ⟨e1, e2⟩ := lw_bad h
    rw [h] at HV
    rw [e1, e2]
    clear e1 e2 h hx
    go_enter Try.func14, Try.ntmps14
    go_wp2_with fail
    refine (HV.out _).mono ?_
    rintro e w2 ⟨rfl, hb⟩
    have HF := Lib.hid (F0.next hb).below
    clear hb F0 c0 c1 c2 c3
    go_wp2
    go_ret2
    exact ⟨rfl, HF.out⟩
  obtain ⟨e1, e2⟩ := lw_good h
  rw [e1, e2]
  have h3 := (okS_t h).1
  obtain ⟨ln, rfl⟩ := Int.eq_ofNat_of_zero_le h3.1
  have HW := Lib.hid (fun W => leastByW_any ln x W (okS_t h))
  rw [h] at HV
  rw [show ((ln : Int).toNat) = ln from rfl]
  generalize lbw ln x = r at *
  clear e1 e2 h hx hl
  go_enter Try.func14, Try.ntmps14
  go_wp2_with fail
  refine (HV.out _).mono ?_
  rintro e w2 ⟨rfl, hb⟩
  have F1 := F0.next hb
  clear hb F0 c0 c1 c2 c3
  obtain ⟨c0, c1, c2, c3, -⟩ := (F1.blk _ List.mem_cons_self).four
  go_wp2_with fail
  refine (HW.out _).mono ?_
  rintro e w3 ⟨rfl, hb⟩
  have HF := Lib.hid (F1.next hb).below
  clear hb F1 c0 c1 c2 c3
  go_wp2
  go_ret2
  exact ⟨rfl, HF.out⟩
end Go.Proofs.Ytpphhacmlelpmaa
