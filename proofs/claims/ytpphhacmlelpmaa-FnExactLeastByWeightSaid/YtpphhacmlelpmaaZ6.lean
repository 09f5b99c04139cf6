/-
  The walks of WeightOf and LeastByWeight.
-/
import Derived.Test.YtpphhacmlelpmaaZ5
import Derived.Deep.RegionHeld3
namespace Go.Proofs.Ytpphhacmlelpmaa
open Go.RowKit
set_option maxRecDepth 100000
set_option linter.unusedVariables false

noncomputable def woC (l q : Int) (x : Nat → Int) : Int := if okS l x = true then (if 0 ≤ q ∧ q ≤ 40 then 0 else 2) else 1
noncomputable def woV (l q : Int) (x : Nat → Int) : Int := if okS l x = true then (if 0 ≤ q ∧ q ≤ 40 then wt l.toNat q.toNat x else 0) else 0
theorem wo_bad {l q : Int} {x : Nat → Int} (h : okS l x = false) : woV l q x = 0 ∧ woC l q x = 1 := by
  unfold woV woC; rw [h]; exact ⟨rfl, rfl⟩
theorem wo_far {l q : Int} {x : Nat → Int} (h : okS l x = true) (h2 : ¬ (0 ≤ q ∧ q ≤ 40)) : woV l q x = 0 ∧ woC l q x = 2 := by
  unfold woV woC; rw [h, if_pos rfl, if_pos rfl, if_neg h2, if_neg h2]; exact ⟨rfl, rfl⟩
theorem wo_good {l q : Int} {x : Nat → Int} (h : okS l x = true) (h2 : 0 ≤ q ∧ q ≤ 40) : woV l q x = wt l.toNat q.toNat x ∧ woC l q x = 0 := by
  unfold woV woC; rw [h, if_pos rfl, if_pos rfl, if_pos h2, if_pos h2]; exact ⟨rfl, rfl⟩
set_option maxHeartbeats 2000000 in
theorem specWeightOf_any (l : Int) (x : Nat → Int) (q : Int) (w : World) (hl : I64 l) (hx : S4 x) (hq : I64 q) :
    Calls Try.prog 11 #[.int .i64 l, staV x, .int .i64 q] w fun e w' => e = .returned (.tuple #[.int .i64 (woV l q x), .int .i64 (woC l q x)]) ∧ Below w.heap.size w w' := by
  have F0 := (FR.start w).box (staC x) 24
  have HV := Lib.hid (fun W => l06Valid_any l x W hl hx)
  have HI := Lib.hid (fun W => l00In_any q 0 40 W)
  obtain ⟨c0, c1, c2, c3, -⟩ := (F0.blk _ List.mem_cons_self).four
  cases h : okS l x
  · obtain ⟨e1, e2⟩ := wo_bad (q := q) h
    rw [h] at HV
    rw [e1, e2]
    clear e1 e2 h hx
    go_enter Try.func11, Try.ntmps11
    go_wp2_with fail
    refine (HV.out _).mono ?_
    rintro e w2 ⟨rfl, hb⟩
    have HF := Lib.hid (F0.next hb).below
    clear hb F0 c0 c1 c2 c3
    go_wp2
    go_ret2
    exact ⟨rfl, HF.out⟩
  by_cases h2 : 0 ≤ q ∧ q ≤ 40
  case neg =>
    obtain ⟨e1, e2⟩ := wo_far h h2
    rw [h] at HV
    rw [show inB q 0 40 = false from cb_f h2] at HI
    rw [e1, e2]
    clear e1 e2 h h2 hx
    go_enter Try.func11, Try.ntmps11
    go_wp2_with fail
    refine (HV.out _).mono ?_
    rintro e w2 ⟨rfl, hb⟩
    have HF := Lib.hid (F0.next hb).below
    clear hb F0 c0 c1 c2 c3
    go_wp2_with fail
    refine (HI.out _).mono ?_
    rintro e w3 ⟨rfl, rfl⟩
    go_wp2
    go_ret2
    exact ⟨rfl, HF.out⟩
  obtain ⟨e1, e2⟩ := wo_good h h2
  rw [e1, e2]
  have hs := (okS_t h).sm
  have h3 := (okS_t h).1
  obtain ⟨ln, rfl⟩ := Int.eq_ofNat_of_zero_le h3.1
  obtain ⟨qn, rfl⟩ := Int.eq_ofNat_of_zero_le h2.1
  have HW := Lib.hid (fun W => l06Weight_any ln qn x W hs (by omega) (by omega))
  rw [h] at HV
  rw [show inB (qn : Int) 0 40 = true from cb_t h2] at HI
  rw [show ((ln : Int).toNat) = ln from rfl, show ((qn : Int).toNat) = qn from rfl]
  generalize wt ln qn x = r at *
  clear e1 e2 h h2 h3 hx hs hl hq
  go_enter Try.func11, Try.ntmps11
  go_wp2_with fail
  refine (HV.out _).mono ?_
  rintro e w2 ⟨rfl, hb⟩
  have F1 := F0.next hb
  clear hb F0 c0 c1 c2 c3
  go_wp2_with fail
  refine (HI.out _).mono ?_
  rintro e w3 ⟨rfl, rfl⟩
  obtain ⟨c0, c1, c2, c3, -⟩ := (F1.blk _ List.mem_cons_self).four
  go_wp2_with fail
  refine (HW.out _).mono ?_
  rintro e w4 ⟨rfl, hb⟩
  have HF := Lib.hid (F1.next hb).below
  clear hb F1 c0 c1 c2 c3
  go_wp2
  go_ret2
  exact ⟨rfl, HF.out⟩
set_option maxHeartbeats 2000000 in
theorem weightOf_any (l : Int) (x : Nat → Int) (q : Int) (w : World) (hl : I64 l) (hx : S4 x) (hq : I64 q) :
    Calls Try.prog 12 #[.int .i64 l, staV x, .int .i64 q] w fun e w' => e = .returned (.tuple #[.int .i64 (woV l q x), .int .i64 (woC l q x)]) ∧ Below w.heap.size w w' := by
  have F0 := (FR.start w).box (staC x) 24
  have HV := Lib.hid (fun W => validState_any l x W hl hx)
  have HI := Lib.hid (fun W => within_any q 0 40 W)
  obtain ⟨c0, c1, c2, c3, -⟩ := (F0.blk _ List.mem_cons_self).four
  cases h : okS l x
  · obtain ⟨e1, e2⟩ := wo_bad (q := q) h
    rw [h] at HV
    rw [e1, e2]
    clear e1 e2 h hx
    go_enter Try.func12, Try.ntmps12
    go_wp2_with fail
    refine (HV.out _).mono ?_
    rintro e w2 ⟨rfl, hb⟩
    have HF := Lib.hid (F0.next hb).below
    clear hb F0 c0 c1 c2 c3
    go_wp2
    go_ret2
    exact ⟨rfl, HF.out⟩
  by_cases h2 : 0 ≤ q ∧ q ≤ 40
  case neg =>
    obtain ⟨e1, e2⟩ := wo_far h h2
    rw [h] at HV
    rw [show inB q 0 40 = false from cb_f h2] at HI
    rw [e1, e2]
    clear e1 e2 h h2 hx
    go_enter Try.func12, Try.ntmps12
    go_wp2_with fail
    refine (HV.out _).mono ?_
    rintro e w2 ⟨rfl, hb⟩
    have HF := Lib.hid (F0.next hb).below
    clear hb F0 c0 c1 c2 c3
    go_wp2_with fail
    refine (HI.out _).mono ?_
    rintro e w3 ⟨rfl, rfl⟩
    go_wp2
    go_ret2
    exact ⟨rfl, HF.out⟩
  obtain ⟨e1, e2⟩ := wo_good h h2
  rw [e1, e2]
  have hs := (okS_t h).sm
  have h3 := (okS_t h).1
  obtain ⟨ln, rfl⟩ := Int.eq_ofNat_of_zero_le h3.1
  obtain ⟨qn, rfl⟩ := Int.eq_ofNat_of_zero_le h2.1
  have HW := Lib.hid (fun W => weightSt_any ln qn x W hs (by omega) (by omega))
  rw [h] at HV
  rw [show inB (qn : Int) 0 40 = true from cb_t h2] at HI
  rw [show ((ln : Int).toNat) = ln from rfl, show ((qn : Int).toNat) = qn from rfl]
  generalize wt ln qn x = r at *
  clear e1 e2 h h2 h3 hx hs hl hq
  go_enter Try.func12, Try.ntmps12
  go_wp2_with fail
  refine (HV.out _).mono ?_
  rintro e w2 ⟨rfl, hb⟩
  have F1 := F0.next hb
  clear hb F0 c0 c1 c2 c3
  go_wp2_with fail
  refine (HI.out _).mono ?_
  rintro e w3 ⟨rfl, rfl⟩
  obtain ⟨c0, c1, c2, c3, -⟩ := (F1.blk _ List.mem_cons_self).four
  go_wp2_with fail
  refine (HW.out _).mono ?_
  rintro e w4 ⟨rfl, hb⟩
  have HF := Lib.hid (F1.next hb).below
  clear hb F1 c0 c1 c2 c3
  go_wp2
  go_ret2
  exact ⟨rfl, HF.out⟩
/-- So many questions are enough by the weight. -/
noncomputable def enough (l q : Nat) (x : Nat → Int) : Bool := cb (wt l q x ≤ (2 : Int) ^ q)
noncomputable def lbw (l : Nat) (x : Nat → Int) : Nat := ((List.range 17).find? (fun q => enough l q x)).getD 16
theorem wt_16 {l : Nat} {x : Nat → Int} (h : OkS l x) : enough l 16 x = true := by
  have h1 := h.1
  have hx := h.sm
  have ht := h.2.2
  have key : ∀ i, i ≤ l + 1 → wtP l 16 x i ≤ 697 * (List.range i).foldl (fun s j => s + x j) 0 := by
    intro i
    induction i with
    | zero => intro _; simp [wtP]
    | succ i ih =>
      intro hi
      have h2 := hx i (by omega)
      have h3 : cho 16 (l - i) ≤ 697 := by
        have : l - i < 4 := by omega
        generalize l - i = m at *
        have : m = 0 ∨ m = 1 ∨ m = 2 ∨ m = 3 := by omega
        rcases this with rfl | rfl | rfl | rfl <;> decide
      have h4 : x i * (cho 16 (l - i) : Int) ≤ x i * 697 := Int.mul_le_mul_of_nonneg_left (by omega) h2.1
      have := ih (by omega)
      rw [List.range_succ, List.foldl_append]
      show wtP l 16 x i + x i * (cho 16 (l - i) : Int) ≤ 697 * ((List.range i).foldl (fun s j => s + x j) 0 + x i)
      omega
  have hk := key (l + 1) (Nat.le_refl _)
  have hsum : (List.range (l + 1)).foldl (fun s j => s + x j) 0 ≤ toS x := by
    have h0 := hx 0 (by decide)
    have h1' := hx 1 (by decide)
    have h2 := hx 2 (by decide)
    have h3 := hx 3 (by decide)
    have : l = 0 ∨ l = 1 ∨ l = 2 ∨ l = 3 := by omega
    unfold toS
    rcases this with rfl | rfl | rfl | rfl <;> simp [List.range_succ] <;> omega
  refine cb_t ?_
  show wtP l 16 x (l + 1) ≤ _
  have : (2 : Int) ^ 16 = 65536 := by decide
  rw [this]
  omega
theorem lbw_is {l q : Nat} {x : Nat → Int} (hq : q ≤ 16) (h : enough l q x = true) (hn : ∀ j, j < q → enough l j x = false) : lbw l x = q := by
  unfold lbw
  rw [List.find?_range_eq_some.2 ⟨h, by simp; omega, fun j hj => by rw [hn j hj]; rfl⟩]
  rfl
noncomputable def lwC (l : Int) (x : Nat → Int) : Int := if okS l x = true then 0 else 1
noncomputable def lwV (l : Int) (x : Nat → Int) : Int := if okS l x = true then (lbw l.toNat x : Int) else 0
end Go.Proofs.Ytpphhacmlelpmaa
