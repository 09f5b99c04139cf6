/-
  Whether a table is a proof.
-/
import Derived.Test.YtoeoilhbekhnbaaY24
import Derived.Deep.DeepCutAuto
import Derived.Deep.RegionHeld3
namespace Go.Proofs.Ytoeoilhbekhnbaa
open Go.RowKit
set_option maxRecDepth 100000
set_option linter.unusedVariables false

/-- What a table says of the bank with number i is wrong. -/
def badP (l k : Int) (xs tbl : List Int) (i : Nat) : Bool := decide (tbl.getD i 0 < -1) || (!(tbl.getD i 0 == -1) && !(folX l k xs (bkN l i) (bkF l i) (tbl.getD i 0) tbl))
def prfX (l k : Int) (xs tbl : List Int) : Bool := (tbl.getD (allI l).toNat 0 == 0) && !((List.range tbl.length).any (badP l k xs tbl))
theorem prfX_f {l k : Int} {xs tbl : List Int} {i : Nat} (hi : i < tbl.length) (h : badP l k xs tbl i = true) : prfX l k xs tbl = false := by
  unfold prfX
  rw [show (List.range tbl.length).any (badP l k xs tbl) = true from List.any_eq_true.2 ⟨i, List.mem_range.2 hi, h⟩]
  simp
theorem prfX_y {l k : Int} {xs tbl : List Int} (h : ∀ m, m < tbl.length → badP l k xs tbl m = false) : prfX l k xs tbl = (tbl.getD (allI l).toNat 0 == 0) := by
  unfold prfX
  rw [show (List.range tbl.length).any (badP l k xs tbl) = false from by
    rw [List.any_eq_false]
    intro i hi
    rw [h i (List.mem_range.1 hi)]
    decide]
  simp
theorem prfX_0 {l k : Int} {xs tbl : List Int} (h : (tbl.getD (allI l).toNat 0 == 0) = false) : prfX l k xs tbl = false := by
  unfold prfX
  rw [h]; rfl
theorem badP_lo {l k : Int} {xs tbl : List Int} {i : Nat} (h : tbl.getD i 0 < -1) : badP l k xs tbl i = true := by unfold badP; rw [decide_eq_true h]; rfl
theorem badP_1 {l k : Int} {xs tbl : List Int} {i : Nat} (h : tbl.getD i 0 = -1) : badP l k xs tbl i = false := by unfold badP; rw [h]; rfl
theorem badP_n {l k : Int} {xs tbl : List Int} {i : Nat} (h : ¬ tbl.getD i 0 < -1) (h1 : ¬ tbl.getD i 0 = -1) : badP l k xs tbl i = !(folX l k xs (bkN l i) (bkF l i) (tbl.getD i 0) tbl) := by
  unfold badP
  rw [decide_eq_false h, show (tbl.getD i 0 == -1) = false by rw [beq_eq_false_iff_ne]; exact h1]
  rfl
theorem bkN_le {l m : Int} (hl : 1 ≤ l ∧ l ≤ 8) : 0 ≤ bkN l m ∧ bkN l m ≤ allI l := by
  have := allI_le hl
  unfold bkN
  have h1 := Int.emod_nonneg m (show allI l + 1 ≠ 0 by omega)
  have h2 := Int.emod_lt_of_pos m (show 0 < allI l + 1 by omega)
  omega
set_option maxHeartbeats 4000000 in
theorem isProof_any (l k : Int) (a : Option Addr) (c : Nat) (xs : List Int) (ta : Option Addr) (tc : Nat) (tbl : List Int) (w : World) (hs : Sl .u16 w.heap.size w a xs) (ht : Sl .i16 w.heap.size w ta tbl) (hn : xs.length ≤ 1048576) (hw : U16 xs) (hl : 1 ≤ l ∧ l ≤ 8) (hk : 0 ≤ k ∧ k ≤ 8) (hT : (tbl.length : Int) = 2 * (allI l + 1)) (h16 : I16 tbl) :
    Calls Try.prog 46 #[ferV l k a xs.length c, .slice ta tbl.length tc] w fun e w' => e = .returned (.bool (prfX l k xs tbl)) ∧ Below w.heap.size w w' := by
  have F0 := (FR.start w).box #[.int .i8 l, .int .i8 k, .slice a xs.length c] 30
  have hal := allI_le hl
  have HSt := Lib.hid (fun W (hW : Below w.heap.size w W) => And.intro (hs.up hW (Nat.le_refl _)) (ht.up hW (Nat.le_refl _)))
  have HFo := Lib.hid (fun (W : World) (n : Int) (f : Bool) (told : Int) (hW : Below w.heap.size w W) (htd : -32768 ≤ told ∧ told ≤ 32767) => callsIn_wide.1 (followsFrom_in l k a c xs n f told ta tc tbl W (HSt.out W hW).1 (HSt.out W hW).2 hn hw hl hk hT h16 htd))
  have HBk := Lib.hid (fun (W : World) (i : Int) (hi : 0 ≤ i ∧ i < 2 * (allI l + 1)) => bankAt_any l k a xs.length c i W hl hi)
  have HFi := Lib.hid (fun W => firstBank2_any l k a xs.length c W hl)
  have HNu := Lib.hid (fun W => number_any l k a xs.length c (allI l) false W hl (by omega))
  have HTB := Lib.hid (show ∃ b off, ta = some ⟨b, off, none⟩ ∧ ∀ j, j < tbl.length → ∀ W', Below w.heap.size w W' → W'.cell? ⟨b, off + j, none⟩ = some (.int .i16 (tbl.getD j 0)) from by
    rcases ht with h | ⟨b, off, e, hlt, h⟩
    · rw [h] at hT; simp at hT; omega
    · exact ⟨b, off, e, fun j hj W' hW' => (h.below hW' hlt) j hj⟩)
  clear hs ht
  obtain ⟨tb, toff, rfl, hcell⟩ := HTB.out
  have HC := Lib.hid hcell
  clear hcell HTB HSt
  obtain ⟨tn, htn⟩ : ∃ tn, tbl.length = tn := ⟨_, rfl⟩
  have HTN := Lib.hid htn
  have h2 : tn ≤ 512 := by omega
  rw [htn] at HC hT HFo
  have HTT := Lib.hid hT
  clear htn hw hk hT
  go_enter Try.func46, Try.ntmps46
  rw [HTN.out]
  go_wp2
  go_loopw [9] (fun i wr => ∃ j : Nat, i = .int .i64 j ∧ j ≤ tn ∧ (∀ m, m < j → badP l k xs tbl m = false) ∧ FR w [(w.heap.size, #[.int .i8 l, .int .i8 k, .slice a xs.length c], 30)] wr) (fun i _ => tn - (intOf i).toNat)
  case atStart => exact ⟨0, rfl, Nat.zero_le _, fun m h => absurd h (by omega), F0⟩
  case round =>
    clear F0
    obtain ⟨j, rfl, hj, hall, F1⟩ := hrel
    have hT := HTT.out
    by_cases hlt : j < tn
    case neg =>
      have hlz : ¬ (j : Int) < (tn : Int) := by omega
      have HR := Lib.hid (prfX_y (l := l) (k := k) (xs := xs) (tbl := tbl) (fun m hm => hall m (by have := HTN.out; omega)))
      have HCa := Lib.hid (fun W' h => HC.out (allI l).toNat (by omega) W' h)
      have hlen : allI l < (tn : Int) := by omega
      have htn2 : tn ≤ 512 := h2
      clear hall HC hT
      generalize (allI l) = al at *
      obtain ⟨q, rfl⟩ : ∃ q : Nat, al = q := ⟨al.toNat, by omega⟩
      simp only [Int.toNat_natCast] at HR HCa
      generalize tbl.getD q 0 = v at *
      have HNu2 := Lib.hid (fun W => (show Calls Try.prog 40 #[ferV l k a xs.length c, bankV (q : Int) false] W fun e w' => e = .returned (.int .i64 (q : Int)) ∧ Below W.heap.size W w' from HNu.out W))
      have F2 := F1.drew
      go_upto_region 7 with fail
      go_region_held3 (fun w' => w'.cell? ⟨w.heap.size, 0, none⟩ = some (.int .i8 l) ∧ w'.cell? ⟨w.heap.size, 1, none⟩ = some (.int .i8 k) ∧ w'.cell? ⟨w.heap.size, 2, none⟩ = some (.slice a xs.length c) ∧ w'.cell? ⟨tb, toff + q, none⟩ = some (.int .i16 v))
        (first
          | exact ⟨(F4.blk _ List.mem_cons_self).cell 0, (F4.blk _ List.mem_cons_self).cell 1, (F4.blk _ List.mem_cons_self).cell 2, HCa.out _ F4.below⟩
          | exact ⟨(F3.blk _ List.mem_cons_self).cell 0, (F3.blk _ List.mem_cons_self).cell 1, (F3.blk _ List.mem_cons_self).cell 2, HCa.out _ F3.below⟩
          | exact ⟨(F2.blk _ List.mem_cons_self).cell 0, (F2.blk _ List.mem_cons_self).cell 1, (F2.blk _ List.mem_cons_self).cell 2, HCa.out _ F2.below⟩)
        (first
          | (go_at_call 60; with_reducible refine (Calls.fr F2 (HFi.out _)).mono ?_; rintro e w3 ⟨rfl, F3⟩)
          | (go_at_call 40; with_reducible refine (Calls.fr F3 (HNu2.out _)).mono ?_; rintro e w4 ⟨rfl, F4⟩))
      have HB := Lib.hid F4.below
      clear F1 F2 F3 F4
      go_wp2
      go_ret
      exact ⟨retb HR.out.symm, HB.out⟩
    have hlz : (j : Int) < (tn : Int) := by omega
    have hjt : j < tbl.length := by have := HTN.out; omega
    have hc := HC.out j hlt wr F1.below
    have hv16 := h16 j
    have HB1 := Lib.hid (fun h => prfX_f (l := l) (k := k) (xs := xs) hjt h)
    have HB2 := Lib.hid (And.intro (fun h => badP_lo (l := l) (k := k) (xs := xs) (tbl := tbl) (i := j) h) (And.intro (fun h => badP_1 (l := l) (k := k) (xs := xs) (tbl := tbl) (i := j) h) (fun h h1 => badP_n (l := l) (k := k) (xs := xs) (tbl := tbl) (i := j) h h1)))
    have HN := Lib.hid (fun (h : badP l k xs tbl j = false) => (show ∀ m, m < j + 1 → badP l k xs tbl m = false from fun m hm => by
      by_cases e : m = j
      · subst e; exact h
      · exact hall m (by omega)))
    have HFo2 := Lib.hid (fun W hW => HFo.out W (bkN l j) (bkF l j) (tbl.getD j 0) hW hv16)
    have HBk2 := Lib.hid (fun W => HBk.out W (j : Int) (by omega))
    obtain ⟨c0, c1, c2, -⟩ := (F1.blk _ List.mem_cons_self).three
    clear hall HC HFo HBk hjt hT
    generalize folX l k xs (bkN l j) (bkF l j) (tbl.getD j 0) tbl = r at *
    generalize bkN l j = bn at *
    generalize bkF l j = bf at *
    generalize tbl.getD j 0 = v at *
    by_cases hv : v < -1
    · have HR := Lib.hid (HB1.out (HB2.out.1 hv))
      have HBe := Lib.hid F1.below
      have e1 : ¬ v = -1 := by omega
      clear HB1 HB2 HN HFo2 HBk2 F1
      go_wp2
      go_quiet (fail)
      go_wp2
      go_ret
      exact ⟨retb HR.out.symm, below_drewN HBe.out _⟩
    by_cases hv1 : v = -1
    · have HR := Lib.hid (HN.out (HB2.out.2.1 hv1))
      subst hv1
      clear HB1 HB2 HN HFo2 HBk2
      have HF := Lib.hid F1
      clear F1
      go_wp2
      go_quiet (fail)
      go_wp2
      go_roundw
      case rel => exact ⟨j + 1, by go_num, by omega, HR.out, HF.out.drewN _⟩
      case measure => simp [intOf]; omega
    have e1 : (v == -1) = false := by rw [beq_eq_false_iff_ne]; exact hv1
    have HBN := Lib.hid (HB2.out.2.2 hv hv1)
    have d0 : decide (v < -1) = false := decide_eq_false hv
    have d1 : (v != -1) = true := by rw [bne, e1]; rfl
    have d2 : decide (v = -1) = false := decide_eq_false hv1
    clear HB2 c0 c1 c2
    have F2 := F1.drew
    go_upto_region 4 with fail
    go_region_held3 (fun w' => w'.cell? ⟨w.heap.size, 0, none⟩ = some (.int .i8 l) ∧ w'.cell? ⟨w.heap.size, 1, none⟩ = some (.int .i8 k) ∧ w'.cell? ⟨w.heap.size, 2, none⟩ = some (.slice a xs.length c))
      (first
        | exact ⟨(F4.blk _ List.mem_cons_self).cell 0, (F4.blk _ List.mem_cons_self).cell 1, (F4.blk _ List.mem_cons_self).cell 2⟩
        | exact ⟨(F3.blk _ List.mem_cons_self).cell 0, (F3.blk _ List.mem_cons_self).cell 1, (F3.blk _ List.mem_cons_self).cell 2⟩
        | exact ⟨(F2.blk _ List.mem_cons_self).cell 0, (F2.blk _ List.mem_cons_self).cell 1, (F2.blk _ List.mem_cons_self).cell 2⟩)
      (first
        | (go_at_call 64; with_reducible refine (Calls.fr F2 (HBk2.out _)).mono ?_; rintro e w3 ⟨rfl, F3⟩)
        | (go_at_call 63; with_reducible refine (Calls.fr F3 (HFo2.out _ F3.below)).mono ?_; rintro e w4 ⟨rfl, F4⟩))
    have HF := Lib.hid F4
    have HBe := Lib.hid F4.below
    clear F1 F2 F3 F4
    cases r
    · have HR := Lib.hid (HB1.out HBN.out)
      go_wp2
      go_ret
      exact ⟨retb HR.out.symm, HBe.out⟩
    · have HR := Lib.hid (HN.out HBN.out)
      go_wp2
      go_roundw
      case rel => exact ⟨j + 1, by go_num, by omega, HR.out, HF.out⟩
      case measure => simp [intOf]; omega
end Go.Proofs.Ytoeoilhbekhnbaa
