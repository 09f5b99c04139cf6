/-
  Banks and their numbers.
-/
import Derived.Test.YtoeoilhbekhnbaaY20
import Derived.Test.YtoeoilhbekhnbaaY13
import Derived.Deep.DeepCutAuto
namespace Go.Proofs.Ytoeoilhbekhnbaa
open Go.RowKit
set_option maxRecDepth 100000
set_option linter.unusedVariables false

theorem and_all {l m : Int} (h : 1 ≤ l ∧ l ≤ 8) (hm : 0 ≤ m ∧ m ≤ 65535) : bits .and .u16 m (allI l) = m % (allI l + 1) := by
  rcases l8 h with rfl | rfl | rfl | rfl | rfl | rfl | rfl | rfl
  · show bits .and .u16 m 1 = m % 2; go_bits2
  · show bits .and .u16 m 3 = m % 4; go_bits2
  · show bits .and .u16 m 7 = m % 8; go_bits2
  · show bits .and .u16 m 15 = m % 16; go_bits2
  · show bits .and .u16 m 31 = m % 32; go_bits2
  · show bits .and .u16 m 63 = m % 64; go_bits2
  · show bits .and .u16 m 127 = m % 128; go_bits2
  · show bits .and .u16 m 255 = m % 256; go_bits2
theorem far_eq {l m : Int} (h : 1 ≤ l ∧ l ≤ 8) (hm : 0 ≤ m ∧ m < 2 * (allI l + 1)) : (m / 2 ^ l.toNat == 1) = decide (allI l + 1 ≤ m) := by
  have e : (2 : Int) ^ l.toNat = allI l + 1 := by unfold allI; omega
  rw [e]
  have hp : 0 < allI l + 1 := by rw [← e]; exact Int.pow_pos (by decide)
  generalize allI l + 1 = p at *
  by_cases h1 : p ≤ m
  · rw [decide_eq_true h1, beq_iff_eq]
    apply Int.le_antisymm
    · apply Int.le_of_lt_add_one
      rw [Int.ediv_lt_iff_lt_mul hp]
      omega
    · rw [Int.le_ediv_iff_mul_le hp]
      omega
  · rw [decide_eq_false h1]
    rw [Int.ediv_eq_zero_of_lt hm.1 (by omega)]
    rfl
/-- The number of a bank; the bank with a number. -/
def nmI (l n : Int) (f : Bool) : Int := if f = true then n + (allI l + 1) else n
def bkN (l m : Int) : Int := m % (allI l + 1)
def bkF (l m : Int) : Bool := decide (allI l + 1 ≤ m)
theorem pow_all {l : Int} : (2 : Int) ^ l.toNat = allI l + 1 := by unfold allI; omega
theorem number_any (l k : Int) (a : Option Addr) (m c : Nat) (n : Int) (f : Bool) (w : World) (hl : 1 ≤ l ∧ l ≤ 8) (hn : 0 ≤ n ∧ n ≤ 65535) :
    Calls Try.prog 40 #[ferV l k a m c, bankV n f] w fun e w' => e = .returned (.int .i64 (nmI l n f)) ∧ Below w.heap.size w w' := by
  have F0 := ((FR.start w).box #[.int .i8 l, .int .i8 k, .slice a m c] 30).box #[.int .u16 n, .bool f] 64
  simp only [World.size_alloc] at F0
  have HB := Lib.hid F0.below
  clear F0
  cases f
  · go_enter Try.func40, Try.ntmps40
    go_wp2
    go_ret
    exact ⟨rfl, HB.out⟩
  · rcases l8 hl with rfl | rfl | rfl | rfl | rfl | rfl | rfl | rfl
    all_goals
      go_enter Try.func40, Try.ntmps40
      go_wp2
      go_quiet (fail)
      go_wp2
      go_ret
      exact ⟨rfl, below_drewN HB.out _⟩
theorem l05Index_any (fb : Nat) (l : Int) (v1 v2 : Value) (n : Int) (f : Bool) (w : World) (K : Blk w fb #[.int .i8 l, v1, v2] 30) (hl : 1 ≤ l ∧ l ≤ 8) (hn : 0 ≤ n ∧ n ≤ 65535) :
    Calls Try.prog 53 #[.pointer (some ⟨fb, 0, none⟩), bankV n f] w fun e w' => e = .returned (.int .i64 (nmI l n f)) ∧ Below w.heap.size w w' := by
  have F0 := (FR.start w).box #[.int .u16 n, .bool f] 64
  have HK := Lib.hid (K.below F0.below K.lt)
  have HA := Lib.hid (fun (W : World) (h : Blk W fb #[.int .i8 l, v1, v2] 30) => l05All_any fb l _ _ W h hl)
  have hal := allI_le hl
  have HR := Lib.hid (show nmI l n true = n + allI l + 1 by unfold nmI; simp; omega)
  have HB := Lib.hid F0.below
  clear F0 K hl
  cases f
  · go_enter Try.func53, Try.ntmps53
    go_wp2
    go_ret
    exact ⟨rfl, HB.out⟩
  · generalize allI l = al at *
    go_enter Try.func53, Try.ntmps53
    go_wp2
    go_quiet ((go_at_call 48; exact Calls.quiet_same (HA.out _ (blk_dr HK.out _))))
    go_wp2
    go_ret
    exact ⟨reti HR.out.symm, below_drewN HB.out _⟩
theorem l05Last_any (fb : Nat) (l : Int) (v1 v2 : Value) (w : World) (K : Blk w fb #[.int .i8 l, v1, v2] 30) (hl : 1 ≤ l ∧ l ≤ 8) :
    Calls Try.prog 41 #[.pointer (some ⟨fb, 0, none⟩)] w fun e w' => e = .returned (.int .i64 (allI l + 1)) ∧ w = w' := by
  have HA := Lib.hid (l05All_any fb l v1 v2 w K hl)
  have hal := allI_le hl
  clear K hl
  generalize allI l = al at *
  go_enter Try.func41, Try.ntmps41
  go_wp2_with fail
  refine HA.out.mono ?_
  rintro e w2 ⟨rfl, rfl⟩
  go_wp2
  go_ret
  exact ⟨rfl, rfl⟩
theorem lastBank_any (w : World) :
    Calls Try.prog 42 #[] w fun e w' => e = .returned (bankV 0 true) ∧ Below w.heap.size w w' := by
  go_enter Try.func42, Try.ntmps42
  go_wp2
  exact bodyPost_ret (v := bankV 0 true) (by simp [results, Try.results42, go_sem]) rfl ⟨rfl, by repeat (first | exact Below.refl _ _ | refine Below.setCell ?_ (by simp <;> omega) _ | refine Below.alloc ?_ (by simp <;> omega) _)⟩
theorem countBanks_any (l k : Int) (a : Option Addr) (m c : Nat) (w : World) (hl : 1 ≤ l ∧ l ≤ 8) :
    Calls Try.prog 38 #[ferV l k a m c] w fun e w' => e = .returned (.int .i64 (2 * (allI l + 1))) ∧ Below w.heap.size w w' := by
  have HB := Lib.hid ((FR.start w).box #[.int .i8 l, .int .i8 k, .slice a m c] 30).below
  rcases l8 hl with rfl | rfl | rfl | rfl | rfl | rfl | rfl | rfl
  all_goals
    go_enter Try.func38, Try.ntmps38
    go_wp2
    go_ret
    exact ⟨rfl, HB.out⟩
theorem firstBank2_any (l k : Int) (a : Option Addr) (n c : Nat) (w : World) (hl : 1 ≤ l ∧ l ≤ 8) :
    Calls Try.prog 60 #[ferV l k a n c] w fun e w' => e = .returned (bankV (allI l) false) ∧ Below w.heap.size w w' := by
  have F0 := ((FR.start w).box #[.int .i8 l, .int .i8 k, .slice a n c] 30).box #[.int .u16 0, .bool false] 64
  simp only [World.size_alloc] at F0
  obtain ⟨c0, c1, c2, -⟩ := (F0.blk _ (List.mem_cons_of_mem _ List.mem_cons_self)).three
  have HE := Lib.hid (fun W => everything_any l k a n c W hl)
  generalize allI l = al at *
  clear hl
  go_enter Try.func60, Try.ntmps60
  go_wp2_with fail
  refine (HE.out _).mono ?_
  rintro e w2 ⟨rfl, hb⟩
  have F1 := F0.next hb
  clear hb F0 c0 c1 c2
  obtain ⟨e0, e1, ef⟩ := (F1.blk _ List.mem_cons_self).two
  have F9 := F1.bank (u0 := .int .u16 al) (u1 := .bool false)
  have HB := Lib.hid (And.intro (F9.blk _ List.mem_cons_self) F9.below)
  clear F1 F9
  go_wp2
  have e0 := HB.out.1.cell 0
  have e1 := HB.out.1.cell 1
  simp at e0 e1
  exact bodyPost_ret (v := bankV al false) (by simp [results, Try.results60, go_sem, e0, e1]) rfl ⟨rfl, HB.out.2⟩
theorem res_bank_4 {W : World} {b : Nat} {v0 v1 : Value} {t : TypeId} (F : Func) (hF : F.results = #[.cell 4 64]) (K : Blk W b #[v0, v1] t) (tmps : Array Value) (h6 : tmps.getD 4 undef = .pointer (some ⟨b, 0, none⟩)) : (results F tmps).run Try.prog W = .ok (.agg #[v0, v1]) W := by
  have h6' : tmps[4]?.getD undef = .pointer (some ⟨b, 0, none⟩) := by simpa using h6
  have e0 := K.cell 0
  have e1 := K.cell 1
  simp at e0 e1
  simp [results, hF, go_sem, e0, e1, h6']
theorem l05At_any (fb : Nat) (l : Int) (v1 v2 : Value) (m : Int) (w : World) (K : Blk w fb #[.int .i8 l, v1, v2] 30) (hl : 1 ≤ l ∧ l ≤ 8) (hm : 0 ≤ m ∧ m < 2 * (allI l + 1)) :
    Calls Try.prog 50 #[.pointer (some ⟨fb, 0, none⟩), .int .i64 m] w fun e w' => e = .returned (bankV (bkN l m) (bkF l m)) ∧ Below w.heap.size w w' := by
  have F0 := (FR.start w).box #[.int .u16 0, .bool false] 64
  have HA := Lib.hid (l05All_any fb l v1 v2 _ (K.below F0.below K.lt) hl)
  have hal := allI_le hl
  have HN := Lib.hid (show bkN l m = m % (allI l + 1) from rfl)
  have HF := Lib.hid (show bkF l m = decide (allI l + 1 ≤ m) from rfl)
  clear K hl
  generalize allI l = al at *
  have hmod : 0 ≤ m % (al + 1) ∧ m % (al + 1) < al + 1 := ⟨Int.emod_nonneg m (by omega), Int.emod_lt_of_pos m (by omega)⟩
  have htm : m.tmod (al + 1) = m % (al + 1) := Int.tmod_eq_emod_of_nonneg hm.1
  go_enter Try.func50, Try.ntmps50
  go_wp2_with fail
  refine HA.out.mono ?_
  rintro e w2 ⟨rfl, rfl⟩
  clear F0
  have hdc : (m ≥ al + 1) = (al + 1 ≤ m) := rfl
  go_wp2
  exact bodyPost_ret (res_bank_4 _ Try.results50 (blk_new _ _ _) _ rfl) rfl ⟨by rw [HN.out, HF.out], (Below.refl _ _).alloc (Nat.le_refl _) _⟩
theorem bankAt_any (l k : Int) (a : Option Addr) (q c : Nat) (m : Int) (w : World) (hl : 1 ≤ l ∧ l ≤ 8) (hm : 0 ≤ m ∧ m < 2 * (allI l + 1)) :
    Calls Try.prog 64 #[ferV l k a q c, .int .i64 m] w fun e w' => e = .returned (bankV (bkN l m) (bkF l m)) ∧ Below w.heap.size w w' := by
  have F0 := ((FR.start w).box #[.int .i8 l, .int .i8 k, .slice a q c] 30).box #[.int .u16 0, .bool false] 64
  simp only [World.size_alloc] at F0
  have HE := Lib.hid (fun W => everything_any l k a q c W hl)
  have hal := allI_le hl
  have hwm : IntKind.u16.wrap m = m := by rw [IntKind.wrap_u16]; omega
  have HN := Lib.hid (show bits .and .u16 (IntKind.u16.wrap m) (allI l) = bkN l m by rw [hwm, and_all hl (by omega)]; rfl)
  have HF := Lib.hid (show (m / (allI l + 1) == 1) = bkF l m by rw [← @pow_all l]; exact far_eq hl hm)
  have hmb : m < 512 := by omega
  have hlb : l ≤ 8 ∧ 1 ≤ l := ⟨hl.2, hl.1⟩
  have hp := @pow_all l
  clear hl hwm
  go_enter Try.func64, Try.ntmps64
  go_upto_region 1 with fail
  go_cut [4] (fun s wx => s = .pointer (some ⟨w.heap.size + 1, 0, none⟩) ∧ FR w [(w.heap.size + 1, #[.int .u16 (bkN l m), .bool (bkF l m)], 64), (w.heap.size, #[.int .i8 l, .int .i8 k, .slice a q c], 30)] wx)
  case first =>
    have F1 := F0.drew
    go_region_held3 (fun w' => w'.cell? ⟨w.heap.size, 0, none⟩ = some (.int .i8 l) ∧ w'.cell? ⟨w.heap.size, 1, none⟩ = some (.int .i8 k) ∧ w'.cell? ⟨w.heap.size, 2, none⟩ = some (.slice a q c))
      (first
        | exact ⟨(F3.bank.blk _ (List.mem_cons_of_mem _ List.mem_cons_self)).cell 0, (F3.bank.blk _ (List.mem_cons_of_mem _ List.mem_cons_self)).cell 1, (F3.bank.blk _ (List.mem_cons_of_mem _ List.mem_cons_self)).cell 2⟩
        | exact ⟨(F3.blk _ (List.mem_cons_of_mem _ List.mem_cons_self)).cell 0, (F3.blk _ (List.mem_cons_of_mem _ List.mem_cons_self)).cell 1, (F3.blk _ (List.mem_cons_of_mem _ List.mem_cons_self)).cell 2⟩
        | exact ⟨(F1.blk _ (List.mem_cons_of_mem _ List.mem_cons_self)).cell 0, (F1.blk _ (List.mem_cons_of_mem _ List.mem_cons_self)).cell 1, (F1.blk _ (List.mem_cons_of_mem _ List.mem_cons_self)).cell 2⟩)
      (first
        | (go_at_call 67; with_reducible refine (Calls.fr F1 (HE.out _)).mono ?_; rintro e w3 ⟨rfl, F3⟩; obtain ⟨zz0, zz1, zzf⟩ := (F3.blk _ (List.mem_cons_self)).two))
    all_goals (go_wp2_with fail; go_meet)
    all_goals (refine ⟨rfl, ?_⟩; rw [← HN.out, ← HF.out]; first | exact F3.bank | trace_state)
  case rest =>
    obtain ⟨rfl, FE⟩ := hcut
    go_wp2
    exact bodyPost_ret (res_bank_4 _ Try.results64 (FE.blk _ List.mem_cons_self) _ rfl) rfl ⟨rfl, FE.below⟩
end Go.Proofs.Ytoeoilhbekhnbaa
