/-
  The walks of the functions that find waters by their numbers, in the program and in its model.
-/
import Derived.Test.YtjmgalmndpjcoaaIxFns
namespace Go.Proofs.Ytjmgalmndpjcoaa
open Go.RowKit
set_option maxRecDepth 100000

theorem waterAt_any (b off c : Nat) (J : List Int) (N : Int) (w : World) (hl : J.length ≤ 4) (hE : Each J J.length) (hn : 0 ≤ N ∧ N ≤ 13845841) (hb : b < w.heap.size) (hc : At .i16 w b off J) :
    Calls Try.prog 55 #[.slice (some ⟨b, off, none⟩) J.length c, .int .i64 N] w fun e w' => e = .returned (watV (atV J N)) ∧ Below w.heap.size w w' := by
  have HE := Lib.hid hE
  clear hE
  go_enter Try.func55, Try.ntmps55
  go_wp2
  have k0 := blk_new (w.alloc (.cells #[.int .i16 0, .int .i16 0, .int .i16 0, .int .i16 0] 30)) #[.int .i16 0, .int .i16 0, .int .i16 0, .int .i16 0] 30
  have hr0 := World.rowIs_alloc (w.alloc (.cells #[.int .i16 0, .int .i16 0, .int .i16 0, .int .i16 0] 30)) #[.int .i16 0, .int .i16 0, .int .i16 0, .int .i16 0] 30 (fun _ => .int .i16 0) (fun i hi => by
    match i, hi with
    | 0, _ => rfl
    | 1, _ => rfl
    | 2, _ => rfl
    | 3, _ => rfl)
  have k9 := (blk_new w #[.int .i16 0, .int .i16 0, .int .i16 0, .int .i16 0] 30).alloc (.cells #[.int .i16 0, .int .i16 0, .int .i16 0, .int .i16 0] 30)
  have hB0 := ((Below.refl w.heap.size w).alloc (Nat.le_refl _) (.cells #[.int .i16 0, .int .i16 0, .int .i16 0, .int .i16 0] 30)).alloc (by simp) (.cells #[.int .i16 0, .int .i16 0, .int .i16 0, .int .i16 0] 30)
  have hc1 := hc.below hB0 hb
  rw [World.size_alloc] at k0 hr0
  have hsz := hB0.size
  have hsz2 : w.heap.size + 1 < ((w.alloc (.cells #[.int .i16 0, .int .i16 0, .int .i16 0, .int .i16 0] 30)).alloc (.cells #[.int .i16 0, .int .i16 0, .int .i16 0, .int .i16 0] 30)).heap.size := by simp
  clear hc k0
  generalize hgg : (w.alloc (.cells #[.int .i16 0, .int .i16 0, .int .i16 0, .int .i16 0] 30)).alloc (.cells #[.int .i16 0, .int .i16 0, .int .i16 0, .int .i16 0] 30) = wb at *
  clear hgg
  have HB0 := Lib.hid hB0
  clear hB0
  have hbB : b < w.heap.size + 1 := by omega

  go_loopw [1, 6, 7, 8, 11] (fun n _ _ _ i wr => ∃ k : Nat, k ≤ J.length ∧ i = .int .i64 k ∧ n = .int .i64 (N / stTo J k) ∧ wr.rowIs (w.heap.size + 1) 30 4 (fun j => if j < k then .int .i16 (atV J N j) else .int .i16 0) ∧ Below (w.heap.size + 1) wb wr) (fun _ _ _ _ i _ => J.length - (intOf i).toNat)
  case atStart => exact ⟨0, Nat.zero_le _, rfl, by simp [stTo], hr0.congr (fun i _ => by simp), Below.refl _ _⟩
  case round =>
    obtain ⟨k, hk, rfl, rfl, hr, hB⟩ := hrel
    by_cases hlt : k < J.length
    · have hcell := (hc1.below hB hbB) k hlt
      have hx := HE.out k hlt
      have hk4 : k < 4 := by omega
      have hr1 : wr.cell? ⟨w.heap.size + 1, k, none⟩ = some (.int .i16 0) := by simpa using hr.cell hk4
      have hfr : wr.frozen? ⟨w.heap.size + 1, k, none⟩ = false := hr.frozen k
      have hq := quo_bd (HE.out.mono hk) hn.1
      have HQS := Lib.hid (quo_step (HE.out.mono hk) N)
      have hv := atV_bd (i := k) HE.out N
      have HV := Lib.hid (show (N / stTo J k) % (J.getD k 0 + 1) = atV J N k from rfl)
      have HVG := Lib.hid (show ∀ v, (N / stTo J k) % (J.getD k 0 + 1) = v → v = atV J N k from fun v h => by rw [← h]; rfl)
      rw [← HV.out] at hv
      generalize J.getD k 0 = z at *
      generalize hqq : N / stTo J k = q at *
      have HQQ := Lib.hid hqq
      clear hqq HV
      obtain ⟨v, hvv⟩ : ∃ v, q % (z + 1) = v := ⟨_, rfl⟩
      rw [hvv] at hv
      have HVV := Lib.hid (HVG.out v hvv)
      clear HVG
      go_wp2
      go_roundw
      case rel =>
        refine ⟨k + 1, by omega, by go_num, by rw [HQS.out], (hr.set k _).congr ?_, hB.setCell (Nat.le_refl _) _⟩
        intro i hi
        by_cases e : i = k
        · subst e; rw [← HVV.out]; simp
        · by_cases e2 : i < k
          · simp [e, e2, Nat.lt_succ_of_lt e2]
          · simp [e, e2, show ¬ i < k + 1 by omega]
      case measure => simp [intOf]; omega
    · obtain rfl : k = J.length := by omega
      have hf : ∀ j, j < 4 → wr.cell? ⟨w.heap.size + 1, j, none⟩ = some (.int .i16 (atV J N j)) := fun j hj => by
        rw [hr.cell hj]
        by_cases h : j < J.length
        · rw [if_pos h]
        · rw [if_neg h, atV_past (by omega)]
      have f0 := hf 0 (by omega)
      have f1 := hf 1 (by omega)
      have f2 := hf 2 (by omega)
      have f3 := hf 3 (by omega)
      obtain ⟨d0, d1, d2, d3, d4⟩ := (k9.below hB (Nat.lt_succ_self _)).four
      have HBB := Lib.hid (HB0.out.trans (hB.mono (Nat.le_succ _)))
      clear hf hB hr hr0
      generalize hA : atV J N = A at *
      have HA := Lib.hid hA
      clear hA
      go_wp2
      refine bodyPost_ret (v := watV A) (by simp [results, Try.results55, go_sem, d0, d1, d2, d3]) rfl ⟨by rw [HA.out], ?_⟩
      exact (((HBB.out.setCell (Nat.le_refl _) _).setCell (Nat.le_refl _) _).setCell (Nat.le_refl _) _).setCell (Nat.le_refl _) _
theorem l02At_any (g b off c : Nat) (J : List Int) (x : Nat → Int) (t : Bool) (N : Int) (w : World) (hl : J.length ≤ 4) (hE : Each J J.length) (hn : 0 ≤ N ∧ N ≤ 13845841) (hb : b < w.heap.size) (hc : At .i16 w b off J)
    (hg : Blk w g #[.slice (some ⟨b, off, none⟩) J.length c, .int .i16 (x 0), .int .i16 (x 1), .int .i16 (x 2), .int .i16 (x 3), .bool t] 32) :
    Calls Try.prog 51 #[.pointer (some ⟨g, 0, none⟩), .int .i64 N] w fun e w' => e = .returned (watV (atV J N)) ∧ Below w.heap.size w w' := by
  have HE := Lib.hid hE
  clear hE
  have k1 := (hg.alloc (.cells #[.int .i16 0, .int .i16 0, .int .i16 0, .int .i16 0] 30)).alloc (.cells #[.int .i16 0, .int .i16 0, .int .i16 0, .int .i16 0] 30)
  have hgl := hg.lt
  obtain ⟨c0, _, _, _, _, _, _⟩ := k1.six
  go_enter Try.func51, Try.ntmps51
  go_wp2
  have k0 := blk_new (w.alloc (.cells #[.int .i16 0, .int .i16 0, .int .i16 0, .int .i16 0] 30)) #[.int .i16 0, .int .i16 0, .int .i16 0, .int .i16 0] 30
  have hr0 := World.rowIs_alloc (w.alloc (.cells #[.int .i16 0, .int .i16 0, .int .i16 0, .int .i16 0] 30)) #[.int .i16 0, .int .i16 0, .int .i16 0, .int .i16 0] 30 (fun _ => .int .i16 0) (fun i hi => by
    match i, hi with
    | 0, _ => rfl
    | 1, _ => rfl
    | 2, _ => rfl
    | 3, _ => rfl)
  have k9 := (blk_new w #[.int .i16 0, .int .i16 0, .int .i16 0, .int .i16 0] 30).alloc (.cells #[.int .i16 0, .int .i16 0, .int .i16 0, .int .i16 0] 30)
  have hB0 := ((Below.refl w.heap.size w).alloc (Nat.le_refl _) (.cells #[.int .i16 0, .int .i16 0, .int .i16 0, .int .i16 0] 30)).alloc (by simp) (.cells #[.int .i16 0, .int .i16 0, .int .i16 0, .int .i16 0] 30)
  have hc1 := hc.below hB0 hb
  rw [World.size_alloc] at k0 hr0
  have hsz := hB0.size
  have hsz2 : w.heap.size + 1 < ((w.alloc (.cells #[.int .i16 0, .int .i16 0, .int .i16 0, .int .i16 0] 30)).alloc (.cells #[.int .i16 0, .int .i16 0, .int .i16 0, .int .i16 0] 30)).heap.size := by simp
  clear hc k0 c0 hg
  generalize hgg : (w.alloc (.cells #[.int .i16 0, .int .i16 0, .int .i16 0, .int .i16 0] 30)).alloc (.cells #[.int .i16 0, .int .i16 0, .int .i16 0, .int .i16 0] 30) = wb at *
  clear hgg
  have HB0 := Lib.hid hB0
  clear hB0
  have hbB : b < w.heap.size + 1 := by omega
  have hgB : g < w.heap.size + 1 := by omega
  go_loopw [1, 6, 7] (fun n i _ wr => ∃ k : Nat, k ≤ J.length ∧ i = .int .i64 k ∧ n = .int .i64 (N / stTo J k) ∧ wr.rowIs (w.heap.size + 1) 30 4 (fun j => if j < k then .int .i16 (atV J N j) else .int .i16 0) ∧ Below (w.heap.size + 1) wb wr) (fun _ i _ _ => J.length - (intOf i).toNat)
  case atStart => exact ⟨0, Nat.zero_le _, rfl, by simp [stTo], hr0.congr (fun i _ => by simp), Below.refl _ _⟩
  case round =>
    obtain ⟨k, hk, rfl, rfl, hr, hB⟩ := hrel
    obtain ⟨c0, _, _, _, _, _, _⟩ := (k1.below hB hgB).six
    by_cases hlt : k < J.length
    · have hcell := (hc1.below hB hbB) k hlt
      have hx := HE.out k hlt
      have hk4 : k < 4 := by omega
      have hr1 : wr.cell? ⟨w.heap.size + 1, k, none⟩ = some (.int .i16 0) := by simpa using hr.cell hk4
      have hfr : wr.frozen? ⟨w.heap.size + 1, k, none⟩ = false := hr.frozen k
      have hq := quo_bd (HE.out.mono hk) hn.1
      have HQS := Lib.hid (quo_step (HE.out.mono hk) N)
      have hv := atV_bd (i := k) HE.out N
      have HV := Lib.hid (show (N / stTo J k) % (J.getD k 0 + 1) = atV J N k from rfl)
      have HVG := Lib.hid (show ∀ v, (N / stTo J k) % (J.getD k 0 + 1) = v → v = atV J N k from fun v h => by rw [← h]; rfl)
      rw [← HV.out] at hv
      generalize J.getD k 0 = z at *
      generalize hqq : N / stTo J k = q at *
      have HQQ := Lib.hid hqq
      clear hqq HV
      obtain ⟨v, hvv⟩ : ∃ v, q % (z + 1) = v := ⟨_, rfl⟩
      rw [hvv] at hv
      have HVV := Lib.hid (HVG.out v hvv)
      clear HVG
      go_wp2
      go_roundw
      case rel =>
        refine ⟨k + 1, by omega, by go_num, by rw [HQS.out], (hr.set k _).congr ?_, hB.setCell (Nat.le_refl _) _⟩
        intro i hi
        by_cases e : i = k
        · subst e; rw [← HVV.out]; simp
        · by_cases e2 : i < k
          · simp [e, e2, Nat.lt_succ_of_lt e2]
          · simp [e, e2, show ¬ i < k + 1 by omega]
      case measure => simp [intOf]; omega
    · obtain rfl : k = J.length := by omega
      have hf : ∀ j, j < 4 → wr.cell? ⟨w.heap.size + 1, j, none⟩ = some (.int .i16 (atV J N j)) := fun j hj => by
        rw [hr.cell hj]
        by_cases h : j < J.length
        · rw [if_pos h]
        · rw [if_neg h, atV_past (by omega)]
      have f0 := hf 0 (by omega)
      have f1 := hf 1 (by omega)
      have f2 := hf 2 (by omega)
      have f3 := hf 3 (by omega)
      obtain ⟨d0, d1, d2, d3, d4⟩ := (k9.below hB (Nat.lt_succ_self _)).four
      have HBB := Lib.hid (HB0.out.trans (hB.mono (Nat.le_succ _)))
      clear hf hB hr hr0
      generalize hA : atV J N = A at *
      have HA := Lib.hid hA
      clear hA
      go_wp2
      refine bodyPost_ret (v := watV A) (by simp [results, Try.results51, go_sem, d0, d1, d2, d3]) rfl ⟨by rw [HA.out], ?_⟩
      exact (((HBB.out.setCell (Nat.le_refl _) _).setCell (Nat.le_refl _) _).setCell (Nat.le_refl _) _).setCell (Nat.le_refl _) _
end Go.Proofs.Ytjmgalmndpjcoaa
