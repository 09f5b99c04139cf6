/-
  slices.Repeat of one number, whole.
-/
import Derived.Test.YtoeoilhbekhnbaaR1
namespace Go.Proofs.Ytoeoilhbekhnbaa
open Go.RowKit
set_option maxRecDepth 100000
set_option linter.unusedVariables false

/-- A row that is filled from its beginning. -/
def cellsR (N m : Nat) : List Value := List.replicate m (.int .i16 (-1)) ++ List.replicate (N - m) (.int .i16 0)
theorem cellsR_len {N m : Nat} (h : m ≤ N) : (cellsR N m).length = N := by simp [cellsR]; omega
theorem cellsR_splice {N m k : Nat} (h : m + k ≤ N) : splice (cellsR N m) m (List.replicate k (.int .i16 (-1))) = cellsR N (m + k) := by
  unfold splice cellsR
  have e1 : (List.replicate m (Value.int .i16 (-1)) ++ List.replicate (N - m) (Value.int .i16 0)).take m = List.replicate m (Value.int .i16 (-1)) := List.take_left' (by simp)
  have e2 : (List.replicate m (Value.int .i16 (-1)) ++ List.replicate (N - m) (Value.int .i16 0)).drop (m + (List.replicate k (Value.int .i16 (-1))).length) = List.replicate (N - (m + k)) (Value.int .i16 0) := by
    rw [List.length_replicate, List.drop_append, List.length_replicate, List.drop_of_length_le (by simp), List.nil_append, List.drop_replicate]
    congr 1
    omega
  rw [e1, e2, ← List.append_assoc, List.replicate_append_replicate]
theorem cellsR_all (N : Nat) : (cellsR N N).toArray = ncells .i16 (List.replicate N (-1)) := by
  rw [← made_ncells]
  apply Array.ext
  · simp [cellsR, madeCells]
  · intro i h1 h2
    simp [cellsR, madeCells, Nat.mod_one]
theorem cellsR_zero (N : Nat) : (cellsR N 0).toArray = ncells .i16 (List.replicate N 0) := by
  rw [← made_ncells]
  apply Array.ext
  · simp [cellsR, madeCells]
  · intro i h1 h2
    simp [cellsR, madeCells, Nat.mod_one]
theorem cellsR_get {N m j : Nat} (h : j < m) : (cellsR N m)[j]? = some (.int .i16 (-1)) := by
  unfold cellsR
  rw [List.getElem?_append_left (by simpa using h)]
  simp [h]
set_option maxHeartbeats 800000 in
theorem repeat_any (g c N : Nat) (w : World) (hN : 1 ≤ N ∧ N ≤ 5000) (hg : g < w.heap.size) (hc : w.cell? ⟨g, 0, none⟩ = some (.int .i16 (-1))) :
    Calls Try.prog 37 #[.slice (some ⟨g, 0, none⟩) 1 c, .int .i64 N] w fun e w' => ∃ h, e = .returned (.slice (some ⟨h, 0, none⟩) N N) ∧ w.heap.size ≤ h ∧ Blk w' h (ncells .i16 (List.replicate N (-1))) 58 ∧ Below w.heap.size w w' := by
  have m16 := run_make_row' (P := Try.prog) 27 58 (.int .i16 0) 2 Try.underlying27 info_s16 rfl .i64 .i64 N (by omega) (by omega)
  rw [made_ncells, ← cellsR_zero] at m16
  have HM := Lib.hid (fun W => mul_one N hN.2 W)
  have hsz1 : (Try.prog.info? 58).map (·.size) = some 1 := by kernel_rfl
  have hN1 := hN.1
  have hN2 := hN.2
  have hN3 : (N : Int) ≤ 5000 := by omega
  have hN4 : (1 : Int) ≤ (N : Int) := by omega
  have hB1 := (Below.refl w.heap.size w).alloc (Nat.le_refl _) (.cells (cellsR N 0).toArray 58)
  have hH1 : (w.alloc (.cells (cellsR N 0).toArray 58)).heap[w.heap.size]? = some (.cells (cellsR N 0).toArray 58 (0, 0)) := heap_alloc_new w _
  have hC1 : (w.alloc (.cells (cellsR N 0).toArray 58)).cell? ⟨g, 0, none⟩ = some (.int .i16 (-1)) := (hB1.cell (p := ⟨g, 0, none⟩) hg).trans hc
  have HC1 := Lib.hid (And.intro hB1 (And.intro hH1 hC1))
  clear hB1 hH1 hC1 hc
  go_enter Try.func37, Try.ntmps37
  go_wp2_with fail
  refine (HM.out _).mono ?_
  rintro e w2 ⟨rfl, rfl⟩
  go_upto_region 7 with fail
  generalize w.alloc (.cells (cellsR N 0).toArray 58) = w3 at *
  have HSR1 := Lib.hid (show ∀ j v, [Value.int .i16 (-1)][j]? = some v → w3.cell? ((⟨g, 0, none⟩ : Addr).add j) = some v from fun j v hv => by
    have hj : j < 1 := (List.getElem?_eq_some_iff.1 hv).1
    obtain rfl : j = 0 := by omega
    have hv2 : some (Value.int .i16 (-1)) = some v := hv
    rw [← hv2]
    have e : (⟨g, 0, none⟩ : Addr).add 0 = ⟨g, 0, none⟩ := by unfold Addr.add; split <;> simp_all
    rw [e]; exact HC1.out.2.2)
  have hone : ∀ v ∈ [Value.int .i16 (-1)], v.oneCell' = true := by simp [Value.oneCell']
  go_wp2_with (with_reducible refine wpList_copy_splice rfl _ _ 27 27 rfl 58 Try.underlying27 hsz1 (some ⟨w.heap.size, 0, none⟩) (some ⟨g, 0, none⟩) N N 1 c rfl rfl w.heap.size 0 (cellsR N 0) 58 HC1.out.2.1 [.int .i16 (-1)] (by simp [Nat.min_def]; omega) (fun _ => ⟨rfl, _, rfl, HSR1.out⟩) (by rw [cellsR_len (Nat.zero_le N)]; simp; omega) hone w.heap.size w HC1.out.1 (Nat.le_refl _) ?_)
  intro w4 hH4 hB4
  have HH4 := Lib.hid (show w4.heap[w.heap.size]? = some (.cells (cellsR N 1).toArray 58 (0, 0)) by have h := hH4.out; rwa [show [Value.int .i16 (-1)] = List.replicate 1 (Value.int .i16 (-1)) from rfl, cellsR_splice (by omega)] at h)
  have HB4 := Lib.hid hB4
  clear hH4 hB4
  go_wp2_with fail
  go_loopw [8] (fun iv wr => ∃ m : Nat, iv = .int .i64 m ∧ 1 ≤ m ∧ m ≤ N ∧ wr.heap[w.heap.size]? = some (.cells (cellsR N m).toArray 58 (0, 0)) ∧ Below w.heap.size w wr) (fun iv _ => N - (intOf iv).toNat)
  case atStart => exact ⟨1, rfl, Nat.le_refl _, hN1, HH4.out, HB4.out⟩
  case round =>
    clear HH4 HB4 HC1
    obtain ⟨m, rfl, hm1, hm, hH, hB⟩ := hrel
    by_cases hlt : m < N
    · have hmi : (m : Int) < (N : Int) := by omega
      have hmle : m ≤ N := hm
      obtain ⟨k, hk⟩ : ∃ k, k = Nat.min m (N - m) := ⟨_, rfl⟩
      have hk1 : 1 ≤ k ∧ m + k ≤ N ∧ k ≤ m := by rw [hk]; simp only [Nat.min_def]; split <;> omega
      have HK := Lib.hid hk
      have HSP := Lib.hid (cellsR_splice (N := N) (m := m) (k := k) hk1.2.1)
      have HHq := Lib.hid (show wr.drew.heap[w.heap.size]? = some (.cells (cellsR N m).toArray 58 (0, 0)) from hH)
      have HBq := Lib.hid hB.drew
      have hkl := blk_lt hH
      clear hk hH hB
      have HSR := Lib.hid (show ∀ j v, (List.replicate k (Value.int .i16 (-1)))[j]? = some v → wr.drew.cell? ((⟨w.heap.size, 0, none⟩ : Addr).add j) = some v from fun j v hv => by
        have hj : j < k := by have h := (List.getElem?_eq_some_iff.1 hv).1; rwa [List.length_replicate] at h
        have e : (⟨w.heap.size, 0, none⟩ : Addr).add j = ⟨w.heap.size, j, none⟩ := by unfold Addr.add; split <;> simp_all
        rw [e, cell_of_row _ _ j _ _ _ HHq.out, List.getElem?_toArray, cellsR_get (by omega)]
        rw [List.getElem?_replicate, if_pos hj] at hv
        exact hv)
      have HL1 := Lib.hid (show (List.replicate k (Value.int .i16 (-1))).length = Nat.min m (N - m) by rw [List.length_replicate]; exact HK.out)
      have HL2 := Lib.hid (show m + (List.replicate k (Value.int .i16 (-1))).length ≤ (cellsR N m).length by rw [List.length_replicate, cellsR_len hmle]; exact hk1.2.1)
      have HL3 := Lib.hid (show ∀ v ∈ List.replicate k (Value.int .i16 (-1)), v.oneCell' = true from fun v hv => by rw [List.eq_of_mem_replicate hv]; rfl)
      have hmli : (m : Int) ≤ (N : Int) := by omega
      have hNm : ¬ N = m := by omega
      have hwr : IntKind.i64.wrap ((m : Int) + (k : Int)) = (m : Int) + (k : Int) := IntWalk.i64_in _ (by omega)
      have HWR := Lib.hid hwr
      go_upto_region 9 with fail
      go_region_law (with_reducible refine step_copy_splice (w := wr.drew) rfl (.tmp 41) (.tmp 44) 27 27 rfl 58 Try.underlying27 hsz1 (some ⟨w.heap.size, m, none⟩) (some ⟨w.heap.size, 0, none⟩) (N - m) (N - m) m N (by kernel_rfl) (by kernel_rfl) w.heap.size m (cellsR N m) 58 HHq.out (List.replicate k (.int .i16 (-1))) HL1.out (fun _ => ⟨rfl, _, rfl, HSR.out⟩) HL2.out HL3.out w.heap.size w HBq.out (Nat.le_refl _) ?_; intro w5 hg5 hb5)
      have HFN := Lib.hid (show w5.heap[w.heap.size]? = some (.cells (cellsR N (m + k)).toArray 58 (0, 0)) by have h := hg5.out; rwa [HSP.out] at h)
      have HBN := Lib.hid hb5
      clear hg5 hb5
      go_simp
      go_wp2_with fail
      go_roundw
      case rel => exact ⟨m + k, by first | go_num | (rw [HWR.out]; go_num), by omega, hk1.2.1, HFN.out, HBN.out⟩
      case measure => simp [intOf]; omega
    · obtain rfl : m = N := by omega
      have HF := Lib.hid (show Blk wr w.heap.size (ncells .i16 (List.replicate m (-1))) 58 by rw [← cellsR_all]; exact hH)
      have hli : ¬ (m : Int) < (m : Int) := by omega
      clear hH
      go_wp2
      go_ret
      exact ⟨w.heap.size, rfl, Nat.le_refl _, HF.out, hB⟩
end Go.Proofs.Ytoeoilhbekhnbaa
