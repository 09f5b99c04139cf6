/-
  All moves of so many jugs, and the walks of everyMove and of its model.
-/
import Derived.Test.YtjmgalmndpjcoaaMvs2
import Derived.Test.YtjmgalmndpjcoaaDoMove
import Derived.Deep.AppendLies
namespace Go.Proofs.Ytjmgalmndpjcoaa
open Go.RowKit
set_option maxRecDepth 100000
set_option linter.unusedVariables false

def pours (n m : Nat) : List Mv := (List.range m).flatMap (fun (i : Nat) => (List.range n).map (fun (k : Nat) => ((0 : Int), (i : Int), (k : Int))))
def part1 (n i k : Nat) : List Mv := pours n i ++ (List.range k).map (fun (q : Nat) => ((0 : Int), (i : Int), (q : Int)))
def part2 (n d k : Nat) : List Mv := pours n n ++ ((List.range d).flatMap (fun (q : Nat) => (List.range n).map (fun (i : Nat) => ((q : Int) + 1, (i : Int), (0 : Int)))) ++ (List.range k).map (fun (i : Nat) => ((d : Int) + 1, (i : Int), (0 : Int))))
/-- All moves of n jugs in their order. -/
def allM (n : Nat) : List Mv := part2 n 2 0
theorem part1_zero (n i : Nat) : part1 n i 0 = pours n i := by simp [part1]
theorem part1_step (n i k : Nat) : part1 n i (k + 1) = part1 n i k ++ [((0 : Int), (i : Int), (k : Int))] := by simp [part1, List.range_succ]
theorem part1_full (n i : Nat) : part1 n i n = pours n (i + 1) := by simp [part1, pours, List.range_succ]
theorem pours_zero (n : Nat) : pours n 0 = [] := rfl
theorem part2_start (n : Nat) : part2 n 0 0 = pours n n := by simp [part2]
theorem part2_step (n d k : Nat) : part2 n d (k + 1) = part2 n d k ++ [((d : Int) + 1, (k : Int), (0 : Int))] := by simp [part2, List.range_succ]
theorem part2_full (n d : Nat) : part2 n d n = part2 n (d + 1) 0 := by simp [part2, List.range_succ]
theorem pours_len (n m : Nat) : (pours n m).length = m * n := by
  induction m with
  | zero => simp [pours]
  | succ m ih => rw [← part1_full, part1, List.length_append, ih, List.length_map, List.length_range, Nat.succ_mul]
theorem part1_len (n i k : Nat) (hn : n ≤ 4) (hi : i ≤ 4) (hk : k ≤ 4) : (part1 n i k).length ≤ 20 := by
  rw [part1, List.length_append, pours_len, List.length_map, List.length_range]
  have := Nat.mul_le_mul hi hn
  omega
theorem part2_len (n d k : Nat) (hn : n ≤ 4) (hd : d ≤ 2) (hk : k ≤ 4) : (part2 n d k).length ≤ 28 := by
  rw [part2, List.length_append, List.length_append, pours_len, List.length_map, List.length_range]
  have h1 := Nat.mul_le_mul hn hn
  have h2 : ((List.range d).flatMap (fun (q : Nat) => (List.range n).map (fun (i : Nat) => ((q : Int) + 1, (i : Int), (0 : Int))))).length ≤ 8 := by
    match d, hd with
    | 0, _ => simp
    | 1, _ => simp; omega
    | 2, _ => simp [List.range_succ]; omega
  omega
theorem allM_len (n : Nat) (hn : n ≤ 4) : (allM n).length ≤ 28 := part2_len n 2 0 hn (by omega) (by omega)
/-- The cells of moves, one behind the other. -/
def mvals (ms : List Mv) : List Value := ms.flatMap (fun m => [.int .i8 m.1, .int .i8 m.2.1, .int .i8 m.2.2])
theorem mvals_snoc (ms : List Mv) (m : Mv) : mvals (ms ++ [m]) = mvals ms ++ [.int .i8 m.1, .int .i8 m.2.1, .int .i8 m.2.2] := by simp [mvals]
theorem mvals_len (ms : List Mv) : (mvals ms).length = ms.length * 3 := by
  induction ms with
  | nil => rfl
  | cons m ms ih => rw [show mvals (m :: ms) = [.int .i8 m.1, .int .i8 m.2.1, .int .i8 m.2.2] ++ mvals ms from rfl, List.length_append, ih, List.length_cons]; simp; omega
theorem mvals_get (ms : List Mv) (j : Nat) (hj : j < ms.length) : (mvals ms)[j * 3]? = some (.int .i8 (mvI ms j).1) ∧ (mvals ms)[j * 3 + 1]? = some (.int .i8 (mvI ms j).2.1) ∧ (mvals ms)[j * 3 + 2]? = some (.int .i8 (mvI ms j).2.2) := by
  induction ms generalizing j with
  | nil => exact absurd hj (by simp)
  | cons m ms ih =>
    rw [show mvals (m :: ms) = .int .i8 m.1 :: .int .i8 m.2.1 :: .int .i8 m.2.2 :: mvals ms from rfl]
    cases j with
    | zero => exact ⟨rfl, rfl, rfl⟩
    | succ j =>
      have h := ih j (by simpa using hj)
      rw [show (j + 1) * 3 = j * 3 + 3 by omega]
      exact h
/-- A list of moves that a call has made, with room to write. -/
def OwnM (B : Nat) (w : World) (v : Value) (ms : List Mv) : Prop := ∃ g c, v = .slice (some ⟨g, 0, none⟩) ms.length c ∧ ms.length ≤ c ∧ B ≤ g ∧ g < w.heap.size ∧ MAt w g 0 ms ∧ ∀ j, w.frozen? ⟨g, j, none⟩ = false
theorem OwnM.ofOwns {B n : Nat} {w : World} {v : Value} {t : TypeId} {ms : List Mv} (h : w.ownsRow B t 3 v n (mvals ms)) (hn : n = ms.length) (h0 : 0 < ms.length) : OwnM B w v ms := by
  subst hn
  rcases h.2 with ⟨_, hx⟩ | ⟨g, cap, cur, hv, hB, hg, hnc, _, hs, htake⟩
  · have := mvals_len ms
    rw [hx] at this
    simp at this
    omega
  · have hlt : g < w.heap.size := (Array.getElem?_eq_some_iff.1 hg).1
    refine ⟨g, cap, hv, hnc, hB, hlt, fun j hj => ?_, fun j => by simp [World.frozen?, hg]⟩
    have key : ∀ q u, q < ms.length * 3 → (mvals ms)[q]? = some u → w.cell? ⟨g, q, none⟩ = some u := by
      intro q u hq hu
      have h1 : (cur.toList.take (ms.length * 3))[q]? = (mvals ms)[q]? := by rw [htake]
      rw [List.getElem?_take_of_lt hq, hu] at h1
      have h2 : cur[q]? = some u := by simpa using h1
      simp [World.cell?, hg, h2]
    obtain ⟨a, b, c⟩ := mvals_get ms j hj
    rw [Nat.zero_add]
    exact ⟨key _ _ (by omega) a, key _ _ (by omega) b, key _ _ (by omega) c⟩
theorem Try.infoM : (Try.prog.info? 78).map (fun i => (i.zero, i.size, i.bytes)) = some (some (.agg #[.int .i8 0, .int .i8 0, .int .i8 0]), 3, 3) := by kernel_rfl
theorem everyMove_any (n : Nat) (w : World) (hn : 1 ≤ n ∧ n ≤ 4) :
    Calls Try.prog 65 #[.int .i64 n] w fun e w' => ∃ v, e = .returned v ∧ OwnM w.heap.size w' v (allM n) ∧ Below w.heap.size w w' := by
  obtain ⟨i0, hi, hz0, hz1, hz2⟩ := info_parts Try.infoM
  have hn4 : (n : Int) ≤ 4 := by omega
  go_enter Try.func65, Try.ntmps65
  go_wp2
  go_loopw [3, 11] (fun v iv wr => ∃ i : Nat, iv = .int .i8 i ∧ i ≤ n ∧ wr.ownsRow w.heap.size 78 3 v (pours n i).length (mvals (pours n i)) ∧ Below w.heap.size w wr) (fun _ iv _ => n - (intOf iv).toNat)
  case atStart => exact ⟨0, rfl, Nat.zero_le _, World.ownsRow_nil _ _ _ _, Below.refl _ _⟩
  case round =>
    obtain ⟨i, rfl, hin, hown, hB⟩ := hrel
    by_cases hlt : i < n
    · have hO := Lib.hid hown
      have hBB := Lib.hid hB
      have hi4 : (i : Int) < (n : Int) := by omega
      clear hown hB
      go_wp2
      go_loopw [3, 16] (fun v kv wq => ∃ k : Nat, kv = .int .i8 k ∧ k ≤ n ∧ wq.ownsRow w.heap.size 78 3 v (part1 n i k).length (mvals (part1 n i k)) ∧ Below w.heap.size w wq) (fun _ kv _ => n - (intOf kv).toNat)
      case atStart => exact ⟨0, rfl, Nat.zero_le _, by rw [part1_zero]; exact hO.out, hBB.out⟩
      case round =>
        obtain ⟨k, rfl, hkn, hown, hB⟩ := hrel
        have hl := part1_len n i k hn.2 (by omega) (by omega)
        by_cases hlk : k < n
        · have hk4 : (k : Int) < (n : Int) := by omega
          obtain ⟨wq, rfl⟩ : ∃ wq : World, wq = wr := ⟨_, rfl⟩
          go_wp2_with (at_builtin; refine wpList_append_own _ rfl _ _ 39 rfl w.heap.size 78 i0 (.agg #[.int .i8 0, .int .i8 0, .int .i8 0]) 3 3 Try.underlying39 hi hz0 hz1 hz2 rfl (by decide) _ _ _ rfl (hown.alloc _) ⟨wq.heap.size, 0, none⟩ 1 1 [.int .i8 0, .int .i8 i, .int .i8 k] rfl rfl (World.news_of_block (cs := #[.int .i8 0, .int .i8 i, .int .i8 k]) (t := 78) (fr := (0, 0)) (heap_alloc_new wq _)) (by simp [Value.oneCell']) (by unfold maxLen; omega) (by omega) (by have := hB.size; simp; omega) ?_)
          intro v' w1 hown' hgrow _
          have hB1 := Lib.hid ((hB.alloc hB.size (.cells #[.int .i8 0, .int .i8 i, .int .i8 k] 78)).grown hgrow (by have := hB.size; simp; omega) (fun j hj => (hown.lt j hj).1))
          have hO1 := Lib.hid (show w1.ownsRow w.heap.size 78 3 v' (part1 n i (k + 1)).length (mvals (part1 n i (k + 1))) by rw [part1_step, mvals_snoc, List.length_append]; exact hown')
          clear hown' hgrow hown hB
          go_wp2
          go_roundw
          case rel => exact ⟨k + 1, by go_num, by omega, hO1.out, hB1.out⟩
          case measure => simp [intOf]; omega
        · obtain rfl : k = n := by omega
          rw [part1_full] at hown
          have hO1 := Lib.hid hown
          clear hown
          go_wp2
          go_roundw
          case rel => exact ⟨i + 1, by go_num, by omega, hO1.out, hB⟩
          case measure => simp [intOf]; omega
    · have hO2 := hown
      rw [show i = n by omega, ← part2_start] at hO2
      have hO := Lib.hid hO2
      have hBB := Lib.hid hB
      have hni : ¬ (i : Int) < (n : Int) := by omega
      clear hown hO2 hB
      go_wp2
      have hk2 : (wr.alloc (.cells #[.int .i8 1, .int .i8 2] 76)).cell? ⟨wr.heap.size, 0, none⟩ = some (.int .i8 1) ∧ (wr.alloc (.cells #[.int .i8 1, .int .i8 2] 76)).cell? ⟨wr.heap.size, 1, none⟩ = some (.int .i8 2) := ⟨by simp, by simp⟩
      have hO2 := hO.out.alloc (.cells #[.int .i8 1, .int .i8 2] 76)
      have hB2 := hBB.out.alloc hBB.out.size (.cells #[.int .i8 1, .int .i8 2] 76)
      have hlt2 : wr.heap.size < (wr.alloc (.cells #[.int .i8 1, .int .i8 2] 76)).heap.size := by simp
      have hob : ∀ v : Value, wr.ownsRow w.heap.size 78 3 v (part2 n 0 0).length (mvals (part2 n 0 0)) → v.ownBlock ≠ some wr.heap.size := fun v h e => by have := (h.lt _ e).2; omega
      replace hob := hob _ hO.out
      generalize wr.heap.size = gk at *
      generalize (wr.alloc (.cells #[.int .i8 1, .int .i8 2] 76)) = wz at *
      have hO3 := Lib.hid hO2
      clear hO hBB hO2
      go_loopw [3, 29] (fun v dv wy => ∃ d : Nat, dv = .int .i64 d ∧ d ≤ 2 ∧ wy.ownsRow w.heap.size 78 3 v (part2 n d 0).length (mvals (part2 n d 0)) ∧ Below w.heap.size w wy ∧ (gk < wy.heap.size ∧ v.ownBlock ≠ some gk ∧ wy.cell? ⟨gk, 0, none⟩ = some (.int .i8 1) ∧ wy.cell? ⟨gk, 1, none⟩ = some (.int .i8 2))) (fun _ dv _ => 2 - (intOf dv).toNat)
      case atStart => exact ⟨0, rfl, by omega, hO3.out, hB2, hlt2, hob, hk2⟩
      case round =>
        obtain ⟨d, rfl, hd2, hown, hB, hBz⟩ := hrel
        by_cases hld : d < 2
        · have hcd : wr.cell? ⟨gk, d, none⟩ = some (.int .i8 ((d : Int) + 1)) := by
            rcases (show d = 0 ∨ d = 1 by omega) with rfl | rfl
            · exact hBz.2.2.1
            · exact hBz.2.2.2
          have hO := Lib.hid hown
          have hBB := Lib.hid (And.intro hB hBz)
          have hd4 : (d : Int) < 2 := by omega
          clear hown hB hBz
          go_wp2
          clear hcd
          go_loopw [3, 35] (fun v kv wq => ∃ k : Nat, kv = .int .i8 k ∧ k ≤ n ∧ wq.ownsRow w.heap.size 78 3 v (part2 n d k).length (mvals (part2 n d k)) ∧ Below w.heap.size w wq ∧ (gk < wq.heap.size ∧ v.ownBlock ≠ some gk ∧ wq.cell? ⟨gk, 0, none⟩ = some (.int .i8 1) ∧ wq.cell? ⟨gk, 1, none⟩ = some (.int .i8 2))) (fun _ kv _ => n - (intOf kv).toNat)
          case atStart => exact ⟨0, rfl, Nat.zero_le _, hO.out, hBB.out.1, hBB.out.2⟩
          case round =>
            obtain ⟨k, rfl, hkn, hown, hB, hBz⟩ := hrel
            have hl := part2_len n d k hn.2 (by omega) (by omega)
            by_cases hlk : k < n
            · have hk4 : (k : Int) < (n : Int) := by omega
              have HBZ := Lib.hid hBz
              clear hBz
              obtain ⟨wq, rfl⟩ : ∃ wq : World, wq = wr := ⟨_, rfl⟩
              go_wp2_with (at_builtin; refine wpList_append_lies _ rfl _ _ 39 rfl w.heap.size 78 i0 (.agg #[.int .i8 0, .int .i8 0, .int .i8 0]) 3 3 Try.underlying39 hi hz0 hz1 hz2 rfl (by decide) _ _ _ rfl (hown.alloc _) ⟨wq.heap.size, 0, none⟩ 1 1 [.int .i8 ((d : Int) + 1), .int .i8 k, .int .i8 0] rfl rfl (World.news_of_block (cs := #[.int .i8 ((d : Int) + 1), .int .i8 k, .int .i8 0]) (t := 78) (fr := (0, 0)) (heap_alloc_new wq _)) (by simp [Value.oneCell']) (by omega) (by unfold maxLen; omega) (by omega) (by have := hB.size; simp; omega) _ rfl ?_)
              intro g' cap' w1 hown' hgrow hat hlt'
              have hB1 := Lib.hid ((hB.alloc hB.size (.cells #[.int .i8 ((d : Int) + 1), .int .i8 k, .int .i8 0] 78)).grown hgrow (by have := hB.size; simp; omega) (fun j hj => (hown.lt j hj).1))
              have hZ1 := Lib.hid (show gk < w1.heap.size ∧ (Value.slice (some ⟨g', 0, none⟩) ((part2 n d k).length + 1) cap').ownBlock ≠ some gk ∧ w1.cell? ⟨gk, 0, none⟩ = some (.int .i8 1) ∧ w1.cell? ⟨gk, 1, none⟩ = some (.int .i8 2) by
                have hs := hgrow.size
                have hA := HBZ.out.1
                have hne := HBZ.out.2.1
                rw [World.size_alloc] at hs
                refine ⟨by omega, ?_, ?_, ?_⟩
                · intro e
                  have e2 : g' = gk := by simpa [Value.ownBlock] using e
                  rcases hat with h | h
                  · exact hne (by rw [h, e2])
                  · omega
                · rw [hgrow.cell_far ⟨gk, 0, none⟩ (by show gk < _; rw [World.size_alloc]; omega) (by show some gk ≠ _; exact fun e => hne e.symm)]
                  exact (Below.cell ((Below.refl wq.heap.size wq).alloc (Nat.le_refl _) _) (p := ⟨gk, 0, none⟩) hA).trans HBZ.out.2.2.1
                · rw [hgrow.cell_far ⟨gk, 1, none⟩ (by show gk < _; rw [World.size_alloc]; omega) (by show some gk ≠ _; exact fun e => hne e.symm)]
                  exact (Below.cell ((Below.refl wq.heap.size wq).alloc (Nat.le_refl _) _) (p := ⟨gk, 1, none⟩) hA).trans HBZ.out.2.2.2)
              have hO1 := Lib.hid (show w1.ownsRow w.heap.size 78 3 (Value.slice (some ⟨g', 0, none⟩) ((part2 n d k).length + 1) cap') (part2 n d (k + 1)).length (mvals (part2 n d (k + 1))) by rw [part2_step, mvals_snoc, List.length_append]; exact hown')
              clear hown' hgrow hown hB hat hlt' HBZ
              go_wp2
              go_roundw
              case rel => exact ⟨k + 1, by go_num, by omega, hO1.out, hB1.out, hZ1.out⟩
              case measure => simp [intOf]; omega
            · have hO1 := hown
              rw [show k = n by omega, part2_full] at hO1
              have HO1 := Lib.hid hO1
              have hkn2 : ¬ (k : Int) < (n : Int) := by omega
              clear hown hO1
              go_wp2
              go_roundw
              case rel => exact ⟨d + 1, by go_num, by omega, HO1.out, hB, hBz⟩
              case measure => simp [intOf]; omega
        · have hO1 := hown
          rw [show d = 2 by omega] at hO1
          have HO1 := Lib.hid hO1
          have hdn : ¬ (d : Int) < 2 := by omega
          clear hown hO1
          go_wp2
          go_ret
          refine ⟨_, rfl, OwnM.ofOwns HO1.out rfl ?_, hB⟩
          show 0 < (allM n).length
          rw [allM, part2, List.length_append, pours_len]
          have := Nat.mul_le_mul hn.1 hn.1
          omega
theorem l02All_any (p b off nJ c : Nat) (x : Nat → Int) (t : Bool) (w : World) (hn : 1 ≤ nJ ∧ nJ ≤ 4) (hp : Blk w p #[.slice (some ⟨b, off, none⟩) nJ c, .int .i16 (x 0), .int .i16 (x 1), .int .i16 (x 2), .int .i16 (x 3), .bool t] 32) :
    Calls Try.prog 58 #[.pointer (some ⟨p, 0, none⟩)] w fun e w' => ∃ v, e = .returned v ∧ OwnM w.heap.size w' v (allM nJ) ∧ Below w.heap.size w w' := by
  obtain ⟨i0, hi, hz0, hz1, hz2⟩ := info_parts Try.infoM
  have hn4 : (nJ : Int) ≤ 4 := by omega
  have hplt := hp.lt
  have hp2 := hp.alloc (.cells #[] 78)
  obtain ⟨p0, -, -, -, -, -, -⟩ := hp2.six
  clear hp hp2
  go_enter Try.func58, Try.ntmps58
  go_wp2
  clear p0
  have hO0 := Lib.hid (World.ownsRow_made (base := w.heap.size) (e := 78) (size := 3) w #[] 0 (Nat.le_refl _) (by unfold maxLen; omega) (by simp))
  have hB0 := (Below.refl w.heap.size w).alloc (Nat.le_refl _) (.cells #[] 78)
  generalize w.alloc (.cells #[] 78) = wa at *
  go_loopw [3, 5] (fun v iv wr => ∃ i : Nat, iv = .int .i8 i ∧ i ≤ nJ ∧ wr.ownsRow w.heap.size 78 3 v (pours nJ i).length (mvals (pours nJ i)) ∧ Below w.heap.size w wr) (fun _ iv _ => nJ - (intOf iv).toNat)
  case atStart => exact ⟨0, rfl, Nat.zero_le _, hO0.out, hB0⟩
  case round =>
    obtain ⟨i, rfl, hin, hown, hB⟩ := hrel
    by_cases hlt : i < nJ
    · have hO := Lib.hid hown
      have hBB := Lib.hid hB
      have hi4 : (i : Int) < (nJ : Int) := by omega
      clear hown hB
      go_wp2
      go_loopw [3, 6] (fun v kv wq => ∃ k : Nat, kv = .int .i8 k ∧ k ≤ nJ ∧ wq.ownsRow w.heap.size 78 3 v (part1 nJ i k).length (mvals (part1 nJ i k)) ∧ Below w.heap.size w wq) (fun _ kv _ => nJ - (intOf kv).toNat)
      case atStart => exact ⟨0, rfl, Nat.zero_le _, by rw [part1_zero]; exact hO.out, hBB.out⟩
      case round =>
        obtain ⟨k, rfl, hkn, hown, hB⟩ := hrel
        have hl := part1_len nJ i k hn.2 (by omega) (by omega)
        by_cases hlk : k < nJ
        · have hk4 : (k : Int) < (nJ : Int) := by omega
          obtain ⟨wq, rfl⟩ : ∃ wq : World, wq = wr := ⟨_, rfl⟩
          go_wp2_with (at_builtin; refine wpList_append_own _ rfl _ _ 39 rfl w.heap.size 78 i0 (.agg #[.int .i8 0, .int .i8 0, .int .i8 0]) 3 3 Try.underlying39 hi hz0 hz1 hz2 rfl (by decide) _ _ _ rfl (hown.alloc _) ⟨wq.heap.size, 0, none⟩ 1 1 [.int .i8 0, .int .i8 i, .int .i8 k] rfl rfl (World.news_of_block (cs := #[.int .i8 0, .int .i8 i, .int .i8 k]) (t := 78) (fr := (0, 0)) (heap_alloc_new wq _)) (by simp [Value.oneCell']) (by unfold maxLen; omega) (by omega) (by have := hB.size; simp; omega) ?_)
          intro v' w1 hown' hgrow _
          have hB1 := Lib.hid ((hB.alloc hB.size (.cells #[.int .i8 0, .int .i8 i, .int .i8 k] 78)).grown hgrow (by have := hB.size; simp; omega) (fun j hj => (hown.lt j hj).1))
          have hO1 := Lib.hid (show w1.ownsRow w.heap.size 78 3 v' (part1 nJ i (k + 1)).length (mvals (part1 nJ i (k + 1))) by rw [part1_step, mvals_snoc, List.length_append]; exact hown')
          clear hown' hgrow hown hB
          go_wp2
          go_roundw
          case rel => exact ⟨k + 1, by go_num, by omega, hO1.out, hB1.out⟩
          case measure => simp [intOf]; omega
        · have hO1 := hown
          rw [show k = nJ by omega, part1_full] at hO1
          have HO1 := Lib.hid hO1
          have hkn2 : ¬ (k : Int) < (nJ : Int) := by omega
          clear hown hO1
          go_wp2
          go_roundw
          case rel => exact ⟨i + 1, by go_num, by omega, HO1.out, hB⟩
          case measure => simp [intOf]; omega
    · have hO2 := hown
      rw [show i = nJ by omega, ← part2_start] at hO2
      have hO := Lib.hid hO2
      have hBB := Lib.hid hB
      have hni : ¬ (i : Int) < (nJ : Int) := by omega
      clear hown hO2 hB
      go_wp2
      go_loopw [3, 7] (fun v dv wy => ∃ d : Nat, dv = .int .i8 ((d : Int) + 1) ∧ d ≤ 2 ∧ wy.ownsRow w.heap.size 78 3 v (part2 nJ d 0).length (mvals (part2 nJ d 0)) ∧ Below w.heap.size w wy) (fun _ dv _ => (3 - intOf dv).toNat)
      case atStart => exact ⟨0, rfl, by omega, hO.out, hBB.out⟩
      case round =>
        obtain ⟨d, rfl, hd2, hown, hB⟩ := hrel
        by_cases hld : d < 2
        · have hO := Lib.hid hown
          have hBB := Lib.hid hB
          have hd4 : (d : Int) + 1 ≤ 2 := by omega
          clear hown hB
          go_wp2
          go_loopw [3, 8] (fun v kv wq => ∃ k : Nat, kv = .int .i8 k ∧ k ≤ nJ ∧ wq.ownsRow w.heap.size 78 3 v (part2 nJ d k).length (mvals (part2 nJ d k)) ∧ Below w.heap.size w wq) (fun _ kv _ => nJ - (intOf kv).toNat)
          case atStart => exact ⟨0, rfl, Nat.zero_le _, hO.out, hBB.out⟩
          case round =>
            obtain ⟨k, rfl, hkn, hown, hB⟩ := hrel
            have hl := part2_len nJ d k hn.2 (by omega) (by omega)
            by_cases hlk : k < nJ
            · have hk4 : (k : Int) < (nJ : Int) := by omega
              obtain ⟨wq, rfl⟩ : ∃ wq : World, wq = wr := ⟨_, rfl⟩
              go_wp2_with (at_builtin; refine wpList_append_own _ rfl _ _ 39 rfl w.heap.size 78 i0 (.agg #[.int .i8 0, .int .i8 0, .int .i8 0]) 3 3 Try.underlying39 hi hz0 hz1 hz2 rfl (by decide) _ _ _ rfl (hown.alloc _) ⟨wq.heap.size, 0, none⟩ 1 1 [.int .i8 ((d : Int) + 1), .int .i8 k, .int .i8 0] rfl rfl (World.news_of_block (cs := #[.int .i8 ((d : Int) + 1), .int .i8 k, .int .i8 0]) (t := 78) (fr := (0, 0)) (heap_alloc_new wq _)) (by simp [Value.oneCell']) (by unfold maxLen; omega) (by omega) (by have := hB.size; simp; omega) ?_)
              intro v' w1 hown' hgrow _
              have hB1 := Lib.hid ((hB.alloc hB.size (.cells #[.int .i8 ((d : Int) + 1), .int .i8 k, .int .i8 0] 78)).grown hgrow (by have := hB.size; simp; omega) (fun j hj => (hown.lt j hj).1))
              have hO1 := Lib.hid (show w1.ownsRow w.heap.size 78 3 v' (part2 nJ d (k + 1)).length (mvals (part2 nJ d (k + 1))) by rw [part2_step, mvals_snoc, List.length_append]; exact hown')
              clear hown' hgrow hown hB
              go_wp2
              go_roundw
              case rel => exact ⟨k + 1, by go_num, by omega, hO1.out, hB1.out⟩
              case measure => simp [intOf]; omega
            · have hO1 := hown
              rw [show k = nJ by omega, part2_full] at hO1
              have HO1 := Lib.hid hO1
              have hkn2 : ¬ (k : Int) < (nJ : Int) := by omega
              clear hown hO1
              go_wp2
              go_roundw
              case rel => exact ⟨d + 1, by go_num, by omega, HO1.out, hB⟩
              case measure => simp [intOf]; omega
        · have hO1 := hown
          rw [show d = 2 by omega] at hO1
          have HO1 := Lib.hid hO1
          have hdn : ¬ (d : Int) + 1 ≤ 2 := by omega
          clear hown hO1
          go_wp2
          go_ret
          refine ⟨_, rfl, OwnM.ofOwns HO1.out rfl ?_, hB⟩
          show 0 < (allM nJ).length
          rw [allM, part2, List.length_append, pours_len]
          have := Nat.mul_le_mul hn.1 hn.1
          omega
end Go.Proofs.Ytjmgalmndpjcoaa
