/-
  The iterator of the cases of a task with up to 80 coins, as a loop inside another iterator takes it.
-/
import Derived.Test.YtieghjpecoiodaaA1
namespace Go.Proofs.Ytieghjpecoiodaa
open Go.RowKit Go.Shelf
set_option maxRecDepth 100000
set_option linter.unusedVariables false

attribute [local go_sem] Oper.semAt_some

set_option maxHeartbeats 4000000 in
theorem cases80 (F : Fence) (n : Nat) (h6 : F.fn 64) (hro : F.round = none) (hn : 1 ≤ n) (Bn n₀ : Nat) (S : Nat → Prop) (hS : S Bn) (hSb : ∀ b, S b → b ≤ Bn) (m : Nat) (k : Int) (gg : Bool) (hm : m ≤ 80) (hk : 0 ≤ k ∧ k ≤ 2)
    (W : World) (hbk : Blk W Bn #[.int .i8 (m : Int), .int .i8 k, .bool true, .bool gg] 30) :
    Gives F n Try.prog 64 #[.pointer (some ⟨Bn, 0, none⟩)] (fun x : Cs => #[caseV x.1 x.2]) n₀ S (upC k true m) W := by
  intro l B J Jx hB hl hJ hJx hY h0
  clear hB hl hJ hJx
  have HSb := Lib.hid hSb
  clear hSb
  show CallsIn F n Try.prog 64 #[.func (.yield l) #[] #[], .pointer (some ⟨Bn, 0, none⟩)] W _
  have hkk2 : -128 ≤ k ∧ k ≤ 127 := by omega
  have hmm : (m : Int) ≤ 80 := by omega
  refine callsIn_of_wp Try.func64 rfl h6 ?_ hro
  simp only [Try.ntmps64, List.size_toArray, List.length_cons, List.length_nil, Nat.reduceAdd, Nat.reduceSub, Array.replicate_succ, Array.replicate_zero, List.push_toArray, List.append_toArray, List.nil_append, List.cons_append]
  obtain ⟨c0, c1, c2, c3, -⟩ := hbk.four
  have HPz := Lib.hid (show ∀ pre, pre <+: [((-1 : Int), false)] → pre <+: upC k true m from fun pre h => h.trans (by rw [upC, if_pos rfl]; exact List.prefix_append _ _))
  obtain ⟨fnz, tmpsz, assignz, bodyz, hyz, hRz⟩ := hY [] ((-1 : Int), false) W h0 (HPz.out _ (List.prefix_refl _)) (fun b hb => Nat.lt_of_le_of_lt (HSb.out b hb) hbk.lt)
  dsimp only at hyz
  gi_wp2
  refine hRz.mono ?_
  rintro e Wz (⟨rfl, hJz, hkz⟩ | ⟨rfl, hJxz, -⟩)
  case inr =>
    gi_wp2
    refine bodyPost_ret (results_none rfl _ _ _) rfl ?_
    exact ⟨⟨_, rfl⟩, .inr ⟨[((-1 : Int), false)], HPz.out _ (List.prefix_refl _), hJxz⟩⟩
  have hbkz := hkz.1.2 Bn _ _ hS hbk
  clear c0 c1 c2 c3 hbk h0
  obtain ⟨c0, c1, c2, c3, -⟩ := hbkz.four
  have hst : J (upC k true 0) Wz := by simpa [upC] using hJz
  clear hJz hkz
  gi_wp2
  clear c0 c1 c2 c3
  gi_loopw [14] (fun p wr => ∃ i : Nat, p = .int .i8 (i : Int) ∧ i ≤ m ∧ Blk wr Bn #[.int .i8 (m : Int), .int .i8 k, .bool true, .bool gg] 30 ∧ J (upC k true i) wr) (fun p _ => m - (intOf p).toNat)
  case atStart => exact ⟨0, rfl, Nat.zero_le _, hbkz, hst⟩
  case round =>
    clear hst hbkz
    obtain ⟨i, rfl, hi, hbk, hJs⟩ := hrel
    by_cases hlt : i < m
    case neg =>
      obtain rfl : i = m := by omega
      gi_wp2
      go_end0
      exact ⟨⟨_, rfl⟩, .inl hJs⟩
    have hltz : (i : Int) < (m : Int) := by omega
    have HP := Lib.hid (show ∀ pre, pre <+: upC k true (i + 1) → pre <+: upC k true m from fun pre h => h.trans (upC_pre k true m (by omega)))
    have HL := Lib.hid (show (upC k true i).length + (cOf k i).length ≤ (upC k true m).length from by
      have := (upC_pre k true m (show i + 1 ≤ m by omega)).length_le
      rw [upC_succ, List.length_append] at this
      exact this)
    have Hs := Lib.hid (upC_succ k true i)
    rcases k_of hk with rfl | rfl | rfl
    · have hkk : ((0 : Int) != 1) = true := by decide
      have hkl : ((0 : Int) != 0) = false := by decide
      simp only [cOf0, List.length_cons, List.length_nil] at Hs HL
      obtain ⟨c0, c1, c2, c3, -⟩ := hbk.four
      obtain ⟨fn0, tmps0, assign0, body0, hy0, hR0⟩ := hY (upC 0 true i) ((i : Int), true) wr hJs (HP.out _ (by rw [Hs.out]; simp)) (fun b hb => Nat.lt_of_le_of_lt (HSb.out b hb) hbk.lt)
      dsimp only at hy0
      gi_wp2
      refine hR0.mono ?_
      rintro e W1 (⟨rfl, hJ1, hk1⟩ | ⟨rfl, hJx1, -⟩)
      · have hbk1 := hk1.1.2 Bn _ _ hS hbk
        clear c0 c1 c2 c3 hbk
        obtain ⟨c0, c1, c2, c3, -⟩ := hbk1.four
        gi_wp2
        refine ⟨fun _ h => (by cases h), ?_⟩
        gi_wp2
        go_roundw
        case rel => exact ⟨i + 1, by go_num, by omega, hbk1, by rw [Hs.out]; simpa using hJ1⟩
        case measure => simp [intOf]; omega
      · gi_wp2
        refine bodyPost_ret (results_none rfl _ _ _) rfl ?_
        exact ⟨⟨_, rfl⟩, .inr ⟨upC 0 true i ++ [((i : Int), true)], HP.out _ (by rw [Hs.out]; simp), hJx1⟩⟩
    · have hkk : ((1 : Int) != 1) = false := by decide
      have hkl : ((1 : Int) != 0) = true := by decide
      simp only [cOf1, List.length_cons, List.length_nil] at Hs HL
      obtain ⟨c0, c1, c2, c3, -⟩ := hbk.four
      obtain ⟨fn0, tmps0, assign0, body0, hy0, hR0⟩ := hY (upC 1 true i) ((i : Int), false) wr hJs (HP.out _ (by rw [Hs.out]; simp)) (fun b hb => Nat.lt_of_le_of_lt (HSb.out b hb) hbk.lt)
      dsimp only at hy0
      gi_wp2
      refine ⟨fun _ h => (by cases h), ?_⟩
      gi_wp2
      refine hR0.mono ?_
      rintro e W1 (⟨rfl, hJ1, hk1⟩ | ⟨rfl, hJx1, -⟩)
      · have hbk1 := hk1.1.2 Bn _ _ hS hbk
        clear c0 c1 c2 c3 hbk
        obtain ⟨c0, c1, c2, c3, -⟩ := hbk1.four
        gi_wp2
        go_roundw
        case rel => exact ⟨i + 1, by go_num, by omega, hbk1, by rw [Hs.out]; simpa using hJ1⟩
        case measure => simp [intOf]; omega
      · gi_wp2
        refine bodyPost_ret (results_none rfl _ _ _) rfl ?_
        exact ⟨⟨_, rfl⟩, .inr ⟨upC 1 true i ++ [((i : Int), false)], HP.out _ (by rw [Hs.out]; simp), hJx1⟩⟩
    · have hkk : ((2 : Int) != 1) = true := by decide
      have hkl : ((2 : Int) != 0) = true := by decide
      simp only [cOf2, List.length_cons, List.length_nil] at Hs HL
      obtain ⟨c0, c1, c2, c3, -⟩ := hbk.four
      obtain ⟨fn0, tmps0, assign0, body0, hy0, hR0⟩ := hY (upC 2 true i) ((i : Int), true) wr hJs (HP.out _ (by rw [Hs.out]; simp)) (fun b hb => Nat.lt_of_le_of_lt (HSb.out b hb) hbk.lt)
      dsimp only at hy0
      gi_wp2
      refine hR0.mono ?_
      rintro e W1 (⟨rfl, hJ1, hk1⟩ | ⟨rfl, hJx1, -⟩)
      · have hbk1 := hk1.1.2 Bn _ _ hS hbk
        clear c0 c1 c2 c3 hbk
        obtain ⟨c0, c1, c2, c3, -⟩ := hbk1.four
        obtain ⟨fn1, tmps1, assign1, body1, hy1, hR1⟩ := hY (upC 2 true i ++ [((i : Int), true)]) ((i : Int), false) W1 hJ1 (HP.out _ (by rw [Hs.out]; simp)) (fun b hb => Nat.lt_of_le_of_lt (HSb.out b hb) hbk1.lt)
        dsimp only at hy1
        gi_wp2
        refine hR1.mono ?_
        rintro e W2 (⟨rfl, hJ2, hk2⟩ | ⟨rfl, hJx2, -⟩)
        · have hbk2 := hk2.1.2 Bn _ _ hS hbk1
          clear c0 c1 c2 c3 hbk1
          obtain ⟨c0, c1, c2, c3, -⟩ := hbk2.four
          gi_wp2
          go_roundw
          case rel => exact ⟨i + 1, by go_num, by omega, hbk2, by rw [Hs.out]; simpa using hJ2⟩
          case measure => simp [intOf]; omega
        · gi_wp2
          refine bodyPost_ret (results_none rfl _ _ _) rfl ?_
          exact ⟨⟨_, rfl⟩, .inr ⟨upC 2 true i ++ [((i : Int), true)] ++ [((i : Int), false)], HP.out _ (by rw [Hs.out]; simp), hJx2⟩⟩
      · gi_wp2
        refine bodyPost_ret (results_none rfl _ _ _) rfl ?_
        exact ⟨⟨_, rfl⟩, .inr ⟨upC 2 true i ++ [((i : Int), true)], HP.out _ (by rw [Hs.out]; simp), hJx1⟩⟩
theorem cases80_in (F : Fence) (n : Nat) (h5 : F.fn 51) (hro : F.round = none) (c k : Int) (nn gg : Bool) (w : World) :
    CallsIn F n Try.prog 51 #[taskV c k nn gg] w fun e w' => e = .returned (.func (.func 64) #[] #[.pointer (some ⟨w.heap.size, 0, none⟩)]) ∧ w' = w.alloc (.cells #[.int .i8 c, .int .i8 k, .bool nn, .bool gg] 30) := by
  refine callsIn_of_wp Try.func51 rfl h5 ?_ hro
  simp only [Try.ntmps51, List.size_toArray, List.length_cons, List.length_nil, Nat.reduceAdd, Nat.reduceSub, Array.replicate_succ, Array.replicate_zero, List.push_toArray, List.append_toArray, List.nil_append, List.cons_append]
  gi_wp2
  go_ret
  exact ⟨rfl, rfl⟩
end Go.Proofs.Ytieghjpecoiodaa
