/-
  The walk of the iterator of cases.
-/
import Derived.Test.YtlbiakoofpgdmaaC2
namespace Go.Proofs.Ytlbiakoofpgdmaa
open Go.RowKit Go.Shelf
set_option maxRecDepth 100000
set_option linter.unusedVariables false

attribute [local go_sem] Oper.semAt_some

set_option maxHeartbeats 4000000 in
theorem cases1_false (F : Fence) (n : Nat) (h6 : F.fn 61) (hro : F.round = none) (hn : 1 ≤ n) (l Bn n₀ : Nat) (m : Nat) (k : Int) (gg : Bool) (hm : m ≤ 13) (hk : 0 ≤ k ∧ k ≤ 2) (J Jx : List Cs → World → Prop)
    (hY : ∀ pre (x : Cs) W, J pre W → pre.length < (upC k false m).length → YieldAt F (n - 1) Try.prog l #[caseV x.1 x.2] W fun e W' =>
      (e = .returned (.bool true) ∧ J (pre ++ [x]) W' ∧ KpB n₀ Bn W W') ∨ (e = .returned (.bool false) ∧ Jx (pre ++ [x]) W'))
    (W : World) (hbk : Blk W Bn #[.int .i8 (m : Int), .int .i8 k, .bool false, .bool gg] 32) (h0 : J [] W) :
    CallsIn F n Try.prog 61 #[.func (.yield l) #[] #[], .pointer (some ⟨Bn, 0, none⟩)] W fun e W' => (∃ v, e = .returned v) ∧
      ((∃ ys, ys = upC k false m ∧ J ys W') ∨ (∃ pre, pre <+: upC k false m ∧ Jx pre W')) := by
  have hkk2 : -128 ≤ k ∧ k ≤ 127 := by omega
  have hmm : (m : Int) ≤ 13 := by omega
  refine callsIn_of_wp Try.func61 rfl h6 ?_ hro
  simp only [Try.ntmps61, List.size_toArray, List.length_cons, List.length_nil, Nat.reduceAdd, Nat.reduceSub, Array.replicate_succ, Array.replicate_zero, List.push_toArray, List.append_toArray, List.nil_append, List.cons_append]
  obtain ⟨c0, c1, c2, c3, -⟩ := hbk.four
  have hst : J (upC k false 0) W := by simpa [upC] using h0
  clear h0
  gi_wp2
  refine ⟨fun _ h => (by cases h), ?_⟩
  gi_wp2
  clear c0 c1 c2 c3
  gi_loopw [14] (fun p wr => ∃ i : Nat, p = .int .i8 (i : Int) ∧ i ≤ m ∧ Blk wr Bn #[.int .i8 (m : Int), .int .i8 k, .bool false, .bool gg] 32 ∧ J (upC k false i) wr) (fun p _ => m - (intOf p).toNat)
  case atStart => exact ⟨0, rfl, Nat.zero_le _, hbk, hst⟩
  case round =>
    clear hst
    obtain ⟨i, rfl, hi, hbk, hJs⟩ := hrel
    by_cases hlt : i < m
    case neg =>
      obtain rfl : i = m := by omega
      gi_wp2
      go_end0
      exact ⟨⟨_, rfl⟩, .inl ⟨_, rfl, hJs⟩⟩
    have hltz : (i : Int) < (m : Int) := by omega
    have HP := Lib.hid (show ∀ pre, pre <+: upC k false (i + 1) → pre <+: upC k false m from fun pre h => h.trans (upC_pre k false m (by omega)))
    have HL := Lib.hid (show (upC k false i).length + (cOf k i).length ≤ (upC k false m).length from by
      have := (upC_pre k false m (show i + 1 ≤ m by omega)).length_le
      rw [upC_succ, List.length_append] at this
      exact this)
    have Hs := Lib.hid (upC_succ k false i)
    rcases k_of hk with rfl | rfl | rfl
    · have hkk : ((0 : Int) != 1) = true := by decide
      have hkl : ((0 : Int) != 0) = false := by decide
      simp only [cOf0, List.length_cons, List.length_nil] at Hs HL
      obtain ⟨c0, c1, c2, c3, -⟩ := hbk.four
      obtain ⟨fn0, tmps0, assign0, body0, hy0, hR0⟩ := hY (upC 0 false i) ((i : Int), true) wr hJs (by have := HL.out; simp; omega)
      dsimp only at hy0
      gi_wp2
      refine hR0.mono ?_
      rintro e W1 (⟨rfl, hJ1, hk1⟩ | ⟨rfl, hJx1⟩)
      · have hbk1 := hk1.2 _ _ hbk
        clear c0 c1 c2 c3 hbk
        obtain ⟨c0, c1, c2, c3, -⟩ := hbk1.four
        gi_wp2
        refine ⟨fun _ h => (by cases h), ?_⟩
        gi_wp2
        go_roundw
        case rel => exact ⟨i + 1, by go_num, by omega, hbk1, by rw [Hs.out]; simpa using hJ1⟩
        case measure => simp [intOf]; omega
      · gi_wp2
        refine bodyPost_ret (results_none rfl _ _ _) rfl ?_
        exact ⟨⟨_, rfl⟩, .inr ⟨upC 0 false i ++ [((i : Int), true)], HP.out _ (by rw [Hs.out]; simp), hJx1⟩⟩
    · have hkk : ((1 : Int) != 1) = false := by decide
      have hkl : ((1 : Int) != 0) = true := by decide
      simp only [cOf1, List.length_cons, List.length_nil] at Hs HL
      obtain ⟨c0, c1, c2, c3, -⟩ := hbk.four
      obtain ⟨fn0, tmps0, assign0, body0, hy0, hR0⟩ := hY (upC 1 false i) ((i : Int), false) wr hJs (by have := HL.out; simp; omega)
      dsimp only at hy0
      gi_wp2
      refine ⟨fun _ h => (by cases h), ?_⟩
      gi_wp2
      refine hR0.mono ?_
      rintro e W1 (⟨rfl, hJ1, hk1⟩ | ⟨rfl, hJx1⟩)
      · have hbk1 := hk1.2 _ _ hbk
        clear c0 c1 c2 c3 hbk
        obtain ⟨c0, c1, c2, c3, -⟩ := hbk1.four
        gi_wp2
        go_roundw
        case rel => exact ⟨i + 1, by go_num, by omega, hbk1, by rw [Hs.out]; simpa using hJ1⟩
        case measure => simp [intOf]; omega
      · gi_wp2
        refine bodyPost_ret (results_none rfl _ _ _) rfl ?_
        exact ⟨⟨_, rfl⟩, .inr ⟨upC 1 false i ++ [((i : Int), false)], HP.out _ (by rw [Hs.out]; simp), hJx1⟩⟩
    · have hkk : ((2 : Int) != 1) = true := by decide
      have hkl : ((2 : Int) != 0) = true := by decide
      simp only [cOf2, List.length_cons, List.length_nil] at Hs HL
      obtain ⟨c0, c1, c2, c3, -⟩ := hbk.four
      obtain ⟨fn0, tmps0, assign0, body0, hy0, hR0⟩ := hY (upC 2 false i) ((i : Int), true) wr hJs (by have := HL.out; simp; omega)
      dsimp only at hy0
      gi_wp2
      refine hR0.mono ?_
      rintro e W1 (⟨rfl, hJ1, hk1⟩ | ⟨rfl, hJx1⟩)
      · have hbk1 := hk1.2 _ _ hbk
        clear c0 c1 c2 c3 hbk
        obtain ⟨c0, c1, c2, c3, -⟩ := hbk1.four
        obtain ⟨fn1, tmps1, assign1, body1, hy1, hR1⟩ := hY (upC 2 false i ++ [((i : Int), true)]) ((i : Int), false) W1 hJ1 (by have := HL.out; simp; omega)
        dsimp only at hy1
        gi_wp2
        refine hR1.mono ?_
        rintro e W2 (⟨rfl, hJ2, hk2⟩ | ⟨rfl, hJx2⟩)
        · have hbk2 := hk2.2 _ _ hbk1
          clear c0 c1 c2 c3 hbk1
          obtain ⟨c0, c1, c2, c3, -⟩ := hbk2.four
          gi_wp2
          go_roundw
          case rel => exact ⟨i + 1, by go_num, by omega, hbk2, by rw [Hs.out]; simpa using hJ2⟩
          case measure => simp [intOf]; omega
        · gi_wp2
          refine bodyPost_ret (results_none rfl _ _ _) rfl ?_
          exact ⟨⟨_, rfl⟩, .inr ⟨upC 2 false i ++ [((i : Int), true)] ++ [((i : Int), false)], HP.out _ (by rw [Hs.out]; simp), hJx2⟩⟩
      · gi_wp2
        refine bodyPost_ret (results_none rfl _ _ _) rfl ?_
        exact ⟨⟨_, rfl⟩, .inr ⟨upC 2 false i ++ [((i : Int), true)], HP.out _ (by rw [Hs.out]; simp), hJx1⟩⟩
set_option maxHeartbeats 4000000 in
theorem cases1_true (F : Fence) (n : Nat) (h6 : F.fn 61) (hro : F.round = none) (hn : 1 ≤ n) (l Bn n₀ : Nat) (m : Nat) (k : Int) (gg : Bool) (hm : m ≤ 13) (hk : 0 ≤ k ∧ k ≤ 2) (J Jx : List Cs → World → Prop)
    (hY : ∀ pre (x : Cs) W, J pre W → pre.length < (upC k true m).length → YieldAt F (n - 1) Try.prog l #[caseV x.1 x.2] W fun e W' =>
      (e = .returned (.bool true) ∧ J (pre ++ [x]) W' ∧ KpB n₀ Bn W W') ∨ (e = .returned (.bool false) ∧ Jx (pre ++ [x]) W'))
    (W : World) (hbk : Blk W Bn #[.int .i8 (m : Int), .int .i8 k, .bool true, .bool gg] 32) (h0 : J [] W) :
    CallsIn F n Try.prog 61 #[.func (.yield l) #[] #[], .pointer (some ⟨Bn, 0, none⟩)] W fun e W' => (∃ v, e = .returned v) ∧
      ((∃ ys, ys = upC k true m ∧ J ys W') ∨ (∃ pre, pre <+: upC k true m ∧ Jx pre W')) := by
  have hkk2 : -128 ≤ k ∧ k ≤ 127 := by omega
  have hmm : (m : Int) ≤ 13 := by omega
  refine callsIn_of_wp Try.func61 rfl h6 ?_ hro
  simp only [Try.ntmps61, List.size_toArray, List.length_cons, List.length_nil, Nat.reduceAdd, Nat.reduceSub, Array.replicate_succ, Array.replicate_zero, List.push_toArray, List.append_toArray, List.nil_append, List.cons_append]
  obtain ⟨c0, c1, c2, c3, -⟩ := hbk.four
  have HPz := Lib.hid (show ∀ pre, pre <+: [((-1 : Int), false)] → pre <+: upC k true m from fun pre h => h.trans (by rw [upC, if_pos rfl]; exact List.prefix_append _ _))
  obtain ⟨fnz, tmpsz, assignz, bodyz, hyz, hRz⟩ := hY [] ((-1 : Int), false) W h0 (by unfold upC; simp)
  dsimp only at hyz
  gi_wp2
  refine hRz.mono ?_
  rintro e Wz (⟨rfl, hJz, hkz⟩ | ⟨rfl, hJxz⟩)
  case inr =>
    gi_wp2
    refine bodyPost_ret (results_none rfl _ _ _) rfl ?_
    exact ⟨⟨_, rfl⟩, .inr ⟨[((-1 : Int), false)], HPz.out _ (List.prefix_refl _), hJxz⟩⟩
  have hbkz := hkz.2 _ _ hbk
  clear c0 c1 c2 c3 hbk h0
  obtain ⟨c0, c1, c2, c3, -⟩ := hbkz.four
  have hst : J (upC k true 0) Wz := by simpa [upC] using hJz
  clear hJz hkz
  gi_wp2
  clear c0 c1 c2 c3
  gi_loopw [14] (fun p wr => ∃ i : Nat, p = .int .i8 (i : Int) ∧ i ≤ m ∧ Blk wr Bn #[.int .i8 (m : Int), .int .i8 k, .bool true, .bool gg] 32 ∧ J (upC k true i) wr) (fun p _ => m - (intOf p).toNat)
  case atStart => exact ⟨0, rfl, Nat.zero_le _, hbkz, hst⟩
  case round =>
    clear hst hbkz
    obtain ⟨i, rfl, hi, hbk, hJs⟩ := hrel
    by_cases hlt : i < m
    case neg =>
      obtain rfl : i = m := by omega
      gi_wp2
      go_end0
      exact ⟨⟨_, rfl⟩, .inl ⟨_, rfl, hJs⟩⟩
    have hltz : (i : Int) < (m : Int) := by omega
    have HP := Lib.hid (show ∀ pre, pre <+: upC k true (i + 1) → pre <+: upC k true m from fun pre h => h.trans (upC_pre k true m (by omega)))
    have HL := Lib.hid (show (upC k true i).length + (cOf k i).length ≤ (upC k true m).length from by
      have := (upC_pre k true m (show i + 1 ≤ m by omega)).length_le
      rw [upC_succ, List.length_append] at this
      exact this)
    have Hs := Lib.hid (upC_succ k true i)
    rcases k_of hk with rfl | rfl | rfl
    · have hkk : ((0 : Int) != 1) = true := by decide
      have hkl : ((0 : Int) != 0) = false := by decide
      simp only [cOf0, List.length_cons, List.length_nil] at Hs HL
      obtain ⟨c0, c1, c2, c3, -⟩ := hbk.four
      obtain ⟨fn0, tmps0, assign0, body0, hy0, hR0⟩ := hY (upC 0 true i) ((i : Int), true) wr hJs (by have := HL.out; simp; omega)
      dsimp only at hy0
      gi_wp2
      refine hR0.mono ?_
      rintro e W1 (⟨rfl, hJ1, hk1⟩ | ⟨rfl, hJx1⟩)
      · have hbk1 := hk1.2 _ _ hbk
        clear c0 c1 c2 c3 hbk
        obtain ⟨c0, c1, c2, c3, -⟩ := hbk1.four
        gi_wp2
        refine ⟨fun _ h => (by cases h), ?_⟩
        gi_wp2
        go_roundw
        case rel => exact ⟨i + 1, by go_num, by omega, hbk1, by rw [Hs.out]; simpa using hJ1⟩
        case measure => simp [intOf]; omega
      · gi_wp2
        refine bodyPost_ret (results_none rfl _ _ _) rfl ?_
        exact ⟨⟨_, rfl⟩, .inr ⟨upC 0 true i ++ [((i : Int), true)], HP.out _ (by rw [Hs.out]; simp), hJx1⟩⟩
    · have hkk : ((1 : Int) != 1) = false := by decide
      have hkl : ((1 : Int) != 0) = true := by decide
      simp only [cOf1, List.length_cons, List.length_nil] at Hs HL
      obtain ⟨c0, c1, c2, c3, -⟩ := hbk.four
      obtain ⟨fn0, tmps0, assign0, body0, hy0, hR0⟩ := hY (upC 1 true i) ((i : Int), false) wr hJs (by have := HL.out; simp; omega)
      dsimp only at hy0
      gi_wp2
      refine ⟨fun _ h => (by cases h), ?_⟩
      gi_wp2
      refine hR0.mono ?_
      rintro e W1 (⟨rfl, hJ1, hk1⟩ | ⟨rfl, hJx1⟩)
      · have hbk1 := hk1.2 _ _ hbk
        clear c0 c1 c2 c3 hbk
        obtain ⟨c0, c1, c2, c3, -⟩ := hbk1.four
        gi_wp2
        go_roundw
        case rel => exact ⟨i + 1, by go_num, by omega, hbk1, by rw [Hs.out]; simpa using hJ1⟩
        case measure => simp [intOf]; omega
      · gi_wp2
        refine bodyPost_ret (results_none rfl _ _ _) rfl ?_
        exact ⟨⟨_, rfl⟩, .inr ⟨upC 1 true i ++ [((i : Int), false)], HP.out _ (by rw [Hs.out]; simp), hJx1⟩⟩
    · have hkk : ((2 : Int) != 1) = true := by decide
      have hkl : ((2 : Int) != 0) = true := by decide
      simp only [cOf2, List.length_cons, List.length_nil] at Hs HL
      obtain ⟨c0, c1, c2, c3, -⟩ := hbk.four
      obtain ⟨fn0, tmps0, assign0, body0, hy0, hR0⟩ := hY (upC 2 true i) ((i : Int), true) wr hJs (by have := HL.out; simp; omega)
      dsimp only at hy0
      gi_wp2
      refine hR0.mono ?_
      rintro e W1 (⟨rfl, hJ1, hk1⟩ | ⟨rfl, hJx1⟩)
      · have hbk1 := hk1.2 _ _ hbk
        clear c0 c1 c2 c3 hbk
        obtain ⟨c0, c1, c2, c3, -⟩ := hbk1.four
        obtain ⟨fn1, tmps1, assign1, body1, hy1, hR1⟩ := hY (upC 2 true i ++ [((i : Int), true)]) ((i : Int), false) W1 hJ1 (by have := HL.out; simp; omega)
        dsimp only at hy1
        gi_wp2
        refine hR1.mono ?_
        rintro e W2 (⟨rfl, hJ2, hk2⟩ | ⟨rfl, hJx2⟩)
        · have hbk2 := hk2.2 _ _ hbk1
          clear c0 c1 c2 c3 hbk1
          obtain ⟨c0, c1, c2, c3, -⟩ := hbk2.four
          gi_wp2
          go_roundw
          case rel => exact ⟨i + 1, by go_num, by omega, hbk2, by rw [Hs.out]; simpa using hJ2⟩
          case measure => simp [intOf]; omega
        · gi_wp2
          refine bodyPost_ret (results_none rfl _ _ _) rfl ?_
          exact ⟨⟨_, rfl⟩, .inr ⟨upC 2 true i ++ [((i : Int), true)] ++ [((i : Int), false)], HP.out _ (by rw [Hs.out]; simp), hJx2⟩⟩
      · gi_wp2
        refine bodyPost_ret (results_none rfl _ _ _) rfl ?_
        exact ⟨⟨_, rfl⟩, .inr ⟨upC 2 true i ++ [((i : Int), true)], HP.out _ (by rw [Hs.out]; simp), hJx1⟩⟩
end Go.Proofs.Ytlbiakoofpgdmaa
