/-
  The walks of LeastWeights, in the program and in its model.
-/
import Derived.Test.YthbanajodohbbaaSort
namespace Go.Proofs.Ythbanajodohbbaa
open Go.RowKit

def IsK (b bound : Int) (k : Nat) : Prop := (∀ j, j < k → b ^ (j + 1) ≤ bound) ∧ ¬ b ^ (k + 1) ≤ bound
noncomputable def kOf (b bound : Int) : Nat := @Classical.epsilon Nat ⟨0⟩ (IsK b bound)
theorem kOf_eq {b bound : Int} {k : Nat} (h : IsK b bound k) : kOf b bound = k := by
  have h' : IsK b bound (kOf b bound) := @Classical.epsilon_spec _ (IsK b bound) ⟨k, h⟩
  generalize kOf b bound = q at *
  rcases Nat.lt_trichotomy q k with hl | hl | hl
  · exact absurd (h.1 q hl) h'.2
  · exact hl
  · exact absurd (h'.1 k hl) h.2
def powsTo (b : Int) (k : Nat) : List Int := (List.range k).map (fun j => b ^ j)
theorem powsTo_length (b : Int) (k : Nat) : (powsTo b k).length = k := by simp [powsTo]
theorem powsTo_step (b : Int) (k : Nat) : powsTo b (k + 1) = powsTo b k ++ [b ^ k] := by simp [powsTo, List.range_succ]
theorem powsTo_getD (b : Int) (k i : Nat) (h : i < k) : (powsTo b k).getD i 0 = b ^ i := by simp [powsTo, List.getD_eq_getElem?_getD, h]
def restTo (b most : Int) : Nat → Int
  | 0 => most
  | k + 1 => restTo b most k - b ^ k
theorem pow_pos1 {b : Int} (hb : b = 2 ∨ b = 3) (k : Nat) : 1 ≤ b ^ k := by
  induction k with
  | zero => simp
  | succ k ih => rw [Int.pow_succ]; rcases hb with rfl | rfl <;> omega
theorem pow_two {b : Int} (hb : b = 2 ∨ b = 3) (k : Nat) : (2 : Int) ^ k ≤ b ^ k := by
  induction k with
  | zero => simp
  | succ k ih =>
    rw [Int.pow_succ, Int.pow_succ]
    have := pow_pos1 hb k
    rcases hb with rfl | rfl <;> omega
theorem two_le (k : Nat) (h : 12 ≤ k) : (4096 : Int) ≤ 2 ^ k := by
  have h2 : (2 : Nat) ^ 12 ≤ 2 ^ k := Nat.pow_le_pow_right (by omega) h
  have e : ((2 ^ k : Nat) : Int) = 2 ^ k := by simp
  have h3 : (2 : Nat) ^ 12 = 4096 := by decide
  omega
theorem k_le {b bound : Int} (hb : b = 2 ∨ b = 3) (hbd : bound ≤ 4000) {k : Nat} (h : ∀ j, j < k → b ^ (j + 1) ≤ bound) : k ≤ 11 := by
  by_cases hk : k ≤ 11
  · exact hk
  · have h1 := h 11 (by omega)
    have h2 := pow_two hb 12
    have h3 := two_le 12 (Nat.le_refl _)
    have e : (11 + 1 : Nat) = 12 := rfl
    rw [e] at h1
    omega
theorem restTo_bd {b most bound : Int} (hb : b = 2 ∨ b = 3) (hbd : bound ≤ 4000) (hm : 1 ≤ most ∧ most ≤ 2000) (k : Nat) (h : ∀ j, j < k → b ^ (j + 1) ≤ bound) : 1 - 2000 * (k : Int) ≤ restTo b most k ∧ restTo b most k ≤ 2000 := by
  induction k with
  | zero => simp [restTo]; omega
  | succ k ih =>
    have h1 := ih (fun j hj => h j (by omega))
    have h2 := h k (by omega)
    have h3 := pow_pos1 hb k
    unfold restTo
    rw [Int.pow_succ] at h2
    rcases hb with rfl | rfl <;> omega
theorem powsTo_sorted {b : Int} (hb : b = 2 ∨ b = 3) (k : Nat) : ∀ i, 0 < i → i < (powsTo b k).length → (powsTo b k).getD (i - 1) 0 ≤ (powsTo b k).getD i 0 := by
  intro i h0 hi
  rw [powsTo_length] at hi
  obtain ⟨m, rfl⟩ : ∃ m, i = m + 1 := ⟨i - 1, by omega⟩
  rw [powsTo_getD b k _ (by omega), powsTo_getD b k _ hi, Nat.add_sub_cancel, Int.pow_succ]
  have := pow_pos1 hb m
  rcases hb with rfl | rfl <;> omega
theorem cellsMv_of {B k n : Nat} {t : TypeId} {w : World} {g cap : Nat} {ps : List Int} {x : Int} (hk : ps.length = k) (hn : n = k + 1) (h : w.ownsRow B t 1 (.slice (some ⟨g, 0, none⟩) n cap) n (ps.map (Value.int .i16) ++ [.int .i16 x])) :
    CellsMv w g ps x ps.length ∧ B ≤ g ∧ g < w.heap.size := by
  subst hn
  have h' : OwnV .i16 B w (.slice (some ⟨g, 0, none⟩) (k + 1) cap) (ps ++ [x]) := OwnV.ofOwns (t := t) (n := k + 1) (by simp [hk]) (by simpa using h)
  rcases h' with ⟨h0, _⟩ | ⟨b, c, hv, h1, h2, h3, h4⟩
  · simp at h0
  · have e : g = b := by simp at hv; exact hv.1
    subst e
    refine ⟨⟨fun i hi => ?_, h4⟩, h1, h2⟩
    have h5 := h3 i (by simp; omega)
    rw [Nat.zero_add] at h5
    rw [h5]
    congr 2
    unfold mv
    by_cases e1 : i < ps.length
    · rw [if_pos e1]; simp [List.getD_eq_getElem?_getD, List.getElem?_append_left e1]
    · have e2 : i = ps.length := by omega
      subst e2
      rw [if_neg e1, if_pos rfl]; simp [List.getD_eq_getElem?_getD]
theorem ownV_mv {B g cap n : Nat} {w : World} {ps : List Int} {x : Int} (hn : n = ps.length + 1) (h : CellsMv w g ps x (insFrom ps x ps.length)) (hB : B ≤ g) (hlt : g < w.heap.size) :
    OwnV .i16 B w (.slice (some ⟨g, 0, none⟩) n cap) (insList ps x) := by
  refine .inr ⟨g, cap, by rw [insList_length, hn], hB, hlt, fun j hj => ?_, h.2⟩
  rw [insList_length] at hj
  rw [Nat.zero_add, insList_getD ps x j hj]
  exact h.1 j (by omega)

theorem hb2 : (2 : Int) = 2 ∨ (2 : Int) = 3 := .inl rfl
theorem hb3 : (3 : Int) = 2 ∨ (3 : Int) = 3 := .inr rfl
theorem owns_succ {B k : Nat} {t : TypeId} {w : World} {v : Value} {xs : List Value} (h : w.ownsRow B t 1 v (k + 1) xs) : ∃ g cap, v = .slice (some ⟨g, 0, none⟩) (k + 1) cap ∧ k + 1 ≤ cap := by
  rcases h.2 with ⟨_, hx⟩ | ⟨g, cap, cur, hv, _, _, hnc, _⟩
  · have := h.1; omega
  · exact ⟨g, cap, hv, hnc⟩
/-- A row of its own whose slice has room for all of it. -/
def OwnC (k : IntKind) (B : Nat) (w : World) (v : Value) (xs : List Int) : Prop := OwnV k B w v xs ∧ ∃ a c, v = .slice a xs.length c ∧ xs.length ≤ c
theorem isK_ex {b bound : Int} (hb : b = 2 ∨ b = 3) (hbd : bound ≤ 4000) : ∃ k, IsK b bound k := by
  by_cases h : ∃ k, IsK b bound k
  · exact h
  · have h2 : ∀ k j, j < k → b ^ (j + 1) ≤ bound := by
      intro k
      induction k with
      | zero => intro j hj; omega
      | succ k ih =>
        intro j hj
        by_cases e : j = k
        · subst e
          by_cases h3 : b ^ (j + 1) ≤ bound
          · exact h3
          · exact absurd ⟨j, ih, h3⟩ h
        · exact ih j (by omega)
    have := k_le hb hbd (h2 12)
    omega
theorem kOf_le {b bound : Int} (hb : b = 2 ∨ b = 3) (hbd : bound ≤ 4000) : kOf b bound ≤ 11 := by
  obtain ⟨k, h⟩ := isK_ex hb hbd
  rw [kOf_eq h]
  exact k_le hb hbd h.1
def bOf (both : Bool) : Int := if both then 3 else 2
def bdOf (most : Int) (both : Bool) : Int := if both then 2 * most else most
noncomputable def lwV (most : Int) (both : Bool) : List Int :=
  if cb (1 ≤ most ∧ most ≤ 2000) = true then insList (powsTo (bOf both) (kOf (bOf both) (bdOf most both))) (restTo (bOf both) most (kOf (bOf both) (bdOf most both))) else []
noncomputable def lwC (most : Int) : Int := if cb (1 ≤ most ∧ most ≤ 2000) = true then 0 else 2
theorem lw_t {most : Int} {both : Bool} (h : 1 ≤ most ∧ most ≤ 2000) : lwV most both = insList (powsTo (bOf both) (kOf (bOf both) (bdOf most both))) (restTo (bOf both) most (kOf (bOf both) (bdOf most both))) ∧ lwC most = 0 := by
  unfold lwV lwC; rw [cb_t h]; exact ⟨rfl, rfl⟩
theorem lw_f {most : Int} {both : Bool} (h : ¬ (1 ≤ most ∧ most ≤ 2000)) : lwV most both = [] ∧ lwC most = 2 := by
  unfold lwV lwC; rw [cb_f h]; exact ⟨rfl, rfl⟩
theorem rv2 {v u : Value} {a b : Int} (h : v = u) (h2 : a = b) : Ending.returned (.tuple #[v, .int .i64 a]) = .returned (.tuple #[u, .int .i64 b]) := by rw [h, h2]
theorem Try.info_i16 : (Try.prog.info? 41).map (fun i => (i.zero, i.size, i.bytes)) = some (some (.int .i16 0), 1, 2) := by kernel_rfl

set_option maxRecDepth 100000 in
theorem leastWeights_two (most : Int) (w : World) (hm : 1 ≤ most ∧ most ≤ 2000) :
    Calls Try.prog 6 #[.int .i64 most, .bool true] w fun e w' => ∃ v, e = .returned (.tuple #[v, .int .i64 (lwC most)]) ∧ OwnV .i16 w.heap.size w' v (lwV most true) ∧ Below w.heap.size w w' := by
  obtain ⟨i0, hi, hz0, hz1, hz2⟩ := info_parts Try.info_i16
  have HLW := Lib.hid (lw_t (both := true) hm)
  go_enter Try.func6, Try.ntmps6
  go_wp2_with fail
  refine (within_t _ _ _ _ hm).mono ?_
  rintro e w' ⟨rfl, rfl⟩
  go_wp2_with fail
  go_loopw [8, 9, 10] (fun v r p wr => ∃ k : Nat, (∀ j, j < k → (3 : Int) ^ (j + 1) ≤ 2 * most) ∧ r = .int .i64 (restTo 3 most k) ∧ p = .int .i64 (3 ^ k) ∧ wr.ownsRow w.heap.size 41 1 v k ((powsTo 3 k).map (Value.int .i16)) ∧ Below w.heap.size w wr) (fun _ _ p _ => (12001 - intOf p).toNat)
  case atStart => exact ⟨0, fun j h => absurd h (by omega), rfl, rfl, World.ownsRow_nil _ _ _ _, Below.refl _ _⟩
  case round =>
    obtain ⟨k, hk, rfl, rfl, hown, hB⟩ := hrel
    have Hk := Lib.hid hk
    have hk11 := k_le (bound := 2 * most) hb3 (by omega) hk
    have hrb := restTo_bd (bound := 2 * most) hb3 (by omega) hm k hk
    have hp1 := pow_pos1 hb3 k
    have Hps := Lib.hid (Int.pow_succ (3 : Int) k)
    have Hst := Lib.hid (powsTo_step 3 k)
    have Hrs := Lib.hid (show restTo 3 most (k + 1) = restTo 3 most k - 3 ^ k from rfl)
    have hpb : (3 : Int) ^ k ≤ 4000 := by
      cases k with
      | zero => simp
      | succ m => have := hk m (by omega); omega
    clear hk
    have HKQ := Lib.hid (show ¬ (3 : Int) ^ k * 3 ≤ 2 * most → kOf 3 (2 * most) = k from fun h => kOf_eq ⟨Hk.out, by rw [Hps.out]; exact h⟩)
    have HRE := Lib.hid (rfl : restTo 3 most k = restTo 3 most k)
    generalize hP : (3 : Int) ^ k = P at *
    have HP := Lib.hid hP
    clear hP
    by_cases hc : P * 3 ≤ 2 * most
    · have Hk2 := Lib.hid (show ∀ j, j < k + 1 → (3 : Int) ^ (j + 1) ≤ 2 * most from fun j hj => by
        by_cases e : j = k
        · subst e; rw [Hps.out]; exact hc
        · exact Hk.out j (by omega))
      generalize restTo 3 most k = R at *
      go_wp2_with (first
        | (at_builtin; refine wpList_append_own _ rfl _ _ 26 rfl w.heap.size 41 i0 (.int .i16 0) 1 2 Try.underlying26 hi hz0 hz1 hz2 rfl (by decide) _ _ _ rfl (hown.alloc _) ⟨wr.heap.size, 0, none⟩ 1 1 [.int .i16 (P)] rfl rfl ?c1 ?c2 ?c3 ?c4 ?c5 ?_)
        | go_in)
      try case c1 =>
        intro j u hj
        match j, hj with
        | 0, hj => simp at hj; subst hj; simp [Addr.add]
      case c2 => first | rfl | simp [Value.oneCell'] | (intro u hu; simp at hu; subst hu; rfl)
      case c3 => unfold maxLen; omega
      case c4 => omega
      case c5 => have := hB.size; simp; omega
      · intro v' w1 hown' hgrow _
        have hB3 : Below w.heap.size w w1 := (hB.alloc hB.size _).grown hgrow (by have := hB.size; simp; omega) (fun j hj => (hown.lt j hj).1)
        clear hgrow
        go_wp2
        go_roundw
        case rel => exact ⟨k + 1, Hk2.out, by rw [Hrs.out], by rw [Hps.out], by rw [Hst.out, List.map_append]; exact hown', hB3⟩
        case measure => simp [intOf]; omega
    · have HK := Lib.hid (HKQ.out hc)
      generalize hR : restTo 3 most k = R at *
      have HR := Lib.hid hR
      clear hR
      have HV := Lib.hid (show lwV most true = insList (powsTo 3 k) R ∧ lwC most = 0 from ⟨by rw [HLW.out.1]; show insList (powsTo 3 (kOf 3 (2 * most))) (restTo 3 most (kOf 3 (2 * most))) = _; rw [HK.out, HR.out], HLW.out.2⟩)
      go_wp2_with (first
        | (at_builtin; refine wpList_append_own _ rfl _ _ 26 rfl w.heap.size 41 i0 (.int .i16 0) 1 2 Try.underlying26 hi hz0 hz1 hz2 rfl (by decide) _ _ _ rfl (hown.alloc _) ⟨wr.heap.size, 0, none⟩ 1 1 [.int .i16 (R)] rfl rfl ?d1 ?d2 ?d3 ?d4 ?d5 ?_)
        | (fail))
      try case d1 =>
        intro j u hj
        match j, hj with
        | 0, hj => simp at hj; subst hj; simp [Addr.add]
      case d2 => first | rfl | simp [Value.oneCell'] | (intro u hu; simp at hu; subst hu; rfl)
      case d3 => unfold maxLen; omega
      case d4 => omega
      case d5 => have := hB.size; simp; omega
      · intro v' w1 hown' hgrow _
        have hB3 : Below w.heap.size w w1 := (hB.alloc hB.size _).grown hgrow (by have := hB.size; simp; omega) (fun j hj => (hown.lt j hj).1)
        clear hgrow
        obtain ⟨g', cap', rfl, -⟩ := owns_succ hown'
        obtain ⟨hcm, hBg, hglt⟩ := cellsMv_of (powsTo_length 3 k) rfl hown'
        clear hown' hown
        have hS := sort_any g' cap' (powsTo 3 k) R w1 (by rw [powsTo_length]; exact hk11) (powsTo_sorted hb3 k) hcm
        rw [powsTo_length] at hS
        have HS := Lib.hid hS
        clear hS
        go_wp2_with fail
        refine HS.out.mono ?_
        rintro e w2 ⟨rfl, hc2, ho2⟩
        go_wp2_with fail
        go_ret2
        refine ⟨_, rv2 rfl HV.out.2.symm, ?_, ho2.below hB3 hBg⟩
        rw [HV.out.1]
        exact ownV_mv (by rw [powsTo_length]) (by rw [powsTo_length]; exact hc2) hBg (by rw [ho2.size]; exact hglt)

set_option maxRecDepth 100000 in
theorem leastWeights_one (most : Int) (w : World) (hm : 1 ≤ most ∧ most ≤ 2000) :
    Calls Try.prog 6 #[.int .i64 most, .bool false] w fun e w' => ∃ v, e = .returned (.tuple #[v, .int .i64 (lwC most)]) ∧ OwnV .i16 w.heap.size w' v (lwV most false) ∧ Below w.heap.size w w' := by
  obtain ⟨i0, hi, hz0, hz1, hz2⟩ := info_parts Try.info_i16
  have HLW := Lib.hid (lw_t (both := false) hm)
  go_enter Try.func6, Try.ntmps6
  go_wp2_with fail
  refine (within_t _ _ _ _ hm).mono ?_
  rintro e w' ⟨rfl, rfl⟩
  go_wp2_with fail
  go_loopw [8, 9, 10] (fun v r p wr => ∃ k : Nat, (∀ j, j < k → (2 : Int) ^ (j + 1) ≤ most) ∧ r = .int .i64 (restTo 2 most k) ∧ p = .int .i64 (2 ^ k) ∧ wr.ownsRow w.heap.size 41 1 v k ((powsTo 2 k).map (Value.int .i16)) ∧ Below w.heap.size w wr) (fun _ _ p _ => (12001 - intOf p).toNat)
  case atStart => exact ⟨0, fun j h => absurd h (by omega), rfl, rfl, World.ownsRow_nil _ _ _ _, Below.refl _ _⟩
  case round =>
    obtain ⟨k, hk, rfl, rfl, hown, hB⟩ := hrel
    have Hk := Lib.hid hk
    have hk11 := k_le (bound := most) hb2 (by omega) hk
    have hrb := restTo_bd (bound := most) hb2 (by omega) hm k hk
    have hp1 := pow_pos1 hb2 k
    have Hps := Lib.hid (Int.pow_succ (2 : Int) k)
    have Hst := Lib.hid (powsTo_step 2 k)
    have Hrs := Lib.hid (show restTo 2 most (k + 1) = restTo 2 most k - 2 ^ k from rfl)
    have hpb : (2 : Int) ^ k ≤ 4000 := by
      cases k with
      | zero => simp
      | succ m => have := hk m (by omega); omega
    clear hk
    have HKQ := Lib.hid (show ¬ (2 : Int) ^ k * 2 ≤ most → kOf 2 (most) = k from fun h => kOf_eq ⟨Hk.out, by rw [Hps.out]; exact h⟩)
    have HRE := Lib.hid (rfl : restTo 2 most k = restTo 2 most k)
    generalize hP : (2 : Int) ^ k = P at *
    have HP := Lib.hid hP
    clear hP
    by_cases hc : P * 2 ≤ most
    · have Hk2 := Lib.hid (show ∀ j, j < k + 1 → (2 : Int) ^ (j + 1) ≤ most from fun j hj => by
        by_cases e : j = k
        · subst e; rw [Hps.out]; exact hc
        · exact Hk.out j (by omega))
      generalize restTo 2 most k = R at *
      go_wp2_with (first
        | (at_builtin; refine wpList_append_own _ rfl _ _ 26 rfl w.heap.size 41 i0 (.int .i16 0) 1 2 Try.underlying26 hi hz0 hz1 hz2 rfl (by decide) _ _ _ rfl (hown.alloc _) ⟨wr.heap.size, 0, none⟩ 1 1 [.int .i16 (P)] rfl rfl ?c1 ?c2 ?c3 ?c4 ?c5 ?_)
        | go_in)
      try case c1 =>
        intro j u hj
        match j, hj with
        | 0, hj => simp at hj; subst hj; simp [Addr.add]
      case c2 => first | rfl | simp [Value.oneCell'] | (intro u hu; simp at hu; subst hu; rfl)
      case c3 => unfold maxLen; omega
      case c4 => omega
      case c5 => have := hB.size; simp; omega
      · intro v' w1 hown' hgrow _
        have hB3 : Below w.heap.size w w1 := (hB.alloc hB.size _).grown hgrow (by have := hB.size; simp; omega) (fun j hj => (hown.lt j hj).1)
        clear hgrow
        go_wp2
        go_roundw
        case rel => exact ⟨k + 1, Hk2.out, by rw [Hrs.out], by rw [Hps.out], by rw [Hst.out, List.map_append]; exact hown', hB3⟩
        case measure => simp [intOf]; omega
    · have HK := Lib.hid (HKQ.out hc)
      generalize hR : restTo 2 most k = R at *
      have HR := Lib.hid hR
      clear hR
      have HV := Lib.hid (show lwV most false = insList (powsTo 2 k) R ∧ lwC most = 0 from ⟨by rw [HLW.out.1]; show insList (powsTo 2 (kOf 2 (most))) (restTo 2 most (kOf 2 (most))) = _; rw [HK.out, HR.out], HLW.out.2⟩)
      go_wp2_with (first
        | (at_builtin; refine wpList_append_own _ rfl _ _ 26 rfl w.heap.size 41 i0 (.int .i16 0) 1 2 Try.underlying26 hi hz0 hz1 hz2 rfl (by decide) _ _ _ rfl (hown.alloc _) ⟨wr.heap.size, 0, none⟩ 1 1 [.int .i16 (R)] rfl rfl ?d1 ?d2 ?d3 ?d4 ?d5 ?_)
        | (fail))
      try case d1 =>
        intro j u hj
        match j, hj with
        | 0, hj => simp at hj; subst hj; simp [Addr.add]
      case d2 => first | rfl | simp [Value.oneCell'] | (intro u hu; simp at hu; subst hu; rfl)
      case d3 => unfold maxLen; omega
      case d4 => omega
      case d5 => have := hB.size; simp; omega
      · intro v' w1 hown' hgrow _
        have hB3 : Below w.heap.size w w1 := (hB.alloc hB.size _).grown hgrow (by have := hB.size; simp; omega) (fun j hj => (hown.lt j hj).1)
        clear hgrow
        obtain ⟨g', cap', rfl, -⟩ := owns_succ hown'
        obtain ⟨hcm, hBg, hglt⟩ := cellsMv_of (powsTo_length 2 k) rfl hown'
        clear hown' hown
        have hS := sort_any g' cap' (powsTo 2 k) R w1 (by rw [powsTo_length]; exact hk11) (powsTo_sorted hb2 k) hcm
        rw [powsTo_length] at hS
        have HS := Lib.hid hS
        clear hS
        go_wp2_with fail
        refine HS.out.mono ?_
        rintro e w2 ⟨rfl, hc2, ho2⟩
        go_wp2_with fail
        go_ret2
        refine ⟨_, rv2 rfl HV.out.2.symm, ?_, ho2.below hB3 hBg⟩
        rw [HV.out.1]
        exact ownV_mv (by rw [powsTo_length]) (by rw [powsTo_length]; exact hc2) hBg (by rw [ho2.size]; exact hglt)

set_option maxRecDepth 100000 in
theorem specLeastWeights_two (most : Int) (w : World) (hm : 1 ≤ most ∧ most ≤ 2000) :
    Calls Try.prog 7 #[.int .i64 most, .bool true] w fun e w' => ∃ v, e = .returned (.tuple #[v, .int .i64 (lwC most)]) ∧ OwnC .i16 w.heap.size w' v (lwV most true) ∧ Below w.heap.size w w' := by
  obtain ⟨i0, hi, hz0, hz1, hz2⟩ := info_parts Try.info_i16
  have HLW := Lib.hid (lw_t (both := true) hm)
  go_enter Try.func7, Try.ntmps7
  go_wp2_with fail
  refine (l00In_t _ _ _ _ hm).mono ?_
  rintro e w' ⟨rfl, rfl⟩
  go_wp2_with fail
  go_loopw [8, 9, 10] (fun v r p wr => ∃ k : Nat, (∀ j, j < k → (3 : Int) ^ (j + 1) ≤ 2 * most) ∧ r = .int .i64 (restTo 3 most k) ∧ p = .int .i64 (3 ^ k) ∧ wr.ownsRow w.heap.size 41 1 v k ((powsTo 3 k).map (Value.int .i16)) ∧ Below w.heap.size w wr) (fun _ _ p _ => (12001 - intOf p).toNat)
  case atStart => exact ⟨0, fun j h => absurd h (by omega), rfl, rfl, World.ownsRow_made w #[] 0 (Nat.le_refl _) (by unfold maxLen; omega) (by simp), (Below.refl _ _).alloc (Nat.le_refl _) _⟩
  case round =>
    obtain ⟨k, hk, rfl, rfl, hown, hB⟩ := hrel
    have Hk := Lib.hid hk
    have hk11 := k_le (bound := 2 * most) hb3 (by omega) hk
    have hrb := restTo_bd (bound := 2 * most) hb3 (by omega) hm k hk
    have hp1 := pow_pos1 hb3 k
    have Hps := Lib.hid (Int.pow_succ (3 : Int) k)
    have Hst := Lib.hid (powsTo_step 3 k)
    have Hrs := Lib.hid (show restTo 3 most (k + 1) = restTo 3 most k - 3 ^ k from rfl)
    have hpb : (3 : Int) ^ k ≤ 4000 := by
      cases k with
      | zero => simp
      | succ m => have := hk m (by omega); omega
    clear hk
    have HKQ := Lib.hid (show ¬ (3 : Int) ^ k * 3 ≤ 2 * most → kOf 3 (2 * most) = k from fun h => kOf_eq ⟨Hk.out, by rw [Hps.out]; exact h⟩)
    have HRE := Lib.hid (rfl : restTo 3 most k = restTo 3 most k)
    generalize hP : (3 : Int) ^ k = P at *
    have HP := Lib.hid hP
    clear hP
    by_cases hc : P * 3 ≤ 2 * most
    · have Hk2 := Lib.hid (show ∀ j, j < k + 1 → (3 : Int) ^ (j + 1) ≤ 2 * most from fun j hj => by
        by_cases e : j = k
        · subst e; rw [Hps.out]; exact hc
        · exact Hk.out j (by omega))
      generalize restTo 3 most k = R at *
      go_wp2_with (first
        | (at_builtin; refine wpList_append_own _ rfl _ _ 26 rfl w.heap.size 41 i0 (.int .i16 0) 1 2 Try.underlying26 hi hz0 hz1 hz2 rfl (by decide) _ _ _ rfl (hown.alloc _) ⟨wr.heap.size, 0, none⟩ 1 1 [.int .i16 (P)] rfl rfl ?c1 ?c2 ?c3 ?c4 ?c5 ?_)
        | go_in)
      try case c1 =>
        intro j u hj
        match j, hj with
        | 0, hj => simp at hj; subst hj; simp [Addr.add]
      case c2 => first | rfl | simp [Value.oneCell'] | (intro u hu; simp at hu; subst hu; rfl)
      case c3 => unfold maxLen; omega
      case c4 => omega
      case c5 => have := hB.size; simp; omega
      · intro v' w1 hown' hgrow _
        have hB3 : Below w.heap.size w w1 := (hB.alloc hB.size _).grown hgrow (by have := hB.size; simp; omega) (fun j hj => (hown.lt j hj).1)
        clear hgrow
        go_wp2
        go_roundw
        case rel => exact ⟨k + 1, Hk2.out, by rw [Hrs.out], by rw [Hps.out], by rw [Hst.out, List.map_append]; exact hown', hB3⟩
        case measure => simp [intOf]; omega
    · have HK := Lib.hid (HKQ.out hc)
      generalize hR : restTo 3 most k = R at *
      have HR := Lib.hid hR
      clear hR
      have HV := Lib.hid (show lwV most true = insList (powsTo 3 k) R ∧ lwC most = 0 from ⟨by rw [HLW.out.1]; show insList (powsTo 3 (kOf 3 (2 * most))) (restTo 3 most (kOf 3 (2 * most))) = _; rw [HK.out, HR.out], HLW.out.2⟩)
      go_wp2_with (first
        | (at_builtin; refine wpList_append_own _ rfl _ _ 26 rfl w.heap.size 41 i0 (.int .i16 0) 1 2 Try.underlying26 hi hz0 hz1 hz2 rfl (by decide) _ _ _ rfl (hown.alloc _) ⟨wr.heap.size, 0, none⟩ 1 1 [.int .i16 (R)] rfl rfl ?d1 ?d2 ?d3 ?d4 ?d5 ?_)
        | (fail))
      try case d1 =>
        intro j u hj
        match j, hj with
        | 0, hj => simp at hj; subst hj; simp [Addr.add]
      case d2 => first | rfl | simp [Value.oneCell'] | (intro u hu; simp at hu; subst hu; rfl)
      case d3 => unfold maxLen; omega
      case d4 => omega
      case d5 => have := hB.size; simp; omega
      · intro v' w1 hown' hgrow _
        have hB3 : Below w.heap.size w w1 := (hB.alloc hB.size _).grown hgrow (by have := hB.size; simp; omega) (fun j hj => (hown.lt j hj).1)
        clear hgrow
        obtain ⟨g', cap', rfl, hcap⟩ := owns_succ hown'
        have HCAP := Lib.hid hcap
        clear hcap
        obtain ⟨hcm, hBg, hglt⟩ := cellsMv_of (powsTo_length 3 k) rfl hown'
        clear hown' hown
        have HCM := Lib.hid hcm
        clear hcm
        generalize hQ : powsTo 3 k = ps at *
        have hlen : ps.length = k := by rw [← hQ]; exact powsTo_length 3 k
        have HQ := Lib.hid hQ
        clear hQ
        subst hlen
        obtain ⟨wo, rfl⟩ : ∃ wo : World, wo = w1 := ⟨_, rfl⟩
        go_wp2_with fail
        go_loopw [11] (fun q wi => ∃ j : Nat, j ≤ ps.length ∧ q = .int .i64 j ∧ insFrom ps R ps.length = insFrom ps R j ∧ CellsMv wi g' ps R j ∧ OnlyD g' wo wi) (fun q _ => (intOf q).toNat)
        case atStart => exact ⟨ps.length, Nat.le_refl _, rfl, rfl, HCM.out, OnlyD.refl _ _⟩
        case round =>
          obtain ⟨j, hj, rfl, hins, hcm, hO2⟩ := hrel
          have HI := Lib.hid hins
          clear hins
          cases j with
          | zero =>
            have hd : decide ((0 : Int) < ((0 : Nat) : Int)) = false := by decide
            have HF := Lib.hid (show insFrom ps R ps.length = 0 from HI.out)
            go_wp2
            go_quiet (fail)
            go_wp2
            go_ret2
            refine ⟨_, rv2 rfl HV.out.2.symm, ?_, OnlyD.below hB3 (hO2.trans (OnlyD.dr (Dr.of _ _))) hBg⟩
            rw [HV.out.1]
            exact ⟨ownV_mv rfl (by rw [HF.out]; exact hcm.dr (Dr.of _ _)) hBg (by rw [(hO2.trans (OnlyD.dr (Dr.of _ _))).size]; exact hglt), some ⟨g', 0, none⟩, cap', by rw [insList_length]; rfl, by rw [insList_length]; exact HCAP.out⟩
          | succ m =>
            have c1 := hcm.1 (m + 1) hj
            have c0 := hcm.1 m (by omega)
            rw [mv_at] at c1
            rw [mv_below ps R (m + 1) m (by omega)] at c0
            have f1 := hcm.2 (m + 1)
            have f0 := hcm.2 m
            have hk0 : (0 : Int) < ((m + 1 : Nat) : Int) := by omega
            by_cases hx : R < ps.getD m 0
            · have HF := Lib.hid (show insFrom ps R ps.length = insFrom ps R m from HI.out.trans (insFrom_lt hx))
              have Hst2 := Lib.hid (fun q : Nat => (hcm.dr (Dr.of wr q)).step hj)
              generalize ps.getD m 0 = y at *
              have hd2 : decide (R < y) = true := by simpa using hx
              go_wp2
              go_quiet (fail)
              go_wp2
              go_roundw
              case rel => exact ⟨m, by omega, rfl, HF.out, Hst2.out _, ((hO2.trans (OnlyD.dr (Dr.of _ _))).setCell _ _).setCell _ _⟩
              case measure => simp [intOf]
            · have HF := Lib.hid (show insFrom ps R ps.length = m + 1 from HI.out.trans (insFrom_ge hx))
              generalize ps.getD m 0 = y at *
              have hd2 : decide (R < y) = false := by simpa using hx
              go_wp2
              go_quiet (fail)
              go_wp2
              go_ret2
              refine ⟨_, rv2 rfl HV.out.2.symm, ?_, OnlyD.below hB3 (hO2.trans (OnlyD.dr (Dr.of _ _))) hBg⟩
              rw [HV.out.1]
              exact ⟨ownV_mv rfl (by rw [HF.out]; exact hcm.dr (Dr.of _ _)) hBg (by rw [(hO2.trans (OnlyD.dr (Dr.of _ _))).size]; exact hglt), some ⟨g', 0, none⟩, cap', by rw [insList_length]; rfl, by rw [insList_length]; exact HCAP.out⟩

set_option maxRecDepth 100000 in
theorem specLeastWeights_one (most : Int) (w : World) (hm : 1 ≤ most ∧ most ≤ 2000) :
    Calls Try.prog 7 #[.int .i64 most, .bool false] w fun e w' => ∃ v, e = .returned (.tuple #[v, .int .i64 (lwC most)]) ∧ OwnC .i16 w.heap.size w' v (lwV most false) ∧ Below w.heap.size w w' := by
  obtain ⟨i0, hi, hz0, hz1, hz2⟩ := info_parts Try.info_i16
  have HLW := Lib.hid (lw_t (both := false) hm)
  go_enter Try.func7, Try.ntmps7
  go_wp2_with fail
  refine (l00In_t _ _ _ _ hm).mono ?_
  rintro e w' ⟨rfl, rfl⟩
  go_wp2_with fail
  go_loopw [8, 9, 10] (fun v r p wr => ∃ k : Nat, (∀ j, j < k → (2 : Int) ^ (j + 1) ≤ most) ∧ r = .int .i64 (restTo 2 most k) ∧ p = .int .i64 (2 ^ k) ∧ wr.ownsRow w.heap.size 41 1 v k ((powsTo 2 k).map (Value.int .i16)) ∧ Below w.heap.size w wr) (fun _ _ p _ => (12001 - intOf p).toNat)
  case atStart => exact ⟨0, fun j h => absurd h (by omega), rfl, rfl, World.ownsRow_made w #[] 0 (Nat.le_refl _) (by unfold maxLen; omega) (by simp), (Below.refl _ _).alloc (Nat.le_refl _) _⟩
  case round =>
    obtain ⟨k, hk, rfl, rfl, hown, hB⟩ := hrel
    have Hk := Lib.hid hk
    have hk11 := k_le (bound := most) hb2 (by omega) hk
    have hrb := restTo_bd (bound := most) hb2 (by omega) hm k hk
    have hp1 := pow_pos1 hb2 k
    have Hps := Lib.hid (Int.pow_succ (2 : Int) k)
    have Hst := Lib.hid (powsTo_step 2 k)
    have Hrs := Lib.hid (show restTo 2 most (k + 1) = restTo 2 most k - 2 ^ k from rfl)
    have hpb : (2 : Int) ^ k ≤ 4000 := by
      cases k with
      | zero => simp
      | succ m => have := hk m (by omega); omega
    clear hk
    have HKQ := Lib.hid (show ¬ (2 : Int) ^ k * 2 ≤ most → kOf 2 (most) = k from fun h => kOf_eq ⟨Hk.out, by rw [Hps.out]; exact h⟩)
    have HRE := Lib.hid (rfl : restTo 2 most k = restTo 2 most k)
    generalize hP : (2 : Int) ^ k = P at *
    have HP := Lib.hid hP
    clear hP
    by_cases hc : P * 2 ≤ most
    · have Hk2 := Lib.hid (show ∀ j, j < k + 1 → (2 : Int) ^ (j + 1) ≤ most from fun j hj => by
        by_cases e : j = k
        · subst e; rw [Hps.out]; exact hc
        · exact Hk.out j (by omega))
      generalize restTo 2 most k = R at *
      go_wp2_with (first
        | (at_builtin; refine wpList_append_own _ rfl _ _ 26 rfl w.heap.size 41 i0 (.int .i16 0) 1 2 Try.underlying26 hi hz0 hz1 hz2 rfl (by decide) _ _ _ rfl (hown.alloc _) ⟨wr.heap.size, 0, none⟩ 1 1 [.int .i16 (P)] rfl rfl ?c1 ?c2 ?c3 ?c4 ?c5 ?_)
        | go_in)
      try case c1 =>
        intro j u hj
        match j, hj with
        | 0, hj => simp at hj; subst hj; simp [Addr.add]
      case c2 => first | rfl | simp [Value.oneCell'] | (intro u hu; simp at hu; subst hu; rfl)
      case c3 => unfold maxLen; omega
      case c4 => omega
      case c5 => have := hB.size; simp; omega
      · intro v' w1 hown' hgrow _
        have hB3 : Below w.heap.size w w1 := (hB.alloc hB.size _).grown hgrow (by have := hB.size; simp; omega) (fun j hj => (hown.lt j hj).1)
        clear hgrow
        go_wp2
        go_roundw
        case rel => exact ⟨k + 1, Hk2.out, by rw [Hrs.out], by rw [Hps.out], by rw [Hst.out, List.map_append]; exact hown', hB3⟩
        case measure => simp [intOf]; omega
    · have HK := Lib.hid (HKQ.out hc)
      generalize hR : restTo 2 most k = R at *
      have HR := Lib.hid hR
      clear hR
      have HV := Lib.hid (show lwV most false = insList (powsTo 2 k) R ∧ lwC most = 0 from ⟨by rw [HLW.out.1]; show insList (powsTo 2 (kOf 2 (most))) (restTo 2 most (kOf 2 (most))) = _; rw [HK.out, HR.out], HLW.out.2⟩)
      go_wp2_with (first
        | (at_builtin; refine wpList_append_own _ rfl _ _ 26 rfl w.heap.size 41 i0 (.int .i16 0) 1 2 Try.underlying26 hi hz0 hz1 hz2 rfl (by decide) _ _ _ rfl (hown.alloc _) ⟨wr.heap.size, 0, none⟩ 1 1 [.int .i16 (R)] rfl rfl ?d1 ?d2 ?d3 ?d4 ?d5 ?_)
        | (fail))
      try case d1 =>
        intro j u hj
        match j, hj with
        | 0, hj => simp at hj; subst hj; simp [Addr.add]
      case d2 => first | rfl | simp [Value.oneCell'] | (intro u hu; simp at hu; subst hu; rfl)
      case d3 => unfold maxLen; omega
      case d4 => omega
      case d5 => have := hB.size; simp; omega
      · intro v' w1 hown' hgrow _
        have hB3 : Below w.heap.size w w1 := (hB.alloc hB.size _).grown hgrow (by have := hB.size; simp; omega) (fun j hj => (hown.lt j hj).1)
        clear hgrow
        obtain ⟨g', cap', rfl, hcap⟩ := owns_succ hown'
        have HCAP := Lib.hid hcap
        clear hcap
        obtain ⟨hcm, hBg, hglt⟩ := cellsMv_of (powsTo_length 2 k) rfl hown'
        clear hown' hown
        have HCM := Lib.hid hcm
        clear hcm
        generalize hQ : powsTo 2 k = ps at *
        have hlen : ps.length = k := by rw [← hQ]; exact powsTo_length 2 k
        have HQ := Lib.hid hQ
        clear hQ
        subst hlen
        obtain ⟨wo, rfl⟩ : ∃ wo : World, wo = w1 := ⟨_, rfl⟩
        go_wp2_with fail
        go_loopw [11] (fun q wi => ∃ j : Nat, j ≤ ps.length ∧ q = .int .i64 j ∧ insFrom ps R ps.length = insFrom ps R j ∧ CellsMv wi g' ps R j ∧ OnlyD g' wo wi) (fun q _ => (intOf q).toNat)
        case atStart => exact ⟨ps.length, Nat.le_refl _, rfl, rfl, HCM.out, OnlyD.refl _ _⟩
        case round =>
          obtain ⟨j, hj, rfl, hins, hcm, hO2⟩ := hrel
          have HI := Lib.hid hins
          clear hins
          cases j with
          | zero =>
            have hd : decide ((0 : Int) < ((0 : Nat) : Int)) = false := by decide
            have HF := Lib.hid (show insFrom ps R ps.length = 0 from HI.out)
            go_wp2
            go_quiet (fail)
            go_wp2
            go_ret2
            refine ⟨_, rv2 rfl HV.out.2.symm, ?_, OnlyD.below hB3 (hO2.trans (OnlyD.dr (Dr.of _ _))) hBg⟩
            rw [HV.out.1]
            exact ⟨ownV_mv rfl (by rw [HF.out]; exact hcm.dr (Dr.of _ _)) hBg (by rw [(hO2.trans (OnlyD.dr (Dr.of _ _))).size]; exact hglt), some ⟨g', 0, none⟩, cap', by rw [insList_length]; rfl, by rw [insList_length]; exact HCAP.out⟩
          | succ m =>
            have c1 := hcm.1 (m + 1) hj
            have c0 := hcm.1 m (by omega)
            rw [mv_at] at c1
            rw [mv_below ps R (m + 1) m (by omega)] at c0
            have f1 := hcm.2 (m + 1)
            have f0 := hcm.2 m
            have hk0 : (0 : Int) < ((m + 1 : Nat) : Int) := by omega
            by_cases hx : R < ps.getD m 0
            · have HF := Lib.hid (show insFrom ps R ps.length = insFrom ps R m from HI.out.trans (insFrom_lt hx))
              have Hst2 := Lib.hid (fun q : Nat => (hcm.dr (Dr.of wr q)).step hj)
              generalize ps.getD m 0 = y at *
              have hd2 : decide (R < y) = true := by simpa using hx
              go_wp2
              go_quiet (fail)
              go_wp2
              go_roundw
              case rel => exact ⟨m, by omega, rfl, HF.out, Hst2.out _, ((hO2.trans (OnlyD.dr (Dr.of _ _))).setCell _ _).setCell _ _⟩
              case measure => simp [intOf]
            · have HF := Lib.hid (show insFrom ps R ps.length = m + 1 from HI.out.trans (insFrom_ge hx))
              generalize ps.getD m 0 = y at *
              have hd2 : decide (R < y) = false := by simpa using hx
              go_wp2
              go_quiet (fail)
              go_wp2
              go_ret2
              refine ⟨_, rv2 rfl HV.out.2.symm, ?_, OnlyD.below hB3 (hO2.trans (OnlyD.dr (Dr.of _ _))) hBg⟩
              rw [HV.out.1]
              exact ⟨ownV_mv rfl (by rw [HF.out]; exact hcm.dr (Dr.of _ _)) hBg (by rw [(hO2.trans (OnlyD.dr (Dr.of _ _))).size]; exact hglt), some ⟨g', 0, none⟩, cap', by rw [insList_length]; rfl, by rw [insList_length]; exact HCAP.out⟩

theorem leastWeights_any (most : Int) (both : Bool) (w : World) :
    Calls Try.prog 6 #[.int .i64 most, .bool both] w fun e w' => ∃ v, e = .returned (.tuple #[v, .int .i64 (lwC most)]) ∧ OwnV .i16 w.heap.size w' v (lwV most both) ∧ Below w.heap.size w w' := by
  by_cases hm : 1 ≤ most ∧ most ≤ 2000
  · cases both
    · exact leastWeights_one most w hm
    · exact leastWeights_two most w hm
  · have HR := Lib.hid (lw_f (both := both) hm)
    have H1 := Lib.hid hm
    clear hm
    go_enter Try.func6, Try.ntmps6
    go_wp2_with fail
    refine (within_f _ _ _ _ H1.out).mono ?_
    rintro e w' ⟨rfl, rfl⟩
    go_wp2
    go_ret2
    refine ⟨_, rv2 rfl HR.out.2.symm, ?_, Below.refl _ _⟩
    rw [HR.out.1]
    exact OwnV.nil _ _ _ _ _
theorem lwV_len (most : Int) (both : Bool) : (lwV most both).length ≤ 1048576 := by
  by_cases h : 1 ≤ most ∧ most ≤ 2000
  · rw [(lw_t h).1, insList_length, powsTo_length]
    have h2 : kOf (bOf both) (bdOf most both) ≤ 11 := by
      cases both
      · exact kOf_le hb2 (by unfold bdOf; simp; omega)
      · exact kOf_le hb3 (by unfold bdOf; simp; omega)
    omega
  · rw [(lw_f h).1]; simp
theorem specLeastWeights_any (most : Int) (both : Bool) (w : World) :
    Calls Try.prog 7 #[.int .i64 most, .bool both] w fun e w' => ∃ v, e = .returned (.tuple #[v, .int .i64 (lwC most)]) ∧ OwnC .i16 w.heap.size w' v (lwV most both) ∧ Below w.heap.size w w' := by
  by_cases hm : 1 ≤ most ∧ most ≤ 2000
  · cases both
    · exact specLeastWeights_one most w hm
    · exact specLeastWeights_two most w hm
  · have HR := Lib.hid (lw_f (both := both) hm)
    have H1 := Lib.hid hm
    clear hm
    go_enter Try.func7, Try.ntmps7
    go_wp2_with fail
    refine (l00In_f _ _ _ _ H1.out).mono ?_
    rintro e w' ⟨rfl, rfl⟩
    go_wp2
    go_ret2
    refine ⟨_, rv2 rfl HR.out.2.symm, ?_, (Below.refl _ _).alloc (Nat.le_refl _) _⟩
    rw [HR.out.1]
    exact ⟨OwnV.nil _ _ _ _ _, _, _, rfl, Nat.zero_le _⟩
end Go.Proofs.Ythbanajodohbbaa
