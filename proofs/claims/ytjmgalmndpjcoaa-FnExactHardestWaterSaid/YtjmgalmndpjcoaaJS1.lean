/-
  The search of all waters, by their numbers.
-/
import Derived.Test.YtjmgalmndpjcoaaGS
import Derived.Test.YtjmgalmndpjcoaaEvMv
import Derived.Test.YtjmgalmndpjcoaaIxFns2
namespace Go.Proofs.Ytjmgalmndpjcoaa
open Go.RowKit
set_option maxRecDepth 100000
set_option linter.unusedVariables false

theorem ix_from {J : List Int} {y : Nat → Int} {i : Nat} : ∀ d, ∃ r, ixTo J y (i + d) = ixTo J y i + stTo J i * r
  | 0 => ⟨0, by simp⟩
  | d + 1 => by
    obtain ⟨r, hr⟩ := ix_from (J := J) (y := y) (i := i) d
    obtain ⟨s, hs⟩ : ∃ s, stTo J (i + d) = stTo J i * s := by
      clear hr
      induction d with
      | zero => exact ⟨1, by simp⟩
      | succ d ih =>
        obtain ⟨s, hs⟩ := ih
        exact ⟨s * (J.getD (i + d) 0 + 1), by rw [← Nat.add_assoc, stTo_step, hs, Int.mul_assoc]⟩
    exact ⟨r + s * y (i + d), by rw [← Nat.add_assoc, ixTo_step, hr, hs, Int.mul_add, Int.mul_assoc, Int.add_assoc]⟩
theorem at_ix {J : List Int} {y : Nat → Int} (hJ : OkJ J) (hy : OkX J y) {i : Nat} (hi : i < 4) : atV J (ixTo J y J.length) i = y i := by
  have h0 := hy i hi
  by_cases hl : i < J.length
  · obtain ⟨r, hr⟩ := ix_from (J := J) (y := y) (i := i + 1) (J.length - (i + 1))
    rw [show i + 1 + (J.length - (i + 1)) = J.length by omega, ixTo_step, stTo_step] at hr
    have hb := ixTo_bd (k := i) (hJ.2.1.mono (by omega)) (fun j hj => hy j (by omega))
    unfold atV
    rw [hr]
    have e : ixTo J y i + stTo J i * y i + stTo J i * (J.getD i 0 + 1) * r = ixTo J y i + stTo J i * (y i + (J.getD i 0 + 1) * r) := by
      generalize J.getD i 0 + 1 = z
      rw [Int.mul_add, Int.mul_assoc (stTo J i) z r, Int.add_assoc]
    rw [e, Int.add_mul_ediv_left _ _ (by omega), Int.ediv_eq_zero_of_lt hb.1 hb.2, Int.zero_add, Int.add_mul_emod_self_left]
    exact Int.emod_eq_of_lt h0.1 (by omega)
  · rw [atV_past (by omega)]
    rw [getD_ge (by omega)] at h0
    omega
theorem ix_at {J : List Int} (hE : Each J J.length) {n : Int} (hn : 0 ≤ n) : ∀ k, k ≤ J.length → ixTo J (atV J n) k = n % stTo J k
  | 0, _ => by simp [ixTo, stTo, Int.emod_one]
  | k + 1, hk => by
    have hs := (stTo_bd (k := k) (hE.mono (by omega))).1
    have hz := hE k (by omega)
    rw [ixTo_step, ix_at hE hn k (by omega)]
    unfold atV
    have q := quo_step (k := k) (hE.mono (by omega)) n
    have h1 := Int.mul_ediv_add_emod n (stTo J k)
    have h2 := Int.mul_ediv_add_emod n (stTo J (k + 1))
    have h3 := Int.mul_ediv_add_emod (n / stTo J k) (J.getD k 0 + 1)
    rw [← q] at h2
    have e1 : stTo J (k + 1) * (n / stTo J k / (J.getD k 0 + 1)) = stTo J k * ((J.getD k 0 + 1) * (n / stTo J k / (J.getD k 0 + 1))) := by rw [stTo_step, Int.mul_assoc]
    have e2 : stTo J k * (n / stTo J k) = stTo J k * ((J.getD k 0 + 1) * (n / stTo J k / (J.getD k 0 + 1))) + stTo J k * (n / stTo J k % (J.getD k 0 + 1)) := by rw [← Int.mul_add, h3]
    omega
theorem at_ok {J : List Int} (hJ : OkJ J) (n : Int) : OkX J (atV J n) := fun i _ => ⟨(atV_bd hJ.2.1 n).1, (atV_bd hJ.2.1 n).2.1⟩
theorem ix_at_all {J : List Int} (hJ : OkJ J) {n : Int} (h0 : 0 ≤ n) (hn : n < stTo J J.length) : ixTo J (atV J n) J.length = n := by
  rw [ix_at hJ.2.1 h0 _ (Nat.le_refl _), Int.emod_eq_of_lt h0 hn]
/-- How many waters there are. -/
def nW (J : List Int) : Nat := (stTo J J.length).toNat
theorem nW_eq {J : List Int} (hJ : OkJ J) : ((nW J : Nat) : Int) = stTo J J.length ∧ 1 ≤ nW J ∧ nW J ≤ 5000 := by
  have h1 := (stTo_bd hJ.2.1).1
  have h2 := hJ.2.2
  unfold nW
  omega
/-- The number of a water. -/
def ixN (J : List Int) (y : Nat → Int) : Nat := (ixTo J y J.length).toNat
theorem ixN_eq {J : List Int} {y : Nat → Int} (hJ : OkJ J) (hy : OkX J y) : ((ixN J y : Nat) : Int) = ixTo J y J.length ∧ ixN J y < nW J := by
  have h1 := ixTo_bd hJ.2.1 (hy.upTo hJ.1.2)
  have h2 := nW_eq hJ
  unfold ixN
  omega
theorem wat_congr {x y : Nat → Int} (h : ∀ i, i < 4 → x i = y i) : (watV x : Value) = watV y := by
  show Value.agg #[_, _, _, _] = Value.agg #[_, _, _, _]
  rw [h 0 (by omega), h 1 (by omega), h 2 (by omega), h 3 (by omega)]
theorem wat_at {J : List Int} {y : Nat → Int} (hJ : OkJ J) (hy : OkX J y) : (watV y : Value) = watV (atV J (ixN J y)) :=
  wat_congr fun i hi => by rw [(ixN_eq hJ hy).1, at_ix hJ hy hi]
theorem wat_inj {x y : Nat → Int} (h : (watV x : Value) = watV y) : ∀ i, i < 4 → x i = y i := by
  have h' : Value.agg #[.int .i16 (x 0), .int .i16 (x 1), .int .i16 (x 2), .int .i16 (x 3)] = Value.agg #[.int .i16 (y 0), .int .i16 (y 1), .int .i16 (y 2), .int .i16 (y 3)] := h
  simp at h'
  intro i hi
  match i, hi with
  | 0, _ => exact h'.1
  | 1, _ => exact h'.2.1
  | 2, _ => exact h'.2.2.1
  | 3, _ => exact h'.2.2.2
theorem ixTo_congr {J : List Int} {x y : Nat → Int} : ∀ k, (∀ i, i < k → x i = y i) → ixTo J x k = ixTo J y k
  | 0, _ => rfl
  | k + 1, h => by rw [ixTo_step, ixTo_step, ixTo_congr k (fun i hi => h i (by omega)), h k (by omega)]
theorem at_inj {J : List Int} (hJ : OkJ J) {a b : Nat} (ha : a < nW J) (hb : b < nW J) (h : (watV (atV J a) : Value) = watV (atV J b)) : a = b := by
  have h1 := nW_eq hJ
  have h2 := ix_at_all hJ (n := a) (by omega) (by omega)
  have h3 := ix_at_all hJ (n := b) (by omega) (by omega)
  have h4 := ixTo_congr (J := J) J.length (fun i hi => wat_inj h i (by have := hJ.1.2; omega))
  omega
/-- The water behind the move number j from the water number a, by its number. -/
noncomputable def nxJ (J : List Int) (t : Bool) (a j : Nat) : Option Nat :=
  if movC J t (atV J a) (mvI (allM J.length) j).1 (mvI (allM J.length) j).2.1 (mvI (allM J.length) j).2.2 = 0 then some (ixN J (movX J t (atV J a) (mvI (allM J.length) j).1 (mvI (allM J.length) j).2.1 (mvI (allM J.length) j).2.2)) else none
theorem movX_okJ {J : List Int} {t : Bool} {y : Nat → Int} {k f g : Int} (hJ : OkJ J) (hy : OkX J y) (h : movC J t y k f g = 0) : OkX J (movX J t y k f g) := by
  unfold movX
  rw [if_pos h]
  by_cases hm : OkM J.length k f g
  · exact nextX_ok hJ.2.1 hJ.1.2 hy hm
  · rw [movC_bad hm] at h; cases h
theorem nxJ_lt {J : List Int} {t : Bool} (hJ : OkJ J) : ∀ a j b, a < nW J → nxJ J t a j = some b → b < nW J := by
  intro a j b _ h
  unfold nxJ at h
  split at h
  · rename_i hc
    obtain rfl := Option.some.inj h
    exact (ixN_eq hJ (movX_okJ hJ (at_ok hJ _) hc)).2
  · cases h
/-- The moves of a search that have been made last. -/
def mvL (n : Nat) (xs : List Int) : List Mv := xs.map (fun j => mvI (allM n) j.toNat)
theorem mvL_len (n : Nat) (xs : List Int) : (mvL n xs).length = xs.length := by simp [mvL]
theorem allM_zero (n : Nat) : mvI (allM n) 0 = (0, 0, 0) := by
  unfold allM part2
  unfold mvI
  rcases Nat.eq_zero_or_pos n with rfl | hn
  · rfl
  · obtain ⟨m, rfl⟩ : ∃ m, n = m + 1 := ⟨n - 1, by omega⟩
    simp [pours, List.range_succ_eq_map]
theorem mvL_rep (n N : Nat) : mvL n (List.replicate N 0) = List.replicate N (0, 0, 0) := by
  unfold mvL
  rw [List.map_replicate]
  rw [show (0 : Int).toNat = 0 from rfl, allM_zero]
theorem mvL_set (n : Nat) (xs : List Int) (i j : Nat) : mvL n (xs.set i j) = (mvL n xs).set i (mvI (allM n) j) := by
  unfold mvL
  rw [List.map_set, Int.toNat_natCast]
theorem mvL_get {n : Nat} {xs : List Int} {i : Nat} (h : i < xs.length) : mvI (mvL n xs) i = mvI (allM n) (xs.getD i 0).toNat := by
  have e : mvI (mvL n xs) i = (mvL n xs).getD i (0, 0, 0) := rfl
  rw [e]
  unfold mvL
  rw [List.getD_eq_getElem?_getD, List.getElem?_map, List.getD_eq_getElem?_getD, List.getElem?_eq_getElem h]
  rfl
end Go.Proofs.Ytjmgalmndpjcoaa
