/-
  The walks of FromBalanced, in the program and in its model.
-/
import Derived.Test.YthbanajodohbbaaLaw
namespace Go.Proofs.Ythbanajodohbbaa
open Go.RowKit

/-- The sum of the digits from the place k on, each times 3 to the power of its place less k. -/
def downTo (ds : List Int) (k : Nat) : Int := (ds.drop k).foldr (fun d r => d + 3 * r) 0
/-- The sum of the first k digits, each times 3 to the power of its place. -/
def upTo (ds : List Int) : Nat → Int
  | 0 => 0
  | k + 1 => upTo ds k + ds.getD k 0 * 3 ^ k
theorem downTo_step (ds : List Int) (k : Nat) (h : k < ds.length) : downTo ds k = ds.getD k 0 + 3 * downTo ds (k + 1) := by
  unfold downTo
  rw [List.drop_eq_getElem_cons h, List.foldr_cons]
  simp [List.getD_eq_getElem?_getD, List.getElem?_eq_getElem h]
theorem downTo_end (ds : List Int) : downTo ds ds.length = 0 := by simp [downTo]
theorem up_down (ds : List Int) (k : Nat) (h : k ≤ ds.length) : upTo ds k + 3 ^ k * downTo ds k = downTo ds 0 := by
  induction k with
  | zero => simp [upTo]
  | succ k ih =>
    have := ih (by omega)
    rw [downTo_step ds k (by omega)] at this
    rw [← this, show upTo ds (k + 1) = upTo ds k + ds.getD k 0 * 3 ^ k from rfl]
    rw [Int.pow_succ, Int.mul_add]
    have e1 : (3 : Int) ^ k * ds.getD k 0 = ds.getD k 0 * 3 ^ k := Int.mul_comm _ _
    have e2 : (3 : Int) ^ k * 3 * downTo ds (k + 1) = 3 ^ k * (3 * downTo ds (k + 1)) := Int.mul_assoc _ _ _
    rw [e1, e2]
    omega
theorem up_all (ds : List Int) : upTo ds ds.length = downTo ds 0 := by
  have := up_down ds ds.length (Nat.le_refl _)
  rw [downTo_end] at this
  simpa using this
theorem pow3_le (k : Nat) (h : k ≤ 30) : (1 : Int) ≤ 3 ^ k ∧ (3 : Int) ^ k ≤ 205891132094649 := by
  have h1 : (1 : Nat) ≤ 3 ^ k := Nat.one_le_pow _ _ (by omega)
  have h2 : (3 : Nat) ^ k ≤ 3 ^ 30 := Nat.pow_le_pow_right (by omega) h
  have h3 : (3 : Nat) ^ 30 = 205891132094649 := by decide
  have e : ((3 ^ k : Nat) : Int) = 3 ^ k := by simp
  omega
theorem downTo_bd (ds : List Int) (h : OkP ds) (hl : ds.length ≤ 30) (n k : Nat) (hk : k + n = ds.length) : 1 - 3 ^ n ≤ 2 * downTo ds k ∧ 2 * downTo ds k ≤ 3 ^ n - 1 := by
  induction n generalizing k with
  | zero => rw [show k = ds.length by omega, downTo_end]; simp
  | succ n ih =>
    have h1 := ih (k + 1) (by omega)
    have h2 := h k (by omega)
    have h3 := (pow3_le n (by omega)).1
    rw [downTo_step ds k (by omega), Int.pow_succ]
    omega
theorem upTo_bd (ds : List Int) (h : OkP ds) (hl : ds.length ≤ 30) (k : Nat) (hk : k ≤ ds.length) : -(3 ^ k) < upTo ds k ∧ upTo ds k < 3 ^ k := by
  induction k with
  | zero => simp [upTo]
  | succ k ih =>
    have h1 := ih (by omega)
    have h2 := h k (by omega)
    have h3 := (pow3_le k (by omega)).1
    unfold upTo
    rw [Int.pow_succ]
    have h4 : ds.getD k 0 = -1 ∨ ds.getD k 0 = 0 ∨ ds.getD k 0 = 1 := by omega
    rcases h4 with e | e | e <;> rw [e] <;> omega

noncomputable def digV (ds : List Int) : Int := if okP ds = true then (if ds.length ≤ 30 then downTo ds 0 else 0) else 0
noncomputable def digC (ds : List Int) : Int := if okP ds = true then (if ds.length ≤ 30 then 0 else 3) else 2

theorem fromBalanced_any (b off c : Nat) (ds : List Int) (w : World) (hn : ds.length ≤ 1048576) (hc : At .i8 w b off ds) :
    Calls Try.prog 14 #[.slice (some ⟨b, off, none⟩) ds.length c] w fun e w' => e = .returned (.tuple #[.int .i64 (digV ds), .int .i64 (digC ds)]) ∧ w = w' := by
  have hO := signsOnly_any b off c ds w hn hc
  unfold digV digC
  cases hok : okP ds
  · rw [hok] at hO
    clear hok
    simp only [Bool.false_eq_true, if_false]
    go_enter Try.func14, Try.ntmps14
    go_wp2_with fail
    refine hO.mono ?_
    rintro e w' ⟨rfl, rfl⟩
    go_wp2
    go_ret2
    exact ⟨rfl, rfl⟩
  rw [hok] at hO
  have HP := Lib.hid (show OkP ds from of_cb hok)
  clear hok
  simp only [if_true]
  by_cases hl : ds.length ≤ 30
  · rw [if_pos hl, if_pos hl]
    go_enter Try.func14, Try.ntmps14
    go_wp2_with fail
    refine hO.mono ?_
    rintro e w' ⟨rfl, rfl⟩
    go_wp2_with fail
    go_loop [4, 5, 16] (fun s q i => ∃ k : Nat, k ≤ ds.length ∧ i = .int .i64 k ∧ s = .int .i64 (upTo ds k) ∧ q = .int .i64 (3 ^ k)) (fun _ _ i => ds.length - (intOf i).toNat)
    case atStart => exact ⟨0, Nat.zero_le _, rfl, rfl, rfl⟩
    case round =>
      obtain ⟨k, hk, rfl, rfl, rfl⟩ := hrel
      have Hb := Lib.hid (upTo_bd ds HP.out hl k hk)
      have hp := pow3_le k (by omega)
      by_cases hlt : k < ds.length
      · have h2 := hc k hlt
        have hd := HP.out k hlt
        have H := Lib.hid (show upTo ds (k + 1) = upTo ds k + ds.getD k 0 * 3 ^ k from rfl)
        have H3 := Lib.hid (show (3 : Int) ^ (k + 1) = 3 ^ k * 3 from Int.pow_succ _ _)
        have hB : -205891132094649 ≤ upTo ds k ∧ upTo ds k ≤ 205891132094649 := by have := Hb.out; omega
        generalize ds.getD k 0 = x at *
        generalize upTo ds k = D at *
        generalize (3 : Int) ^ k = p at *
        have hm : -205891132094649 ≤ x * p ∧ x * p ≤ 205891132094649 := by
          have h4 : x = -1 ∨ x = 0 ∨ x = 1 := by omega
          rcases h4 with e | e | e <;> rw [e] <;> omega
        clear Hb
        go_wp2
        go_round
        case rel => exact ⟨k + 1, by omega, by go_num, by rw [H.out], by rw [H3.out]⟩
        case measure => simp [intOf]; omega
      · have Hk := Lib.hid (show k = ds.length by omega)
        have HU := Lib.hid (up_all ds)
        go_wp2
        go_ret2
        exact ⟨ret2 (by rw [Hk.out, HU.out]) rfl, rfl⟩
  · rw [if_neg hl, if_neg hl]
    have hd : decide ((30 : Int) < (ds.length : Int)) = true := by simp; omega
    have hd' : (30 : Int) < (ds.length : Int) := by omega
    go_enter Try.func14, Try.ntmps14
    go_wp2_with fail
    refine hO.mono ?_
    rintro e w' ⟨rfl, rfl⟩
    go_wp2
    go_ret2
    exact ⟨rfl, rfl⟩
end Go.Proofs.Ythbanajodohbbaa
