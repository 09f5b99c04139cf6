/-
  The walks of MassByTwo and ArmsFrom, in the program and in its model.
-/
import Derived.Test.YtmngeloenchpdaaLaw
namespace Go.Proofs.Ytmngeloenchpdaa
open Go.RowKit

theorem iv64 {a b : Int} (h : a = b) : Value.int .i64 a = Value.int .i64 b := by rw [h]
/-- The least number whose square is not below s, 1000000 if there is none up to it. -/
def IsRoot (s r : Int) : Prop := 0 ≤ r ∧ r ≤ 1000000 ∧ (∀ x, 0 ≤ x → x < r → x * x < s) ∧ (r = 1000000 ∨ s ≤ r * r)
noncomputable def root (s : Int) : Int := @Classical.epsilon Int ⟨0⟩ (IsRoot s)
theorem root_eq {s r : Int} (h : IsRoot s r) : root s = r := by
  have h' : IsRoot s (root s) := @Classical.epsilon_spec _ (IsRoot s) ⟨r, h⟩
  generalize root s = q at *
  obtain ⟨a1, a2, a3, a4⟩ := h
  obtain ⟨b1, b2, b3, b4⟩ := h'
  rcases Int.lt_trichotomy q r with hl | hl | hl
  · have := a3 q b1 hl; rcases b4 with e | e <;> omega
  · exact hl
  · have := b3 r a1 hl; rcases a4 with e | e <;> omega
theorem isRoot_ex (s : Int) (n : Nat) (lo : Int) (h0 : 0 ≤ lo) (hn : lo + n = 1000000) (hl : ∀ x, 0 ≤ x → x < lo → x * x < s) : ∃ r, IsRoot s r := by
  induction n generalizing lo with
  | zero => exact ⟨lo, h0, by omega, hl, .inl (by omega)⟩
  | succ n ih =>
    by_cases h : s ≤ lo * lo
    · exact ⟨lo, h0, by omega, hl, .inr h⟩
    · refine ih (lo + 1) (by omega) (by omega) (fun x hx hx2 => ?_)
      by_cases e : x = lo
      · rw [e]; omega
      · exact hl x hx (by omega)
theorem root_bd (s : Int) : 0 ≤ root s ∧ root s ≤ 1000000 := by
  obtain ⟨r, h⟩ : ∃ r, IsRoot s r := by
    by_cases hs : 0 ≤ s
    · exact isRoot_ex s 1000000 0 (Int.le_refl _) (by omega) (fun x h0 h1 => absurd h1 (by omega))
    · exact ⟨0, by omega, by omega, fun x h0 h1 => absurd h1 (by omega), .inr (by omega)⟩
  rw [root_eq h]
  exact ⟨h.1, h.2.1⟩
theorem sq_mono {x y : Int} (h0 : 0 ≤ x) (h : x ≤ y) : x * x ≤ y * y :=
  Int.mul_le_mul h h h0 (by omega)
theorem sq_bd {x : Int} (h0 : 0 ≤ x) (h : x ≤ 1000000) : 0 ≤ x * x ∧ x * x ≤ 1000000000000 := by
  have h1 := sq_mono h0 h
  have h2 := Int.mul_nonneg h0 h0
  omega

noncomputable def sqV (s : Int) : Int := if root s * root s = s then root s else 0
noncomputable def sqC (s : Int) : Int := if root s * root s = s then 0 else 6
theorem sqV_t {s r : Int} (h : root s = r) (e : r * r = s) : sqV s = r ∧ sqC s = 0 := by unfold sqV sqC; rw [h, if_pos e, if_pos e]; exact ⟨rfl, rfl⟩
theorem sqV_f {s r : Int} (h : root s = r) (e : ¬ r * r = s) : sqV s = 0 ∧ sqC s = 6 := by unfold sqV sqC; rw [h, if_neg e, if_neg e]; exact ⟨rfl, rfl⟩
noncomputable def mbtV (a b : Int) : Int := if cb ((1 ≤ a ∧ a ≤ 1000000) ∧ (1 ≤ b ∧ b ≤ 1000000)) = true then sqV (a * b) else 0
noncomputable def mbtC (a b : Int) : Int := if cb ((1 ≤ a ∧ a ≤ 1000000) ∧ (1 ≤ b ∧ b ≤ 1000000)) = true then sqC (a * b) else 2
theorem ab_bd {a b : Int} (ha : 1 ≤ a ∧ a ≤ 1000000) (hb : 1 ≤ b ∧ b ≤ 1000000) : 1 ≤ a * b ∧ a * b ≤ 1000000000000 := by
  have h1 : a * b ≤ 1000000 * b := Int.mul_le_mul_of_nonneg_right ha.2 (by omega)
  have h2 : 1 * b ≤ a * b := Int.mul_le_mul_of_nonneg_right ha.1 (by omega)
  omega

theorem specMassByTwo_any (a b : Int) (w : World) :
    Calls Try.prog 27 #[.int .i64 a, .int .i64 b] w fun e w' => e = .returned (.tuple #[.int .i64 (mbtV a b), .int .i64 (mbtC a b)]) ∧ w = w' := by
  unfold mbtV mbtC
  by_cases ka : 1 ≤ a ∧ a ≤ 1000000
  case neg =>
    rw [show cb ((1 ≤ a ∧ a ≤ 1000000) ∧ (1 ≤ b ∧ b ≤ 1000000)) = false from cb_f (fun h => ka h.1)]
    simp only [Bool.false_eq_true, if_false]
    have h1 := Lib.hid ka
    clear ka
    go_enter Try.func27, Try.ntmps27
    go_wp2_with fail
    refine (l00In_f _ _ _ _ h1.out).mono ?_
    rintro e w' ⟨rfl, rfl⟩
    go_wp2
    go_ret2
    exact ⟨rfl, rfl⟩
  by_cases kb : 1 ≤ b ∧ b ≤ 1000000
  case neg =>
    rw [show cb ((1 ≤ a ∧ a ≤ 1000000) ∧ (1 ≤ b ∧ b ≤ 1000000)) = false from cb_f (fun h => kb h.2)]
    simp only [Bool.false_eq_true, if_false]
    have h1 := Lib.hid ka
    have h2 := Lib.hid kb
    clear ka kb
    go_enter Try.func27, Try.ntmps27
    go_wp2_with fail
    refine (l00In_t _ _ _ _ h1.out).mono ?_
    rintro e w' ⟨rfl, rfl⟩
    go_wp2_with fail
    refine (l00In_f _ _ _ _ h2.out).mono ?_
    rintro e w' ⟨rfl, rfl⟩
    go_wp2
    go_ret2
    exact ⟨rfl, rfl⟩
  rw [show cb ((1 ≤ a ∧ a ≤ 1000000) ∧ (1 ≤ b ∧ b ≤ 1000000)) = true from cb_t ⟨ka, kb⟩]
  simp only [if_true]
  have hab := ab_bd ka kb
  have h1 := Lib.hid ka
  have h2 := Lib.hid kb
  clear ka kb
  go_enter Try.func27, Try.ntmps27
  go_wp2_with fail
  refine (l00In_t _ _ _ _ h1.out).mono ?_
  rintro e w' ⟨rfl, rfl⟩
  go_wp2_with fail
  refine (l00In_t _ _ _ _ h2.out).mono ?_
  rintro e w' ⟨rfl, rfl⟩
  go_wp2_with fail
  go_loop [6, 7] (fun l h => ∃ lo hi : Int, l = .int .i64 lo ∧ h = .int .i64 hi ∧ 1 ≤ lo ∧ lo ≤ hi ∧ hi ≤ 1000000 ∧ (∀ x, 0 ≤ x → x < lo → x * x < a * b) ∧ a * b ≤ hi * hi) (fun l h => (intOf h - intOf l).toNat)
  case atStart =>
    refine ⟨1, 1000000, rfl, rfl, by omega, by omega, by omega, fun x h0 h1 => ?_, by omega⟩
    rw [show x = 0 by omega]; omega
  case round =>
    obtain ⟨lo, hi, rfl, rfl, hl1, hlh, hh, hlow, hup⟩ := hrel
    have Hl := Lib.hid hlow
    have Hu := Lib.hid hup
    clear hlow hup
    by_cases hlt : lo < hi
    · have hm : lo ≤ (lo + hi) / 2 ∧ (lo + hi) / 2 < hi := by omega
      have hmb := sq_bd (x := (lo + hi) / 2) (by omega) (by omega)
      by_cases hc : (lo + hi) / 2 * ((lo + hi) / 2) < a * b
      · have Hn := Lib.hid (show ∀ x, 0 ≤ x → x < (lo + hi) / 2 + 1 → x * x < a * b from fun x h0 h1 => by
          have := sq_mono h0 (show x ≤ (lo + hi) / 2 by omega); omega)
        go_wp2
        go_round
        case rel => exact ⟨(lo + hi) / 2 + 1, hi, rfl, rfl, by omega, by omega, by omega, Hn.out, Hu.out⟩
        case measure => simp [intOf]; omega
      · have Hn := Lib.hid (show a * b ≤ (lo + hi) / 2 * ((lo + hi) / 2) by omega)
        go_wp2
        go_round
        case rel => exact ⟨lo, (lo + hi) / 2, rfl, rfl, by omega, by omega, by omega, Hl.out, Hn.out⟩
        case measure => simp [intOf]; omega
    · obtain rfl : lo = hi := by omega
      have hr : root (a * b) = lo := root_eq ⟨by omega, hh, Hl.out, .inr Hu.out⟩
      have hmb := sq_bd (x := lo) (by omega) (by omega)
      by_cases he : lo * lo = a * b
      · have hd : (lo * lo == a * b) = true := by simpa using he
        have hd2 : (lo * lo != a * b) = false := by simpa using he
        have HV := Lib.hid (sqV_t hr he)
        clear he hr
        go_wp2
        go_ret2
        exact ⟨ret2 HV.out.1.symm (iv64 HV.out.2.symm), rfl⟩
      · have hd : (lo * lo == a * b) = false := by simpa using he
        have hd2 : (lo * lo != a * b) = true := by simpa using he
        have HV := Lib.hid (sqV_f hr he)
        clear he hr
        go_wp2
        go_ret2
        exact ⟨ret2 HV.out.1.symm (iv64 HV.out.2.symm), rfl⟩

/-! ### the program: sort.Search with a closure -/
theorem sq_any (n s : Int) (B : Nat) (w : World) (hn : 0 ≤ n ∧ n ≤ 1000000) (hc : w.cell? ⟨B, 0, none⟩ = some (.int .i64 s)) :
    Calls Try.prog 46 #[.int .i64 n, .pointer (some ⟨B, 0, none⟩)] w fun e w' => e = .returned (.bool (decide (s ≤ n * n))) ∧ w = w' := by
  have hm := sq_bd hn.1 hn.2
  by_cases h : s ≤ n * n
  · rw [decide_eq_true h]
    go_enter Try.func46, Try.ntmps46
    go_wp2
    go_ret
    exact ⟨retb (by simp), rfl⟩
  · rw [decide_eq_false h]
    go_enter Try.func46, Try.ntmps46
    go_wp2
    go_ret
    exact ⟨retb (by simp), rfl⟩
theorem search_any (s : Int) (B : Nat) (w : World) (hc : w.cell? ⟨B, 0, none⟩ = some (.int .i64 s)) :
    Calls Try.prog 45 #[.int .i64 1000000, .func (.func 46) #[] #[.pointer (some ⟨B, 0, none⟩)]] w fun e w' => e = .returned (.int .i64 (root s)) ∧ w = w' := by
  go_enter Try.func45, Try.ntmps45
  go_wp2
  go_loop [5, 6] (fun l h => ∃ lo hi : Int, l = .int .i64 lo ∧ h = .int .i64 hi ∧ 0 ≤ lo ∧ lo ≤ hi ∧ hi ≤ 1000000 ∧ (∀ x, 0 ≤ x → x < lo → x * x < s) ∧ (hi = 1000000 ∨ s ≤ hi * hi)) (fun l h => (intOf h - intOf l).toNat)
  case atStart =>
    exact ⟨0, 1000000, rfl, rfl, by omega, by omega, by omega, fun x h0 h1 => absurd h1 (by omega), .inl rfl⟩
  case round =>
    obtain ⟨lo, hi, rfl, rfl, hl1, hlh, hh, hlow, hup⟩ := hrel
    have Hl := Lib.hid hlow
    have Hu := Lib.hid hup
    clear hlow hup
    by_cases hlt : lo < hi
    · have hm : lo ≤ (lo + hi) / 2 ∧ (lo + hi) / 2 < hi := by omega
      by_cases hcs : s ≤ (lo + hi) / 2 * ((lo + hi) / 2)
      · have hC := sq_any ((lo + hi) / 2) s B w (by omega) hc
        rw [decide_eq_true hcs] at hC
        have HC := Lib.hid hC
        have HS := Lib.hid hcs
        clear hC hcs
        go_wp2_with fail
        refine HC.out.mono ?_
        rintro e w' ⟨rfl, rfl⟩
        go_wp2_with fail
        go_round
        case rel => exact ⟨lo, (lo + hi) / 2, rfl, rfl, by omega, by omega, by omega, Hl.out, .inr HS.out⟩
        case measure => simp [intOf]; omega
      · have hC := sq_any ((lo + hi) / 2) s B w (by omega) hc
        rw [decide_eq_false hcs] at hC
        have HC := Lib.hid hC
        have HS := Lib.hid hcs
        clear hC hcs
        have Hn := Lib.hid (show ∀ x, 0 ≤ x → x < (lo + hi) / 2 + 1 → x * x < s from fun x h0 h1 => by
          have := sq_mono h0 (show x ≤ (lo + hi) / 2 by omega); have := HS.out; omega)
        go_wp2_with fail
        refine HC.out.mono ?_
        rintro e w' ⟨rfl, rfl⟩
        go_wp2_with fail
        go_round
        case rel => exact ⟨(lo + hi) / 2 + 1, hi, rfl, rfl, by omega, by omega, by omega, Hn.out, Hu.out⟩
        case measure => simp [intOf]; omega
    · obtain rfl : lo = hi := by omega
      have Hr := Lib.hid (root_eq (s := s) (r := lo) ⟨by omega, hh, Hl.out, Hu.out⟩)
      go_wp2
      go_ret
      exact ⟨reti Hr.out.symm, rfl⟩
theorem massByTwo_any (a b : Int) (w : World) :
    Calls Try.prog 26 #[.int .i64 a, .int .i64 b] w fun e w' => e = .returned (.tuple #[.int .i64 (mbtV a b), .int .i64 (mbtC a b)]) ∧ Below w.heap.size w w' := by
  have hmf : ∀ (fn : Fn) (first cap : Array Value) (w : World), (Instr.makeFunc fn first cap).run Try.prog w = .ok (.func fn first cap) w := fun _ _ _ _ => rfl
  unfold mbtV mbtC
  by_cases ka : 1 ≤ a ∧ a ≤ 1000000
  case neg =>
    rw [show cb ((1 ≤ a ∧ a ≤ 1000000) ∧ (1 ≤ b ∧ b ≤ 1000000)) = false from cb_f (fun h => ka h.1)]
    simp only [Bool.false_eq_true, if_false]
    have h1 := Lib.hid ka
    clear ka
    go_enter Try.func26, Try.ntmps26
    go_wp2_with fail
    refine (within_f _ _ _ _ h1.out).mono ?_
    rintro e w' ⟨rfl, rfl⟩
    go_wp2
    go_ret2
    exact ⟨rfl, Below.refl _ _⟩
  by_cases kb : 1 ≤ b ∧ b ≤ 1000000
  case neg =>
    rw [show cb ((1 ≤ a ∧ a ≤ 1000000) ∧ (1 ≤ b ∧ b ≤ 1000000)) = false from cb_f (fun h => kb h.2)]
    simp only [Bool.false_eq_true, if_false]
    have h1 := Lib.hid ka
    have h2 := Lib.hid kb
    clear ka kb
    go_enter Try.func26, Try.ntmps26
    go_wp2_with fail
    refine (within_t _ _ _ _ h1.out).mono ?_
    rintro e w' ⟨rfl, rfl⟩
    go_wp2_with fail
    refine (within_f _ _ _ _ h2.out).mono ?_
    rintro e w' ⟨rfl, rfl⟩
    go_wp2
    go_ret2
    exact ⟨rfl, Below.refl _ _⟩
  rw [show cb ((1 ≤ a ∧ a ≤ 1000000) ∧ (1 ≤ b ∧ b ≤ 1000000)) = true from cb_t ⟨ka, kb⟩]
  simp only [if_true]
  have hab := ab_bd ka kb
  have h1 := Lib.hid ka
  have h2 := Lib.hid kb
  clear ka kb
  have hS : ∀ W : World, W.cell? ⟨w.heap.size, 0, none⟩ = some (.int .i64 (a * b)) → Calls Try.prog 45 #[.int .i64 1000000, .func (.func 46) #[] #[.pointer (some ⟨w.heap.size, 0, none⟩)]] W fun e w' => e = .returned (.int .i64 (root (a * b))) ∧ W = w' := fun W h => search_any (a * b) w.heap.size W h
  have HS := Lib.hid hS
  clear hS
  have hrb : 0 ≤ root (a * b) ∧ root (a * b) ≤ 1000000 ∧ 0 ≤ root (a * b) * root (a * b) ∧ root (a * b) * root (a * b) ≤ 1000000000000 := by
    have := root_bd (a * b); exact ⟨this.1, this.2, sq_bd this.1 this.2⟩
  by_cases he : root (a * b) * root (a * b) = a * b
  · have HV := Lib.hid (sqV_t rfl he)
    have hd : (root (a * b) * root (a * b) == a * b) = true := by simpa using he
    have hd2 : (root (a * b) * root (a * b) != a * b) = false := by simpa using he
    clear he
    generalize root (a * b) = r at *
    go_enter Try.func26, Try.ntmps26
    go_wp2_with fail
    refine (within_t _ _ _ _ h1.out).mono ?_
    rintro e w' ⟨rfl, rfl⟩
    go_wp2_with fail
    refine (within_t _ _ _ _ h2.out).mono ?_
    rintro e w' ⟨rfl, rfl⟩
    go_wp2_with fail
    refine (HS.out _ (by rw [World.cell?_alloc_at _ _ _ _ rfl]; rfl)).mono ?_
    rintro e w' ⟨rfl, rfl⟩
    go_wp2
    go_ret2
    exact ⟨ret2 HV.out.1.symm (iv64 HV.out.2.symm), (Below.refl _ _).alloc (Nat.le_refl _) _⟩
  · have HV := Lib.hid (sqV_f rfl he)
    have hd : (root (a * b) * root (a * b) == a * b) = false := by simpa using he
    have hd2 : (root (a * b) * root (a * b) != a * b) = true := by simpa using he
    clear he
    generalize root (a * b) = r at *
    go_enter Try.func26, Try.ntmps26
    go_wp2_with fail
    refine (within_t _ _ _ _ h1.out).mono ?_
    rintro e w' ⟨rfl, rfl⟩
    go_wp2_with fail
    refine (within_t _ _ _ _ h2.out).mono ?_
    rintro e w' ⟨rfl, rfl⟩
    go_wp2_with fail
    refine (HS.out _ (by rw [World.cell?_alloc_at _ _ _ _ rfl]; rfl)).mono ?_
    rintro e w' ⟨rfl, rfl⟩
    go_wp2
    go_ret2
    exact ⟨ret2 HV.out.1.symm (iv64 HV.out.2.symm), (Below.refl _ _).alloc (Nat.le_refl _) _⟩
end Go.Proofs.Ytmngeloenchpdaa
