/-
  What the laws about bytes share, and the numbers of the law FnArms.
-/
import Derived.Test.YtmngeloenchpdaaDrawn
import Derived.Test.YtmngeloenchpdaaTilt
import Derived.Test.YtmngeloenchpdaaArms
namespace Go.Proofs.Ytmngeloenchpdaa
open Go.RowKit

def U8 (xs : List Int) : Prop := ∀ j, j < xs.length → 0 ≤ xs.getD j 0 ∧ xs.getD j 0 ≤ 255
theorem u8_of {xs : List Int} (h : ∀ n ∈ xs, (Lit.int .u8 n).wf = true) : U8 xs := by
  intro j hj
  have := h _ (List.getElem_mem hj)
  have e : xs.getD j 0 = xs[j] := by rw [List.getD_eq_getElem?_getD, List.getElem?_eq_getElem hj]; rfl
  rw [e]
  simp only [Lit.wf, Bool.and_eq_true, decide_eq_true_eq] at this
  exact ⟨this.1, this.2⟩
theorem a2At_any (B : Nat) (a : Option Addr) (c : Nat) (xs : List Int) (i n : Int) (w : World) (hb8 : ∀ j, j < xs.length → 0 ≤ xs.getD j 0 ∧ xs.getD j 0 ≤ 255) (hn : xs.length ≤ 1048576) (hx : Sl .u8 B w a xs) (hi : 0 ≤ i ∧ i ≤ 100) (hn1 : 1 ≤ n ∧ n ≤ 1000) :
    Calls Try.prog 23 #[.slice a xs.length c, .int .i64 i, .int .i64 n] w fun e w' => ∃ r, e = .returned (.int .i64 r) ∧ (0 ≤ r ∧ r < n) ∧ w = w' := by
  obtain ⟨k, rfl⟩ : ∃ k : Nat, i = k := ⟨i.toNat, by omega⟩
  have hne : (n == 0) = false := by simp; omega
  by_cases hlt : k < xs.length
  · have h8 := hb8 k hlt
    clear hb8
    rcases hx with rfl | ⟨b, off, rfl, _, hat⟩
    · exact absurd hlt (by simp)
    have h2 := hat k hlt
    clear hat
    generalize xs.getD k 0 = x at *
    have hm : 0 ≤ x % n ∧ x % n < n := ⟨Int.emod_nonneg _ (by omega), Int.emod_lt_of_pos _ (by omega)⟩
    have hnl : ¬ xs.length ≤ k := by omega
    go_enter Try.func23, Try.ntmps23
    go_wp2
    go_ret
    exact ⟨_, rfl, hm, rfl⟩
  · have hle : xs.length ≤ k := by omega
    have hm : (0 : Int) ≤ 0 ∧ 0 < n := by omega
    clear hb8 hx hlt
    go_enter Try.func23, Try.ntmps23
    go_wp2
    go_ret
    exact ⟨_, rfl, hm, rfl⟩
theorem a2Long_any (a a' : Option Addr) (n n' c c' : Nat) (w : World) :
    Calls Try.prog 20 #[.slice a n c, .slice a' n' c'] w fun e w' => e = .returned (.bool (cb (3000 < n ∨ 3000 < n'))) ∧ w = w' := by
  by_cases h1 : 3000 < n
  · rw [cb_t (.inl h1)]
    have d : decide ((3000 : Int) < (n : Int)) = true := by simp; omega
    have d1 : (3000 : Int) < (n : Int) := by omega
    clear h1
    go_enter Try.func20, Try.ntmps20
    go_wp2
    go_ret
    exact ⟨rfl, rfl⟩
  · by_cases h2 : 3000 < n'
    · rw [cb_t (.inr h2)]
      have d0 : ¬ (3000 : Int) < (n : Int) := by omega
      have d1 : (3000 : Int) < (n' : Int) := by omega
      clear h1 h2
      go_enter Try.func20, Try.ntmps20
      go_wp2
      go_ret
      exact ⟨rfl, rfl⟩
    · rw [cb_f (by omega)]
      have d0 : ¬ (3000 : Int) < (n : Int) := by omega
      have d1 : ¬ (3000 : Int) < (n' : Int) := by omega
      clear h1 h2
      go_enter Try.func20, Try.ntmps20
      go_wp2
      go_ret
      exact ⟨rfl, rfl⟩
theorem sign2_any (n : Int) (w : World) : Calls Try.prog 30 #[.int .i64 n] w fun e w' => e = .returned (.int .i64 (signI n)) ∧ w = w' := by
  unfold signI
  by_cases h1 : n < 0
  · rw [if_pos h1]
    go_enter Try.func30, Try.ntmps30
    go_wp2
    go_ret
    exact ⟨rfl, rfl⟩
  · rw [if_neg h1]
    by_cases h2 : 0 < n
    · rw [if_pos h2]
      go_enter Try.func30, Try.ntmps30
      go_wp2
      go_ret
      exact ⟨rfl, rfl⟩
    · rw [if_neg h2]
      go_enter Try.func30, Try.ntmps30
      go_wp2
      go_ret
      exact ⟨rfl, rfl⟩
theorem signI_mul (x k : Int) (hk : 1 ≤ k) : signI (x * k) = signI x := by
  unfold signI
  rcases Int.lt_trichotomy x 0 with h | h | h
  · have : x * k < 0 := Int.mul_neg_of_neg_of_pos h (by omega)
    rw [if_pos this, if_pos h]
  · subst h; simp
  · have : 0 < x * k := Int.mul_pos h (by omega)
    rw [if_neg (show ¬ x * k < 0 by omega), if_pos this, if_neg (show ¬ x < 0 by omega), if_pos h]
theorem okF_of {ws ps : List Int} (h1 : OkW ws) (h2 : ps.length = ws.length) (h3 : OkP ps) : okF ws ps = true := cb_t ⟨h1, h2, h3⟩
theorem codeT_zero {ws ps : List Int} (h : okF ws ps = true) {m l r : Int} (ha : Arms m l r) : codeT ws ps m l r = 0 := by
  unfold codeT; rw [if_pos h, if_pos (cb_t ha)]
theorem tiltV_same {ws ps : List Int} (h : okF ws ps = true) {m k : Int} (hm : 0 ≤ m ∧ m ≤ 1000000) (hk : 1 ≤ k ∧ k ≤ 100) : tiltV ws ps m k k = tiltV ws ps m 1 1 := by
  unfold tiltV
  rw [if_pos h, if_pos (cb_t ⟨hm, hk, hk⟩), if_pos h, if_pos (cb_t ⟨hm, by omega, by omega⟩)]
  rw [← Int.sub_mul, signI_mul _ _ hk.1]
  congr 1
  omega
/-- The numbers that the law draws: the product, the mass on either pan. -/
structure Nums (l r k p o q1 f1 q2 f2 : Int) : Prop where
  e1 : l * r = p
  e2 : p * k = o
  e3 : o / r = q1
  e4 : q1 * l = f1
  e5 : o / l = q2
  e6 : q2 * r = f2
  bp : 1 ≤ p ∧ p ≤ 900
  bo : 1 ≤ o ∧ o ≤ 18000
  b1 : 1 ≤ q1 ∧ q1 ≤ 600
  bf1 : 1 ≤ f1 ∧ f1 ≤ 18000
  b2 : 1 ≤ q2 ∧ q2 ≤ 600
  bf2 : 1 ≤ f2 ∧ f2 ≤ 18000
  sq : o * o = f1 * f2
  cross : f1 * r = o * l
theorem mul_bd {x y a b : Int} (hx : 1 ≤ x ∧ x ≤ a) (hy : 1 ≤ y ∧ y ≤ b) : 1 ≤ x * y ∧ x * y ≤ a * b := by
  have h1 : x * y ≤ a * y := Int.mul_le_mul_of_nonneg_right hx.2 (by omega)
  have h2 : a * y ≤ a * b := Int.mul_le_mul_of_nonneg_left hy.2 (by omega)
  have h3 : 1 * y ≤ x * y := Int.mul_le_mul_of_nonneg_right hx.1 (by omega)
  omega
theorem nums_ex {l r k : Int} (hl : 1 ≤ l ∧ l ≤ 30) (hr : 1 ≤ r ∧ r ≤ 30) (hk : 1 ≤ k ∧ k ≤ 20) : ∃ p o q1 f1 q2 f2, Nums l r k p o q1 f1 q2 f2 := by
  have bp := mul_bd hl hr
  have bo := mul_bd bp hk
  have b1 := mul_bd hl hk
  have b2 := mul_bd hr hk
  have bf1 := mul_bd b1 hl
  have bf2 := mul_bd b2 hr
  refine ⟨l * r, l * r * k, l * k, l * k * l, r * k, r * k * r, ⟨rfl, rfl, ?_, rfl, ?_, rfl, bp, bo, b1, bf1, b2, bf2, ?_, ?_⟩⟩
  · rw [show l * r * k = l * k * r by rw [Int.mul_assoc, Int.mul_comm r k, ← Int.mul_assoc]]
    exact Int.mul_ediv_cancel _ (by omega)
  · rw [show l * r * k = r * k * l by rw [Int.mul_comm l r, Int.mul_assoc, Int.mul_comm l k, ← Int.mul_assoc]]
    exact Int.mul_ediv_cancel _ (by omega)
  · ac_rfl
  · ac_rfl
theorem Nums.mbt {l r k p o q1 f1 q2 f2 : Int} (h : Nums l r k p o q1 f1 q2 f2) : mbtV f1 f2 = o ∧ mbtC f1 f2 = 0 := by
  have hb := h.bo
  have hr : root (f1 * f2) = o := root_eq ⟨by omega, by omega, fun x h0 hx => by
    rw [← h.sq]
    have h1 : x * x ≤ x * o := Int.mul_le_mul_of_nonneg_left (Int.le_of_lt hx) h0
    have h2 : x * o < o * o := Int.mul_lt_mul_of_pos_right hx (by omega)
    omega, .inr (by rw [h.sq]; exact Int.le_refl _)⟩
  have hs := sqV_t hr h.sq
  have hc : cb ((1 ≤ f1 ∧ f1 ≤ 1000000) ∧ (1 ≤ f2 ∧ f2 ≤ 1000000)) = true := cb_t ⟨by have := h.bf1; omega, by have := h.bf2; omega⟩
  unfold mbtV mbtC
  rw [if_pos hc, if_pos hc]
  exact hs
theorem Nums.arms {l r k p o q1 f1 q2 f2 : Int} (h : Nums l r k p o q1 f1 q2 f2) : arm1 f1 f2 * r = arm2 f1 f2 * l := by
  obtain ⟨hv, hc⟩ := h.mbt
  unfold arm1 arm2
  rw [if_pos hc, if_pos hc, hv]
  have hg : 1 ≤ gI f1 o := gI_pos h.bf1.1
  have hb := h.bo
  have hb1 := h.bf1
  have d1 : gI f1 o ∣ f1 := by
    have := Int.natCast_dvd_natCast.2 (Nat.gcd_dvd_left f1.toNat o.toNat)
    rw [Int.toNat_of_nonneg (by omega)] at this
    exact this
  have d2 : gI f1 o ∣ o := by
    have := Int.natCast_dvd_natCast.2 (Nat.gcd_dvd_right f1.toNat o.toNat)
    rw [Int.toNat_of_nonneg (show 0 ≤ o by omega)] at this
    exact this
  obtain ⟨x, hx⟩ := d1
  obtain ⟨y, hy⟩ := d2
  have hX := h.cross
  generalize gI f1 o = g at *
  rw [hx, hy] at hX
  have e1 : f1 / g = x := by rw [hx]; exact Int.mul_ediv_cancel_left _ (by omega)
  have e2 : o / g = y := by rw [hy]; exact Int.mul_ediv_cancel_left _ (by omega)
  rw [e1, e2]
  rw [Int.mul_assoc, Int.mul_assoc] at hX
  exact Int.eq_of_mul_eq_mul_left (by omega) hX
theorem okF_one {f : Int} (h : 1 ≤ f ∧ f ≤ 2000) : okF [f] [1] = true := by
  refine okF_of ⟨by simp, by simp, fun j hj => ?_, by simp [sumI]; omega⟩ rfl (fun j hj => ?_)
  · have e : j = 0 := by simp at hj; exact hj
    subst e
    exact ⟨by simp; omega, fun h0 => absurd h0 (by omega)⟩
  · have e : j = 0 := by simp at hj; exact hj
    subst e
    decide
theorem tiltV_one {f : Int} (h : 1 ≤ f ∧ f ≤ 2000) {o l r : Int} (ha : Arms o l r) : tiltV [f] [1] o l r = signI (f * r - o * l) := by
  unfold tiltV
  rw [if_pos (okF_one h), if_pos (cb_t ha)]
  simp [loadTo]
theorem at_one {k : IntKind} {w : World} {g : Nat} {t : TypeId} {x : Int} (h : w.heap[g]? = some (.cells #[.int k x] t)) : At k w g 0 [x] := fun j hj => by
  have e : j = 0 := by simp at hj; exact hj
  subst e
  simp only [World.cell?, h]
  rfl
theorem i16_one {f : Int} (h : -32768 ≤ f ∧ f ≤ 32767) : I16 [f] := i16_fin fun j hj => by
  have e : j = 0 := by simp at hj; exact hj
  subst e
  exact h
end Go.Proofs.Ytmngeloenchpdaa
