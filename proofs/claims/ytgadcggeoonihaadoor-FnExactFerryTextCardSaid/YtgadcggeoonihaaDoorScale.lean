/-
  The walks of the functions on weights and placings that only read: validity and sums.
-/
import Derived.Test.YtgadcggeoonihaaDoorBase
namespace Go.Proofs.YtgadcggeoonihaaDoor
open Go.RowKit

/-- A proposition as a Bool. -/
noncomputable def cb (p : Prop) : Bool := @decide p (Classical.propDecidable p)
theorem cb_t {p : Prop} (h : p) : cb p = true := by unfold cb; exact @decide_eq_true _ (_) h
theorem cb_f {p : Prop} (h : ¬ p) : cb p = false := by unfold cb; exact @decide_eq_false _ (_) h
theorem of_cb {p : Prop} (h : cb p = true) : p := by unfold cb at h; exact @of_decide_eq_true _ (_) h
theorem not_cb {p : Prop} (h : cb p = false) : ¬ p := by unfold cb at h; exact @of_decide_eq_false _ (_) h

theorem Calls.quiet_same {P : Program} {f : FuncId} {args : Array Value} {w : World} {n : Nat} {v : Value}
    (h : Calls P f args (w.drewN n) fun e w' => e = .returned v ∧ w.drewN n = w') : Calls P f args (w.drewN n) fun e w'' => e = .returned v ∧ ∃ m, w'' = w.drewN m :=
  h.mono fun _ _ ⟨he, hm⟩ => ⟨he, n, hm.symm⟩
theorem Calls.quiet_dr {P : Program} {f : FuncId} {args : Array Value} {w : World} {n : Nat} {v : Value}
    (h : Calls P f args (w.drewN n) fun e w' => e = .returned v ∧ Dr (w.drewN n) w') : Calls P f args (w.drewN n) fun e w'' => e = .returned v ∧ ∃ m, w'' = w.drewN m :=
  Calls.quiet_of h
theorem At.drewN {k : IntKind} {w : World} {b off : Nat} {xs : List Int} (h : At k w b off xs) (q : Nat) : At k (w.drewN q) b off xs := h
theorem Dr.at {k : IntKind} {w w' : World} {b off : Nat} {xs : List Int} (h : Dr w w') (hc : At k w b off xs) : At k w' b off xs := by obtain ⟨q, rfl⟩ := h; exact hc
theorem Dr.trans {a b c : World} (h : Dr a b) (k : Dr b c) : Dr a c := by
  obtain ⟨q, rfl⟩ := h; obtain ⟨r, rfl⟩ := k; exact ⟨q + r, by rw [World.drewN_drewN]⟩

/-! ### within, l00In -/
theorem l00In_t (n a b : Int) (w : World) (h : a ≤ n ∧ n ≤ b) : Calls Tryd.prog 31 #[.int .i64 n, .int .i64 a, .int .i64 b] w fun e w' => e = .returned (.bool true) ∧ w = w' := by
  obtain ⟨h1, h2⟩ := h
  go_enter Tryd.func31, Tryd.ntmps31
  go_wp2
  go_ret
  exact ⟨rfl, rfl⟩
theorem l00In_f (n a b : Int) (w : World) (h : ¬ (a ≤ n ∧ n ≤ b)) : Calls Tryd.prog 31 #[.int .i64 n, .int .i64 a, .int .i64 b] w fun e w' => e = .returned (.bool false) ∧ w = w' := by
  by_cases h1 : a ≤ n
  · have h2 : ¬ n ≤ b := fun h3 => h ⟨h1, h3⟩
    clear h
    go_enter Tryd.func31, Tryd.ntmps31
    go_wp2
    go_ret
    exact ⟨rfl, rfl⟩
  · clear h
    go_enter Tryd.func31, Tryd.ntmps31
    go_wp2
    go_ret
    exact ⟨rfl, rfl⟩
theorem within_t (n a b : Int) (w : World) (h : a ≤ n ∧ n ≤ b) : Calls Tryd.prog 36 #[.int .i64 n, .int .i64 a, .int .i64 b] w fun e w' => e = .returned (.bool true) ∧ w = w' := by
  obtain ⟨h1, h2⟩ := h
  go_enter Tryd.func36, Tryd.ntmps36
  go_wp2
  go_ret
  exact ⟨rfl, rfl⟩
theorem within_f (n a b : Int) (w : World) (h : ¬ (a ≤ n ∧ n ≤ b)) : Calls Tryd.prog 36 #[.int .i64 n, .int .i64 a, .int .i64 b] w fun e w' => e = .returned (.bool false) ∧ w = w' := by
  by_cases h1 : a ≤ n
  · have h2 : ¬ n ≤ b := fun h3 => h ⟨h1, h3⟩
    clear h
    go_enter Tryd.func36, Tryd.ntmps36
    go_wp2
    go_ret
    exact ⟨rfl, rfl⟩
  · clear h
    go_enter Tryd.func36, Tryd.ntmps36
    go_wp2
    go_ret
    exact ⟨rfl, rfl⟩
noncomputable def inB (n a b : Int) : Bool := cb (a ≤ n ∧ n ≤ b)
theorem l00In_any (n a b : Int) (w : World) : Calls Tryd.prog 31 #[.int .i64 n, .int .i64 a, .int .i64 b] w fun e w' => e = .returned (.bool (inB n a b)) ∧ w = w' := by
  by_cases h : a ≤ n ∧ n ≤ b
  · rw [show inB n a b = true from cb_t h]; exact l00In_t n a b w h
  · rw [show inB n a b = false from cb_f h]; exact l00In_f n a b w h
theorem within_any (n a b : Int) (w : World) : Calls Tryd.prog 36 #[.int .i64 n, .int .i64 a, .int .i64 b] w fun e w' => e = .returned (.bool (inB n a b)) ∧ w = w' := by
  by_cases h : a ≤ n ∧ n ≤ b
  · rw [show inB n a b = true from cb_t h]; exact within_t n a b w h
  · rw [show inB n a b = false from cb_f h]; exact within_f n a b w h

/-! ### sums -/
def sumI (xs : List Int) : Int := xs.foldl (· + ·) 0
theorem sumI_snoc (xs : List Int) (x : Int) : sumI (xs ++ [x]) = sumI xs + x := by simp [sumI]
def I16 (xs : List Int) : Prop := ∀ j, -32768 ≤ xs.getD j 0 ∧ xs.getD j 0 ≤ 32767
def I8 (xs : List Int) : Prop := ∀ j, -128 ≤ xs.getD j 0 ∧ xs.getD j 0 ≤ 127
theorem sumI_bd (xs : List Int) (h : I16 xs) (k : Nat) (hk : k ≤ xs.length) : -32768 * (k : Int) ≤ sumI (xs.take k) ∧ sumI (xs.take k) ≤ 32767 * (k : Int) := by
  induction k with
  | zero => simp [sumI]
  | succ k ih =>
    have := ih (by omega)
    have h2 := h k
    rw [take_getD xs k (by omega), sumI_snoc]
    omega

/-! ### validity of weights -/
def OkW (xs : List Int) : Prop := 1 ≤ xs.length ∧ xs.length ≤ 16 ∧ (∀ j, j < xs.length → 1 ≤ xs.getD j 0 ∧ (0 < j → xs.getD (j - 1) 0 ≤ xs.getD j 0)) ∧ sumI xs ≤ 2000
noncomputable def okW (xs : List Int) : Bool := cb (OkW xs)

end Go.Proofs.YtgadcggeoonihaaDoor
