/-
  The walk of actionOf: what a move does, behind an interface.
-/
import Derived.Test.YtjmgalmndpjcoaaAfter
namespace Go.Proofs.Ytjmgalmndpjcoaa
open Go.RowKit
set_option maxRecDepth 100000

theorem isJug_any (f : Int) (n : Nat) (w : World) (hn : n ≤ 4) (hf : -128 ≤ f ∧ f ≤ 127) : Calls Try.prog 76 #[.int .i8 f, .int .i64 n] w fun e w' => e = .returned (.bool (inB f 0 (n - 1))) ∧ w = w' := by
  have HI := Lib.hid (fun W => within_any f 0 ((n : Int) - 1) W)
  generalize inB f 0 ((n : Int) - 1) = r at *
  go_enter Try.func76, Try.ntmps76
  go_wp2_with (go_at_call 52; refine (HI.out _).mono ?_; rintro e w' ⟨rfl, rfl⟩)
  go_ret
  exact ⟨rfl, rfl⟩
theorem isJug_t (f : Int) (n : Nat) (w : World) (hn : n ≤ 4) (h : 0 ≤ f ∧ f ≤ (n : Int) - 1) : Calls Try.prog 76 #[.int .i8 f, .int .i64 n] w fun e w' => e = .returned (.bool true) ∧ w = w' := by
  have h1 := isJug_any f n w hn (by omega)
  rwa [show inB f 0 ((n : Int) - 1) = true from cb_t h] at h1
theorem isJug_f (f : Int) (n : Nat) (w : World) (hn : n ≤ 4) (hf : -128 ≤ f ∧ f ≤ 127) (h : ¬ (0 ≤ f ∧ f ≤ (n : Int) - 1)) : Calls Try.prog 76 #[.int .i8 f, .int .i64 n] w fun e w' => e = .returned (.bool false) ∧ w = w' := by
  have h1 := isJug_any f n w hn hf
  rwa [show inB f 0 ((n : Int) - 1) = false from cb_f h] at h1
/-- What a move does, as a value. -/
def actV (k f t : Int) : Value := if k = 0 then .iface 123 (.agg #[.int .i8 f, .int .i8 t]) else if k = 1 then .iface 125 (.agg #[.int .i8 f]) else .iface 126 (.agg #[.int .i8 f])
theorem actionOf_ok (k f t : Int) (n : Nat) (w : World) (hn : n ≤ 4) (h : OkM n k f t) :
    Calls Try.prog 72 #[movV k f t, .int .i64 n] w fun e w' => e = .returned (.tuple #[actV k f t, .bool true]) ∧ Below w.heap.size w w' := by
  have HF := Lib.hid (fun W => isJug_t f n W hn h.1)
  rcases h.2 with ⟨rfl, ht⟩ | ⟨rfl, rfl⟩ | ⟨rfl, rfl⟩
  · have HT := Lib.hid (fun W => isJug_t t n W hn ht)
    have HB := Lib.hid ((Below.refl w.heap.size w).alloc (Nat.le_refl _) (.cells #[.int .i8 0, .int .i8 f, .int .i8 t] 78))
    clear h ht
    go_enter Try.func72, Try.ntmps72
    go_wp2_with (first | (go_at_call 76; with_reducible refine (HF.out _).mono ?_; rintro e w' ⟨rfl, rfl⟩) | (go_at_call 76; with_reducible refine (HT.out _).mono ?_; rintro e w' ⟨rfl, rfl⟩))
    go_ret2
    exact ⟨rfl, HB.out⟩
  · have HB := Lib.hid ((Below.refl w.heap.size w).alloc (Nat.le_refl _) (.cells #[.int .i8 1, .int .i8 f, .int .i8 0] 78))
    clear h
    go_enter Try.func72, Try.ntmps72
    go_wp2_with (go_at_call 76; with_reducible refine (HF.out _).mono ?_; rintro e w' ⟨rfl, rfl⟩)
    go_ret2
    exact ⟨rfl, HB.out⟩
  · have HB := Lib.hid ((Below.refl w.heap.size w).alloc (Nat.le_refl _) (.cells #[.int .i8 2, .int .i8 f, .int .i8 0] 78))
    clear h
    go_enter Try.func72, Try.ntmps72
    go_wp2_with (go_at_call 76; with_reducible refine (HF.out _).mono ?_; rintro e w' ⟨rfl, rfl⟩)
    go_ret2
    exact ⟨rfl, HB.out⟩
theorem actionOf_no (k f t : Int) (n : Nat) (w : World) (hn : n ≤ 4) (hf : -128 ≤ f ∧ f ≤ 127) (ht : -128 ≤ t ∧ t ≤ 127) (h : ¬ OkM n k f t) :
    Calls Try.prog 72 #[movV k f t, .int .i64 n] w fun e w' => e = .returned (.tuple #[.nilIface, .bool false]) ∧ Below w.heap.size w w' := by
  have HB := Lib.hid ((Below.refl w.heap.size w).alloc (Nat.le_refl _) (.cells #[.int .i8 k, .int .i8 f, .int .i8 t] 78))
  by_cases hF : 0 ≤ f ∧ f ≤ (n : Int) - 1
  · have HF := Lib.hid (fun W => isJug_t f n W hn hF)
    by_cases k0 : k = 0
    · subst k0
      have HT := Lib.hid (fun W => isJug_f t n W hn ht (fun h2 => h ⟨hF, .inl ⟨rfl, h2⟩⟩))
      clear h hF
      go_enter Try.func72, Try.ntmps72
      go_wp2_with (first | (go_at_call 76; with_reducible refine (HF.out _).mono ?_; rintro e w' ⟨rfl, rfl⟩) | (go_at_call 76; with_reducible refine (HT.out _).mono ?_; rintro e w' ⟨rfl, rfl⟩))
      go_ret2
      exact ⟨rfl, HB.out⟩
    by_cases k1 : k = 1
    · subst k1
      have h0 : (t == 0) = false := by simp; intro e; exact h ⟨hF, .inr (.inl ⟨rfl, e⟩)⟩
      clear h hF k0
      go_enter Try.func72, Try.ntmps72
      go_wp2_with (go_at_call 76; with_reducible refine (HF.out _).mono ?_; rintro e w' ⟨rfl, rfl⟩)
      go_ret2
      exact ⟨rfl, HB.out⟩
    by_cases k2 : k = 2
    · subst k2
      have h0 : (t == 0) = false := by simp; intro e; exact h ⟨hF, .inr (.inr ⟨rfl, e⟩)⟩
      clear h hF k0 k1
      go_enter Try.func72, Try.ntmps72
      go_wp2_with (go_at_call 76; with_reducible refine (HF.out _).mono ?_; rintro e w' ⟨rfl, rfl⟩)
      go_ret2
      exact ⟨rfl, HB.out⟩
    have e0 : (k == 0) = false := by simpa using k0
    have e1 : (k == 1) = false := by simpa using k1
    have e2 : (k == 2) = false := by simpa using k2
    clear h hF k0 k1 k2
    go_enter Try.func72, Try.ntmps72
    go_wp2_with (go_at_call 76; with_reducible refine (HF.out _).mono ?_; rintro e w' ⟨rfl, rfl⟩)
    go_ret2
    exact ⟨rfl, HB.out⟩
  · have HF := Lib.hid (fun W => isJug_f f n W hn hf hF)
    clear h hF
    go_enter Try.func72, Try.ntmps72
    go_wp2_with (go_at_call 76; with_reducible refine (HF.out _).mono ?_; rintro e w' ⟨rfl, rfl⟩)
    go_ret2
    exact ⟨rfl, HB.out⟩
end Go.Proofs.Ytjmgalmndpjcoaa
