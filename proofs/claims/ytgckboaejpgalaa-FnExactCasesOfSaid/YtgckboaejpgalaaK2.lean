/-
  Lists of cases that calls have made, kept beside a frame; the law of CasesOf.
-/
import Derived.Test.YtgckboaejpgalaaK1
import Derived.StillTailTactics
import Derived.Deep.DeepCutAuto
namespace Go.Proofs.Ytgckboaejpgalaa
open Go.RowKit
set_option maxRecDepth 100000
set_option linter.unusedVariables false

theorem eqCaseS_same (b off c b2 off2 c2 : Nat) (cs : List Cs) (w : World) (hn : cs.length ≤ 1048576) (hb : b < w.heap.size) (hb2 : b2 < w.heap.size) (hc : CAt w b off cs) (hc2 : CAt w b2 off2 cs) :
    Calls Try.prog 16 #[.slice (some ⟨b, off, none⟩) cs.length c, .slice (some ⟨b2, off2, none⟩) cs.length c2] w fun e w' => e = .returned (.bool true) ∧ Below w.heap.size w w' := by
  go_enter Try.func16, Try.ntmps16
  go_wp2
  go_loopw [5] (fun i wr => ∃ k : Nat, k ≤ cs.length ∧ i = .int .i64 k ∧ Below w.heap.size w wr) (fun i _ => cs.length - (intOf i).toNat)
  case atStart => exact ⟨0, Nat.zero_le _, rfl, Below.refl _ _⟩
  case round =>
    obtain ⟨k, hk, rfl, hB⟩ := hrel
    by_cases hlt : k < cs.length
    · obtain ⟨p0, p1⟩ := (hc.below hB hb) k hlt
      obtain ⟨q0, q1⟩ := (hc2.below hB hb2) k hlt
      have hkl : (k : Int) < (cs.length : Int) := by omega
      have HB := Lib.hid hB
      clear hB
      generalize cs.getD k (0, false) = y at *
      go_upto_region 6 with fail
      refine wp_region_still_tail 8 (by kernel_rfl) (by kernel_rfl) ?_
      simp only [List.take_succ_cons, List.take_zero, List.drop_succ_cons, List.drop_zero]
      iterate 8 still_step
      refine wpStill_nil ?_
      have HB2 := Lib.hid (show Below w.heap.size w wr.drew from HB.out.drew)
      change wpList _ _ _ _ _ wr.drew
      clear p0 p1 q0 q1 HB
      generalize wr.drew = w2 at *
      go_wp2_with fail
      refine (eqCase_same _ _ _).mono ?_
      rintro e w3 ⟨rfl, hb3⟩
      have HB3 := Lib.hid (HB2.out.trans (hb3.mono HB2.out.size))
      clear hb3
      go_wp2
      go_roundw
      case rel => exact ⟨k + 1, by omega, by go_num, HB3.out⟩
      case measure => simp [intOf]; omega
    · go_wp2
      go_ret
      exact ⟨rfl, hB⟩
/-- A list of cases in a block of its own, between lo and hi; nothing is known of one without cases. -/
def CX (lo hi : Nat) (w : World) (a : Option Addr) (cs : List Cs) : Prop := cs = [] ∨ ∃ g, a = some ⟨g, 0, none⟩ ∧ lo ≤ g ∧ g < hi ∧ hi ≤ w.heap.size ∧ CAt w g 0 cs ∧ ∀ j, w.frozen? ⟨g, j, none⟩ = false
theorem CX.below {lo hi : Nat} {w w' : World} {a : Option Addr} {cs : List Cs} (h : CX lo hi w a cs) (hb : Below w.heap.size w w') : CX lo hi w' a cs := by
  rcases h with h | ⟨g, rfl, h1, h2, h3, h4, h5⟩
  · exact .inl h
  · exact .inr ⟨g, rfl, h1, h2, Nat.le_trans h3 hb.size, h4.below hb (by omega), fun j => by rw [hb.frozen (p := ⟨g, j, none⟩) (by show g < w.heap.size; omega)]; exact h5 j⟩
theorem CAt.only {w w' : World} {b b' off : Nat} {cs : List Cs} (h : CAt w b off cs) (ho : Only b' w w') (hne : b ≠ b') : CAt w' b off cs := fun j hj =>
  ⟨(World.cell?_of_block (w := w) (a := ⟨b, off + j * 2, none⟩) (ho.block b hne)).trans (h j hj).1, (World.cell?_of_block (w := w) (a := ⟨b, off + j * 2 + 1, none⟩) (ho.block b hne)).trans (h j hj).2⟩
theorem CX.only {lo hi b : Nat} {w w' : World} {a : Option Addr} {cs : List Cs} (h : CX lo hi w a cs) (ho : Only b w w') (hb : b < lo ∨ hi ≤ b) : CX lo hi w' a cs := by
  rcases h with h | ⟨g, rfl, h1, h2, h3, h4, h5⟩
  · exact .inl h
  · have hne : g ≠ b := by omega
    exact .inr ⟨g, rfl, h1, h2, by rw [ho.size]; exact h3, h4.only ho hne, fun j => by rw [World.frozen?_of_block (w := w) (a := ⟨g, j, none⟩) (ho.block g hne)]; exact h5 j⟩
theorem CX.of {lo n : Nat} {w : World} {v : Value} {cs : List Cs} (h : OwnX lo w v n (cvals cs)) : ∃ a c, v = .slice a n c ∧ CX lo w.heap.size w a cs := by
  obtain ⟨a, c, rfl, h⟩ := h
  refine ⟨a, c, rfl, ?_⟩
  rcases h with h | ⟨g, rfl, h1, h2, h3, h4⟩
  · left
    have := cvals_len cs
    rw [h] at this
    exact List.eq_nil_of_length_eq_zero (by simp at this; omega)
  · exact .inr ⟨g, rfl, h1, h2, Nat.le_refl _, h3.cs, h4⟩
/-- A list of cases that was marked. -/
def HC (w : World) (a : Option Addr) (k0 : Int) (n : Nat) : Prop := n = 0 ∨ ∃ g, a = some ⟨g, 0, none⟩ ∧ g < w.heap.size ∧ MkC w g k0 n
theorem HC.below {w w' : World} {a : Option Addr} {k0 : Int} {n : Nat} (h : HC w a k0 n) (hb : Below w.heap.size w w') : HC w' a k0 n := by
  rcases h with h | ⟨g, rfl, h1, h2⟩
  · exact .inl h
  · exact .inr ⟨g, rfl, Nat.lt_of_lt_of_le h1 hb.size, h2.below hb h1⟩
theorem eqCaseS_x {lo hi lo2 hi2 : Nat} {a a2 : Option Addr} {cs : List Cs} {W : World} (h1 : CX lo hi W a cs) (h2 : CX lo2 hi2 W a2 cs) (c c2 : Nat) (hn : cs.length ≤ 1048576) :
    Calls Try.prog 16 #[.slice a cs.length c, .slice a2 cs.length c2] W fun e w' => e = .returned (.bool true) ∧ Below W.heap.size W w' := by
  by_cases he : cs = []
  · subst he
    refine (eqCaseS_nil a a2 c c2 W).mono ?_
    rintro e w' ⟨rfl, rfl⟩
    exact ⟨rfl, Below.refl _ _⟩
  · rcases h1 with h1 | ⟨g, rfl, _, p1, p2, p3, _⟩
    · exact absurd h1 he
    rcases h2 with h2 | ⟨g2, rfl, _, q1, q2, q3, _⟩
    · exact absurd h2 he
    exact eqCaseS_same g 0 c g2 0 c2 cs W hn (by omega) (by omega) p3 q3
theorem heldCaseS_x {a : Option Addr} {k0 : Int} {n : Nat} {W : World} (hx : HC W a k0 n) (c : Nat) (hn : n ≤ 1048576) (hk0 : 0 ≤ k0 ∧ k0 ≤ 10000000) :
    Calls Try.prog 18 #[.slice a n c, .int .i64 k0] W fun e w' => e = .returned (.int .i64 (k0 + (n : Int) * 2)) ∧ W = w' := by
  rcases hx with rfl | ⟨g, rfl, h1, h2⟩
  · refine (heldCaseS_nil a c k0 W).mono ?_
    rintro e w' ⟨rfl, rfl⟩
    exact ⟨by simp, rfl⟩
  · exact heldCaseS_any g c n k0 W hn hk0 h2
theorem cat_some {w : World} {g : Nat} {cs : List Cs} (h : CAt w g 0 cs) : ∀ q, q < cs.length * 2 → (w.cell? ⟨g, q, none⟩).isSome = true := fun q hq => by
  obtain ⟨a, b⟩ := h (q / 2) (by omega)
  rw [Nat.zero_add] at a b
  have : q = q / 2 * 2 ∨ q = q / 2 * 2 + 1 := by omega
  rcases this with e | e <;> rw [e]
  · rw [a]; rfl
  · rw [b]; rfl
/-- Nothing has changed but a block between lo and hi. -/
def Only2 (lo hi : Nat) (w w' : World) : Prop := w = w' ∨ ∃ b, lo ≤ b ∧ b < hi ∧ Only b w w'
theorem markCaseS_x {lo hi : Nat} {a : Option Addr} {cs : List Cs} {W : World} (h : CX lo hi W a cs) (c : Nat) (k0 : Int) (hn : cs.length ≤ 1048576) (hk0 : 0 ≤ k0 ∧ k0 ≤ 10000000) :
    Calls Try.prog 17 #[.slice a cs.length c, .int .i64 k0] W fun e w' => e = .returned (.int .i64 (k0 + (cs.length : Int) * 2)) ∧ HC w' a k0 cs.length ∧ Only2 lo hi W w' := by
  rcases h with he | ⟨g, rfl, p0, p1, p2, p3, p4⟩
  · subst he
    refine (markCaseS_nil a c k0 W).mono ?_
    rintro e w' ⟨rfl, rfl⟩
    exact ⟨by simp, .inl rfl, .inl rfl⟩
  · refine (markCaseS_any g c cs.length k0 W hn hk0 (cat_some p3) p4).mono ?_
    rintro e w' ⟨rfl, hk, ho⟩
    exact ⟨rfl, .inr ⟨g, rfl, by rw [ho.size]; omega, hk⟩, .inr ⟨g, p0, p1, ho⟩⟩
theorem CX.only2 {lo hi lo2 hi2 : Nat} {w w' : World} {a : Option Addr} {cs : List Cs} (h : CX lo hi w a cs) (ho : Only2 lo2 hi2 w w') (hb : hi ≤ lo2 ∨ hi2 ≤ lo) : CX lo hi w' a cs := by
  rcases ho with rfl | ⟨b, h1, h2, ho⟩
  · exact h
  · exact h.only ho (by omega)
theorem FR.only2 {w0 w w' : World} {lo hi : Nat} {L : List (Nat × Array Value × TypeId)} (h : FR w0 L w) (ho : Only2 lo hi w w') (h0 : w0.heap.size ≤ lo) (hL : ∀ p ∈ L, p.1 < lo ∨ hi ≤ p.1) : FR w0 L w' := by
  rcases ho with rfl | ⟨b, h1, h2, ho⟩
  · exact h
  · exact ⟨Only.below h.below ho (by omega), fun p hp => (ho.block _ (by have := hL p hp; omega)).trans (h.blk p hp), h.top⟩
theorem Only2.size {lo hi : Nat} {w w' : World} (h : Only2 lo hi w w') : w'.heap.size = w.heap.size := by
  rcases h with rfl | ⟨b, _, _, ho⟩
  · rfl
  · exact ho.size
end Go.Proofs.Ytgckboaejpgalaa
