/-
  Frames for laws whose answer is a game.
-/
import Derived.Test.YtclmjbkdghgjbaaZ36
namespace Go.Proofs.Ytclmjbkdghgjbaa
open Go.RowKit
set_option maxRecDepth 100000
set_option linter.unusedVariables false

theorem aaX_len60 (l k : Int) (ws : List Ak) (q : Ak) : (aaX l k ws q).length ≤ 60 := by
  unfold aaX
  split
  · next h =>
    unfold aaB at h
    simp only [Bool.and_eq_true, decide_eq_true_eq] at h
    simp; omega
  · simp
/-- Questions in a block between lo and hi; nothing is known of none. -/
def IXA (lo hi : Nat) (w : World) (a : Option Addr) (xs : List Ak) : Prop := xs = [] ∨ ∃ g, a = some ⟨g, 0, none⟩ ∧ lo ≤ g ∧ g < hi ∧ hi ≤ w.heap.size ∧ AAt w g 0 xs ∧ ∀ j, w.frozen? ⟨g, j, none⟩ = false
theorem IXA.below {lo hi : Nat} {w w' : World} {a : Option Addr} {xs : List Ak} (h : IXA lo hi w a xs) (hb : Below w.heap.size w w') : IXA lo hi w' a xs := by
  rcases h with h | ⟨g, rfl, h1, h2, h3, h4, h5⟩
  · exact .inl h
  · exact .inr ⟨g, rfl, h1, h2, Nat.le_trans h3 hb.size, h4.below hb (by omega), fun j => by rw [hb.frozen (p := ⟨g, j, none⟩) (by show g < w.heap.size; omega)]; exact h5 j⟩
theorem aat_only {b g off : Nat} {w w' : World} {xs : List Ak} (ho : Only b w w') (h : AAt w g off xs) (hne : g ≠ b) : AAt w' g off xs := fun j hj =>
  ⟨(World.cell?_of_block (w := w) (a := ⟨g, off + j * 2, none⟩) (ho.block g hne)).trans (h j hj).1, (World.cell?_of_block (w := w) (a := ⟨g, off + j * 2 + 1, none⟩) (ho.block g hne)).trans (h j hj).2⟩
theorem IXA.only {lo hi b : Nat} {w w' : World} {a : Option Addr} {xs : List Ak} (h : IXA lo hi w a xs) (ho : Only b w w') (hb : b < lo ∨ hi ≤ b) : IXA lo hi w' a xs := by
  rcases h with h | ⟨g, rfl, h1, h2, h3, h4, h5⟩
  · exact .inl h
  · have hne : g ≠ b := by omega
    exact .inr ⟨g, rfl, h1, h2, by rw [ho.size]; exact h3, aat_only ho h4 hne, fun j => by rw [World.frozen?_of_block (w := w) (a := ⟨g, j, none⟩) (ho.block g hne)]; exact h5 j⟩
/-- Questions that were marked. -/
def HXA (w : World) (a : Option Addr) (xs : List Ak) : Prop := xs = [] ∨ ∃ g, a = some ⟨g, 0, none⟩ ∧ g < w.heap.size ∧ MkA w g 1 xs.length
theorem HXA.below {w w' : World} {a : Option Addr} {xs : List Ak} (h : HXA w a xs) (hb : Below w.heap.size w w') : HXA w' a xs := by
  rcases h with h | ⟨g, rfl, h1, h2⟩
  · exact .inl h
  · exact .inr ⟨g, rfl, Nat.lt_of_lt_of_le h1 hb.size, h2.below hb h1⟩
theorem stab_ixa (lo hi : Nat) (a : Option Addr) (xs : List Ak) : Stab (fun W => IXA lo hi W a xs) := fun _ _ h hb => h.below hb
theorem stab_hxa (a : Option Addr) (xs : List Ak) : Stab (fun W => HXA W a xs) := fun _ _ h hb => h.below hb
section
variable {w0 W : World} {L : List (Nat × Array Value × TypeId)} {R : List (Nat × List Ak)} {Q : World → Prop}
/-- A call whose answer is a game of its own. -/
theorem Calls.frG {P : Program} {f : FuncId} {args : Array Value} {A B C : Int} {xs : List Ak} {g : Nat} {ws : List Ak} {p : Nat × Array Value × TypeId} (h : FQ w0 L R Q W) (hp : p ∈ L) (hm : (g, ws) ∈ R)
    (hc : g < W.heap.size → AAt W g 0 ws → Calls P f args W fun e w' => ∃ v, e = .returned (.tuple #[.agg #[.int .i8 A, .int .i8 B, v], .int .i64 C]) ∧ OwnX W.heap.size w' v xs ∧ Below W.heap.size W w') :
    Calls P f args W fun e w' => ∃ a c, e = .returned (.tuple #[gamV A B a xs.length c, .int .i64 C]) ∧ IXA (p.1 + 1) w'.heap.size w' a xs ∧ FQ w0 L R Q w' := by
  refine (hc (h.fr.row _ hm).lt (h.fr.row _ hm).asks).mono ?_
  rintro e w' ⟨v, rfl, ho, hb⟩
  have hlt := (h.fr.blk _ hp).lt
  rcases ho with ⟨rfl, a, c, rfl⟩ | ⟨q, c, rfl, h1, h2, h3, h4⟩
  · exact ⟨a, c, rfl, .inl rfl, h.next hb⟩
  · exact ⟨_, c, rfl, .inr ⟨q, rfl, by omega, h2, Nat.le_refl _, h3, h4⟩, h.next hb⟩
theorem eqGamX_fq {lo hi lo2 hi2 : Nat} {a a2 : Option Addr} {xs : List Ak} (h : FQ w0 L R Q W) (h1 : IXA lo hi W a xs) (h2 : IXA lo2 hi2 W a2 xs) (A B : Int) (c c2 : Nat) (hn : xs.length ≤ 1048576) :
    Calls Try.prog 10 #[gamV A B a xs.length c, gamV A B a2 xs.length c2] W fun e w' => e = .returned (.bool true) ∧ FQ w0 L R Q w' := by
  refine (eqGame_any A B a a2 c c2 xs W hn ?_).mono ?_
  · rcases h1 with h1 | ⟨g, rfl, _, p1, p2, p3, _⟩
    · exact .inl h1
    rcases h2 with h2 | ⟨g2, rfl, _, q1, q2, q3, _⟩
    · exact .inl h2
    exact .inr ⟨g, 0, g2, 0, rfl, rfl, by omega, by omega, p3, q3⟩
  · rintro e w' ⟨rfl, hb⟩
    exact ⟨rfl, h.next hb⟩
theorem aat_some {w : World} {g : Nat} {xs : List Ak} (h : AAt w g 0 xs) : ∀ q, q < xs.length * 2 → (w.cell? ⟨g, q, none⟩).isSome = true := fun q hq => by
  obtain ⟨h0, h1⟩ := h (q / 2) (by omega)
  rcases Nat.mod_two_eq_zero_or_one q with e | e
  · rw [show 0 + q / 2 * 2 = q by omega] at h0; rw [h0]; rfl
  · rw [show 0 + q / 2 * 2 + 1 = q by omega] at h1; rw [h1]; rfl
theorem markRowA_fq {lo hi lo2 hi2 : Nat} {a a2 : Option Addr} {xs : List Ak} (h : FQ w0 L R (fun W => IXA lo2 hi2 W a2 xs ∧ IXA lo hi W a xs) W) (c : Nat) (hn : xs.length ≤ 1048576) (h0 : w0.heap.size ≤ lo) (h1 : hi2 ≤ lo) (hL : ∀ p ∈ L, p.1 < lo ∨ hi ≤ p.1) :
    Calls Try.prog 28 #[.slice a xs.length c, .int .i64 1] W fun e w' => e = .returned (.int .i64 (1 + (xs.length : Int) * 2)) ∧ FQ w0 L [] (fun W => IXA lo2 hi2 W a2 xs ∧ HXA W a xs) w' := by
  obtain ⟨hm2, hm⟩ := h.q
  rcases hm with he | ⟨g, rfl, p0, p1, p2, p3, p4⟩
  · subst he
    refine (markAskS_nil a c 1 W).mono ?_
    rintro e w' ⟨rfl, rfl⟩
    exact ⟨rfl, h.re (fun p hp => by cases hp) ⟨hm2, .inl rfl⟩ ((stab_ixa _ _ _ _).and (stab_hxa _ _))⟩
  · refine (markAskS_any g c xs.length 1 W hn (by omega) (aat_some p3) p4).mono ?_
    rintro e w' ⟨rfl, hk, ho⟩
    refine ⟨rfl, h.only ho (by omega) (fun p hp => by have := hL p hp; omega) ⟨hm2.only ho (.inr (by omega)), .inr ⟨g, rfl, by rw [ho.size]; omega, hk⟩⟩ ((stab_ixa _ _ _ _).and (stab_hxa _ _))⟩
theorem markGamX_fq {lo hi lo2 hi2 : Nat} {a a2 : Option Addr} {xs : List Ak} (h : FQ w0 L R (fun W => IXA lo2 hi2 W a2 xs ∧ IXA lo hi W a xs) W) (A B : Int) (c : Nat) (hn : xs.length ≤ 1048576) (h0 : w0.heap.size ≤ lo) (h1 : hi2 ≤ lo) (hL : ∀ p ∈ L, p.1 < lo ∨ hi ≤ p.1) :
    Calls Try.prog 11 #[gamV A B a xs.length c, .int .i64 1] W fun e w' => e = .returned (.int .i64 (1 + (xs.length : Int) * 2)) ∧ FQ w0 L [] (fun W => IXA lo2 hi2 W a2 xs ∧ HXA W a xs) w' := by
  have HM := Lib.hid (markRowA_fq (h.next ((Below.refl _ _).alloc (Nat.le_refl _) (.cells #[.int .i8 A, .int .i8 B, .slice a xs.length c] 25))) c hn h0 h1 hL)
  obtain ⟨c0, c1, c2, -⟩ := (blk_new W #[.int .i8 A, .int .i8 B, .slice a xs.length c] 25).three
  clear h
  generalize 1 + (xs.length : Int) * 2 = m at *
  generalize xs.length = n at *
  go_enter Try.func11, Try.ntmps11
  go_wp2_with fail
  refine HM.out.mono ?_
  rintro e w2 ⟨rfl, hq⟩
  have HQ := Lib.hid hq
  clear hq
  go_wp2
  go_ret
  exact ⟨rfl, HQ.out⟩
theorem heldRowA_fq {a : Option Addr} {xs : List Ak} (h : FQ w0 L R Q W) (hx : HXA W a xs) (c : Nat) (hn : xs.length ≤ 1048576) :
    Calls Try.prog 29 #[.slice a xs.length c, .int .i64 1] W fun e w' => e = .returned (.int .i64 (1 + (xs.length : Int) * 2)) ∧ FQ w0 L R Q w' := by
  rcases hx with rfl | ⟨g, rfl, h1, h2⟩
  · refine (heldAskS_nil a c 1 W).mono ?_
    rintro e w' ⟨rfl, rfl⟩
    exact ⟨rfl, h⟩
  · refine (heldAskS_any g c xs.length 1 W hn (by omega) h2).mono ?_
    rintro e w' ⟨rfl, rfl⟩
    exact ⟨rfl, h⟩
theorem heldGamX_fq {a : Option Addr} {xs : List Ak} (h : FQ w0 L R Q W) (hx : HXA W a xs) (A B : Int) (c : Nat) (hn : xs.length ≤ 1048576) :
    Calls Try.prog 12 #[gamV A B a xs.length c, .int .i64 1] W fun e w' => e = .returned (.int .i64 (1 + (xs.length : Int) * 2)) ∧ FQ w0 L R Q w' := by
  have hb := (Below.refl W.heap.size W).alloc (Nat.le_refl _) (.cells #[.int .i8 A, .int .i8 B, .slice a xs.length c] 25)
  have HM := Lib.hid (heldRowA_fq (h.next hb) (hx.below hb) c hn)
  obtain ⟨c0, c1, c2, -⟩ := (blk_new W #[.int .i8 A, .int .i8 B, .slice a xs.length c] 25).three
  clear h hx hb
  have hm0 : ¬ 1 + (xs.length : Int) * 2 < 0 := by omega
  generalize 1 + (xs.length : Int) * 2 = m at *
  generalize xs.length = n at *
  go_enter Try.func12, Try.ntmps12
  go_wp2_with fail
  refine HM.out.mono ?_
  rintro e w2 ⟨rfl, hq⟩
  have HQ := Lib.hid hq
  clear hq
  go_wp2
  go_ret
  exact ⟨rfl, HQ.out⟩
theorem markGameA_fq {lo hi lo2 hi2 g : Nat} {a a2 : Option Addr} {xs : List Ak} {ws : List Ak} (h : FQ w0 L R (fun W => IXA lo2 hi2 W a2 xs ∧ IXA lo hi W a xs) W) (hm : (g, ws) ∈ R) (l k : Int) (c : Nat) (hn : ws.length ≤ 1048576) (h0 : w0.heap.size ≤ g) (h1 : hi2 ≤ g) (h2 : g < lo) (hL : ∀ p ∈ L, p.1 ≠ g) :
    Calls Try.prog 11 #[gamV l k (some ⟨g, 0, none⟩) ws.length c, .int .i64 1] W fun e w' => e = .returned (.int .i64 (1 + (ws.length : Int) * 2)) ∧ FQ w0 L [] (fun W => IXA lo2 hi2 W a2 xs ∧ IXA lo hi W a xs) w' := by
  refine (markGame_any l k g c ws W hn (h.fr.row _ hm)).mono ?_
  rintro e w' ⟨rfl, w1, hb, ho⟩
  have k := h.next hb
  exact ⟨rfl, k.only ho h0 hL ⟨k.q.1.only ho (.inr h1), k.q.2.only ho (.inl h2)⟩ k.st⟩
end
end Go.Proofs.Ytclmjbkdghgjbaa
