/-
  Lists of moves that calls have made, kept beside a frame.
-/
import Derived.Test.YtjmgalmndpjcoaaSpecMF
import Derived.Test.YtjmgalmndpjcoaaMvMark
import Derived.Test.YtjmgalmndpjcoaaLawDM
namespace Go.Proofs.Ytjmgalmndpjcoaa
open Go.RowKit
set_option linter.unusedVariables false

theorem mfL_len (J : List Int) (x y : Nat → Int) (t : Bool) : (mfL J x y t).length ≤ 28 := by
  unfold mfL
  by_cases h : okW2 J x y = true
  · rw [if_pos h]
    exact Nat.le_trans (kp_len _ _ _ _) (allM_len _ (okW2_ofd h).1.1.2)
  · rw [if_neg h]; exact Nat.zero_le _
/-- A list of moves in a block of its own, between lo and hi; nothing is known of one without moves. -/
def MX (lo hi : Nat) (w : World) (a : Option Addr) (ms : List Mv) : Prop := ms = [] ∨ ∃ g, a = some ⟨g, 0, none⟩ ∧ lo ≤ g ∧ g < hi ∧ hi ≤ w.heap.size ∧ MAt w g 0 ms ∧ ∀ j, w.frozen? ⟨g, j, none⟩ = false
theorem MX.below {lo hi : Nat} {w w' : World} {a : Option Addr} {ms : List Mv} (h : MX lo hi w a ms) (hb : Below w.heap.size w w') : MX lo hi w' a ms := by
  rcases h with h | ⟨g, rfl, h1, h2, h3, h4, h5⟩
  · exact .inl h
  · exact .inr ⟨g, rfl, h1, h2, Nat.le_trans h3 hb.size, h4.below hb (by omega), fun j => by rw [hb.frozen (p := ⟨g, j, none⟩) (by show g < w.heap.size; omega)]; exact h5 j⟩
theorem MAt.only {w w' : World} {b b' off : Nat} {ms : List Mv} (h : MAt w b off ms) (ho : Only b' w w') (hne : b ≠ b') : MAt w' b off ms := fun j hj =>
  ⟨(World.cell?_of_block (w := w) (a := ⟨b, off + j * 3, none⟩) (ho.block b hne)).trans (h j hj).1, (World.cell?_of_block (w := w) (a := ⟨b, off + j * 3 + 1, none⟩) (ho.block b hne)).trans (h j hj).2.1, (World.cell?_of_block (w := w) (a := ⟨b, off + j * 3 + 2, none⟩) (ho.block b hne)).trans (h j hj).2.2⟩
theorem MX.only {lo hi b : Nat} {w w' : World} {a : Option Addr} {ms : List Mv} (h : MX lo hi w a ms) (ho : Only b w w') (hb : b < lo ∨ hi ≤ b) : MX lo hi w' a ms := by
  rcases h with h | ⟨g, rfl, h1, h2, h3, h4, h5⟩
  · exact .inl h
  · have hne : g ≠ b := by omega
    exact .inr ⟨g, rfl, h1, h2, by rw [ho.size]; exact h3, h4.only ho hne, fun j => by rw [World.frozen?_of_block (w := w) (a := ⟨g, j, none⟩) (ho.block g hne)]; exact h5 j⟩
/-- A list of moves that was marked. -/
def HX (w : World) (a : Option Addr) (ms : List Mv) : Prop := ms = [] ∨ ∃ g, a = some ⟨g, 0, none⟩ ∧ g < w.heap.size ∧ Mkd w g (ms.length * 3)
theorem HX.below {w w' : World} {a : Option Addr} {ms : List Mv} (h : HX w a ms) (hb : Below w.heap.size w w') : HX w' a ms := by
  rcases h with h | ⟨g, rfl, h1, h2⟩
  · exact .inl h
  · exact .inr ⟨g, rfl, Nat.lt_of_lt_of_le h1 hb.size, h2.below hb h1⟩
def Stab (Q : World → Prop) : Prop := ∀ W W', Q W → Below W.heap.size W W' → Q W'
structure FQ (w0 : World) (L : List (Nat × Array Value × TypeId)) (R : List (Nat × List Int)) (Q : World → Prop) (w : World) : Prop where
  fr : FR w0 L R w
  q : Q w
  st : Stab Q
theorem FR.fq {w0 w : World} {L : List (Nat × Array Value × TypeId)} {R : List (Nat × List Int)} (h : FR w0 L R w) {Q : World → Prop} (hq : Q w) (hs : Stab Q) : FQ w0 L R Q w := ⟨h, hq, hs⟩
theorem stab_true : Stab (fun _ => True) := fun _ _ _ _ => trivial
theorem stab_mx (lo hi : Nat) (a : Option Addr) (ms : List Mv) : Stab (fun W => MX lo hi W a ms) := fun _ _ h hb => h.below hb
theorem stab_hx (a : Option Addr) (ms : List Mv) : Stab (fun W => HX W a ms) := fun _ _ h hb => h.below hb
theorem Stab.and {Q Q' : World → Prop} (h : Stab Q) (h' : Stab Q') : Stab (fun W => Q W ∧ Q' W) := fun _ _ ⟨a, b⟩ hb => ⟨h _ _ a hb, h' _ _ b hb⟩
section
variable {w0 w W : World} {L : List (Nat × Array Value × TypeId)} {R : List (Nat × List Int)} {Q : World → Prop}
theorem FQ.next {w' : World} (h : FQ w0 L R Q w) (hb : Below w.heap.size w w') : FQ w0 L R Q w' := ⟨h.fr.next hb, h.st _ _ h.q hb, h.st⟩
theorem FQ.drew (h : FQ w0 L R Q w) : FQ w0 L R Q w.drew := h.next (Below.refl _ _).drew
theorem FQ.box (h : FQ w0 L R Q w) (cs : Array Value) (t : TypeId) : FQ w0 ((w.heap.size, cs, t) :: L) R Q (w.alloc (.cells cs t)) :=
  ⟨h.fr.box cs t, h.st _ _ h.q ((Below.refl w.heap.size w).alloc (Nat.le_refl _) (.cells cs t)), h.st⟩
theorem FQ.re {Q' : World → Prop} {R' : List (Nat × List Int)} (h : FQ w0 L R Q w) (hR : ∀ p ∈ R', p ∈ R) (hq : Q' w) (hs : Stab Q') : FQ w0 L R' Q' w := ⟨⟨h.fr.below, h.fr.blk, fun p hp => h.fr.row p (hR p hp), h.fr.top⟩, hq, hs⟩
theorem toPuzzle_fq (h : FQ w0 L R Q W) (a : Option Addr) (xs : List Int) (c : Nat) (x : Nat → Int) (t : Bool) (hn : xs.length ≤ 1048576) (hs : Sl .i16 w0.heap.size w0 a xs) :
    Calls Try.prog 11 #[puzV a xs.length c x t] W fun e w' => ∃ g, e = .returned (puzV (some ⟨g, 0, none⟩) xs.length xs.length x t) ∧ W.heap.size ≤ g ∧ FQ w0 L ((g, xs) :: R) Q w' := by
  refine (toPuzzle_any w0.heap.size a xs c x t W hn h.fr.size (hs.below h.fr.below)).mono ?_
  rintro e w' ⟨g, rfl, hg, hr, hb⟩
  exact ⟨g, rfl, hg, (h.fr.next hb).add hr, h.st _ _ h.q hb, h.st⟩
theorem toWater_fq (h : FQ w0 L R Q W) (x : Nat → Int) :
    Calls Try.prog 19 #[watV x] W fun e w' => e = .returned (watV x) ∧ FQ w0 L R Q w' := by
  refine (toWater_any x W).mono ?_
  rintro e w' ⟨rfl, hb⟩
  exact ⟨rfl, h.next hb⟩
theorem eqPuzzle_fq {g g2 : Nat} {xs : List Int} (h : FQ w0 L R Q W) (h1 : (g, xs) ∈ R) (h2 : (g2, xs) ∈ R) (c c2 : Nat) (x : Nat → Int) (t : Bool) (hn : xs.length ≤ 1048576) :
    Calls Try.prog 14 #[puzV (some ⟨g, 0, none⟩) xs.length c x t, puzV (some ⟨g2, 0, none⟩) xs.length c2 x t] W fun e w' => e = .returned (.bool true) ∧ FQ w0 L R Q w' := by
  refine (eqPuzzle_same g 0 c g2 0 c2 xs x t W hn (h.fr.row _ h1).lt (h.fr.row _ h2).lt (h.fr.row _ h1).at (h.fr.row _ h2).at).mono ?_
  rintro e w' ⟨rfl, hb⟩
  exact ⟨rfl, h.next hb⟩
/-- A call whose answer is a list of moves of its own. -/
theorem Calls.frq {P : Program} {f : FuncId} {args : Array Value} {C : Int} {ms : List Mv} {g : Nat} {xs : List Int} {p : Nat × Array Value × TypeId} (h : FQ w0 L R Q W) (hp : p ∈ L) (hm : (g, xs) ∈ R)
    (hc : g < W.heap.size → At .i16 W g 0 xs → Calls P f args W fun e w' => ∃ v, e = .returned (.tuple #[v, .int .i64 C]) ∧ OwnX W.heap.size w' v ms ∧ Below W.heap.size W w') :
    Calls P f args W fun e w' => ∃ a c, e = .returned (.tuple #[.slice a ms.length c, .int .i64 C]) ∧ MX (p.1 + 1) w'.heap.size w' a ms ∧ FQ w0 L R Q w' := by
  refine (hc (h.fr.row _ hm).lt (h.fr.row _ hm).at).mono ?_
  rintro e w' ⟨v, rfl, ⟨a, c, rfl, ho⟩, hb⟩
  refine ⟨a, c, rfl, ?_, h.next hb⟩
  rcases ho with ho | ⟨q, rfl, h1, h2, h3, h4⟩
  · exact .inl ho
  · have := (h.fr.blk _ hp).lt
    exact .inr ⟨q, rfl, by omega, h2, Nat.le_refl _, h3, h4⟩
end
theorem eqMoveS_nil (a b : Option Addr) (c c2 : Nat) (w : World) :
    Calls Try.prog 21 #[.slice a 0 c, .slice b 0 c2] w fun e w' => e = .returned (.bool true) ∧ w = w' := by
  go_enter Try.func21, Try.ntmps21
  go_wp2
  refine wp_loop_rounds 1 ?_
  rw [rounds_succ]
  go_wp2
  go_ret
  exact ⟨rfl, rfl⟩
theorem markMoveS_nil (a : Option Addr) (c : Nat) (w : World) :
    Calls Try.prog 22 #[.slice a 0 c, .int .i64 1] w fun e w' => e = .returned (.int .i64 1) ∧ w = w' := by
  go_enter Try.func22, Try.ntmps22
  go_wp2
  refine wp_loop_rounds 1 ?_
  rw [rounds_succ]
  go_wp2
  go_ret
  exact ⟨rfl, rfl⟩
theorem heldMoveS_nil (a : Option Addr) (c : Nat) (w : World) :
    Calls Try.prog 23 #[.slice a 0 c, .int .i64 1] w fun e w' => e = .returned (.int .i64 1) ∧ w = w' := by
  go_enter Try.func23, Try.ntmps23
  go_wp2
  refine wp_loop_rounds 1 ?_
  rw [rounds_succ]
  go_wp2
  go_ret
  exact ⟨rfl, rfl⟩
section
variable {w0 w W : World} {L : List (Nat × Array Value × TypeId)} {R : List (Nat × List Int)} {Q : World → Prop}
theorem eqMoveS_fq {lo hi lo2 hi2 : Nat} {a a2 : Option Addr} {ms : List Mv} (h : FQ w0 L R Q W) (h1 : MX lo hi W a ms) (h2 : MX lo2 hi2 W a2 ms) (c c2 : Nat) (hn : ms.length ≤ 28) :
    Calls Try.prog 21 #[.slice a ms.length c, .slice a2 ms.length c2] W fun e w' => e = .returned (.bool true) ∧ FQ w0 L R Q w' := by
  by_cases he : ms = []
  · subst he
    refine (eqMoveS_nil a a2 c c2 W).mono ?_
    rintro e w' ⟨rfl, rfl⟩
    exact ⟨rfl, h⟩
  · rcases h1 with h1 | ⟨g, rfl, _, p1, p2, p3, _⟩
    · exact absurd h1 he
    rcases h2 with h2 | ⟨g2, rfl, _, q1, q2, q3, _⟩
    · exact absurd h2 he
    refine (eqMoveS_same g c g2 c2 ms W (by omega) (by omega) (by omega) p3 q3).mono ?_
    rintro e w' ⟨rfl, hb⟩
    exact ⟨rfl, h.next hb⟩
theorem FQ.only {Q' : World → Prop} {b : Nat} {w' : World} (h : FQ w0 L R Q w) (ho : Only b w w') (hb : w0.heap.size ≤ b) (hL : ∀ p ∈ L, p.1 ≠ b) (hq : Q' w') (hs : Stab Q') : FQ w0 L [] Q' w' :=
  ⟨⟨Only.below h.fr.below ho hb, fun p hp => (ho.block _ (hL p hp)).trans (h.fr.blk p hp), (fun p hp => by cases hp), h.fr.top⟩, hq, hs⟩
theorem heldMoveS_fq {a : Option Addr} {ms : List Mv} (h : FQ w0 L R Q W) (hx : HX W a ms) (c : Nat) (hn : ms.length ≤ 28) :
    Calls Try.prog 23 #[.slice a ms.length c, .int .i64 1] W fun e w' => e = .returned (.int .i64 (ms.length * 3 + 1)) ∧ FQ w0 L R Q w' := by
  rcases hx with rfl | ⟨g, rfl, h1, h2⟩
  · refine (heldMoveS_nil a c W).mono ?_
    rintro e w' ⟨rfl, rfl⟩
    exact ⟨rfl, h⟩
  · refine (heldMoveS_any g c ms.length W hn h2).mono ?_
    rintro e w' ⟨rfl, rfl⟩
    exact ⟨rfl, h⟩
theorem mat_some {w : World} {g : Nat} {ms : List Mv} (h : MAt w g 0 ms) : ∀ q, q < ms.length * 3 → (w.cell? ⟨g, q, none⟩).isSome = true := fun q hq => by
  obtain ⟨a, b, c⟩ := h (q / 3) (by omega)
  rw [Nat.zero_add] at a b c
  have : q = q / 3 * 3 ∨ q = q / 3 * 3 + 1 ∨ q = q / 3 * 3 + 2 := by omega
  rcases this with e | e | e <;> rw [e]
  · rw [a]; rfl
  · rw [b]; rfl
  · rw [c]; rfl
theorem markMoveS_fq {lo hi lo2 hi2 : Nat} {a a2 : Option Addr} {ms : List Mv} (h : FQ w0 L R (fun W => MX lo2 hi2 W a2 ms ∧ MX lo hi W a ms) W) (c : Nat) (hn : ms.length ≤ 28) (h0 : w0.heap.size ≤ lo) (h1 : hi2 ≤ lo) (hL : ∀ p ∈ L, p.1 < lo) :
    Calls Try.prog 22 #[.slice a ms.length c, .int .i64 1] W fun e w' => e = .returned (.int .i64 (ms.length * 3 + 1)) ∧ FQ w0 L [] (fun W => MX lo2 hi2 W a2 ms ∧ HX W a ms) w' := by
  obtain ⟨hm2, hm⟩ := h.q
  rcases hm with he | ⟨g, rfl, p0, p1, p2, p3, p4⟩
  · subst he
    refine (markMoveS_nil a c W).mono ?_
    rintro e w' ⟨rfl, rfl⟩
    exact ⟨rfl, h.re (fun p hp => by cases hp) ⟨hm2, .inl rfl⟩ ((stab_mx _ _ _ _).and (stab_hx _ _))⟩
  · refine (markMoveS_any g c ms.length W hn (mat_some p3) p4).mono ?_
    rintro e w' ⟨rfl, hk, ho⟩
    refine ⟨rfl, h.only ho (by omega) (fun p hp => by have := hL p hp; omega) ⟨hm2.only ho (.inr (by omega)), .inr ⟨g, rfl, by rw [ho.size]; omega, hk⟩⟩ ((stab_mx _ _ _ _).and (stab_hx _ _))⟩
theorem markPuzzle_any (g c : Nat) (xs : List Int) (x : Nat → Int) (t : Bool) (w : World) (hn : xs.length ≤ 1048576) (hr : RowOf .i16 23 w g xs) :
    Calls Try.prog 15 #[puzV (some ⟨g, 0, none⟩) xs.length c x t, .int .i64 1] w fun e w' => e = .returned (.int .i64 (xs.length + 1)) ∧ ∃ w1, Below w.heap.size w w1 ∧ Only g w1 w' := by
  have k0 := blk_new w #[.slice (some ⟨g, 0, none⟩) xs.length c, .int .i16 (x 0), .int .i16 (x 1), .int .i16 (x 2), .int .i16 (x 3), .bool t] 32
  have hB := (Below.refl w.heap.size w).alloc (Nat.le_refl _) (.cells #[.slice (some ⟨g, 0, none⟩) xs.length c, .int .i16 (x 0), .int .i16 (x 1), .int .i16 (x 2), .int .i16 (x 3), .bool t] 32)
  have HR := Lib.hid (hr.below hB hr.lt)
  have HB := Lib.hid hB
  obtain ⟨c0, c1, c2, c3, c4, c5, -⟩ := k0.six
  clear hr hB k0
  go_enter Try.func15, Try.ntmps15
  go_wp2_with fail
  refine (markInt16S_row g c xs _ hn HR.out).mono ?_
  rintro e w2 ⟨rfl, _, ho⟩
  have HO := Lib.hid ho
  clear ho
  go_wp2
  go_ret
  exact ⟨rfl, _, HB.out, HO.out⟩
theorem markPuzzle_fq {lo hi lo2 hi2 g : Nat} {a a2 : Option Addr} {ms : List Mv} {xs : List Int} (h : FQ w0 L R (fun W => MX lo2 hi2 W a2 ms ∧ MX lo hi W a ms) W) (hm : (g, xs) ∈ R) (c : Nat) (x : Nat → Int) (t : Bool) (hn : xs.length ≤ 1048576) (h0 : w0.heap.size ≤ g) (h1 : hi2 ≤ g) (h2 : g < lo) (hL : ∀ p ∈ L, p.1 ≠ g) :
    Calls Try.prog 15 #[puzV (some ⟨g, 0, none⟩) xs.length c x t, .int .i64 1] W fun e w' => e = .returned (.int .i64 (xs.length + 1)) ∧ FQ w0 L [] (fun W => MX lo2 hi2 W a2 ms ∧ MX lo hi W a ms) w' := by
  refine (markPuzzle_any g c xs x t W hn (h.fr.row _ hm)).mono ?_
  rintro e w' ⟨rfl, w1, hb, ho⟩
  have k := h.next hb
  exact ⟨rfl, k.only ho h0 hL ⟨k.q.1.only ho (.inr h1), k.q.2.only ho (.inl h2)⟩ k.st⟩
end
end Go.Proofs.Ytjmgalmndpjcoaa
