/-
  What a law keeps in memory between two calls: its own blocks, and the rows that its helpers have made.
-/
import Derived.Test.YtjmgalmndpjcoaaPz3
import Derived.Deep.RegionHeld3
namespace Go.Proofs.Ytjmgalmndpjcoaa
open Go.RowKit

/-- The blocks of L and the rows of R stand; what was there at the beginning is as it was. -/
structure FR (w0 : World) (L : List (Nat × Array Value × TypeId)) (R : List (Nat × List Int)) (w : World) : Prop where
  below : Below w0.heap.size w0 w
  blk : ∀ p ∈ L, Blk w p.1 p.2.1 p.2.2
  row : ∀ p ∈ R, RowOf .i16 23 w p.1 p.2
  top : ∀ p L', L = p :: L' → w0.heap.size ≤ p.1 ∧ ∀ q ∈ L', q.1 < p.1
theorem FR.start (w : World) : FR w [] [] w := ⟨Below.refl _ _, (fun p h => by cases h), (fun p h => by cases h), fun p L' h => by cases h⟩
theorem FR.next {w0 w w' : World} {L : List (Nat × Array Value × TypeId)} {R : List (Nat × List Int)} (h : FR w0 L R w) (hb : Below w.heap.size w w') : FR w0 L R w' :=
  ⟨h.below.trans (hb.mono h.below.size), fun p hp => (h.blk p hp).below hb (h.blk p hp).lt, fun p hp => (h.row p hp).below hb (h.row p hp).lt, h.top⟩
theorem FR.drew {w0 w : World} {L : List (Nat × Array Value × TypeId)} {R : List (Nat × List Int)} (h : FR w0 L R w) : FR w0 L R w.drew := h.next (Below.refl _ _).drew
theorem FR.box {w0 w : World} {L : List (Nat × Array Value × TypeId)} {R : List (Nat × List Int)} (h : FR w0 L R w) (cs : Array Value) (t : TypeId) : FR w0 ((w.heap.size, cs, t) :: L) R (w.alloc (.cells cs t)) := by
  have h1 := h.next ((Below.refl w.heap.size w).alloc (Nat.le_refl _) (.cells cs t))
  refine ⟨h1.below, fun p hp => ?_, h1.row, fun p L' e => ?_⟩
  · rcases List.mem_cons.1 hp with rfl | hp
    · exact blk_new w cs t
    · exact h1.blk p hp
  · cases e
    exact ⟨h.below.size, fun q hq => (h.blk q hq).lt⟩
theorem FR.add {w0 w : World} {L : List (Nat × Array Value × TypeId)} {R : List (Nat × List Int)} (h : FR w0 L R w) {g : Nat} {xs : List Int} (hr : RowOf .i16 23 w g xs) : FR w0 L ((g, xs) :: R) w :=
  ⟨h.below, h.blk, fun p hp => by
    rcases List.mem_cons.1 hp with rfl | hp
    · exact hr
    · exact h.row p hp, h.top⟩
theorem FR.size {w0 w : World} {L : List (Nat × Array Value × TypeId)} {R : List (Nat × List Int)} (h : FR w0 L R w) : w0.heap.size ≤ w.heap.size := h.below.size
theorem FR.b1 {w0 w : World} {p : Nat × Array Value × TypeId} {L : List (Nat × Array Value × TypeId)} {R : List (Nat × List Int)} (h : FR w0 (p :: L) R w) : Blk w p.1 p.2.1 p.2.2 := h.blk p (by simp)
theorem FR.b2 {w0 w : World} {q p : Nat × Array Value × TypeId} {L : List (Nat × Array Value × TypeId)} {R : List (Nat × List Int)} (h : FR w0 (q :: p :: L) R w) : Blk w p.1 p.2.1 p.2.2 := h.blk p (by simp)
theorem FR.b3 {w0 w : World} {q q' p : Nat × Array Value × TypeId} {L : List (Nat × Array Value × TypeId)} {R : List (Nat × List Int)} (h : FR w0 (q :: q' :: p :: L) R w) : Blk w p.1 p.2.1 p.2.2 := h.blk p (by simp)
theorem FR.r1 {w0 w : World} {g : Nat} {xs : List Int} {L : List (Nat × Array Value × TypeId)} {R : List (Nat × List Int)} (h : FR w0 L ((g, xs) :: R) w) : RowOf .i16 23 w g xs := h.row (g, xs) (by simp)
theorem FR.r2 {w0 w : World} {q : Nat × List Int} {g : Nat} {xs : List Int} {L : List (Nat × Array Value × TypeId)} {R : List (Nat × List Int)} (h : FR w0 L (q :: (g, xs) :: R) w) : RowOf .i16 23 w g xs := h.row (g, xs) (by simp)
/-- A store into the newest block of a frame. -/
theorem FR.setTop {w0 w : World} {b : Nat} {cs : Array Value} {t : TypeId} {L : List (Nat × Array Value × TypeId)} {R : List (Nat × List Int)} (h : FR w0 ((b, cs, t) :: L) R w) (i : Nat) (v : Value) :
    FR w0 ((b, cs.setIfInBounds i v, t) :: L) [] (w.setCell ⟨b, i, none⟩ v) := by
  have hb : Below b w (w.setCell ⟨b, i, none⟩ v) := (Below.refl b w).setCell (show b ≤ (⟨b, i, none⟩ : Addr).block from Nat.le_refl _) v
  obtain ⟨h0, hL⟩ := h.top _ _ rfl
  refine ⟨h.below.trans (hb.mono h0), fun p hp => ?_, (fun p hp => by cases hp), (fun p L' e => by cases e; exact ⟨h0, hL⟩)⟩
  rcases List.mem_cons.1 hp with rfl | hp
  · exact (h.blk (b, cs, t) List.mem_cons_self).set i v
  · exact (h.blk p (List.mem_cons_of_mem _ hp)).below hb (hL p hp)
theorem FR.setTop4 {w0 w : World} {b : Nat} {z0 z1 z2 z3 v0 v1 v2 v3 : Value} {t : TypeId} {L : List (Nat × Array Value × TypeId)} {R : List (Nat × List Int)} (h : FR w0 ((b, #[z0, z1, z2, z3], t) :: L) R w) :
    FR w0 ((b, #[v0, v1, v2, v3], t) :: L) [] ((((w.setCell ⟨b, 0, none⟩ v0).setCell ⟨b, 1, none⟩ v1).setCell ⟨b, 2, none⟩ v2).setCell ⟨b, 3, none⟩ v3) :=
  (((h.setTop 0 v0).setTop 1 v1).setTop 2 v2).setTop 3 v3
theorem FR.setTopR {w0 w : World} {b : Nat} {cs : Array Value} {t : TypeId} {L : List (Nat × Array Value × TypeId)} {R R' : List (Nat × List Int)} (h : FR w0 ((b, cs, t) :: L) R w) (hR : ∀ p ∈ R', p ∈ R ∧ ∃ q ∈ L, p.1 < q.1) (i : Nat) (v : Value) :
    FR w0 ((b, cs.setIfInBounds i v, t) :: L) R' (w.setCell ⟨b, i, none⟩ v) := by
  have hb : Below b w (w.setCell ⟨b, i, none⟩ v) := (Below.refl b w).setCell (show b ≤ (⟨b, i, none⟩ : Addr).block from Nat.le_refl _) v
  refine ⟨(h.setTop i v).below, (h.setTop i v).blk, fun p hp => ?_, (h.setTop i v).top⟩
  obtain ⟨h1, q, hq, hlt⟩ := hR p hp
  exact (h.row p h1).below hb (Nat.lt_trans hlt ((h.top _ _ rfl).2 q hq))
theorem FR.setTop4R {w0 w : World} {b : Nat} {z0 z1 z2 z3 v0 v1 v2 v3 : Value} {t : TypeId} {L : List (Nat × Array Value × TypeId)} {R R' : List (Nat × List Int)} (h : FR w0 ((b, #[z0, z1, z2, z3], t) :: L) R w) (hR : ∀ p ∈ R', p ∈ R ∧ ∃ q ∈ L, p.1 < q.1) :
    FR w0 ((b, #[v0, v1, v2, v3], t) :: L) R' ((((w.setCell ⟨b, 0, none⟩ v0).setCell ⟨b, 1, none⟩ v1).setCell ⟨b, 2, none⟩ v2).setCell ⟨b, 3, none⟩ v3) :=
  have hR2 : ∀ p ∈ R', p ∈ R' ∧ ∃ q ∈ L, p.1 < q.1 := fun p hp => ⟨hp, (hR p hp).2⟩
  (((h.setTopR hR 0 v0).setTopR hR2 1 v1).setTopR hR2 2 v2).setTopR hR2 3 v3
/-- Fewer rows. -/
theorem FR.none {w0 w : World} {L : List (Nat × Array Value × TypeId)} {R : List (Nat × List Int)} (h : FR w0 L R w) : FR w0 L [] w := ⟨h.below, h.blk, (fun p hp => by cases hp), h.top⟩
/-- The law's helper that copies a puzzle, in a frame. -/
theorem toPuzzle_fr {w0 W : World} {L : List (Nat × Array Value × TypeId)} {R : List (Nat × List Int)} (h : FR w0 L R W) (a : Option Addr) (xs : List Int) (c : Nat) (x : Nat → Int) (t : Bool) (hn : xs.length ≤ 1048576) (hs : Sl .i16 w0.heap.size w0 a xs) :
    Calls Try.prog 11 #[puzV a xs.length c x t] W fun e w' => ∃ g, e = .returned (puzV (some ⟨g, 0, none⟩) xs.length xs.length x t) ∧ FR w0 L ((g, xs) :: R) w' := by
  refine (toPuzzle_any w0.heap.size a xs c x t W hn h.size (hs.below h.below)).mono ?_
  rintro e w' ⟨g, rfl, _, hr, hb⟩
  exact ⟨g, rfl, (h.next hb).add hr⟩
theorem toWater_fr {w0 W : World} {L : List (Nat × Array Value × TypeId)} {R : List (Nat × List Int)} (h : FR w0 L R W) (x : Nat → Int) :
    Calls Try.prog 19 #[watV x] W fun e w' => e = .returned (watV x) ∧ FR w0 L R w' := by
  refine (toWater_any x W).mono ?_
  rintro e w' ⟨rfl, hb⟩
  exact ⟨rfl, h.next hb⟩
theorem szPuzzle_fr {w0 W : World} {L : List (Nat × Array Value × TypeId)} {R : List (Nat × List Int)} (h : FR w0 L R W) (a : Option Addr) (n c : Nat) (x : Nat → Int) (t : Bool) (hn : n ≤ 9223372036854775807) :
    Calls Try.prog 9 #[puzV a n c x t, .int .i64 1048576] W fun e w' => e = .returned (.int .i64 (if 1048576 < n then -1 else 1048576 - (n : Int))) ∧ FR w0 L R w' := by
  refine (szPuzzle_any a n c x t W hn).mono ?_
  rintro e w' ⟨rfl, hb⟩
  exact ⟨rfl, h.next hb⟩
theorem eqPuzzle_fr {w0 W : World} {L : List (Nat × Array Value × TypeId)} {R : List (Nat × List Int)} {g g2 : Nat} {xs : List Int} (h : FR w0 L R W) (h1 : (g, xs) ∈ R) (h2 : (g2, xs) ∈ R) (c c2 : Nat) (x : Nat → Int) (t : Bool) (hn : xs.length ≤ 1048576) :
    Calls Try.prog 14 #[puzV (some ⟨g, 0, none⟩) xs.length c x t, puzV (some ⟨g2, 0, none⟩) xs.length c2 x t] W fun e w' => e = .returned (.bool true) ∧ FR w0 L R w' := by
  refine (eqPuzzle_same g 0 c g2 0 c2 xs x t W hn (h.row _ h1).lt (h.row _ h2).lt (h.row _ h1).at (h.row _ h2).at).mono ?_
  rintro e w' ⟨rfl, hb⟩
  exact ⟨rfl, h.next hb⟩
theorem eqWater_fr {w0 W : World} {L : List (Nat × Array Value × TypeId)} {R : List (Nat × List Int)} (h : FR w0 L R W) (x : Nat → Int) :
    Calls Try.prog 33 #[watV x, watV x] W fun e w' => e = .returned (.bool true) ∧ FR w0 L R w' := by
  refine (eqWater_same x W).mono ?_
  rintro e w' ⟨rfl, hb⟩
  exact ⟨rfl, h.next hb⟩
/-- A contract of a function that reads rows and makes memory, in a frame. -/
theorem Calls.fr {P : Program} {f : FuncId} {args : Array Value} {w0 W : World} {v : Ending} {L : List (Nat × Array Value × TypeId)} {R : List (Nat × List Int)} (h : FR w0 L R W)
    (hc : Calls P f args W fun e w' => e = v ∧ Below W.heap.size W w') : Calls P f args W fun e w' => e = v ∧ FR w0 L R w' :=
  hc.mono fun _ _ ⟨a, b⟩ => ⟨a, h.next b⟩
end Go.Proofs.Ytjmgalmndpjcoaa
