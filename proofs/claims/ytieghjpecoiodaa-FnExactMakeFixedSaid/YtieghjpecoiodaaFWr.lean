/-
  What a law keeps in memory between two calls: its own blocks, and the rows that its helpers have made.
-/
import Derived.Test.YtieghjpecoiodaaE2
import Derived.Deep.RegionHeld3
import Derived.Deep.MidRow
namespace Go.Proofs.Ytieghjpecoiodaa
open Go.RowKit

/-- Words in a block of their own. -/
abbrev RowW (w : World) (g : Nat) (xs : List Wf) : Prop := Blk w g (wcells xs) 40
/-- The blocks of L and the rows of R stand; what was there at the beginning is as it was. -/
structure FW (w0 : World) (L : List (Nat × Array Value × TypeId)) (R : List (Nat × List Wf)) (w : World) : Prop where
  below : Below w0.heap.size w0 w
  blk : ∀ p ∈ L, Blk w p.1 p.2.1 p.2.2
  row : ∀ p ∈ R, RowW w p.1 p.2
  top : ∀ p L', L = p :: L' → w0.heap.size ≤ p.1 ∧ ∀ q ∈ L', q.1 < p.1
theorem FW.start (w : World) : FW w [] [] w := ⟨Below.refl _ _, (fun p h => by cases h), (fun p h => by cases h), fun p L' h => by cases h⟩
theorem FW.next {w0 w w' : World} {L : List (Nat × Array Value × TypeId)} {R : List (Nat × List Wf)} (h : FW w0 L R w) (hb : Below w.heap.size w w') : FW w0 L R w' :=
  ⟨h.below.trans (hb.mono h.below.size), fun p hp => (h.blk p hp).below hb (h.blk p hp).lt, fun p hp => (h.row p hp).below hb (h.row p hp).lt, h.top⟩
theorem FW.drew {w0 w : World} {L : List (Nat × Array Value × TypeId)} {R : List (Nat × List Wf)} (h : FW w0 L R w) : FW w0 L R w.drew := h.next (Below.refl _ _).drew
theorem FW.box {w0 w : World} {L : List (Nat × Array Value × TypeId)} {R : List (Nat × List Wf)} (h : FW w0 L R w) (cs : Array Value) (t : TypeId) : FW w0 ((w.heap.size, cs, t) :: L) R (w.alloc (.cells cs t)) := by
  have h1 := h.next ((Below.refl w.heap.size w).alloc (Nat.le_refl _) (.cells cs t))
  refine ⟨h1.below, fun p hp => ?_, h1.row, fun p L' e => ?_⟩
  · rcases List.mem_cons.1 hp with rfl | hp
    · exact blk_new w cs t
    · exact h1.blk p hp
  · cases e
    exact ⟨h.below.size, fun q hq => (h.blk q hq).lt⟩
theorem FW.add {w0 w : World} {L : List (Nat × Array Value × TypeId)} {R : List (Nat × List Wf)} (h : FW w0 L R w) {g : Nat} {xs : List Wf} (hr : RowW w g xs) : FW w0 L ((g, xs) :: R) w :=
  ⟨h.below, h.blk, fun p hp => by
    rcases List.mem_cons.1 hp with rfl | hp
    · exact hr
    · exact h.row p hp, h.top⟩
theorem FW.size {w0 w : World} {L : List (Nat × Array Value × TypeId)} {R : List (Nat × List Wf)} (h : FW w0 L R w) : w0.heap.size ≤ w.heap.size := h.below.size
theorem FW.b1 {w0 w : World} {p : Nat × Array Value × TypeId} {L : List (Nat × Array Value × TypeId)} {R : List (Nat × List Wf)} (h : FW w0 (p :: L) R w) : Blk w p.1 p.2.1 p.2.2 := h.blk p (by simp)
theorem FW.b2 {w0 w : World} {q p : Nat × Array Value × TypeId} {L : List (Nat × Array Value × TypeId)} {R : List (Nat × List Wf)} (h : FW w0 (q :: p :: L) R w) : Blk w p.1 p.2.1 p.2.2 := h.blk p (by simp)
theorem FW.b3 {w0 w : World} {q q' p : Nat × Array Value × TypeId} {L : List (Nat × Array Value × TypeId)} {R : List (Nat × List Wf)} (h : FW w0 (q :: q' :: p :: L) R w) : Blk w p.1 p.2.1 p.2.2 := h.blk p (by simp)
theorem FW.r1 {w0 w : World} {g : Nat} {xs : List Wf} {L : List (Nat × Array Value × TypeId)} {R : List (Nat × List Wf)} (h : FW w0 L ((g, xs) :: R) w) : RowW w g xs := h.row (g, xs) (by simp)
theorem FW.r2 {w0 w : World} {q : Nat × List Wf} {g : Nat} {xs : List Wf} {L : List (Nat × Array Value × TypeId)} {R : List (Nat × List Wf)} (h : FW w0 L (q :: (g, xs) :: R) w) : RowW w g xs := h.row (g, xs) (by simp)
/-- A store into the newest block of a frame. -/
theorem FW.setTop {w0 w : World} {b : Nat} {cs : Array Value} {t : TypeId} {L : List (Nat × Array Value × TypeId)} {R : List (Nat × List Wf)} (h : FW w0 ((b, cs, t) :: L) R w) (i : Nat) (v : Value) :
    FW w0 ((b, cs.setIfInBounds i v, t) :: L) [] (w.setCell ⟨b, i, none⟩ v) := by
  have hb : Below b w (w.setCell ⟨b, i, none⟩ v) := (Below.refl b w).setCell (show b ≤ (⟨b, i, none⟩ : Addr).block from Nat.le_refl _) v
  obtain ⟨h0, hL⟩ := h.top _ _ rfl
  refine ⟨h.below.trans (hb.mono h0), fun p hp => ?_, (fun p hp => by cases hp), (fun p L' e => by cases e; exact ⟨h0, hL⟩)⟩
  rcases List.mem_cons.1 hp with rfl | hp
  · exact (h.blk (b, cs, t) List.mem_cons_self).set i v
  · exact (h.blk p (List.mem_cons_of_mem _ hp)).below hb (hL p hp)
theorem FW.setTop4 {w0 w : World} {b : Nat} {z0 z1 z2 z3 v0 v1 v2 v3 : Value} {t : TypeId} {L : List (Nat × Array Value × TypeId)} {R : List (Nat × List Wf)} (h : FW w0 ((b, #[z0, z1, z2, z3], t) :: L) R w) :
    FW w0 ((b, #[v0, v1, v2, v3], t) :: L) [] ((((w.setCell ⟨b, 0, none⟩ v0).setCell ⟨b, 1, none⟩ v1).setCell ⟨b, 2, none⟩ v2).setCell ⟨b, 3, none⟩ v3) :=
  (((h.setTop 0 v0).setTop 1 v1).setTop 2 v2).setTop 3 v3
theorem FW.setTopR {w0 w : World} {b : Nat} {cs : Array Value} {t : TypeId} {L : List (Nat × Array Value × TypeId)} {R R' : List (Nat × List Wf)} (h : FW w0 ((b, cs, t) :: L) R w) (hR : ∀ p ∈ R', p ∈ R ∧ ∃ q ∈ L, p.1 < q.1) (i : Nat) (v : Value) :
    FW w0 ((b, cs.setIfInBounds i v, t) :: L) R' (w.setCell ⟨b, i, none⟩ v) := by
  have hb : Below b w (w.setCell ⟨b, i, none⟩ v) := (Below.refl b w).setCell (show b ≤ (⟨b, i, none⟩ : Addr).block from Nat.le_refl _) v
  refine ⟨(h.setTop i v).below, (h.setTop i v).blk, fun p hp => ?_, (h.setTop i v).top⟩
  obtain ⟨h1, q, hq, hlt⟩ := hR p hp
  exact (h.row p h1).below hb (Nat.lt_trans hlt ((h.top _ _ rfl).2 q hq))
theorem FW.setTop4R {w0 w : World} {b : Nat} {z0 z1 z2 z3 v0 v1 v2 v3 : Value} {t : TypeId} {L : List (Nat × Array Value × TypeId)} {R R' : List (Nat × List Wf)} (h : FW w0 ((b, #[z0, z1, z2, z3], t) :: L) R w) (hR : ∀ p ∈ R', p ∈ R ∧ ∃ q ∈ L, p.1 < q.1) :
    FW w0 ((b, #[v0, v1, v2, v3], t) :: L) R' ((((w.setCell ⟨b, 0, none⟩ v0).setCell ⟨b, 1, none⟩ v1).setCell ⟨b, 2, none⟩ v2).setCell ⟨b, 3, none⟩ v3) :=
  have hR2 : ∀ p ∈ R', p ∈ R' ∧ ∃ q ∈ L, p.1 < q.1 := fun p hp => ⟨hp, (hR p hp).2⟩
  (((h.setTopR hR 0 v0).setTopR hR2 1 v1).setTopR hR2 2 v2).setTopR hR2 3 v3
/-- Fewer rows. -/
theorem FW.none {w0 w : World} {L : List (Nat × Array Value × TypeId)} {R : List (Nat × List Wf)} (h : FW w0 L R w) : FW w0 L [] w := ⟨h.below, h.blk, (fun p hp => by cases hp), h.top⟩
/-- A contract of a function that reads rows and makes memory, in a frame. -/
theorem Calls.fw {P : Program} {f : FuncId} {args : Array Value} {w0 W : World} {v : Ending} {L : List (Nat × Array Value × TypeId)} {R : List (Nat × List Wf)} (h : FW w0 L R W)
    (hc : Calls P f args W fun e w' => e = v ∧ Below W.heap.size W w') : Calls P f args W fun e w' => e = v ∧ FW w0 L R w' :=
  hc.mono fun _ _ ⟨a, b⟩ => ⟨a, h.next b⟩
/-- A contract over words that were copied, in a frame. -/
theorem Calls.fwrow {P : Program} {f : FuncId} {args : Array Value} {w0 W : World} {v : Ending} {L : List (Nat × Array Value × TypeId)} {R : List (Nat × List Wf)} {g : Nat} {xs : List Wf} (h : FW w0 L R W) (hm : (g, xs) ∈ R)
    (hc : Slw W.heap.size W (some ⟨g, 0, none⟩) xs → Calls P f args W fun e w' => e = v ∧ Below W.heap.size W w') : Calls P f args W fun e w' => e = v ∧ FW w0 L R w' :=
  Calls.fw h (hc (Slw.own (h.row _ hm)))
theorem eqFixed_fw {w0 W : World} {L : List (Nat × Array Value × TypeId)} {R : List (Nat × List Wf)} {g g2 : Nat} {ws : List Wf} (h : FW w0 L R W) (h1 : (g, ws) ∈ R) (h2 : (g2, ws) ∈ R) (l k : Int) (c c2 : Nat) (hn : ws.length ≤ 1048576) :
    Calls Try.prog 16 #[fixV l k (some ⟨g, 0, none⟩) ws.length c, fixV l k (some ⟨g2, 0, none⟩) ws.length c2] W fun e w' => e = .returned (.bool true) ∧ FW w0 L R w' :=
  Calls.fw h (eqFixed_any l k _ _ c c2 ws W hn (.inr ⟨g, 0, g2, 0, rfl, rfl, (h.row _ h1).lt, (h.row _ h2).lt, (h.row _ h1).words, (h.row _ h2).words⟩))
theorem eqWord_fw {w0 W : World} {L : List (Nat × Array Value × TypeId)} {R : List (Nat × List Wf)} (h : FW w0 L R W) (x : Nat → Int) :
    Calls Try.prog 61 #[wordV x, wordV x] W fun e w' => e = .returned (.bool true) ∧ FW w0 L R w' := by
  refine (eqWord_same x W).mono ?_
  rintro e w' ⟨rfl, hb⟩
  exact ⟨rfl, h.next hb⟩
end Go.Proofs.Ytieghjpecoiodaa
