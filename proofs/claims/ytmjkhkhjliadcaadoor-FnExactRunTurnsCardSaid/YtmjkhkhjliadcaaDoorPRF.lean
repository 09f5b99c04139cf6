/-
  What a law keeps in memory between two calls: its own blocks, and the rows that its helpers have made.
-/
import Derived.Test.YtmjkhkhjliadcaaDoorOwn
import Derived.Test.YtmjkhkhjliadcaaDoorH1
import Derived.Deep.RegionHeld3
namespace Go.Proofs.YtmjkhkhjliadcaaDoor
open Go.RowKit

/-- The blocks of L and the rows of R stand; what was there at the beginning is as it was. -/
structure PR (w0 : World) (L : List (Nat × Array Value × TypeId)) (R : List (Nat × IntKind × TypeId × List Int)) (w : World) : Prop where
  below : Below w0.heap.size w0 w
  blk : ∀ p ∈ L, Blk w p.1 p.2.1 p.2.2
  row : ∀ p ∈ R, RowOf p.2.1 p.2.2.1 w p.1 p.2.2.2
  top : ∀ p L', L = p :: L' → w0.heap.size ≤ p.1 ∧ ∀ q ∈ L', q.1 < p.1
theorem PR.start (w : World) : PR w [] [] w := ⟨Below.refl _ _, (fun p h => by cases h), (fun p h => by cases h), fun p L' h => by cases h⟩
theorem PR.next {w0 w w' : World} {L : List (Nat × Array Value × TypeId)} {R : List (Nat × IntKind × TypeId × List Int)} (h : PR w0 L R w) (hb : Below w.heap.size w w') : PR w0 L R w' :=
  ⟨h.below.trans (hb.mono h.below.size), fun p hp => (h.blk p hp).below hb (h.blk p hp).lt, fun p hp => (h.row p hp).below hb (h.row p hp).lt, h.top⟩
theorem PR.drew {w0 w : World} {L : List (Nat × Array Value × TypeId)} {R : List (Nat × IntKind × TypeId × List Int)} (h : PR w0 L R w) : PR w0 L R w.drew := h.next (Below.refl _ _).drew
theorem PR.box {w0 w : World} {L : List (Nat × Array Value × TypeId)} {R : List (Nat × IntKind × TypeId × List Int)} (h : PR w0 L R w) (cs : Array Value) (t : TypeId) : PR w0 ((w.heap.size, cs, t) :: L) R (w.alloc (.cells cs t)) := by
  have h1 := h.next ((Below.refl w.heap.size w).alloc (Nat.le_refl _) (.cells cs t))
  refine ⟨h1.below, fun p hp => ?_, h1.row, fun p L' e => ?_⟩
  · rcases List.mem_cons.1 hp with rfl | hp
    · exact blk_new w cs t
    · exact h1.blk p hp
  · cases e
    exact ⟨h.below.size, fun q hq => (h.blk q hq).lt⟩
theorem PR.add {w0 w : World} {L : List (Nat × Array Value × TypeId)} {R : List (Nat × IntKind × TypeId × List Int)} (h : PR w0 L R w) {k : IntKind} {t : TypeId} {g : Nat} {xs : List Int} (hr : RowOf k t w g xs) : PR w0 L ((g, k, t, xs) :: R) w :=
  ⟨h.below, h.blk, fun p hp => by
    rcases List.mem_cons.1 hp with rfl | hp
    · exact hr
    · exact h.row p hp, h.top⟩
theorem PR.size {w0 w : World} {L : List (Nat × Array Value × TypeId)} {R : List (Nat × IntKind × TypeId × List Int)} (h : PR w0 L R w) : w0.heap.size ≤ w.heap.size := h.below.size
theorem PR.b1 {w0 w : World} {p : Nat × Array Value × TypeId} {L : List (Nat × Array Value × TypeId)} {R : List (Nat × IntKind × TypeId × List Int)} (h : PR w0 (p :: L) R w) : Blk w p.1 p.2.1 p.2.2 := h.blk p (by simp)
theorem PR.b2 {w0 w : World} {q p : Nat × Array Value × TypeId} {L : List (Nat × Array Value × TypeId)} {R : List (Nat × IntKind × TypeId × List Int)} (h : PR w0 (q :: p :: L) R w) : Blk w p.1 p.2.1 p.2.2 := h.blk p (by simp)
theorem PR.b3 {w0 w : World} {q q' p : Nat × Array Value × TypeId} {L : List (Nat × Array Value × TypeId)} {R : List (Nat × IntKind × TypeId × List Int)} (h : PR w0 (q :: q' :: p :: L) R w) : Blk w p.1 p.2.1 p.2.2 := h.blk p (by simp)
/-- A store into the newest block of a frame. -/
theorem PR.setTop {w0 w : World} {b : Nat} {cs : Array Value} {t : TypeId} {L : List (Nat × Array Value × TypeId)} {R : List (Nat × IntKind × TypeId × List Int)} (h : PR w0 ((b, cs, t) :: L) R w) (i : Nat) (v : Value) :
    PR w0 ((b, cs.setIfInBounds i v, t) :: L) [] (w.setCell ⟨b, i, none⟩ v) := by
  have hb : Below b w (w.setCell ⟨b, i, none⟩ v) := (Below.refl b w).setCell (show b ≤ (⟨b, i, none⟩ : Addr).block from Nat.le_refl _) v
  obtain ⟨h0, hL⟩ := h.top _ _ rfl
  refine ⟨h.below.trans (hb.mono h0), fun p hp => ?_, (fun p hp => by cases hp), (fun p L' e => by cases e; exact ⟨h0, hL⟩)⟩
  rcases List.mem_cons.1 hp with rfl | hp
  · exact (h.blk (b, cs, t) List.mem_cons_self).set i v
  · exact (h.blk p (List.mem_cons_of_mem _ hp)).below hb (hL p hp)
theorem PR.setTop4 {w0 w : World} {b : Nat} {z0 z1 z2 z3 v0 v1 v2 v3 : Value} {t : TypeId} {L : List (Nat × Array Value × TypeId)} {R : List (Nat × IntKind × TypeId × List Int)} (h : PR w0 ((b, #[z0, z1, z2, z3], t) :: L) R w) :
    PR w0 ((b, #[v0, v1, v2, v3], t) :: L) [] ((((w.setCell ⟨b, 0, none⟩ v0).setCell ⟨b, 1, none⟩ v1).setCell ⟨b, 2, none⟩ v2).setCell ⟨b, 3, none⟩ v3) :=
  (((h.setTop 0 v0).setTop 1 v1).setTop 2 v2).setTop 3 v3
/-- Fewer rows. -/
theorem PR.none {w0 w : World} {L : List (Nat × Array Value × TypeId)} {R : List (Nat × IntKind × TypeId × List Int)} (h : PR w0 L R w) : PR w0 L [] w := ⟨h.below, h.blk, (fun p hp => by cases hp), h.top⟩
theorem toTops_pr {w0 W : World} {L : List (Nat × Array Value × TypeId)} {R : List (Nat × IntKind × TypeId × List Int)} (h : PR w0 L R W) (x : Nat → Int) :
    Calls Tryd.prog 7 #[watV x] W fun e w' => e = .returned (watV x) ∧ PR w0 L R w' := by
  refine (toTops_any x W).mono ?_
  rintro e w' ⟨rfl, hb⟩
  exact ⟨rfl, h.next hb⟩
theorem eqTops_pr {w0 W : World} {L : List (Nat × Array Value × TypeId)} {R : List (Nat × IntKind × TypeId × List Int)} (h : PR w0 L R W) (x : Nat → Int) :
    Calls Tryd.prog 11 #[watV x, watV x] W fun e w' => e = .returned (.bool true) ∧ PR w0 L R w' := by
  refine (eqTops_same x W).mono ?_
  rintro e w' ⟨rfl, hb⟩
  exact ⟨rfl, h.next hb⟩
/-- A contract of a function that reads rows and makes memory, in a frame. -/
theorem Calls.pr {P : Program} {f : FuncId} {args : Array Value} {w0 W : World} {v : Ending} {L : List (Nat × Array Value × TypeId)} {R : List (Nat × IntKind × TypeId × List Int)} (h : PR w0 L R W)
    (hc : Calls P f args W fun e w' => e = v ∧ Below W.heap.size W w') : Calls P f args W fun e w' => e = v ∧ PR w0 L R w' :=
  hc.mono fun _ _ ⟨a, b⟩ => ⟨a, h.next b⟩
theorem toGlasses_pr {w0 W : World} {L : List (Nat × Array Value × TypeId)} {R : List (Nat × IntKind × TypeId × List Int)} (h : PR w0 L R W) (a : Option Addr) (c : Nat) (xs : List Int) (hn : xs.length ≤ 1048576) (hs : Sl .i16 w0.heap.size w0 a xs) :
    Calls Tryd.prog 6 #[.slice a xs.length c] W fun e w' => ∃ g, e = .returned (.slice (some ⟨g, 0, none⟩) xs.length xs.length) ∧ PR w0 L ((g, .i16, 23, xs) :: R) w' := by
  refine (toGlasses_any w0.heap.size a c xs W hn h.size (hs.below h.below)).mono ?_
  rintro e w' ⟨rfl, hk, hb⟩
  exact ⟨_, rfl, (h.next hb).add hk⟩
theorem toByteS_pr {w0 W : World} {L : List (Nat × Array Value × TypeId)} {R : List (Nat × IntKind × TypeId × List Int)} (h : PR w0 L R W) (a : Option Addr) (c : Nat) (xs : List Int) (hn : xs.length ≤ 1048576) (hs : Sl .u8 w0.heap.size w0 a xs) :
    Calls Tryd.prog 8 #[.slice a xs.length c] W fun e w' => ∃ g, e = .returned (.slice (some ⟨g, 0, none⟩) xs.length xs.length) ∧ PR w0 L ((g, .u8, 5, xs) :: R) w' := by
  refine (toByteS_any w0.heap.size a c xs W hn h.size (hs.below h.below)).mono ?_
  rintro e w' ⟨rfl, hk, hb⟩
  exact ⟨_, rfl, (h.next hb).add hk⟩
/-- A run of a plan over copied glasses and sets, in a frame: the times lie behind all blocks. -/
theorem Calls.prun {P : Program} {f : FuncId} {args : Array Value} {v0 : Value} {C : Int} {ts : List Int} {w0 W : World} {L : List (Nat × Array Value × TypeId)} {R : List (Nat × IntKind × TypeId × List Int)} {g g2 : Nat} {t t2 : TypeId} {xs ys : List Int} (h : PR w0 L R W) (hm : (g, .i16, t, xs) ∈ R) (hm2 : (g2, .u8, t2, ys) ∈ R) (hts : ts ≠ [])
    (hc : g < W.heap.size → At .i16 W g 0 xs → g2 < W.heap.size → At .u8 W g2 0 ys → Calls P f args W fun e w' => ∃ v, e = .returned (.tuple #[v, v0, .int .i64 C]) ∧ OwnV .i64 W.heap.size w' v ts ∧ Below W.heap.size W w') :
    Calls P f args W fun e w' => ∃ q c, e = .returned (.tuple #[.slice (some ⟨q, 0, none⟩) ts.length c, v0, .int .i64 C]) ∧ ((∀ p ∈ L, p.1 < q) ∧ w0.heap.size ≤ q ∧ q < w'.heap.size ∧ At .i64 w' q 0 ts ∧ ∀ j, w'.frozen? ⟨q, j, none⟩ = false) ∧ PR w0 L R w' := by
  have r1 := h.row _ hm
  have r2 := h.row _ hm2
  refine (hc r1.lt r1.at r2.lt r2.at).mono ?_
  rintro e w' ⟨v, rfl, ho, hb⟩
  rcases ho with ⟨h0, _⟩ | ⟨q, c, rfl, h1, h2, h3, h4⟩
  · exact absurd h0 hts
  · exact ⟨q, c, rfl, ⟨fun p hp => Nat.lt_of_lt_of_le (h.blk p hp).lt h1, Nat.le_trans h.size h1, h2, h3, h4⟩, h.next hb⟩
theorem Calls.prunE {P : Program} {f : FuncId} {args : Array Value} {v0 : Value} {C : Int} {ts : List Int} {w0 W : World} {L : List (Nat × Array Value × TypeId)} {R : List (Nat × IntKind × TypeId × List Int)} {g g2 : Nat} {t t2 : TypeId} {xs ys : List Int} (h : PR w0 L R W) (hm : (g, .i16, t, xs) ∈ R) (hm2 : (g2, .u8, t2, ys) ∈ R) (hts : ts = [])
    (hc : g < W.heap.size → At .i16 W g 0 xs → g2 < W.heap.size → At .u8 W g2 0 ys → Calls P f args W fun e w' => ∃ v, e = .returned (.tuple #[v, v0, .int .i64 C]) ∧ OwnV .i64 W.heap.size w' v ts ∧ Below W.heap.size W w') :
    Calls P f args W fun e w' => ∃ a c, e = .returned (.tuple #[.slice a 0 c, v0, .int .i64 C]) ∧ PR w0 L R w' := by
  have r1 := h.row _ hm
  have r2 := h.row _ hm2
  refine (hc r1.lt r1.at r2.lt r2.at).mono ?_
  rintro e w' ⟨v, rfl, ho, hb⟩
  subst hts
  rcases ho with ⟨_, a, c, rfl⟩ | ⟨q, c, rfl, _⟩
  · exact ⟨a, c, rfl, h.next hb⟩
  · exact ⟨_, c, rfl, h.next hb⟩
end Go.Proofs.YtmjkhkhjliadcaaDoor
