/-
  Tasks, cases and weighings as they come in: their values; blocks of a call's own, and frames of them.
-/
import Derived.Test.YtgadcggeoonihaaDoorLaw
import Derived.OpenShut
import Derived.Laws.IdiomArrays
import Derived.Laws.Rows
import Derived.Lib.SmallJoins
import Derived.Deep.RegionHeld3
import Derived.Deep.MidRow
namespace Go.Proofs.YtgadcggeoonihaaDoor
open Go.RowKit Go.ChangeShapes Go.WideShapes
set_option maxRecDepth 100000
set_option linter.unusedVariables false

/-- The value of a task. -/
abbrev taskV (c k : Int) (n g : Bool) : Value := .agg #[.int .i8 c, .int .i8 k, .bool n, .bool g]
/-- The value of a case. -/
abbrev caseV (c : Int) (h : Bool) : Value := .agg #[.int .i8 c, .bool h]
/-- The value of a weighing. -/
abbrev weigV (x : Nat → Int) : Value := .agg #[.int .i8 (x 0), .int .i8 (x 1), .int .i8 (x 2), .int .i8 (x 3), .int .i8 (x 4), .int .i8 (x 5), .int .i8 (x 6), .int .i8 (x 7), .int .i8 (x 8), .int .i8 (x 9), .int .i8 (x 10), .int .i8 (x 11), .int .i8 (x 12), .int .i8 (x 13)]
/-- The cells of a weighing. -/
abbrev weigC (x : Nat → Int) : Array Value := #[.int .i8 (x 0), .int .i8 (x 1), .int .i8 (x 2), .int .i8 (x 3), .int .i8 (x 4), .int .i8 (x 5), .int .i8 (x 6), .int .i8 (x 7), .int .i8 (x 8), .int .i8 (x 9), .int .i8 (x 10), .int .i8 (x 11), .int .i8 (x 12), .int .i8 (x 13)]
def B8 (n : Int) : Prop := -128 ≤ n ∧ n ≤ 127
def W8 (x : Nat → Int) : Prop := ∀ i, i < 14 → -128 ≤ x i ∧ x i ≤ 127
/-- Block b is a block of these cells. -/
def Blk (w : World) (b : Nat) (cs : Array Value) (t : TypeId) : Prop := w.heap[b]? = some (.cells cs t (0, 0))
theorem Blk.lt {w : World} {b : Nat} {cs : Array Value} {t : TypeId} (h : Blk w b cs t) : b < w.heap.size := by
  unfold Blk at h
  rcases Nat.lt_or_ge b w.heap.size with h' | h'
  · exact h'
  · simp [Array.getElem?_eq_none h'] at h
theorem Blk.below {w w' : World} {b B : Nat} {cs : Array Value} {t : TypeId} (h : Blk w b cs t) (hb : Below B w w') (hB : b < B) : Blk w' b cs t := (hb.block b hB).trans h
theorem Blk.cell {w : World} {b : Nat} {cs : Array Value} {t : TypeId} (h : Blk w b cs t) (i : Nat) : w.cell? ⟨b, i, none⟩ = cs[i]? := cell_of_row w b i cs t _ h
theorem Blk.free {w : World} {b : Nat} {cs : Array Value} {t : TypeId} (h : Blk w b cs t) (i : Nat) : w.frozen? ⟨b, i, none⟩ = false := by unfold Blk at h; simp [World.frozen?, h]
theorem Blk.set {w : World} {b : Nat} {cs : Array Value} {t : TypeId} (h : Blk w b cs t) (i : Nat) (v : Value) : Blk (w.setCell ⟨b, i, none⟩ v) b (cs.setIfInBounds i v) t := heap_setCell_same w b i cs t v h
theorem Blk.setOther {w : World} {b : Nat} {cs : Array Value} {t : TypeId} (h : Blk w b cs t) {g : Nat} (hg : b ≠ g) (i : Nat) (v : Value) : Blk (w.setCell ⟨g, i, none⟩ v) b cs t := (heap_setCell_other w ⟨g, i, none⟩ b v hg).trans h
theorem Blk.alloc {w : World} {b : Nat} {cs : Array Value} {t : TypeId} (h : Blk w b cs t) (o : Obj) : Blk (w.alloc o) b cs t := (Below.heap_alloc w o b h.lt).trans h
theorem Blk.drewN {w : World} {b : Nat} {cs : Array Value} {t : TypeId} (h : Blk w b cs t) (q : Nat) : Blk (w.drewN q) b cs t := h
theorem blk_new (w : World) (cs : Array Value) (t : TypeId) : Blk (w.alloc (.cells cs t)) w.heap.size cs t := heap_alloc_new w _
theorem Blk.two {w : World} {b : Nat} {a0 a1 : Value} {t : TypeId} (h : Blk w b #[a0, a1] t) :
    w.cell? ⟨b, 0, none⟩ = some a0 ∧ w.cell? ⟨b, 1, none⟩ = some a1 ∧ ∀ i, w.frozen? ⟨b, i, none⟩ = false :=
  ⟨h.cell 0, h.cell 1, h.free⟩
theorem Blk.four {w : World} {b : Nat} {a0 a1 a2 a3 : Value} {t : TypeId} (h : Blk w b #[a0, a1, a2, a3] t) :
    w.cell? ⟨b, 0, none⟩ = some a0 ∧ w.cell? ⟨b, 1, none⟩ = some a1 ∧ w.cell? ⟨b, 2, none⟩ = some a2 ∧ w.cell? ⟨b, 3, none⟩ = some a3 ∧ ∀ i, w.frozen? ⟨b, i, none⟩ = false :=
  ⟨h.cell 0, h.cell 1, h.cell 2, h.cell 3, h.free⟩
theorem weigC_get (x : Nat → Int) (i : Nat) (h : i < 14) : (weigC x)[i]? = some (.int .i8 (x i)) := by
  match i, h with
  | 0, _ => rfl
  | 1, _ => rfl
  | 2, _ => rfl
  | 3, _ => rfl
  | 4, _ => rfl
  | 5, _ => rfl
  | 6, _ => rfl
  | 7, _ => rfl
  | 8, _ => rfl
  | 9, _ => rfl
  | 10, _ => rfl
  | 11, _ => rfl
  | 12, _ => rfl
  | 13, _ => rfl
theorem Blk.weig {w : World} {b : Nat} {x : Nat → Int} {t : TypeId} (h : Blk w b (weigC x) t) (i : Nat) (hi : i < 14) : w.cell? ⟨b, i, none⟩ = some (.int .i8 (x i)) := (h.cell i).trans (weigC_get x i hi)

theorem Blk.range {w : World} {b : Nat} {cs : Array Value} {t : TypeId} (h : Blk w b cs t) : w.rangeAt b 0 cs.toList := fun j v hj => by rw [Nat.zero_add, h.cell]; simpa using hj
/-- The blocks of L stand; what was there at the beginning is as it was. -/
structure FR (w0 : World) (L : List (Nat × Array Value × TypeId)) (w : World) : Prop where
  below : Below w0.heap.size w0 w
  blk : ∀ p ∈ L, Blk w p.1 p.2.1 p.2.2
  top : ∀ p L', L = p :: L' → w0.heap.size ≤ p.1 ∧ ∀ q ∈ L', q.1 < p.1
theorem FR.start (w : World) : FR w [] w := ⟨Below.refl _ _, (fun p h => by cases h), fun p L' h => by cases h⟩
theorem FR.next {w0 w w' : World} {L : List (Nat × Array Value × TypeId)} (h : FR w0 L w) (hb : Below w.heap.size w w') : FR w0 L w' :=
  ⟨h.below.trans (hb.mono h.below.size), fun p hp => (h.blk p hp).below hb (h.blk p hp).lt, h.top⟩
theorem FR.drew {w0 w : World} {L : List (Nat × Array Value × TypeId)} (h : FR w0 L w) : FR w0 L w.drew := h.next (Below.refl _ _).drew
theorem FR.drewN {w0 w : World} {L : List (Nat × Array Value × TypeId)} (h : FR w0 L w) (q : Nat) : FR w0 L (w.drewN q) := h.next (below_drewN (Below.refl _ _) q)
theorem FR.box {w0 w : World} {L : List (Nat × Array Value × TypeId)} (h : FR w0 L w) (cs : Array Value) (t : TypeId) : FR w0 ((w.heap.size, cs, t) :: L) (w.alloc (.cells cs t)) := by
  have h1 := h.next ((Below.refl w.heap.size w).alloc (Nat.le_refl _) (.cells cs t))
  refine ⟨h1.below, fun p hp => ?_, fun p L' e => ?_⟩
  · rcases List.mem_cons.1 hp with rfl | hp
    · exact blk_new w cs t
    · exact h1.blk p hp
  · cases e
    exact ⟨h.below.size, fun q hq => (h.blk q hq).lt⟩
theorem FR.size {w0 w : World} {L : List (Nat × Array Value × TypeId)} (h : FR w0 L w) : w0.heap.size ≤ w.heap.size := h.below.size
/-- A new block that a call has made. -/
theorem FR.add {w0 w w' : World} {L : List (Nat × Array Value × TypeId)} (h : FR w0 L w) (hb : Below w.heap.size w w') {g : Nat} {cs : Array Value} {t : TypeId} (hg : w.heap.size ≤ g) (hr : Blk w' g cs t) : FR w0 ((g, cs, t) :: L) w' := by
  have h1 := h.next hb
  refine ⟨h1.below, fun p hp => ?_, fun p L' e => ?_⟩
  · rcases List.mem_cons.1 hp with rfl | hp
    · exact hr
    · exact h1.blk p hp
  · cases e
    exact ⟨Nat.le_trans h.below.size hg, fun q hq => Nat.lt_of_lt_of_le (h.blk q hq).lt hg⟩
/-- Fewer blocks. -/
theorem FR.bare {w0 w : World} {L : List (Nat × Array Value × TypeId)} (h : FR w0 L w) : FR w0 [] w := ⟨h.below, (fun p hp => by cases hp), fun p L' h => by cases h⟩
theorem FR.tail {w0 w : World} {p : Nat × Array Value × TypeId} {L : List (Nat × Array Value × TypeId)} (h : FR w0 (p :: L) w) (hs : ∀ q L', L = q :: L' → w0.heap.size ≤ q.1 ∧ ∀ r ∈ L', r.1 < q.1) : FR w0 L w := ⟨h.below, fun q hq => h.blk q (List.mem_cons_of_mem _ hq), hs⟩
/-- A store into the newest block of a frame. -/
theorem FR.setTop {w0 w : World} {b : Nat} {cs : Array Value} {t : TypeId} {L : List (Nat × Array Value × TypeId)} (h : FR w0 ((b, cs, t) :: L) w) (i : Nat) (v : Value) :
    FR w0 ((b, cs.setIfInBounds i v, t) :: L) (w.setCell ⟨b, i, none⟩ v) := by
  have hb : Below b w (w.setCell ⟨b, i, none⟩ v) := (Below.refl b w).setCell (show b ≤ (⟨b, i, none⟩ : Addr).block from Nat.le_refl _) v
  obtain ⟨h0, hL⟩ := h.top _ _ rfl
  refine ⟨h.below.trans (hb.mono h0), fun p hp => ?_, (fun p L' e => by cases e; exact ⟨h0, hL⟩)⟩
  rcases List.mem_cons.1 hp with rfl | hp
  · exact (h.blk (b, cs, t) List.mem_cons_self).set i v
  · exact (h.blk p (List.mem_cons_of_mem _ hp)).below hb (hL p hp)
/-- A contract of a function that reads and makes memory, in a frame. -/
theorem Calls.fr {P : Program} {f : FuncId} {args : Array Value} {w0 W : World} {v : Ending} {L : List (Nat × Array Value × TypeId)} (h : FR w0 L W)
    (hc : Calls P f args W fun e w' => e = v ∧ Below W.heap.size W w') : Calls P f args W fun e w' => e = v ∧ FR w0 L w' :=
  hc.mono fun _ _ ⟨a, b⟩ => ⟨a, h.next b⟩
theorem Calls.fr0 {P : Program} {f : FuncId} {args : Array Value} {w0 W : World} {v : Ending} {L : List (Nat × Array Value × TypeId)} (h : FR w0 L W)
    (hc : Calls P f args W fun e w' => e = v ∧ W = w') : Calls P f args W fun e w' => e = v ∧ FR w0 L w' :=
  hc.mono fun _ _ ⟨a, b⟩ => ⟨a, b ▸ h⟩
theorem Calls.frd {P : Program} {f : FuncId} {args : Array Value} {w0 W : World} {v : Ending} {L : List (Nat × Array Value × TypeId)} (h : FR w0 L W)
    (hc : Calls P f args W fun e w' => e = v ∧ Dr W w') : Calls P f args W fun e w' => e = v ∧ FR w0 L w' :=
  hc.mono fun _ _ ⟨a, b⟩ => ⟨a, h.next b.below⟩
theorem Calls.drb {P : Program} {f : FuncId} {args : Array Value} {W : World} {v : Ending} 
    (hc : Calls P f args W fun e w' => e = v ∧ Dr W w') : Calls P f args W fun e w' => e = v ∧ Below W.heap.size W w' :=
  hc.mono fun _ _ ⟨a, b⟩ => ⟨a, b.below⟩

section
variable {H : Type} {enc : TypeId × Value → H} {w : World} {base : Nat} {r : Reach} {b0 : Nat}
theorem weig_cells {n : Nat} {t : TypeId} {cs : List Value} {y : DataW H × List MemPlace} (ht : Tryd.prog.underlying t = some (.array 14 22)) (h : DataW.trod enc Tryd.prog w base (fun _ => true) true n t cs = some y) (hl : cs.length = 14) :
    ∃ x : Nat → Int, cs = (weigC x).toList ∧ W8 x := by
  have hC1 : Tryd.prog.cellsOf 22 = 1 := by kernel_rfl
  obtain ⟨xs, m, _, _, _, hxl, hg⟩ := DataW.trod_array ht h
  simp only [hC1] at hg
  match cs, hl with
  | [c0, c1, c2, c3, c4, c5, c6, c7, c8, c9, c10, c11, c12, c13], _ =>
  match xs, hxl with
  | [y0, y1, y2, y3, y4, y5, y6, y7, y8, y9, y10, y11, y12, y13], _ =>
    have h0 : DataW.trod enc Tryd.prog w base (fun _ => true) true m 22 [c0] = some y0 := hg 0 (by decide)
    have h1 : DataW.trod enc Tryd.prog w base (fun _ => true) true m 22 [c1] = some y1 := hg 1 (by decide)
    have h2 : DataW.trod enc Tryd.prog w base (fun _ => true) true m 22 [c2] = some y2 := hg 2 (by decide)
    have h3 : DataW.trod enc Tryd.prog w base (fun _ => true) true m 22 [c3] = some y3 := hg 3 (by decide)
    have h4 : DataW.trod enc Tryd.prog w base (fun _ => true) true m 22 [c4] = some y4 := hg 4 (by decide)
    have h5 : DataW.trod enc Tryd.prog w base (fun _ => true) true m 22 [c5] = some y5 := hg 5 (by decide)
    have h6 : DataW.trod enc Tryd.prog w base (fun _ => true) true m 22 [c6] = some y6 := hg 6 (by decide)
    have h7 : DataW.trod enc Tryd.prog w base (fun _ => true) true m 22 [c7] = some y7 := hg 7 (by decide)
    have h8 : DataW.trod enc Tryd.prog w base (fun _ => true) true m 22 [c8] = some y8 := hg 8 (by decide)
    have h9 : DataW.trod enc Tryd.prog w base (fun _ => true) true m 22 [c9] = some y9 := hg 9 (by decide)
    have h10 : DataW.trod enc Tryd.prog w base (fun _ => true) true m 22 [c10] = some y10 := hg 10 (by decide)
    have h11 : DataW.trod enc Tryd.prog w base (fun _ => true) true m 22 [c11] = some y11 := hg 11 (by decide)
    have h12 : DataW.trod enc Tryd.prog w base (fun _ => true) true m 22 [c12] = some y12 := hg 12 (by decide)
    have h13 : DataW.trod enc Tryd.prog w base (fun _ => true) true m 22 [c13] = some y13 := hg 13 (by decide)
    obtain ⟨a0, e0, _, w0⟩ := DataW.trod_int Tryd.underlying22 h0
    obtain ⟨a1, e1, _, w1⟩ := DataW.trod_int Tryd.underlying22 h1
    obtain ⟨a2, e2, _, w2⟩ := DataW.trod_int Tryd.underlying22 h2
    obtain ⟨a3, e3, _, w3⟩ := DataW.trod_int Tryd.underlying22 h3
    obtain ⟨a4, e4, _, w4⟩ := DataW.trod_int Tryd.underlying22 h4
    obtain ⟨a5, e5, _, w5⟩ := DataW.trod_int Tryd.underlying22 h5
    obtain ⟨a6, e6, _, w6⟩ := DataW.trod_int Tryd.underlying22 h6
    obtain ⟨a7, e7, _, w7⟩ := DataW.trod_int Tryd.underlying22 h7
    obtain ⟨a8, e8, _, w8⟩ := DataW.trod_int Tryd.underlying22 h8
    obtain ⟨a9, e9, _, w9⟩ := DataW.trod_int Tryd.underlying22 h9
    obtain ⟨a10, e10, _, w10⟩ := DataW.trod_int Tryd.underlying22 h10
    obtain ⟨a11, e11, _, w11⟩ := DataW.trod_int Tryd.underlying22 h11
    obtain ⟨a12, e12, _, w12⟩ := DataW.trod_int Tryd.underlying22 h12
    obtain ⟨a13, e13, _, w13⟩ := DataW.trod_int Tryd.underlying22 h13
    simp only [List.cons.injEq, and_true] at e0 e1 e2 e3 e4 e5 e6 e7 e8 e9 e10 e11 e12 e13
    subst e0 e1 e2 e3 e4 e5 e6 e7 e8 e9 e10 e11 e12 e13
    refine ⟨fun i => [a0, a1, a2, a3, a4, a5, a6, a7, a8, a9, a10, a11, a12, a13].getD i 0, rfl, fun i hi => ?_⟩
    match i, hi with
    | 0, _ => exact bounds_i8 w0
    | 1, _ => exact bounds_i8 w1
    | 2, _ => exact bounds_i8 w2
    | 3, _ => exact bounds_i8 w3
    | 4, _ => exact bounds_i8 w4
    | 5, _ => exact bounds_i8 w5
    | 6, _ => exact bounds_i8 w6
    | 7, _ => exact bounds_i8 w7
    | 8, _ => exact bounds_i8 w8
    | 9, _ => exact bounds_i8 w9
    | 10, _ => exact bounds_i8 w10
    | 11, _ => exact bounds_i8 w11
    | 12, _ => exact bounds_i8 w12
    | 13, _ => exact bounds_i8 w13
theorem c1_mark : True := trivial
end
end Go.Proofs.YtgadcggeoonihaaDoor
