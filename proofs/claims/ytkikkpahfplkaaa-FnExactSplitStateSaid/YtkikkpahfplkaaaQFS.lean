/-
  (States.) What a law keeps in memory: for each of its blocks a fact that speaks of this block alone.
-/
import Derived.Test.YtkikkpahfplkaaaZ22
import Derived.Deep.RegionHeld3
import Derived.Deep.DeepCutAuto
namespace Go.Proofs.Ytkikkpahfplkaaa
open Go.RowKit
set_option linter.unusedVariables false

def OnB (b : Nat) (Q : World → Prop) : Prop := ∀ W W' : World, W'.heap[b]? = W.heap[b]? → Q W → Q W'
def blkQ (b : Nat) (cs : Array Value) (t : TypeId) (W : World) : Prop := Blk W b cs t
def anyQ (W : World) : Prop := True
theorem on_blk (b : Nat) (cs : Array Value) (t : TypeId) : OnB b (blkQ b cs t) := fun W W' e h => Eq.trans e h
theorem on_any (b : Nat) : OnB b anyQ := fun _ _ _ _ => trivial
abbrev QL := List (Nat × (World → Prop))
structure QF (w0 : World) (S : QL) (w : World) : Prop where
  below : Below w0.heap.size w0 w
  lt : ∀ p ∈ S, w0.heap.size ≤ p.1 ∧ p.1 < w.heap.size
  ok : ∀ p ∈ S, p.2 w
  on : ∀ p ∈ S, OnB p.1 p.2
  nd : (S.map Prod.fst).Nodup
section
variable {w0 w w' : World} {S S' : QL} {b : Nat} {Q Q' : World → Prop}
theorem QF.size (h : QF w0 S w) : w0.heap.size ≤ w.heap.size := h.below.size
theorem QF.next (h : QF w0 S w) (hb : Below w.heap.size w w') : QF w0 S w' :=
  ⟨h.below.trans (hb.mono h.size), fun p hp => ⟨(h.lt p hp).1, Nat.lt_of_lt_of_le (h.lt p hp).2 hb.size⟩, fun p hp => h.on p hp w w' (hb.block _ (h.lt p hp).2) (h.ok p hp), h.on, h.nd⟩
theorem QF.add (h : QF w0 S w) (hb : Below w.heap.size w w') (h1 : w.heap.size ≤ b) (h2 : b < w'.heap.size) (hq : Q w') (ho : OnB b Q) : QF w0 ((b, Q) :: S) w' := by
  have h3 := h.next hb
  refine ⟨h3.below, fun p hp => ?_, fun p hp => ?_, fun p hp => ?_, ?_⟩
  · rcases List.mem_cons.1 hp with rfl | hp
    · exact ⟨Nat.le_trans h.size h1, h2⟩
    · exact h3.lt p hp
  · rcases List.mem_cons.1 hp with rfl | hp
    · exact hq
    · exact h3.ok p hp
  · rcases List.mem_cons.1 hp with rfl | hp
    · exact ho
    · exact h3.on p hp
  · rw [List.map_cons, List.nodup_cons]
    refine ⟨fun hm => ?_, h.nd⟩
    obtain ⟨p, hp, e⟩ := List.mem_map.1 hm
    have := (h.lt p hp).2
    simp only at e
    omega
theorem QF.box (h : QF w0 S w) (cs : Array Value) (t : TypeId) : QF w0 ((w.heap.size, blkQ w.heap.size cs t) :: S) (w.alloc (.cells cs t)) :=
  h.add ((Below.refl _ _).alloc (Nat.le_refl _) _) (Nat.le_refl _) (by rw [World.size_alloc]; omega) (blk_new w cs t) (on_blk _ _ _)
theorem QF.perm (h : QF w0 S w) (hp : S.Perm S') : QF w0 S' w :=
  ⟨h.below, fun p hq => h.lt p (hp.mem_iff.2 hq), fun p hq => h.ok p (hp.mem_iff.2 hq), fun p hq => h.on p (hp.mem_iff.2 hq), (hp.map Prod.fst).nodup_iff.1 h.nd⟩
theorem QF.put (h : QF w0 ((b, Q) :: S) w) (ho : Only b w w') (hq : Q' w') (hon : OnB b Q') : QF w0 ((b, Q') :: S) w' := by
  have hnd := h.nd
  rw [List.map_cons, List.nodup_cons] at hnd
  have hb := h.lt _ List.mem_cons_self
  have hbel : Below b w w' := ⟨ho.os, ho.tape, ho.output, by rw [ho.size]; exact Nat.le_refl _, fun k hk => ho.block k (by omega)⟩
  refine ⟨h.below.trans (hbel.mono hb.1), fun p hp => ?_, fun p hp => ?_, fun p hp => ?_, by rw [List.map_cons, List.nodup_cons]; exact hnd⟩
  · rw [ho.size]
    rcases List.mem_cons.1 hp with rfl | hp
    · exact hb
    · exact h.lt p (List.mem_cons_of_mem _ hp)
  · rcases List.mem_cons.1 hp with rfl | hp
    · exact hq
    · refine h.on p (List.mem_cons_of_mem _ hp) w w' (ho.block p.1 (fun e => hnd.1 (List.mem_map.2 ⟨p, hp, e⟩))) (h.ok p (List.mem_cons_of_mem _ hp))
  · rcases List.mem_cons.1 hp with rfl | hp
    · exact hon
    · exact h.on p (List.mem_cons_of_mem _ hp)
theorem QF.tail {p : Nat × (World → Prop)} (h : QF w0 (p :: S) w) : QF w0 S w :=
  ⟨h.below, fun q hq => h.lt q (List.mem_cons_of_mem _ hq), fun q hq => h.ok q (List.mem_cons_of_mem _ hq), fun q hq => h.on q (List.mem_cons_of_mem _ hq), (by have := h.nd; rw [List.map_cons, List.nodup_cons] at this; exact this.2)⟩
theorem QF.cons (h : QF w0 S w) (h1 : w0.heap.size ≤ b) (h2 : b < w.heap.size) (hq : Q w) (ho : OnB b Q) (hne : ∀ p ∈ S, p.1 ≠ b) : QF w0 ((b, Q) :: S) w := by
  refine ⟨h.below, fun p hp => ?_, fun p hp => ?_, fun p hp => ?_, ?_⟩
  · rcases List.mem_cons.1 hp with rfl | hp
    · exact ⟨h1, h2⟩
    · exact h.lt p hp
  · rcases List.mem_cons.1 hp with rfl | hp
    · exact hq
    · exact h.ok p hp
  · rcases List.mem_cons.1 hp with rfl | hp
    · exact ho
    · exact h.on p hp
  · rw [List.map_cons, List.nodup_cons]
    refine ⟨fun hm => ?_, h.nd⟩
    obtain ⟨p, hp, e⟩ := List.mem_map.1 hm
    exact hne p hp e
theorem QF.start (w : World) : QF w [] w := ⟨Below.refl _ _, (fun p h => by cases h), (fun p h => by cases h), (fun p h => by cases h), List.nodup_nil⟩
theorem QF.drew (h : QF w0 S w) : QF w0 S w.drew := h.next (Below.refl _ _).drew
theorem QF.sub {S' : QL} (h : QF w0 S w) (hs : S'.Sublist S) : QF w0 S' w :=
  ⟨h.below, fun p hp => h.lt p (hs.subset hp), fun p hp => h.ok p (hs.subset hp), fun p hp => h.on p (hs.subset hp), (hs.map Prod.fst).nodup h.nd⟩
/-- The world behind four stores into a block. -/
abbrev put4 (W : World) (B : Nat) (x : Nat → Int) : World := (((W.setCell ⟨B, 0, none⟩ (.int .i64 (x 0))).setCell ⟨B, 1, none⟩ (.int .i64 (x 1))).setCell ⟨B, 2, none⟩ (.int .i64 (x 2))).setCell ⟨B, 3, none⟩ (.int .i64 (x 3))
theorem only_put4 (W : World) (B : Nat) (x : Nat → Int) : Only B W (put4 W B x) := ((((Only.refl B W).setCell _ _).setCell _ _).setCell _ _).setCell _ _
theorem size_put4 (W : World) (B : Nat) (x : Nat → Int) : (put4 W B x).heap.size = W.heap.size := (only_put4 W B x).size
theorem QF.p0 {t : TypeId} {z0 z1 z2 z3 : Value} {x : Nat → Int} (h : QF w0 ((b, blkQ b #[z0, z1, z2, z3] t) :: S) w) : QF w0 ((b, blkQ b (staC x) t) :: S) (put4 w b x) :=
  h.put (only_put4 w b x) ((((Blk.set (h.ok _ List.mem_cons_self) 0 _).set 1 _).set 2 _).set 3 _) (on_blk _ _ _)
theorem QF.p1 {t : TypeId} {z0 z1 z2 z3 : Value} {x : Nat → Int} {e : Nat × (World → Prop)} (h : QF w0 (e :: (b, blkQ b #[z0, z1, z2, z3] t) :: S) w) : QF w0 (e :: (b, blkQ b (staC x) t) :: S) (put4 w b x) :=
  (((h.perm (List.Perm.swap _ _ _)).p0).perm (List.Perm.swap _ _ _))
theorem QF.cells {t : TypeId} {z0 z1 z2 z3 : Value} (h : QF w0 S w) (hm : (b, blkQ b #[z0, z1, z2, z3] t) ∈ S) :
    w.cell? ⟨b, 0, none⟩ = some z0 ∧ w.cell? ⟨b, 1, none⟩ = some z1 ∧ w.cell? ⟨b, 2, none⟩ = some z2 ∧ w.cell? ⟨b, 3, none⟩ = some z3 ∧ ∀ i, w.frozen? ⟨b, i, none⟩ = false := Blk.four (h.ok _ hm)
theorem QF.ne01 {p q : Nat × (World → Prop)} (h : QF w0 (p :: q :: S) w) : p.1 ≠ q.1 ∧ q.1 ≠ p.1 := by
  have hn := h.nd
  rw [List.map_cons, List.nodup_cons] at hn
  have : p.1 ≠ q.1 := fun e => hn.1 (by rw [e]; exact List.mem_map.2 ⟨q, List.mem_cons_self, rfl⟩)
  exact ⟨this, fun e => this e.symm⟩
theorem toState_q (h : QF w0 S w) (x : Nat → Int) : Calls Try.prog 5 #[staV x] w fun e w' => e = .returned (staV x) ∧ QF w0 S w' := by
  refine (toState_any x w).mono ?_
  rintro e w' ⟨rfl, hb⟩
  exact ⟨rfl, h.next hb⟩
theorem eqState_q (h : QF w0 S w) (x : Nat → Int) : Calls Try.prog 7 #[staV x, staV x] w fun e w' => e = .returned (.bool true) ∧ QF w0 S w' := by
  refine (eqState_same x w).mono ?_
  rintro e w' ⟨rfl, hb⟩
  exact ⟨rfl, h.next hb⟩
theorem Calls.q {P : Program} {f : FuncId} {args : Array Value} {v : Ending} (h : QF w0 S w) (hc : Calls P f args w fun e w' => e = v ∧ Below w.heap.size w w') : Calls P f args w fun e w' => e = v ∧ QF w0 S w' :=
  hc.mono fun _ _ ⟨a, b⟩ => ⟨a, h.next b⟩
theorem QF.boxA {o : Obj} (h : QF w0 S (w.alloc o)) (cs : Array Value) (t : TypeId) : QF w0 ((w.heap.size + 1, blkQ (w.heap.size + 1) cs t) :: S) ((w.alloc o).alloc (.cells cs t)) := by
  have := h.box cs t
  rwa [World.size_alloc] at this
theorem QF.box4 {x : Nat → Int} (h : QF w0 S (put4 w b x)) (cs : Array Value) (t : TypeId) : QF w0 ((w.heap.size, blkQ w.heap.size cs t) :: S) ((put4 w b x).alloc (.cells cs t)) := by
  have := h.box cs t
  rwa [size_put4] at this
end
end Go.Proofs.Ytkikkpahfplkaaa
