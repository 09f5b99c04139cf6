/-
  What a law keeps in memory: for each of its blocks a fact that speaks of this block alone.
-/
import Derived.Test.YtmjkhkhjliadcaaDoorPRF
namespace Go.Proofs.YtmjkhkhjliadcaaDoor
open Go.RowKit
set_option linter.unusedVariables false

def OnB (b : Nat) (Q : World → Prop) : Prop := ∀ W W' : World, W'.heap[b]? = W.heap[b]? → Q W → Q W'
def blkQ (b : Nat) (cs : Array Value) (t : TypeId) (W : World) : Prop := Blk W b cs t
def ownQ (b : Nat) (xs : List Int) (W : World) : Prop := At .i64 W b 0 xs ∧ ∀ j, W.frozen? ⟨b, j, none⟩ = false
def mkQ (b n : Nat) (W : World) : Prop := MarkedAt .i64 W b n
def anyQ (W : World) : Prop := True
theorem on_blk (b : Nat) (cs : Array Value) (t : TypeId) : OnB b (blkQ b cs t) := fun W W' e h => Eq.trans e h
theorem on_own (b : Nat) (xs : List Int) : OnB b (ownQ b xs) := fun W W' e h => by
  refine ⟨fun j hj => (World.cell?_of_block (w := W) (a := ⟨b, 0 + j, none⟩) e).trans (h.1 j hj), fun j => ?_⟩
  have := h.2 j
  simp only [World.frozen?] at this ⊢
  rw [e]; exact this
theorem on_mk (b n : Nat) : OnB b (mkQ b n) := fun W W' e h j hj => (World.cell?_of_block (w := W) (a := ⟨b, j, none⟩) e).trans (h j hj)
theorem on_any (b : Nat) : OnB b anyQ := fun _ _ _ _ => trivial
abbrev QL := List (Nat × (World → Prop))
structure QF (w0 : World) (S : QL) (w : World) : Prop where
  below : Below w0.heap.size w0 w
  lt : ∀ p ∈ S, w0.heap.size ≤ p.1 ∧ p.1 < w.heap.size
  ok : ∀ p ∈ S, p.2 w
  on : ∀ p ∈ S, OnB p.1 p.2
  nd : (S.map Prod.fst).Nodup
section
variable {w0 w w' : World} {S S' : QL} {b : Nat} {Q Q' : World → Prop}
theorem QF.size (h : QF w0 S w) : w0.heap.size ≤ w.heap.size := h.below.size
theorem QF.next (h : QF w0 S w) (hb : Below w.heap.size w w') : QF w0 S w' :=
  ⟨h.below.trans (hb.mono h.size), fun p hp => ⟨(h.lt p hp).1, Nat.lt_of_lt_of_le (h.lt p hp).2 hb.size⟩, fun p hp => h.on p hp w w' (hb.block _ (h.lt p hp).2) (h.ok p hp), h.on, h.nd⟩
theorem QF.add (h : QF w0 S w) (hb : Below w.heap.size w w') (h1 : w.heap.size ≤ b) (h2 : b < w'.heap.size) (hq : Q w') (ho : OnB b Q) : QF w0 ((b, Q) :: S) w' := by
  have h3 := h.next hb
  refine ⟨h3.below, fun p hp => ?_, fun p hp => ?_, fun p hp => ?_, ?_⟩
  · rcases List.mem_cons.1 hp with rfl | hp
    · exact ⟨Nat.le_trans h.size h1, h2⟩
    · exact h3.lt p hp
  · rcases List.mem_cons.1 hp with rfl | hp
    · exact hq
    · exact h3.ok p hp
  · rcases List.mem_cons.1 hp with rfl | hp
    · exact ho
    · exact h3.on p hp
  · rw [List.map_cons, List.nodup_cons]
    refine ⟨fun hm => ?_, h.nd⟩
    obtain ⟨p, hp, e⟩ := List.mem_map.1 hm
    have := (h.lt p hp).2
    simp only at e
    omega
theorem QF.box (h : QF w0 S w) (cs : Array Value) (t : TypeId) : QF w0 ((w.heap.size, blkQ w.heap.size cs t) :: S) (w.alloc (.cells cs t)) :=
  h.add ((Below.refl _ _).alloc (Nat.le_refl _) _) (Nat.le_refl _) (by rw [World.size_alloc]; omega) (blk_new w cs t) (on_blk _ _ _)
theorem QF.perm (h : QF w0 S w) (hp : S.Perm S') : QF w0 S' w :=
  ⟨h.below, fun p hq => h.lt p (hp.mem_iff.2 hq), fun p hq => h.ok p (hp.mem_iff.2 hq), fun p hq => h.on p (hp.mem_iff.2 hq), (hp.map Prod.fst).nodup_iff.1 h.nd⟩
theorem QF.put (h : QF w0 ((b, Q) :: S) w) (ho : Only b w w') (hq : Q' w') (hon : OnB b Q') : QF w0 ((b, Q') :: S) w' := by
  have hnd := h.nd
  rw [List.map_cons, List.nodup_cons] at hnd
  have hb := h.lt _ List.mem_cons_self
  have hbel : Below b w w' := ⟨ho.os, ho.tape, ho.output, by rw [ho.size]; exact Nat.le_refl _, fun k hk => ho.block k (by omega)⟩
  refine ⟨h.below.trans (hbel.mono hb.1), fun p hp => ?_, fun p hp => ?_, fun p hp => ?_, by rw [List.map_cons, List.nodup_cons]; exact hnd⟩
  · rw [ho.size]
    rcases List.mem_cons.1 hp with rfl | hp
    · exact hb
    · exact h.lt p (List.mem_cons_of_mem _ hp)
  · rcases List.mem_cons.1 hp with rfl | hp
    · exact hq
    · refine h.on p (List.mem_cons_of_mem _ hp) w w' (ho.block p.1 (fun e => hnd.1 (List.mem_map.2 ⟨p, hp, e⟩))) (h.ok p (List.mem_cons_of_mem _ hp))
  · rcases List.mem_cons.1 hp with rfl | hp
    · exact hon
    · exact h.on p (List.mem_cons_of_mem _ hp)
theorem QF.tail {p : Nat × (World → Prop)} (h : QF w0 (p :: S) w) : QF w0 S w :=
  ⟨h.below, fun q hq => h.lt q (List.mem_cons_of_mem _ hq), fun q hq => h.ok q (List.mem_cons_of_mem _ hq), fun q hq => h.on q (List.mem_cons_of_mem _ hq), (by have := h.nd; rw [List.map_cons, List.nodup_cons] at this; exact this.2)⟩
theorem QF.cons (h : QF w0 S w) (h1 : w0.heap.size ≤ b) (h2 : b < w.heap.size) (hq : Q w) (ho : OnB b Q) (hne : ∀ p ∈ S, p.1 ≠ b) : QF w0 ((b, Q) :: S) w := by
  refine ⟨h.below, fun p hp => ?_, fun p hp => ?_, fun p hp => ?_, ?_⟩
  · rcases List.mem_cons.1 hp with rfl | hp
    · exact ⟨h1, h2⟩
    · exact h.lt p hp
  · rcases List.mem_cons.1 hp with rfl | hp
    · exact hq
    · exact h.ok p hp
  · rcases List.mem_cons.1 hp with rfl | hp
    · exact ho
    · exact h.on p hp
  · rw [List.map_cons, List.nodup_cons]
    refine ⟨fun hm => ?_, h.nd⟩
    obtain ⟨p, hp, e⟩ := List.mem_map.1 hm
    exact hne p hp e
theorem PR.qf2 {B : Nat} {cs : Array Value} {t : TypeId} {c : Nat} {ds : Array Value} {u : TypeId} {R : List (Nat × IntKind × TypeId × List Int)} (h : PR w0 [(B, cs, t), (c, ds, u)] R w) (hc : w0.heap.size ≤ c) : QF w0 [(B, blkQ B cs t), (c, blkQ c ds u)] w := by
  have k1 := h.blk _ List.mem_cons_self
  have k2 := h.blk _ (List.mem_cons_of_mem _ List.mem_cons_self)
  obtain ⟨h1, h2⟩ := h.top _ _ rfl
  have h3 := h2 _ List.mem_cons_self
  simp only at h1 h3 k1 k2
  refine ⟨h.below, fun p hp => ?_, fun p hp => ?_, fun p hp => ?_, ?_⟩
  · simp only [List.mem_cons, List.not_mem_nil, or_false] at hp
    rcases hp with rfl | rfl
    · exact ⟨h1, k1.lt⟩
    · exact ⟨hc, k2.lt⟩
  · simp only [List.mem_cons, List.not_mem_nil, or_false] at hp
    rcases hp with rfl | rfl
    · exact k1
    · exact k2
  · simp only [List.mem_cons, List.not_mem_nil, or_false] at hp
    rcases hp with rfl | rfl
    · exact on_blk _ _ _
    · exact on_blk _ _ _
  · simp; omega
end
end Go.Proofs.YtmjkhkhjliadcaaDoor
