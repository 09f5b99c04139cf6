/-
  A frame beside facts of the memory that later calls keep; the walk of the law of PanOf.
-/
import Derived.Test.YtlkkjjbihgiiiaaE9
import Derived.Deep.RegionHeld3
namespace Go.Proofs.Ytlkkjjbihgiiiaa
open Go.RowKit
set_option maxRecDepth 100000
set_option linter.unusedVariables false

def Stab (Q : World → Prop) : Prop := ∀ W W', Q W → Below W.heap.size W W' → Q W'
theorem Stab.and {Q Q' : World → Prop} (h : Stab Q) (h' : Stab Q') : Stab (fun W => Q W ∧ Q' W) := fun _ _ ⟨a, b⟩ hb => ⟨h _ _ a hb, h' _ _ b hb⟩
theorem stab_ix (lo hi : Nat) (a : Option Addr) (xs : List Int) : Stab (fun W => IX lo hi W a xs) := fun _ _ h hb => h.below hb
theorem stab_hi (lo hi : Nat) (a : Option Addr) (k0 : Int) (n : Nat) : Stab (fun W => HI lo hi W a k0 n) := fun _ _ h hb => h.below hb
theorem stab_blk (b : Nat) (cs : Array Value) (t : TypeId) : Stab (fun W => Blk W b cs t) := fun _ _ h hb => h.below hb h.lt
structure FQ (w0 : World) (L : List (Nat × Array Value × TypeId)) (Q : World → Prop) (w : World) : Prop where
  fr : FR w0 L w
  q : Q w
  st : Stab Q
section
variable {w0 w W : World} {L : List (Nat × Array Value × TypeId)} {Q : World → Prop}
theorem FQ.next {w' : World} (h : FQ w0 L Q w) (hb : Below w.heap.size w w') : FQ w0 L Q w' := ⟨h.fr.next hb, h.st _ _ h.q hb, h.st⟩
theorem FQ.drew (h : FQ w0 L Q w) : FQ w0 L Q w.drew := h.next (Below.refl _ _).drew
theorem FQ.box (h : FQ w0 L Q w) (cs : Array Value) (t : TypeId) : FQ w0 ((w.heap.size, cs, t) :: L) Q (w.alloc (.cells cs t)) :=
  ⟨h.fr.box cs t, h.st _ _ h.q ((Below.refl w.heap.size w).alloc (Nat.le_refl _) (.cells cs t)), h.st⟩
theorem FQ.re {Q' : World → Prop} (h : FQ w0 L Q w) (hq : Q' w) (hs : Stab Q') : FQ w0 L Q' w := ⟨h.fr, hq, hs⟩
theorem Calls.fq {P : Program} {f : FuncId} {args : Array Value} {v : Ending} (h : FQ w0 L Q W) (hc : Calls P f args W fun e w' => e = v ∧ Below W.heap.size W w') : Calls P f args W fun e w' => e = v ∧ FQ w0 L Q w' :=
  hc.mono fun _ _ ⟨a, b⟩ => ⟨a, h.next b⟩
theorem toFixed_fq (h : FQ w0 L Q W) (l k : Int) (a : Option Addr) (c : Nat) (ws : List Wf) (hn : ws.length ≤ 1048576) (hs : Slw w0.heap.size w0 a ws) :
    Calls Try.prog 11 #[fixV l k a ws.length c] W fun e w' => ∃ g, e = .returned (fixV l k (some ⟨g, 0, none⟩) ws.length ws.length) ∧ W.heap.size ≤ g ∧ g < w'.heap.size ∧ FQ w0 L (fun w => Blk w g (wcells ws) 47 ∧ Q w) w' := by
  refine (toFixed_any w0.heap.size l k a c ws W hn h.fr.size (hs.below h.fr.below)).mono ?_
  rintro e w' ⟨g, rfl, hg, hk, hb⟩
  exact ⟨g, rfl, hg, hk.lt, h.fr.next hb, ⟨hk, h.st _ _ h.q hb⟩, (stab_blk _ _ _).and h.st⟩
theorem eqFixed_fq {g g2 : Nat} {ws : List Wf} (h : FQ w0 L Q W) (h1 : Blk W g (wcells ws) 47) (h2 : Blk W g2 (wcells ws) 47) (l k : Int) (c c2 : Nat) (hn : ws.length ≤ 1048576) :
    Calls Try.prog 13 #[fixV l k (some ⟨g, 0, none⟩) ws.length c, fixV l k (some ⟨g2, 0, none⟩) ws.length c2] W fun e w' => e = .returned (.bool true) ∧ FQ w0 L Q w' :=
  Calls.fq h (eqFixed_any l k _ _ c c2 ws W hn (.inr ⟨g, 0, g2, 0, rfl, rfl, h1.lt, h2.lt, h1.words, h2.words⟩))
theorem markFixed_fq {g : Nat} {ws : List Wf} {Q' : World → Prop} (h : FQ w0 L Q W) (h1 : Blk W g (wcells ws) 47) (l k : Int) (c : Nat) (hn : ws.length ≤ 1048576) (h0 : w0.heap.size ≤ g) (hL : ∀ p ∈ L, p.1 ≠ g) (hQ : ∀ w1 w2, Q w1 → Only g w1 w2 → Q' w2) (hs : Stab Q') :
    Calls Try.prog 21 #[fixV l k (some ⟨g, 0, none⟩) ws.length c, .int .i64 1] W fun e w' => ∃ q : Int, e = .returned (.int .i64 q) ∧ 0 ≤ q ∧ FQ w0 L Q' w' := by
  refine (markFixed_any g c l k ws W hn h1).mono ?_
  rintro e w' ⟨⟨q, rfl, hq⟩, w1, hb, ho⟩
  have k1 := h.next hb
  exact ⟨q, rfl, hq, ⟨Only.below k1.fr.below ho h0, fun p hp => (ho.block _ (hL p hp)).trans (k1.fr.blk p hp), k1.fr.top⟩, hQ _ _ k1.q ho, hs⟩
theorem FQ.only2 {Q' : World → Prop} {lo hi : Nat} {w' : World} (h : FQ w0 L Q w) (ho : Only2 lo hi w w') (h0 : w0.heap.size ≤ lo) (hL : ∀ p ∈ L, p.1 < lo ∨ hi ≤ p.1) (hq : Q' w') (hs : Stab Q') : FQ w0 L Q' w' := ⟨h.fr.only2 ho h0 hL, hq, hs⟩
end
end Go.Proofs.Ytlkkjjbihgiiiaa
