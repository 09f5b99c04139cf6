/-
  A loop over an iterator that goes through an iterator of its own: what the loop's body keeps for the iterator is said of the loop's own record.
-/
import Derived.Test.YtieghjpecoiodaaC2
namespace Go.Proofs.Ytieghjpecoiodaa
open Go.RowKit
set_option linter.unusedVariables false

/-- What holds no cells and lies at or beyond B stands as it stood, but for the record l. -/
structure KeepsBut (B l : Nat) (W W' : World) : Prop where
  size : W.heap.size ≤ W'.heap.size
  same : ∀ (k : Nat) (o : Obj), B ≤ k → k ≠ l → W.heap[k]? = some o → o.isCells = false → W'.heap[k]? = some o
theorem KeepsBut.from {B l C : Nat} {W W' : World} (h : KeepsBut B l W W') (hB : B ≤ C) (hl : l < C) : KeepsFrom C W W' :=
  ⟨h.size, fun k o hk h0 ho => h.same k o (by omega) (by omega) h0 ho⟩
/-- Nothing below n₀ has turned, nor has a block of S that holds cells. -/
def KpS (n₀ : Nat) (S : Nat → Prop) (W W' : World) : Prop := Below n₀ W W' ∧ ∀ B cs t, S B → Blk W B cs t → Blk W' B cs t
theorem KpS.t {n₀ : Nat} {S : Nat → Prop} {X Y Z : World} (h : KpS n₀ S X Y) (k : KpS n₀ S Y Z) : KpS n₀ S X Z := ⟨belowK_t h.1 k.1, fun B cs t hS hb => k.2 B cs t hS (h.2 B cs t hS hb)⟩
theorem KpS.b {n₀ : Nat} {S : Nat → Prop} {w : World} (hn : n₀ ≤ w.heap.size) : ∀ (W : World) (l : Nat) (o o' : Obj), w.heap.size ≤ l → W.heap[l]? = some o → o.isCells = false → o.isWalk = false → KpS n₀ S W (W.putObj l o') := by
  intro W l o o' hl ho hc hw
  refine ⟨belowK_b hn W l o o' hl ho hc hw, fun B cs t _ hb => ?_⟩
  have hne : l ≠ B := fun e => by
    subst e
    rw [show W.heap[l]? = _ from hb] at ho
    cases ho
    cases hc
  exact (World.putObj_heap_other (Ne.symm hne)).trans hb
theorem KpS.alloc {n₀ : Nat} {S : Nat → Prop} {W : World} (hn : n₀ ≤ W.heap.size) (o : Obj) : KpS n₀ S W (W.alloc o) := ⟨(Below.refl _ W).alloc hn _, fun _ _ _ _ hb => hb.alloc _⟩
theorem KpS.set {n₀ : Nat} {S : Nat → Prop} {W : World} {b : Nat} (hn : n₀ ≤ b) (hS : ¬ S b) (o : Nat) (v : Value) : KpS n₀ S W (W.setCell ⟨b, o, none⟩ v) := ⟨(Below.refl _ W).setCell hn _, fun B _ _ hB hb => hb.setOther (show B ≠ b from fun e => hS (e ▸ hB)) _ _⟩
/-- An iterator that gives out L, from a world W on; S are the blocks that its caller leaves alone. -/
def Gives {α : Type} (F : Fence) (n : Nat) (P : Program) (g : Nat) (lb : Array Value) (encs : α → Array Value) (n₀ : Nat) (S : Nat → Prop) (L : List α) (W : World) : Prop :=
  ∀ (l B : Nat) (J Jx : List α → World → Prop), B ≤ l → l < W.heap.size → OwnFrom W.heap.size J → OwnFrom W.heap.size Jx →
    (∀ pre x W1, J pre W1 → pre ++ [x] <+: L → (∀ b, S b → b < W1.heap.size) → YieldAt F (n - 1) P l (encs x) W1 fun e W' =>
      (e = .returned (.bool true) ∧ J (pre ++ [x]) W' ∧ KpS n₀ S W1 W' ∧ KeepsBut B l W1 W') ∨ (e = .returned (.bool false) ∧ Jx (pre ++ [x]) W' ∧ KeepsBut B l W1 W')) →
    J [] W → CallsIn F n P g (#[.func (.yield l) #[] #[]] ++ lb) W fun e W' => (∃ v, e = .returned v) ∧ (J L W' ∨ ∃ pre, pre <+: L ∧ Jx pre W')
section
variable {F : Fence} {n : Nat} {P : Program} {w : World}
theorem own_at {β : Type} {C k : Nat} (hk : k < C) (o : Obj) : OwnFrom C (fun (_ : β) W => W.heap[k]? = some o) := fun _ X Y row hs hg hr =>
  (hg.block k (Array.getElem?_eq_some_iff.1 hs).1 (fun e => by have := (hr k e.symm).1; omega)).trans hs
theorem loop_gives {α : Type} {g : Operand} {ps : Array Tmp} {assign body : Code} {Q : Exit → Act → World → Prop} {a : Act}
    (hro : F.round = none) (h1 : 1 ≤ n) {gf : Nat} {lb : Array Value} (hg : a.eval g = .func (.func gf) #[] lb) (hFg : F.fn gf) (eg : ∀ args w, (callFunc gf args).run P w = .ok (.enter gf args) w)
    {encs : α → Array Value} {n₀ : Nat} {S : Nat → Prop} {L : List α} (hn₀ : n₀ ≤ w.heap.size) (hseq : ∀ W1, W1.heap.size = w.heap.size + 2 → Below w.heap.size w W1 → Gives F (n - 1) P gf lb encs n₀ S L W1) (hps : ∀ x, (encs x).size = ps.size)
    (I : List α → World → Prop) (Ix : List α → World → Prop) (hI : OwnFrom w.heap.size I) (hIx : OwnFrom w.heap.size Ix) (h0 : I [] w) (Ax : α → Act → World → Prop) (hAx : ∀ x a', OwnFrom w.heap.size (fun (_ : Unit) W => Ax x a' W))
    (hassign : ∀ (l : Nat) (pre : List α) (x : α) (W : World) (K : Act → World → Prop), I pre W → (∀ b, S b → b < W.heap.size) → (∀ a' W', KeepsFrom w.heap.size W W' → KpS n₀ S W W' → I pre W' → Ax x a' W' → K a' W') →
      assign.wpIn (F.inRound l) (n - 1 - 1) P (Exit.then K (fun _ _ _ => False)) { tmps := (ps.zip (encs x)).foldl (fun t (p, v) => t.setIfInBounds p v) a.tmps, defers := [] } W)
    (hbody : ∀ (l : Nat) (pre : List α) (x : α) (a' : Act) (W : World), I pre W → Ax x a' W → pre ++ [x] <+: L → (∀ b, S b → b < W.heap.size) → body.wpIn (F.inRound l) (n - 1 - 1) P (fun e _ W' => match e with
      | .normal => KeepsFrom w.heap.size W W' ∧ KpS n₀ S W W' ∧ I (pre ++ [x]) W'
      | .ret => KeepsFrom w.heap.size W W' ∧ Ix (pre ++ [x]) W'
      | _ => False) a' W)
    (hdone : ∀ (W : World), I L W → W.heap[w.heap.size]? = some (.deferred (some [])) → Q .normal { a with defers := { target := .collected w.heap.size, args := #[] } :: a.defers } W)
    (hstop : ∀ (pre : List α) (W : World), pre <+: L → Ix pre W → W.heap[w.heap.size]? = some (.deferred (some [])) → (Code.ret).wpIn F n P Q { a with defers := { target := .collected w.heap.size, args := #[] } :: a.defers } W) :
    (Code.rangeFunc g ps assign body).wpIn F n P Q a w := by
  refine wpIn_rangeFunc fun fn hfn => ?_
  rw [hro]
  let R : LoopState → Option Code → Loop := fun st pe => { state := st, pending := pe, fn, tmps := a.tmps, params := ps, assign, body, defers := w.heap.size }
  let W1 := (w.alloc (.deferred (some []))).alloc (.loop (R .ready none))
  have hs1 : W1.heap.size = w.heap.size + 2 := by simp [W1]
  have e1 : W1.heap[w.heap.size + 1]? = some (.loop (R .ready none)) := by
    have := World.alloc_heap_new (w.alloc (.deferred (some []))) (.loop (R .ready none)); rwa [World.size_alloc] at this
  have e0 : W1.heap[w.heap.size]? = some (.deferred (some [])) := (Below.heap_alloc _ _ _ (by simp)).trans (World.alloc_heap_new w _)
  have hb1 : Below w.heap.size w W1 := ((Below.refl _ w).alloc (Nat.le_refl _) _).alloc (by simp) _
  refine ⟨w.heap.size + 1, [{ target := .collected w.heap.size, args := #[] }], W1, { target := .fn (.func gf) lb, args := #[.func (.yield (w.heap.size + 1)) #[] #[]] }, W1, gf,
    #[.func (.yield (w.heap.size + 1)) #[] #[]] ++ lb, W1, run_enterLoop_outer _ _ _ _ _, by simp only [resolve, hg]; simp [go_sem], fun f' hf' => by simp [Target.leads] at hf'; subst hf'; exact hFg, by simp [invoke, go_sem, eg], fun _ => h1, ?_⟩
  have hD : w.heap.size < W1.heap.size := by omega
  have hl1 : w.heap.size + 1 < W1.heap.size := by omega
  have hIm : OwnFrom W1.heap.size I := fun s X Y row hs hg' hr => hI s X Y row hs hg' (fun r e => ⟨by have := (hr r e).1; omega, (hr r e).2⟩)
  have hIxm : OwnFrom W1.heap.size Ix := fun s X Y row hs hg' hr => hIx s X Y row hs hg' (fun r e => ⟨by have := (hr r e).1; omega, (hr r e).2⟩)
  refine (hseq W1 hs1 hb1 (w.heap.size + 1) w.heap.size
    (fun pre W => I pre W ∧ W.heap[w.heap.size + 1]? = some (.loop (R .ready none)) ∧ W.heap[w.heap.size]? = some (.deferred (some [])))
    (fun pre W => Ix pre W ∧ W.heap[w.heap.size + 1]? = some (.loop (R .done (some .ret))) ∧ W.heap[w.heap.size]? = some (.deferred (some [])))
    (by omega) hl1 (hIm.and ((own_at hl1 _).and (own_at hD _))) (hIxm.and ((own_at hl1 _).and (own_at hD _))) ?yield ⟨hI.alloc _ (hI.alloc _ h0), e1, e0⟩).mono ?after
  case yield =>
    rintro pre x W ⟨hi, hl, hk⟩ hpre hbn
    refine ⟨fn, _, assign, body, run_yield (P := P) (args := encs x) hl (hps x), roundIn_of_wpIn hfn (hassign _ pre x W _ hi hbn ?_)⟩
    intro a' Wa kf kp hia hax
    have la := kf.same _ _ (by omega) hl rfl
    have da := kf.same _ _ (Nat.le_refl _) hk rfl
    have sa : w.heap.size + 1 < Wa.heap.size := (Array.getElem?_eq_some_iff.1 la).1
    refine ⟨_, run_beginRound la rfl, ?_⟩
    let Wb := Wa.putObj (w.heap.size + 1) (.loop { R .ready none with state := .busy })
    have lb' : Wb.heap[w.heap.size + 1]? = some (.loop { R .ready none with state := .busy }) := World.putObj_heap_same sa
    have db : Wb.heap[w.heap.size]? = some (.deferred (some [])) := (World.putObj_heap_other (by omega)).trans da
    have sb : Wb.heap.size = Wa.heap.size := by simp [Wb]
    have kb : KpS n₀ S Wa Wb := KpS.b hn₀ Wa _ _ _ (by omega) la rfl rfl
    refine wpIn_mono (hbody _ pre x a' Wb (hI.putObj _ hia (by omega) la rfl) ((hAx x a').putObj (s := ()) _ hax (by omega) la rfl) hpre (fun b hb => by have := hbn b hb; have := kf.size; show b < (Wa.putObj _ _).heap.size; simp; omega)) ?_
    have far : ∀ (o : Obj) (W3 : World), KeepsFrom w.heap.size Wb W3 → KeepsBut w.heap.size (w.heap.size + 1) W (W3.putObj (w.heap.size + 1) o) := fun o W3 k3 =>
      ⟨by have h1 := kf.size; have h2 := k3.size; simp; omega, fun k q hk' hne hq hc =>
        (World.putObj_heap_other (fun e => hne e)).trans (k3.same k q hk' ((World.putObj_heap_other (fun e => hne e)).trans (kf.same k q hk' hq hc)) hc)⟩
    rintro e a3 W3 hp
    cases e with
    | normal =>
      obtain ⟨k3, kp3, i3⟩ := hp
      have l3 := k3.same _ _ (by omega) lb' rfl
      have d3 := k3.same _ _ (Nat.le_refl _) db rfl
      have s3 : w.heap.size + 1 < W3.heap.size := (Array.getElem?_eq_some_iff.1 l3).1
      exact ⟨_, _, run_endRound (P := P) none l3, .inl ⟨rfl, ⟨hI.putObj _ i3 (by omega) l3 rfl, World.putObj_heap_same s3, (World.putObj_heap_other (by omega)).trans d3⟩, kp.t (kb.t (kp3.t (KpS.b hn₀ W3 _ _ _ (by omega) l3 rfl rfl))), far _ W3 k3⟩⟩
    | ret =>
      obtain ⟨k3, i3⟩ := hp
      have l3 := k3.same _ _ (by omega) lb' rfl
      have d3 := k3.same _ _ (Nat.le_refl _) db rfl
      have s3 : w.heap.size + 1 < W3.heap.size := (Array.getElem?_eq_some_iff.1 l3).1
      exact ⟨_, _, run_endRound (P := P) (some .ret) l3, .inr ⟨rfl, ⟨hIx.putObj _ i3 (by omega) l3 rfl, World.putObj_heap_same s3, (World.putObj_heap_other (by omega)).trans d3⟩, far _ W3 k3⟩⟩
    | exit id => exact hp.elim
    | goto t => exact hp.elim
    | panic ch => exact hp.elim
    | outgrown => exact hp.elim
  case after =>
    rintro e W2 ⟨⟨v, rfl⟩, (⟨hi, hl, hk⟩ | ⟨pre, hpre, hi, hl, hk⟩)⟩
    · exact ⟨none, _, run_endLoop (P := P) hl (by simp [R]), hdone _ (hI.putObj _ hi (by omega) hl rfl) ((World.putObj_heap_other (by omega)).trans hk)⟩
    · exact ⟨some .ret, _, run_endLoop (P := P) hl (by simp [R]), hstop pre _ hpre (hIx.putObj _ hi (by omega) hl rfl) ((World.putObj_heap_other (by omega)).trans hk)⟩
end
end Go.Proofs.Ytieghjpecoiodaa
