/-
  What FnNear keeps while the word is bent.
-/
import Derived.Test.YtieghjpecoiodaaNR4
namespace Go.Proofs.Ytieghjpecoiodaa
open Go.RowKit
set_option maxRecDepth 100000
set_option linter.unusedVariables false

theorem okX_wall {l k : Int} {ws : List Wf} (h : OkX l k ws) : Wall ws := fun j i hi => by
  by_cases hj : j < ws.length
  · have := ((h.2.2.2 j hj).2 i hi).1; omega
  · unfold wI
    rw [List.getD_eq_getElem?_getD, List.getElem?_eq_none (by omega)]
    show -128 ≤ (0 : Int) ∧ (0 : Int) ≤ 127
    omega
theorem seen_fit {l k : Int} {ws : List Wf} (h : OkX l k ws) {q : Cs} (hq : q ∈ upC k true ws.length) : OkD l (seenV ws q) := by
  refine ⟨h.1, fun i hi => ⟨?_, fun hl => seen_far h hq i hi hl⟩⟩
  rcases (upC_mem k ws.length q).1 hq with rfl | ⟨j, hj, ⟨rfl, -⟩ | ⟨rfl, -⟩⟩
  · rw [seen_none ws false (by decide)]; show -1 ≤ (0 : Int) ∧ (0 : Int) ≤ 1; omega
  · rw [seen_heavy]; exact ((h.2.2.2 j hj).2 i hi).1
  · rw [seen_light]
    unfold opD
    have h1 := ((h.2.2.2 j hj).2 i hi).1
    rcases (show wI ws j i = -1 ∨ wI ws j i = 0 ∨ wI ws j i = 1 by omega) with e | e | e <;> rw [e] <;> decide
theorem okD_w4 {l : Int} {x : Nat → Int} (h : OkD l x) : W4 x := fun i hi => by have := (h.2 i hi).1; omega
theorem case_b8 {k : Int} {m : Nat} {q : Cs} (hm : m ≤ 12) (hq : q ∈ upC k true m) : B8 q.1 := by
  unfold B8
  rcases (upC_mem k m q).1 hq with rfl | ⟨j, hj, ⟨rfl, -⟩ | ⟨rfl, -⟩⟩ <;> simp <;> omega
/-- A letter put into a word. -/
def putL (x : Nat → Int) (i : Nat) (v : Int) : Nat → Int := fun j => if j = i then v else x j
theorem putL_same (x : Nat → Int) (i : Nat) (v : Int) : putL x i v i = v := if_pos rfl
theorem putL_other (x : Nat → Int) {i j : Nat} (v : Int) (h : j ≠ i) : putL x i v j = x j := if_neg h
theorem putL_fit {l : Int} {x : Nat → Int} {i : Nat} {v : Int} (h : OkD l x) (hi : (i : Int) < l) (hv : -1 ≤ v ∧ v ≤ 1) : OkD l (putL x i v) := by
  refine ⟨h.1, fun j hj => ?_⟩
  by_cases e : j = i
  · subst e; rw [putL_same]; exact ⟨hv, fun hl => by omega⟩
  · rw [putL_other _ _ e]; exact h.2 j hj
theorem wordC_put (x : Nat → Int) (i : Nat) (v : Int) (hi : i < 4) : (wordC x).setIfInBounds i (.int .i8 v) = wordC (putL x i v) := by
  match i, hi with
  | 0, _ => rfl
  | 1, _ => rfl
  | 2, _ => rfl
  | 3, _ => rfl
structure NrQ (w : World) (l k : Int) (g cp : Nat) (ws : List Wf) (fb cb sb wb : Nat) (q : Cs) (y x : Nat → Int) (wr : World) : Prop where
  F : Blk wr fb #[.int .i8 l, .int .i8 k, .slice (some ⟨g, 0, none⟩) ws.length cp] 27
  C : Blk wr cb #[.int .i8 q.1, .bool q.2] 37
  S : Blk wr sb (wordC y) 40
  X : Blk wr wb (wordC x) 40
  words : WAt wr g 0 ws
  ord : w.heap.size ≤ g ∧ g < fb ∧ fb < cb ∧ cb < sb ∧ sb < wb
  bel : Below w.heap.size w wr
section
variable {w wr w' : World} {l k : Int} {g cp fb cb sb wb : Nat} {ws : List Wf} {q : Cs} {y x : Nat → Int}
theorem NrQ.gl (h : NrQ w l k g cp ws fb cb sb wb q y x wr) : g < wr.heap.size := by have := h.F.lt; have := h.ord; omega
theorem NrQ.next (h : NrQ w l k g cp ws fb cb sb wb q y x wr) (hb : Below wr.heap.size wr w') : NrQ w l k g cp ws fb cb sb wb q y x w' :=
  ⟨h.F.below hb h.F.lt, h.C.below hb h.C.lt, h.S.below hb h.S.lt, h.X.below hb h.X.lt, h.words.below hb h.gl, h.ord, h.bel.trans (hb.mono h.bel.size)⟩
theorem NrQ.put (h : NrQ w l k g cp ws fb cb sb wb q y x wr) (i : Nat) (v : Int) (hi : i < 4) : NrQ w l k g cp ws fb cb sb wb q y (putL x i v) (wr.setCell ⟨wb, i, none⟩ (.int .i8 v)) := by
  have ho := h.ord
  refine ⟨h.F.setOther (by omega) _ _, h.C.setOther (by omega) _ _, h.S.setOther (by omega) _ _, ?_, fun j hj p hp => ?_, h.ord, h.bel.setCell (p := ⟨wb, i, none⟩) (show w.heap.size ≤ wb by omega) _⟩
  · have := h.X.set i (.int .i8 v)
    rwa [wordC_put x i v hi] at this
  · rw [World.cell?_setCell_other _ _ _ _ (by simp <;> omega)]; exact h.words j hj p hp
theorem NrQ.slw (h : NrQ w l k g cp ws fb cb sb wb q y x wr) : Slw wr.heap.size wr (some ⟨g, 0, none⟩) ws := .inr ⟨g, 0, rfl, h.gl, h.words⟩
end
/-- Bytes behind one byte in a block that the call has made. -/
theorem wpList_append_bytes {P : Program} {w : World} {ops : Array Oper} {rest : List Oper} {o : Oper} {act : Act} {Q : Exit → Act → World → Prop} (hgd : o.guard = none) (s x : Operand) (t : TypeId)
    (ho : o.op = .call { callee := .builtin .append, args := #[s, x], argTypes := #[t, t] }) (base : Nat) (e : TypeId) (i : TypeInfo) (ht : P.underlying t = some (.slice e)) (hi : P.info? e = some i) (hz : i.zero = some (.int .u8 0)) (hsize : i.size = 1) (hby : i.bytes = 1)
    (v : Value) (v0 : Int) (hs : act.eval s = v) (hown : w.ownsRow base e 1 v 1 [.int .u8 v0]) (a : Option Addr) (c : Nat) (xs : List Int) (hx : act.eval x = .slice a xs.length c) (hxs : xs = [] ∨ ∃ b off, a = some ⟨b, off, none⟩ ∧ At .u8 w b off xs) (hl : xs.length ≤ 1000000) (hbase : base ≤ w.heap.size)
    (h : ∀ g cap w', Sl .u8 w'.heap.size w' (some ⟨g, 0, none⟩) (v0 :: xs) → Below base w w' → wpList P ops Q rest (act.put o.dst (.slice (some ⟨g, 0, none⟩) (v0 :: xs).length cap)) w') : wpList P ops Q (o :: rest) act w := by
  refine wpList_plain hgd fun K hK => ?_
  obtain ⟨g, cap, w', hr, h2, h3⟩ := run_append_bytes (P := P) w t o.type base e i ht hi hz hsize hby v 1 _ (by omega) hown a c xs hxs (by omega) hbase
  unfold Oper.wp execOp
  simp only [ho, resolve, invoke, builtin, Sem.run_bind, Sem.run_pure, Result.andThen_ok, List.map_toArray, List.map_cons, List.map_nil, hs, hx, hr]
  have hlen : 1 + xs.length = (v0 :: xs).length := by rw [List.length_cons]; omega
  rw [hlen] at h2 ⊢
  refine hK _ _ (h g cap w' ?_ ((Below.refl base w).grown h3 hbase (fun j e => (hown.lt j e).1)))
  rcases h2.2 with ⟨hv, hx0⟩ | ⟨g', cap', cur, hv, hB, hg, hnc, _, hs2, htake⟩
  · cases hv
  · injection hv with e1 e2 e3
    injection e1 with e1
    injection e1 with e1
    subst e1
    have hlt : g < w'.heap.size := by
      obtain ⟨hlt, _⟩ := Array.getElem?_eq_some_iff.1 hg; exact hlt
    refine .inr ⟨g, 0, rfl, hlt, fun j hj => ?_⟩
    rw [Nat.zero_add, cell_of_row w' g _ cur _ _ hg]
    have hu : (cur.toList.take ((v0 :: xs).length * 1))[j]? = some (.int .u8 ((v0 :: xs).getD j 0)) := by
      rw [htake, show [Value.int .u8 v0] ++ xs.map (Value.int .u8) = (v0 :: xs).map (Value.int .u8) from rfl, List.getElem?_map, List.getElem?_eq_getElem hj, List.getD_eq_getElem?_getD, List.getElem?_eq_getElem hj]
      rfl
    rw [List.getElem?_take_of_lt (by omega)] at hu
    simpa using hu
end Go.Proofs.Ytieghjpecoiodaa
