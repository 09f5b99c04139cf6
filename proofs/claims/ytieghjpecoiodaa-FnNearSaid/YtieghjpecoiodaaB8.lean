/-
  What the model's loops over the cases of a fixed plan read.
-/
import Derived.Test.YtieghjpecoiodaaA8
import Derived.Test.YtieghjpecoiodaaB2
import Derived.Test.YtieghjpecoiodaaB4
namespace Go.Proofs.Ytieghjpecoiodaa
open Go.RowKit
set_option maxRecDepth 100000
set_option linter.unusedVariables false

theorem take_cs (L : List Cs) (i : Nat) (hi : i < L.length) : L.take (i + 1) = L.take i ++ [L.getD i (0, false)] := by
  rw [List.take_add_one, List.getElem?_eq_getElem hi]; simp [List.getD_eq_getElem?_getD, List.getElem?_eq_getElem hi]
theorem getD_mem_cs (L : List Cs) (i : Nat) (hi : i < L.length) : L.getD i (0, false) ∈ L := by
  rw [List.getD_eq_getElem?_getD, List.getElem?_eq_getElem hi]; simp
/-- A fixed plan in block fb, its words in block b, its cases in block g. -/
structure MD (fb b off c g : Nat) (l k : Int) (ws : List Wf) (W : World) : Prop where
  K : Blk W fb #[.int .i8 l, .int .i8 k, .slice (some ⟨b, off, none⟩) ws.length c] 27
  bl : b < W.heap.size
  wd : WAt W b off ws
  gl : g < W.heap.size
  cs : CAt W g 0 (upC k true ws.length)
theorem MD.below {fb b off c g : Nat} {l k : Int} {ws : List Wf} {W W' : World} (h : MD fb b off c g l k ws W) (hb : Below W.heap.size W W') : MD fb b off c g l k ws W' :=
  ⟨h.K.below hb h.K.lt, Nat.lt_of_lt_of_le h.bl hb.size, h.wd.below hb h.bl, Nat.lt_of_lt_of_le h.gl hb.size, h.cs.below hb h.gl⟩
theorem MD.two {fb b off c g : Nat} {l k : Int} {ws : List Wf} {W : World} (h : MD fb b off c g l k ws W) (i : Nat) (hi : i < (upC k true ws.length).length) :
    W.cell? ⟨g, i * 2, none⟩ = some (.int .i8 ((upC k true ws.length).getD i (0, false)).1) ∧ W.cell? ⟨g, i * 2 + 1, none⟩ = some (.bool ((upC k true ws.length).getD i (0, false)).2) := by
  have := h.cs i hi
  simpa using this
theorem l04Seen_any (fb b off c : Nat) (l k : Int) (ws : List Wf) (q : Cs) (W : World) (K : Blk W fb #[.int .i8 l, .int .i8 k, .slice (some ⟨b, off, none⟩) ws.length c] 27) (hb : b < W.heap.size) (hc : WAt W b off ws) (hn : ws.length ≤ 80) (hw : Wall ws) (hq : q ∈ upC k true ws.length) :
    Calls Try.prog 30 #[.pointer (some ⟨fb, 0, none⟩), caseV q.1 q.2] W fun e w' => e = .returned (wordV (seenV ws q)) ∧ Below W.heap.size W w' := by
  rcases (upC_mem k ws.length q).1 hq with rfl | ⟨j, hj, ⟨rfl, -⟩ | ⟨rfl, -⟩⟩
  · rw [seen_none ws false (by decide)]
    exact l04SeenN_any fb false W
  · rw [seen_heavy]
    exact l04SeenH_any fb b off c j _ _ ws W K hj hn hb hc (hw j)
  · rw [seen_light]
    exact l04SeenL_any fb b off c j _ _ ws W K hj hn hb hc (hw j)
theorem MD.seen {fb b off c g : Nat} {l k : Int} {ws : List Wf} {W : World} (h : MD fb b off c g l k ws W) (hn : ws.length ≤ 80) (hw : Wall ws) (i : Nat) (hi : i < (upC k true ws.length).length) :
    Calls Try.prog 30 #[.pointer (some ⟨fb, 0, none⟩), caseV ((upC k true ws.length).getD i (0, false)).1 ((upC k true ws.length).getD i (0, false)).2] W fun e w' => e = .returned (wordV (seenV ws ((upC k true ws.length).getD i (0, false)))) ∧ Below W.heap.size W w' :=
  l04Seen_any fb b off c l k ws _ W h.K h.bl h.wd hn hw (getD_mem_cs _ i hi)
theorem upC80 (k : Int) (n : Nat) (hn : n ≤ 80) : (upC k true n).length ≤ 161 := by have := upC_len k true n; omega
theorem and6 {a b c d e f : Prop} (h : a ∧ b) (h2 : c ∧ d ∧ e ∧ f) : a ∧ b ∧ c ∧ d ∧ e ∧ f := ⟨h.1, h.2, h2⟩
theorem Blk.fourc {w : World} {b : Nat} {a0 a1 a2 a3 : Value} {t : TypeId} (h : Blk w b #[a0, a1, a2, a3] t) :
    w.cell? ⟨b, 0, none⟩ = some a0 ∧ w.cell? ⟨b, 1, none⟩ = some a1 ∧ w.cell? ⟨b, 2, none⟩ = some a2 ∧ w.cell? ⟨b, 3, none⟩ = some a3 := ⟨h.cell 0, h.cell 1, h.cell 2, h.cell 3⟩
end Go.Proofs.Ytieghjpecoiodaa
