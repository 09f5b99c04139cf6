/-
  The walks of MovesFrom.
-/
import Derived.Test.YtjmgalmndpjcoaaEvMv
namespace Go.Proofs.Ytjmgalmndpjcoaa
open Go.RowKit
set_option maxRecDepth 100000
set_option linter.unusedVariables false

/-- Both boxes stand, and the jugs. -/
structure MfK (w0 : World) (b off c : Nat) (J : List Int) (x y : Nat → Int) (t : Bool) (PB WB : Nat) (w : World) : Prop where
  pb : Blk w PB #[.slice (some ⟨b, off, none⟩) J.length c, .int .i16 (x 0), .int .i16 (x 1), .int .i16 (x 2), .int .i16 (x 3), .bool t] 32
  wb : Blk w WB #[.int .i16 (y 0), .int .i16 (y 1), .int .i16 (y 2), .int .i16 (y 3)] 30
  jl : b < w.heap.size
  ja : At .i16 w b off J
theorem MfK.below {w0 : World} {b off c : Nat} {J : List Int} {x y : Nat → Int} {t : Bool} {PB WB : Nat} {w w' : World} (h : MfK w0 b off c J x y t PB WB w) (hb : Below w.heap.size w w') : MfK w0 b off c J x y t PB WB w' :=
  ⟨h.pb.below hb h.pb.lt, h.wb.below hb h.wb.lt, Nat.lt_of_lt_of_le h.jl hb.size, h.ja.below hb h.jl⟩
/-- What the closure says of the j-th move: it cannot be made. -/
noncomputable def bad (J : List Int) (t : Bool) (y : Nat → Int) (ms : List Mv) (j : Nat) : Bool := movC J t y (mvI ms j).1 (mvI ms j).2.1 (mvI ms j).2.2 != 0
/-- The moves that can be made. -/
noncomputable def kp (J : List Int) (t : Bool) (y : Nat → Int) (ms : List Mv) : List Mv := ms.filter (fun m => movC J t y m.1 m.2.1 m.2.2 == 0)
theorem kp_step {J : List Int} {t : Bool} {y : Nat → Int} {ms : List Mv} {j : Nat} (h : j < ms.length) : kp J t y (ms.take (j + 1)) = if bad J t y ms j = true then kp J t y (ms.take j) else kp J t y (ms.take j) ++ [mvI ms j] := by
  have e : ms.take (j + 1) = ms.take j ++ [mvI ms j] := by
    rw [List.take_add_one]
    simp [mvI, List.getD_eq_getElem?_getD, List.getElem?_eq_getElem h]
  rw [e, kp, List.filter_append]
  unfold bad
  cases hb : (movC J t y (mvI ms j).1 (mvI ms j).2.1 (mvI ms j).2.2 == 0)
  · have h2 : (movC J t y (mvI ms j).1 (mvI ms j).2.1 (mvI ms j).2.2 != 0) = true := by simp [bne, hb]
    rw [if_pos h2]
    simp [kp, hb]
  · have h2 : ¬ (movC J t y (mvI ms j).1 (mvI ms j).2.1 (mvI ms j).2.2 != 0) = true := by simp [bne, hb]
    rw [if_neg h2]
    simp [kp, hb]
theorem kp_all {J : List Int} {t : Bool} {y : Nat → Int} {ms : List Mv} (k : Nat) (hk : k ≤ ms.length) (h : ∀ j, j < k → bad J t y ms j = false) : kp J t y (ms.take k) = ms.take k := by
  induction k with
  | zero => simp [kp]
  | succ k ih =>
    rw [kp_step (by omega), h k (by omega), ih (by omega) (fun j hj => h j (by omega))]
    rw [if_neg (by simp), List.take_add_one]
    simp [mvI, List.getD_eq_getElem?_getD, List.getElem?_eq_getElem (show k < ms.length by omega)]
theorem kp_len (J : List Int) (t : Bool) (y : Nat → Int) (ms : List Mv) : (kp J t y ms).length ≤ ms.length := List.length_filter_le _ _
theorem mvI_snoc (l : List Mv) (m : Mv) (q : Nat) (h : q < l.length + 1) : mvI (l ++ [m]) q = if q = l.length then m else mvI l q := by
  unfold mvI
  rw [List.getD_eq_getElem?_getD, List.getD_eq_getElem?_getD]
  by_cases e : q = l.length
  · subst e; simp
  · rw [if_neg e, List.getElem?_append_left (by omega)]
theorem clear3 (w : World) (ty : TypeId) (g o n c : Nat) (hn : 0 < n) (hc : ∀ j, j < n * 3 → (w.cell? ⟨g, o + j, none⟩).isSome = true) (hf : ∀ j, j < n * 3 → w.frozen? ⟨g, o + j, none⟩ = false) :
    (Builtin.clear_ #[39] ty #[.slice (some ⟨g, o, none⟩) n c]).run Try.prog w = .ok (.tuple #[]) (w.setCells g o (List.replicate (n * 3) (.int .i8 0))) := by
  have hzc : (Builtin.zeroCells #[.int .i8 0, .int .i8 0, .int .i8 0] n).toList = List.replicate (n * 3) (Value.int .i8 0) := by
    simp only [Builtin.zeroCells]
    apply List.ext_getElem
    · simp
    · intro i h1 h2
      have : i % 3 = 0 ∨ i % 3 = 1 ∨ i % 3 = 2 := by omega
      rcases this with e | e | e <;> simp [e]
  have hst := run_storeCells_cells (P := Try.prog) g o (List.replicate (n * 3) (.int .i8 0)) 0 w (by simpa using hc) (by simpa using hf) (by intro v hv'; rw [List.eq_of_mem_replicate hv']; rfl)
  simp only [Nat.add_zero] at hst
  obtain ⟨m, rfl⟩ : ∃ m, n = m + 1 := ⟨n - 1, by omega⟩
  have hv := fun w => Try.zeroValue78 w
  simp [Builtin.clear_, run_underlying Try.underlying39, hv, Value.cells, hzc, hst]
/-- The state of the loop that deletes: the first moves are those that are kept, those from j on are as they were. -/
structure DelSt (J : List Int) (t : Bool) (y : Nat → Int) (ms : List Mv) (g j : Nat) (w : World) : Prop where
  kept : MAt w g 0 (kp J t y (ms.take j))
  rest : ∀ q, j ≤ q → q < ms.length → w.cell? ⟨g, q * 3, none⟩ = some (.int .i8 (mvI ms q).1) ∧ w.cell? ⟨g, q * 3 + 1, none⟩ = some (.int .i8 (mvI ms q).2.1) ∧ w.cell? ⟨g, q * 3 + 2, none⟩ = some (.int .i8 (mvI ms q).2.2)
  some : ∀ q, q < ms.length * 3 → (w.cell? ⟨g, q, none⟩).isSome = true
  free : ∀ q, w.frozen? ⟨g, q, none⟩ = false
  lt : g < w.heap.size
theorem DelSt.below {J : List Int} {t : Bool} {y : Nat → Int} {ms : List Mv} {g j : Nat} {w w' : World} (h : DelSt J t y ms g j w) (hb : Below w.heap.size w w') : DelSt J t y ms g j w' :=
  ⟨h.kept.below hb h.lt, fun q h1 h2 => ⟨(hb.cell (p := ⟨g, q * 3, none⟩) h.lt).trans (h.rest q h1 h2).1, (hb.cell (p := ⟨g, q * 3 + 1, none⟩) h.lt).trans (h.rest q h1 h2).2.1, (hb.cell (p := ⟨g, q * 3 + 2, none⟩) h.lt).trans (h.rest q h1 h2).2.2⟩,
    fun q hq => by rw [hb.cell (p := ⟨g, q, none⟩) h.lt]; exact h.some q hq, fun q => by rw [hb.frozen (p := ⟨g, q, none⟩) h.lt]; exact h.free q, Nat.lt_of_lt_of_le h.lt hb.size⟩
theorem DelSt.skip {J : List Int} {t : Bool} {y : Nat → Int} {ms : List Mv} {g j : Nat} {w : World} (h : DelSt J t y ms g j w) (hj : j < ms.length) (hb : bad J t y ms j = true) : DelSt J t y ms g (j + 1) w := by
  refine ⟨?_, fun q h1 h2 => h.rest q (by omega) h2, h.some, h.free, h.lt⟩
  rw [kp_step hj, if_pos hb]
  exact h.kept
theorem DelSt.take {J : List Int} {t : Bool} {y : Nat → Int} {ms : List Mv} {g j : Nat} {w : World} (h : DelSt J t y ms g j w) (hj : j < ms.length) (hb : bad J t y ms j = false) (i : Nat) (hi : (kp J t y (ms.take j)).length = i) (hij : i ≤ j) :
    DelSt J t y ms g (j + 1) (((w.setCell ⟨g, i * 3, none⟩ (.int .i8 (mvI ms j).1)).setCell ⟨g, i * 3 + 1, none⟩ (.int .i8 (mvI ms j).2.1)).setCell ⟨g, i * 3 + 2, none⟩ (.int .i8 (mvI ms j).2.2)) := by
  have hlt : g < (((w.setCell ⟨g, i * 3, none⟩ (.int .i8 (mvI ms j).1)).setCell ⟨g, i * 3 + 1, none⟩ (.int .i8 (mvI ms j).2.1)).setCell ⟨g, i * 3 + 2, none⟩ (.int .i8 (mvI ms j).2.2)).heap.size := by
    simp only [World.size_setCell]; exact h.lt
  have far : ∀ q, q ≠ i * 3 → q ≠ i * 3 + 1 → q ≠ i * 3 + 2 → (((w.setCell ⟨g, i * 3, none⟩ (.int .i8 (mvI ms j).1)).setCell ⟨g, i * 3 + 1, none⟩ (.int .i8 (mvI ms j).2.1)).setCell ⟨g, i * 3 + 2, none⟩ (.int .i8 (mvI ms j).2.2)).cell? ⟨g, q, none⟩ = w.cell? ⟨g, q, none⟩ := fun q a b c => by
    rw [World.cell?_setCell_other _ _ _ _ (by simp <;> omega), World.cell?_setCell_other _ _ _ _ (by simp <;> omega), World.cell?_setCell_other _ _ _ _ (by simp <;> omega)]
  have s0 := h.some (i * 3) (by omega)
  have s1 := h.some (i * 3 + 1) (by omega)
  have s2 := h.some (i * 3 + 2) (by omega)
  obtain ⟨o0, e0⟩ := Option.isSome_iff_exists.1 s0
  obtain ⟨o1, e1⟩ := Option.isSome_iff_exists.1 s1
  obtain ⟨o2, e2⟩ := Option.isSome_iff_exists.1 s2
  have n2 : (((w.setCell ⟨g, i * 3, none⟩ (.int .i8 (mvI ms j).1)).setCell ⟨g, i * 3 + 1, none⟩ (.int .i8 (mvI ms j).2.1)).setCell ⟨g, i * 3 + 2, none⟩ (.int .i8 (mvI ms j).2.2)).cell? ⟨g, i * 3 + 2, none⟩ = Option.some (.int .i8 (mvI ms j).2.2) :=
    World.cell?_setCell_same _ _ _ (by rw [World.cell?_setCell_other _ _ _ _ (by simp), World.cell?_setCell_other _ _ _ _ (by simp)]; exact e2)
  have n1 : (((w.setCell ⟨g, i * 3, none⟩ (.int .i8 (mvI ms j).1)).setCell ⟨g, i * 3 + 1, none⟩ (.int .i8 (mvI ms j).2.1)).setCell ⟨g, i * 3 + 2, none⟩ (.int .i8 (mvI ms j).2.2)).cell? ⟨g, i * 3 + 1, none⟩ = Option.some (.int .i8 (mvI ms j).2.1) := by
    rw [World.cell?_setCell_other _ _ _ _ (by simp)]
    exact World.cell?_setCell_same _ _ _ (by rw [World.cell?_setCell_other _ _ _ _ (by simp)]; exact e1)
  have n0 : (((w.setCell ⟨g, i * 3, none⟩ (.int .i8 (mvI ms j).1)).setCell ⟨g, i * 3 + 1, none⟩ (.int .i8 (mvI ms j).2.1)).setCell ⟨g, i * 3 + 2, none⟩ (.int .i8 (mvI ms j).2.2)).cell? ⟨g, i * 3, none⟩ = Option.some (.int .i8 (mvI ms j).1) := by
    rw [World.cell?_setCell_other _ _ _ _ (by simp), World.cell?_setCell_other _ _ _ _ (by simp)]
    exact World.cell?_setCell_same _ _ _ e0
  refine ⟨?_, fun q h1 h2 => ?_, fun q hq => ?_, fun q => ?_, hlt⟩
  · rw [kp_step hj, if_neg (by rw [hb]; simp)]
    intro q hq
    rw [List.length_append, hi] at hq
    have hq' : q < i + 1 := by simpa using hq
    rw [mvI_snoc _ _ _ (by rw [hi]; exact hq'), hi, Nat.zero_add]
    by_cases e : q = i
    · subst e; rw [if_pos rfl]; exact ⟨n0, n1, n2⟩
    · rw [if_neg e, far _ (by omega) (by omega) (by omega), far _ (by omega) (by omega) (by omega), far _ (by omega) (by omega) (by omega)]
      have := h.kept q (by omega)
      rwa [Nat.zero_add] at this
  · rw [far _ (by omega) (by omega) (by omega), far _ (by omega) (by omega) (by omega), far _ (by omega) (by omega) (by omega)]
    exact h.rest q (by omega) h2
  · by_cases a0 : q = i * 3
    · subst a0; rw [n0]; rfl
    by_cases a1 : q = i * 3 + 1
    · subst a1; rw [n1]; rfl
    by_cases a2 : q = i * 3 + 2
    · subst a2; rw [n2]; rfl
    rw [far _ a0 a1 a2]; exact h.some q hq
  · rw [World.frozen?_setCell, World.frozen?_setCell, World.frozen?_setCell]; exact h.free q
theorem MfK.belowG {w0 : World} {b off c : Nat} {J : List Int} {x y : Nat → Int} {t : Bool} {PB WB g : Nat} {w w' : World} (h : MfK w0 b off c J x y t PB WB w) (hb : Below g w w') (h1 : PB < g) (h2 : WB < g) (h3 : b < g) : MfK w0 b off c J x y t PB WB w' :=
  ⟨h.pb.below hb h1, h.wb.below hb h2, Nat.lt_of_lt_of_le h.jl hb.size, h.ja.below hb h3⟩
end Go.Proofs.Ytjmgalmndpjcoaa
