/-
  Lists of moves in a seat without puzzles: as they come in, copied, and compared.
-/
import Derived.Test.YtadegplgmicaoaaLaw
import Derived.OpenShut
import Derived.Laws.IdiomArrays
import Derived.Laws.Rows
import Derived.Lib.SmallJoins
import Derived.Deep.Slices
import Derived.StillTailTactics
import Derived.Deep.DeepCutAuto
import Derived.Deep.RegionHeld3
namespace Go.Proofs.Ytadegplgmicaoaa
open Go.RowKit Go.ChangeShapes Go.WideShapes
set_option maxRecDepth 100000
set_option linter.unusedVariables false

/-- The value of a move. -/
abbrev movV (k f t : Int) : Value := .agg #[.int .i8 k, .int .i8 f, .int .i8 t]
def Blk (w : World) (b : Nat) (cs : Array Value) (t : TypeId) : Prop := w.heap[b]? = some (.cells cs t (0, 0))
theorem Blk.lt {w : World} {b : Nat} {cs : Array Value} {t : TypeId} (h : Blk w b cs t) : b < w.heap.size := by
  unfold Blk at h
  rcases Nat.lt_or_ge b w.heap.size with h' | h'
  · exact h'
  · simp [Array.getElem?_eq_none h'] at h
theorem Blk.below {w w' : World} {b B : Nat} {cs : Array Value} {t : TypeId} (h : Blk w b cs t) (hb : Below B w w') (hB : b < B) : Blk w' b cs t := (hb.block b hB).trans h
theorem Blk.cell {w : World} {b : Nat} {cs : Array Value} {t : TypeId} (h : Blk w b cs t) (i : Nat) : w.cell? ⟨b, i, none⟩ = cs[i]? := cell_of_row w b i cs t _ h
theorem Blk.free {w : World} {b : Nat} {cs : Array Value} {t : TypeId} (h : Blk w b cs t) (i : Nat) : w.frozen? ⟨b, i, none⟩ = false := by unfold Blk at h; simp [World.frozen?, h]
theorem Blk.set {w : World} {b : Nat} {cs : Array Value} {t : TypeId} (h : Blk w b cs t) (i : Nat) (v : Value) : Blk (w.setCell ⟨b, i, none⟩ v) b (cs.setIfInBounds i v) t := heap_setCell_same w b i cs t v h
theorem Blk.setOther {w : World} {b : Nat} {cs : Array Value} {t : TypeId} (h : Blk w b cs t) {g : Nat} (hg : b ≠ g) (i : Nat) (v : Value) : Blk (w.setCell ⟨g, i, none⟩ v) b cs t := (heap_setCell_other w ⟨g, i, none⟩ b v hg).trans h
theorem Blk.alloc {w : World} {b : Nat} {cs : Array Value} {t : TypeId} (h : Blk w b cs t) (o : Obj) : Blk (w.alloc o) b cs t := (Below.heap_alloc w o b h.lt).trans h
theorem Blk.drewN {w : World} {b : Nat} {cs : Array Value} {t : TypeId} (h : Blk w b cs t) (q : Nat) : Blk (w.drewN q) b cs t := h
theorem blk_new (w : World) (cs : Array Value) (t : TypeId) : Blk (w.alloc (.cells cs t)) w.heap.size cs t := heap_alloc_new w _
theorem Blk.three {w : World} {b : Nat} {a0 a1 a2 : Value} {t : TypeId} (h : Blk w b #[a0, a1, a2] t) :
    w.cell? ⟨b, 0, none⟩ = some a0 ∧ w.cell? ⟨b, 1, none⟩ = some a1 ∧ w.cell? ⟨b, 2, none⟩ = some a2 ∧ ∀ i, w.frozen? ⟨b, i, none⟩ = false :=
  ⟨h.cell 0, h.cell 1, h.cell 2, h.free⟩
theorem Blk.four {w : World} {b : Nat} {a0 a1 a2 a3 : Value} {t : TypeId} (h : Blk w b #[a0, a1, a2, a3] t) :
    w.cell? ⟨b, 0, none⟩ = some a0 ∧ w.cell? ⟨b, 1, none⟩ = some a1 ∧ w.cell? ⟨b, 2, none⟩ = some a2 ∧ w.cell? ⟨b, 3, none⟩ = some a3 ∧ ∀ i, w.frozen? ⟨b, i, none⟩ = false :=
  ⟨h.cell 0, h.cell 1, h.cell 2, h.cell 3, h.free⟩
theorem Blk.six {w : World} {b : Nat} {a0 a1 a2 a3 a4 a5 : Value} {t : TypeId} (h : Blk w b #[a0, a1, a2, a3, a4, a5] t) :
    w.cell? ⟨b, 0, none⟩ = some a0 ∧ w.cell? ⟨b, 1, none⟩ = some a1 ∧ w.cell? ⟨b, 2, none⟩ = some a2 ∧ w.cell? ⟨b, 3, none⟩ = some a3 ∧ w.cell? ⟨b, 4, none⟩ = some a4 ∧ w.cell? ⟨b, 5, none⟩ = some a5 ∧ ∀ i, w.frozen? ⟨b, i, none⟩ = false :=
  ⟨h.cell 0, h.cell 1, h.cell 2, h.cell 3, h.cell 4, h.cell 5, h.free⟩
theorem bcell {W w1 : World} (hb : Below W.heap.size W w1) : (∀ b o, b < W.heap.size → w1.cell? ⟨b, o, none⟩ = W.cell? ⟨b, o, none⟩) ∧ (∀ b o, b < W.heap.size → w1.frozen? ⟨b, o, none⟩ = W.frozen? ⟨b, o, none⟩) :=
  ⟨fun b o h => hb.cell (p := ⟨b, o, none⟩) h, fun b o h => hb.frozen (p := ⟨b, o, none⟩) h⟩
/-- The numbers of a move fit. -/
def M8 (k f g : Int) : Prop := (-128 ≤ k ∧ k ≤ 127) ∧ (-128 ≤ f ∧ f ≤ 127) ∧ (-128 ≤ g ∧ g ≤ 127)
theorem M8.bk {k f g : Int} (h : M8 k f g) : -128 ≤ k ∧ k ≤ 127 := by unfold M8 at h; exact h.1
theorem M8.bf {k f g : Int} (h : M8 k f g) : -128 ≤ f ∧ f ≤ 127 := by unfold M8 at h; exact h.2.1
theorem M8.bg {k f g : Int} (h : M8 k f g) : -128 ≤ g ∧ g ≤ 127 := by unfold M8 at h; exact h.2.2
section
variable {H : Type} {enc : TypeId × Value → H} {w : World} {base : Nat} {r : Reach} {b0 : Nat}
theorem open_move {v : Value} {d : DataW H} {p : List MemPlace} (hv : Value.okWide Try.prog w r b0 34 v) (h : DataW.Trod enc Try.prog w base (fun _ => true) true 34 v d p) :
    ∃ k f g, v = movV k f g ∧ M8 k f g := by
  obtain ⟨cs, rfl, hsz⟩ := okWide_struct Try.underlying34 hv
  have hC : Try.prog.cellsOf 34 = 3 := by kernel_rfl
  have hC1 : Try.prog.cellsOf 30 = 1 := by kernel_rfl
  obtain ⟨l⟩ := cs
  match l, hsz.trans hC with
  | [c0, c1, c2], _ =>
    obtain ⟨fuel, hf⟩ := h
    obtain ⟨ys, n, _, _, _, hl, hg⟩ := DataW.trod_struct Try.underlying34 hf
    match ys, hl with
    | [y0, y1, y2], _ =>
      have h0 : DataW.trod enc Try.prog w base (fun _ => true) true n 30 (([c0, c1, c2].drop 0).take (Try.prog.cellsOf 30)) = some y0 := hg 0 _ rfl
      have h1 : DataW.trod enc Try.prog w base (fun _ => true) true n 30 (([c0, c1, c2].drop 1).take (Try.prog.cellsOf 30)) = some y1 := hg 1 _ rfl
      have h2 : DataW.trod enc Try.prog w base (fun _ => true) true n 30 (([c0, c1, c2].drop 2).take (Try.prog.cellsOf 30)) = some y2 := hg 2 _ rfl
      rw [hC1] at h0 h1 h2
      simp only [List.drop, List.take] at h0 h1 h2
      obtain ⟨a, e0, _, w0⟩ := DataW.trod_int Try.underlying30 h0
      obtain ⟨b, e1, _, w1⟩ := DataW.trod_int Try.underlying30 h1
      obtain ⟨c, e2, _, w2⟩ := DataW.trod_int Try.underlying30 h2
      simp only [List.cons.injEq, and_true] at e0 e1 e2
      subst e0 e1 e2
      exact ⟨a, b, c, rfl, bounds_i8 w0, bounds_i8 w1, bounds_i8 w2⟩
end
theorem toMove_any (k f g : Int) (w : World) :
    Calls Try.prog 11 #[movV k f g] w fun e w' => e = .returned (movV k f g) ∧ Below w.heap.size w w' := by
  go_enter Try.func11, Try.ntmps11
  go_wp2
  exact bodyPost_ret (v := movV k f g) (by simp [results, Try.results11, go_sem]) rfl ⟨rfl, (((Below.refl _ _).alloc (Nat.le_refl _) _).alloc (by simp) _).alloc (by simp; omega) _⟩
/-- A move as three numbers. -/
abbrev Mv := Int × Int × Int
def mk3 (m : Mv) : Int := m.1
/-- The i-th move of a list. -/
def mvI (ms : List Mv) (i : Nat) : Mv := ms.getD i (0, 0, 0)
/-- The moves of a list lie in block b from off on. -/
def MAt (w : World) (b off : Nat) (ms : List Mv) : Prop := ∀ j, j < ms.length → w.cell? ⟨b, off + j * 3, none⟩ = some (.int .i8 (mvI ms j).1) ∧ w.cell? ⟨b, off + j * 3 + 1, none⟩ = some (.int .i8 (mvI ms j).2.1) ∧ w.cell? ⟨b, off + j * 3 + 2, none⟩ = some (.int .i8 (mvI ms j).2.2)
theorem MAt.below {w w' : World} {b off B : Nat} {ms : List Mv} (h : MAt w b off ms) (hb : Below B w w') (hB : b < B) : MAt w' b off ms := fun j hj =>
  ⟨(hb.cell (p := ⟨b, off + j * 3, none⟩) hB).trans (h j hj).1, (hb.cell (p := ⟨b, off + j * 3 + 1, none⟩) hB).trans (h j hj).2.1, (hb.cell (p := ⟨b, off + j * 3 + 2, none⟩) hB).trans (h j hj).2.2⟩
/-- A slice of moves that came in: nothing is known of one without moves. -/
def Slm (B : Nat) (w : World) (a : Option Addr) (ms : List Mv) : Prop := ms = [] ∨ ∃ b off, a = some ⟨b, off, none⟩ ∧ b < B ∧ MAt w b off ms
theorem Slm.below {B : Nat} {w w' : World} {a : Option Addr} {ms : List Mv} (h : Slm B w a ms) (hb : Below B w w') : Slm B w' a ms := by
  rcases h with h | ⟨b, off, e, hB, hc⟩
  · exact .inl h
  · exact .inr ⟨b, off, e, hB, hc.below hb hB⟩
def Mall (ms : List Mv) : Prop := ∀ j, M8 (mvI ms j).1 (mvI ms j).2.1 (mvI ms j).2.2
/-- The cells of a list of moves. -/
def mcell (ms : List Mv) (i : Nat) : Value := if i % 3 = 0 then .int .i8 (mvI ms (i / 3)).1 else if i % 3 = 1 then .int .i8 (mvI ms (i / 3)).2.1 else .int .i8 (mvI ms (i / 3)).2.2
def mcells (ms : List Mv) : Array Value := Array.ofFn (n := ms.length * 3) (fun i => mcell ms i)
theorem mcell_0 (ms : List Mv) (j : Nat) : mcell ms (j * 3) = .int .i8 (mvI ms j).1 := by
  unfold mcell; rw [if_pos (by omega), show j * 3 / 3 = j by omega]
theorem mcell_1 (ms : List Mv) (j : Nat) : mcell ms (j * 3 + 1) = .int .i8 (mvI ms j).2.1 := by
  unfold mcell; rw [if_neg (by omega), if_pos (by omega), show (j * 3 + 1) / 3 = j by omega]
theorem mcell_2 (ms : List Mv) (j : Nat) : mcell ms (j * 3 + 2) = .int .i8 (mvI ms j).2.2 := by
  unfold mcell; rw [if_neg (by omega), if_neg (by omega), show (j * 3 + 2) / 3 = j by omega]
theorem mcells_get (ms : List Mv) (i : Nat) (h : i < ms.length * 3) : (mcells ms)[i]? = some (mcell ms i) := by
  unfold mcells
  rw [Array.getElem?_ofFn, dif_pos h]
theorem Blk.moves {w : World} {b : Nat} {t : TypeId} {ms : List Mv} (h : Blk w b (mcells ms) t) : MAt w b 0 ms := fun j hj => by
  rw [h.cell, h.cell, h.cell, Nat.zero_add, mcells_get _ _ (by omega), mcells_get _ _ (by omega), mcells_get _ _ (by omega), mcell_0, mcell_1, mcell_2]
  exact ⟨rfl, rfl, rfl⟩
theorem blk_of_row {w : World} {b : Nat} {t : TypeId} {ms : List Mv} (h : w.rowIs b t (ms.length * 3) (mcell ms)) : Blk w b (mcells ms) t := by
  obtain ⟨c, hc, hs, hf⟩ := h
  have e : c = mcells ms := by
    apply Array.ext
    · rw [hs]; simp [mcells]
    · intro i h1 h2
      have := hf i (by omega)
      have h3 := mcells_get ms i (by omega)
      rw [Array.getElem?_eq_getElem h1] at this
      rw [Array.getElem?_eq_getElem h2] at h3
      exact Option.some.inj (this.trans h3.symm)
  subst e
  exact hc
section
variable {H : Type} {enc : TypeId × Value → H} {w : World} {base : Nat} {r : Reach} {b0 : Nat}
theorem move_cells {n : Nat} {cs : List Value} {y : DataW H × List MemPlace} (h : DataW.trod enc Try.prog w base (fun _ => true) true n 34 cs = some y) (hl : cs.length = 3) :
    ∃ m : Mv, cs = [.int .i8 m.1, .int .i8 m.2.1, .int .i8 m.2.2] ∧ M8 m.1 m.2.1 m.2.2 := by
  have hC1 : Try.prog.cellsOf 30 = 1 := by kernel_rfl
  obtain ⟨ys, n, _, _, _, hl2, hg⟩ := DataW.trod_struct Try.underlying34 h
  match cs, hl with
  | [c0, c1, c2], _ =>
  match ys, hl2 with
  | [y0, y1, y2], _ =>
    have h0 : DataW.trod enc Try.prog w base (fun _ => true) true n 30 (([c0, c1, c2].drop 0).take (Try.prog.cellsOf 30)) = some y0 := hg 0 _ rfl
    have h1 : DataW.trod enc Try.prog w base (fun _ => true) true n 30 (([c0, c1, c2].drop 1).take (Try.prog.cellsOf 30)) = some y1 := hg 1 _ rfl
    have h2 : DataW.trod enc Try.prog w base (fun _ => true) true n 30 (([c0, c1, c2].drop 2).take (Try.prog.cellsOf 30)) = some y2 := hg 2 _ rfl
    rw [hC1] at h0 h1 h2
    simp only [List.drop, List.take] at h0 h1 h2
    obtain ⟨a, e0, _, w0⟩ := DataW.trod_int Try.underlying30 h0
    obtain ⟨b, e1, _, w1⟩ := DataW.trod_int Try.underlying30 h1
    obtain ⟨c, e2, _, w2⟩ := DataW.trod_int Try.underlying30 h2
    simp only [List.cons.injEq, and_true] at e0 e1 e2
    subst e0 e1 e2
    exact ⟨(a, b, c), rfl, bounds_i8 w0, bounds_i8 w1, bounds_i8 w2⟩
theorem zero_M8 : M8 0 0 0 := ⟨by omega, by omega, by omega⟩
theorem open_moves {v : Value} {d : DataW H} {p : List MemPlace} (hv : Value.okWide Try.prog w r b0 22 v) (h : DataW.Trod enc Try.prog w base (fun _ => true) true 22 v d p) :
    ∃ a cap ms, v = .slice a (List.length ms) cap ∧ Slm w.heap.size w a ms ∧ Mall ms ∧ ms.length ≤ 9223372036854775807 := by
  obtain ⟨a, len, cap, rfl⟩ := okWide_slice Try.underlying22 hv
  obtain ⟨fuel, hf⟩ := h
  rcases Go.Deep.open_slice Try.underlying22 hf with ⟨e, _⟩ | ⟨x, l, c, m, n, D, Pl, e, _, hlc, hm, hmm, _, hx⟩
  · have e2 := List.cons.inj e |>.1
    cases e2
    exact ⟨none, 0, [], rfl, .inl rfl, fun j => by simpa [mvI] using zero_M8, by simp⟩
  · have e2 := List.cons.inj e |>.1
    cases e2
    have hC : Try.prog.cellsOf 34 = 3 := by kernel_rfl
    rw [hC] at hx
    have hlm : len ≤ m := by rw [hmm]; simpa using hlc
    have each : ∀ i, i < len → ∃ q : Mv, (w.cell? (x.add (i * 3)) = some (.int .i8 q.1) ∧ w.cell? ((x.add (i * 3)).add 1) = some (.int .i8 q.2.1) ∧ w.cell? ((x.add (i * 3)).add 2) = some (.int .i8 q.2.2)) ∧ M8 q.1 q.2.1 q.2.2 := by
      intro i hi
      obtain ⟨cs', h1, h2⟩ := hx i (by omega)
      obtain ⟨_, hlen, hcell⟩ := World.cells?_some h1
      obtain ⟨q, rfl, hq⟩ := move_cells h2 hlen
      have e0 := hcell 0 (by omega)
      have e1 := hcell 1 (by omega)
      have e2 := hcell 2 (by omega)
      exact ⟨q, ⟨by simpa [Addr.add] using e0, by simpa using e1, by simpa using e2⟩, hq⟩
    obtain ⟨q, hq⟩ := Go.Deep.choose_lt each
    refine ⟨some x, cap, (List.range len).map q, by simp, ?_, fun j => ?_, by simp; unfold maxLen at hm; omega⟩
    · by_cases h0 : len = 0
      · subst h0; exact .inl (by simp)
      · obtain ⟨b, off, spot⟩ := x
        have hc0 := (hq 0 (by omega)).1.1
        have hspot : spot = none := by simpa [Addr.add] using World.cell?_spot hc0
        subst hspot
        refine .inr ⟨b, off, rfl, ?_, fun j hj => ?_⟩
        · have := World.block_lt_of_cell? _ _ hc0; simpa [Addr.add] using this
        · simp at hj
          have h2 := (hq j hj).1
          have e1 : (⟨b, off, none⟩ : Addr).add (j * 3) = ⟨b, off + j * 3, none⟩ := Addr.add_lit _ _ _
          rw [e1, Addr.add_lit, Addr.add_lit] at h2
          have e2 : mvI ((List.range len).map q) j = q j := by simp [mvI, List.getD_eq_getElem?_getD, hj]
          rw [e2]
          exact h2
    · by_cases hj : j < len
      · have e2 : mvI ((List.range len).map q) j = q j := by simp [mvI, List.getD_eq_getElem?_getD, hj]
        rw [e2]
        exact (hq j hj).2
      · have e2 : mvI ((List.range len).map q) j = (0, 0, 0) := by simp [mvI, List.getD_eq_getElem?_getD, List.getElem?_eq_none (show (List.range len).length ≤ j by simp; omega)]
        rw [e2]
        exact zero_M8
end
theorem szMoveS_any (a : Option Addr) (n c : Nat) (l : Int) (w : World) (hl : 0 ≤ l ∧ l ≤ 1048576) (hn : n ≤ 9223372036854775807) :
    Calls Try.prog 4 #[.slice a n c, .int .i64 l] w fun e w' => e = .returned (.int .i64 (if l < n then -1 else l - (n : Int))) ∧ w = w' := by
  by_cases h : l < n
  · rw [if_pos h]
    go_enter Try.func4, Try.ntmps4
    go_wp2
    go_ret
    exact ⟨rfl, rfl⟩
  · rw [if_neg h]
    go_enter Try.func4, Try.ntmps4
    go_wp2
    go_ret
    exact ⟨rfl, rfl⟩
theorem Try.info_mv : (Try.prog.info? 32).map (fun i => (i.zero, i.size, i.bytes)) = some (some (.agg #[.int .i8 0, .int .i8 0, .int .i8 0]), 3, 3) := by kernel_rfl
theorem run_make_mv (n : Nat) (hn : n ≤ 1048576) (w : World) : (Instr.makeSlice 25 (.int .i64 n) (.int .i64 n)).run Try.prog w = .ok (.slice (some ⟨w.heap.size, 0, none⟩) n n) (w.alloc (.cells (madeCells #[.int .i8 0, .int .i8 0, .int .i8 0] (n * 3)) 32)) := by
  obtain ⟨i, hi, hzz⟩ := Option.map_eq_some_iff.1 Try.info_mv
  simp only [Prod.mk.injEq] at hzz
  obtain ⟨hz, hs, hb⟩ := hzz
  have hr := run_make (P := Try.prog) w 25 32 i _ Try.underlying25 hi hz .i64 .i64 (n : Int) (n : Int) (by omega) (Int.le_refl _) (by rw [hb]; omega) (by omega)
  rw [hs] at hr
  simp only [Int.toNat_natCast] at hr
  exact hr
theorem made_row (w : World) (n : Nat) (t : TypeId) : (w.alloc (.cells (madeCells #[.int .i8 0, .int .i8 0, .int .i8 0] (n * 3)) t)).rowIs w.heap.size t (n * 3) (fun _ => .int .i8 0) := by
  have h := World.rowIs_alloc w (madeCells #[.int .i8 0, .int .i8 0, .int .i8 0] (n * 3)) t (fun _ => .int .i8 0) (fun i hi => by
    rw [size_madeCells] at hi
    simp only [madeCells, Array.getElem?_map, Array.getElem?_range, hi, if_true, Option.map_some]
    have : i % 3 = 0 ∨ i % 3 = 1 ∨ i % 3 = 2 := by omega
    rcases this with e | e | e <;> simp [e])
  rwa [size_madeCells] at h
/-- The first k moves are laid, the others not yet. -/
def mPart (ms : List Mv) (k i : Nat) : Value := if i < k * 3 then mcell ms i else .int .i8 0
theorem toMoveS_some (b off c : Nat) (ms : List Mv) (w : World) (hn : ms.length ≤ 1048576) (hb : b < w.heap.size) (hc : MAt w b off ms) :
    Calls Try.prog 6 #[.slice (some ⟨b, off, none⟩) ms.length c] w fun e w' => ∃ g, e = .returned (.slice (some ⟨g, 0, none⟩) ms.length ms.length) ∧ w.heap.size ≤ g ∧ Blk w' g (mcells ms) 32 ∧ Below w.heap.size w w' := by
  have hmk := run_make_mv ms.length hn
  go_enter Try.func6, Try.ntmps6
  go_wp2
  clear hmk
  have hr0 := (made_row w ms.length 32).congr (g := mPart ms 0) (fun i _ => by simp [mPart])
  have hB0 := (Below.refl w.heap.size w).alloc (Nat.le_refl _) (.cells (madeCells #[.int .i8 0, .int .i8 0, .int .i8 0] (ms.length * 3)) 32)
  generalize (w.alloc (.cells (madeCells #[.int .i8 0, .int .i8 0, .int .i8 0] (ms.length * 3)) 32)) = w1 at *
  go_loopw [4] (fun i wr => ∃ k : Nat, k ≤ ms.length ∧ i = .int .i64 k ∧ wr.rowIs w.heap.size 32 (ms.length * 3) (mPart ms k) ∧ Below w.heap.size w wr) (fun i _ => ms.length - (intOf i).toNat)
  case atStart => exact ⟨0, Nat.zero_le _, rfl, hr0, hB0⟩
  case round =>
    obtain ⟨k, hk, rfl, hr, hB⟩ := hrel
    by_cases hlt : k < ms.length
    · obtain ⟨c0, c1, c2⟩ := (hc.below hB hb) k hlt
      have HR := Lib.hid hr
      have HB := Lib.hid hB
      have hlt3 := hr.lt
      have hkl : (k : Int) < (ms.length : Int) := by omega
      clear hr hB hc
      go_wp2_with fail
      refine (toMove_any _ _ _ _).mono ?_
      rintro e w2 ⟨rfl, hb2⟩
      have hr2 : w2.rowIs w.heap.size 32 (ms.length * 3) (mPart ms k) := by
        obtain ⟨cs, h1, h2, h3⟩ := HR.out
        exact ⟨cs, (hb2.block _ hlt3).trans h1, h2, h3⟩
      have HB2 := Lib.hid (HB.out.trans (hb2.mono HB.out.size))
      have p0 : w2.cell? ⟨w.heap.size, k * 3, none⟩ = some (.int .i8 0) := by rw [hr2.cell (by omega)]; simp [mPart]
      have p1 : w2.cell? ⟨w.heap.size, k * 3 + 1, none⟩ = some (.int .i8 0) := by rw [hr2.cell (by omega), mPart, if_neg (by omega)]
      have p2 : w2.cell? ⟨w.heap.size, k * 3 + 2, none⟩ = some (.int .i8 0) := by rw [hr2.cell (by omega), mPart, if_neg (by omega)]
      have pf : ∀ j, w2.frozen? ⟨w.heap.size, j, none⟩ = false := fun j => hr2.frozen j
      have HR3 := Lib.hid ((((hr2.set (k * 3) (.int .i8 (mvI ms k).1)).set (k * 3 + 1) (.int .i8 (mvI ms k).2.1)).set (k * 3 + 2) (.int .i8 (mvI ms k).2.2)).congr (g := mPart ms (k + 1)) (fun i hi => by
        unfold mPart
        by_cases e2 : i = k * 3 + 2
        · subst e2; rw [if_pos rfl, if_pos (by omega), mcell_2]
        by_cases e1 : i = k * 3 + 1
        · subst e1; rw [if_neg (by omega), if_pos rfl, if_pos (by omega), mcell_1]
        by_cases e0 : i = k * 3
        · subst e0; rw [if_neg (by omega), if_neg (by omega), if_pos rfl, if_pos (by omega), mcell_0]
        rw [if_neg e2, if_neg e1, if_neg e0]
        by_cases h : i < k * 3
        · rw [if_pos h, if_pos (by omega)]
        · rw [if_neg h, if_neg (by omega)]))
      clear hr2 hb2 HR HB c0 c1 c2
      generalize (mvI ms k).1 = v0 at *
      generalize (mvI ms k).2.1 = v1 at *
      generalize (mvI ms k).2.2 = v2 at *
      go_wp2
      go_roundw
      case rel => exact ⟨k + 1, by omega, by go_num, HR3.out, ((HB2.out.setCell (Nat.le_refl _) _).setCell (Nat.le_refl _) _).setCell (Nat.le_refl _) _⟩
      case measure => simp [intOf]; omega
    · have hkk : k = ms.length := by omega
      have HR := Lib.hid (blk_of_row (hr.congr (g := mcell ms) (fun i hi => by unfold mPart; rw [if_pos (by omega)])))
      clear hkk hr
      go_wp2
      go_ret
      exact ⟨w.heap.size, rfl, Nat.le_refl _, HR.out, hB⟩
theorem toMoveS_nil (a : Option Addr) (c : Nat) (w : World) :
    Calls Try.prog 6 #[.slice a 0 c] w fun e w' => ∃ g, e = .returned (.slice (some ⟨g, 0, none⟩) 0 0) ∧ w.heap.size ≤ g ∧ Blk w' g (mcells []) 32 ∧ Below w.heap.size w w' := by
  have hmk : ∀ w, (Instr.makeSlice 25 (.int .i64 0) (.int .i64 0)).run Try.prog w = .ok (.slice (some ⟨w.heap.size, 0, none⟩) 0 0) (w.alloc (.cells (madeCells #[.int .i8 0, .int .i8 0, .int .i8 0] (0 * 3)) 32)) := fun w => run_make_mv 0 (by omega) w
  have hB0 := (Below.refl w.heap.size w).alloc (Nat.le_refl _) (.cells (madeCells #[.int .i8 0, .int .i8 0, .int .i8 0] (0 * 3)) 32)
  have hr0 := blk_of_row (ms := []) ((made_row w 0 32).congr (g := mcell []) (fun i h => absurd h (by omega)))
  go_enter Try.func6, Try.ntmps6
  go_wp2
  clear hmk
  refine wp_loop_rounds 1 ?_
  rw [rounds_succ]
  go_wp2
  go_ret
  exact ⟨w.heap.size, rfl, Nat.le_refl _, hr0, hB0⟩
theorem toMoveS_any (B : Nat) (a : Option Addr) (c : Nat) (ms : List Mv) (w : World) (hn : ms.length ≤ 1048576) (hB : B ≤ w.heap.size) (h : Slm B w a ms) :
    Calls Try.prog 6 #[.slice a ms.length c] w fun e w' => ∃ g, e = .returned (.slice (some ⟨g, 0, none⟩) ms.length ms.length) ∧ w.heap.size ≤ g ∧ Blk w' g (mcells ms) 32 ∧ Below w.heap.size w w' := by
  rcases h with rfl | ⟨b, off, rfl, hb, hc⟩
  · exact toMoveS_nil a c w
  · exact toMoveS_some b off c ms w hn (by omega) hc
theorem eqMove_same (k f g : Int) (w : World) :
    Calls Try.prog 15 #[movV k f g, movV k f g] w fun e w' => e = .returned (.bool true) ∧ Below w.heap.size w w' := by
  go_enter Try.func15, Try.ntmps15
  go_wp2
  go_ret
  exact ⟨rfl, ((Below.refl _ _).alloc (Nat.le_refl _) _).alloc (by simp) _⟩
theorem eqMoveS_same (b c b2 c2 : Nat) (ms : List Mv) (w : World) (hn : ms.length ≤ 1048576) (hb : b < w.heap.size) (hb2 : b2 < w.heap.size) (hc : MAt w b 0 ms) (hc2 : MAt w b2 0 ms) :
    Calls Try.prog 8 #[.slice (some ⟨b, 0, none⟩) ms.length c, .slice (some ⟨b2, 0, none⟩) ms.length c2] w fun e w' => e = .returned (.bool true) ∧ Below w.heap.size w w' := by
  go_enter Try.func8, Try.ntmps8
  go_wp2
  go_loopw [5] (fun i wr => ∃ k : Nat, k ≤ ms.length ∧ i = .int .i64 k ∧ Below w.heap.size w wr) (fun i _ => ms.length - (intOf i).toNat)
  case atStart => exact ⟨0, Nat.zero_le _, rfl, Below.refl _ _⟩
  case round =>
    obtain ⟨k, hk, rfl, hB⟩ := hrel
    by_cases hlt : k < ms.length
    · obtain ⟨p0, p1, p2⟩ := (hc.below hB hb) k hlt
      obtain ⟨q0, q1, q2⟩ := (hc2.below hB hb2) k hlt
      rw [Nat.zero_add] at p0 p1 p2 q0 q1 q2
      have hkl : (k : Int) < (ms.length : Int) := by omega
      have HB := Lib.hid hB
      clear hB
      go_upto_region 6 with fail
      refine wp_region_still_tail 8 (by kernel_rfl) (by kernel_rfl) ?_
      simp only [List.take_succ_cons, List.take_zero, List.drop_succ_cons, List.drop_zero]
      iterate 8 still_step
      refine wpStill_nil ?_
      have HB2 := Lib.hid (show Below w.heap.size w wr.drew from HB.out.drew)
      change wpList _ _ _ _ _ wr.drew
      clear p0 p1 p2 q0 q1 q2 HB
      generalize wr.drew = w2 at *
      go_wp2_with fail
      refine (eqMove_same _ _ _ _).mono ?_
      rintro e w3 ⟨rfl, hb3⟩
      have HB3 := Lib.hid (HB2.out.trans (hb3.mono HB2.out.size))
      clear hb3
      go_wp2
      go_roundw
      case rel => exact ⟨k + 1, by omega, by go_num, HB3.out⟩
      case measure => simp [intOf]; omega
    · go_wp2
      go_ret
      exact ⟨rfl, hB⟩
end Go.Proofs.Ytadegplgmicaoaa
