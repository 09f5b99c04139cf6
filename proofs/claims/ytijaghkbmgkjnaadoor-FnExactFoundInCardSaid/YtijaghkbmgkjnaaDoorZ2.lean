/-
  Games qs they come in: a list of questions with their answers.
-/
import Derived.Test.YtijaghkbmgkjnaaDoorZ1
import Derived.Deep.Slices
namespace Go.Proofs.YtijaghkbmgkjnaaDoor
open Go.RowKit Go.ChangeShapes Go.WideShapes
set_option maxRecDepth 100000
set_option linter.unusedVariables false

/-- A question and its answer. -/
abbrev Ak := Int × Bool
abbrev askV (a : Ak) : Value := .agg #[.int .u64 a.1, .bool a.2]
/-- The i-th question of a list. -/
def akI (qs : List Ak) (i : Nat) : Ak := qs.getD i (0, false)
def U64 (n : Int) : Prop := 0 ≤ n ∧ n ≤ 18446744073709551615
def Aall (qs : List Ak) : Prop := ∀ j, U64 (akI qs j).1
/-- The questions of a list lie in block b from off on. -/
def AAt (w : World) (b off : Nat) (qs : List Ak) : Prop := ∀ j, j < qs.length → w.cell? ⟨b, off + j * 2, none⟩ = some (.int .u64 (akI qs j).1) ∧ w.cell? ⟨b, off + j * 2 + 1, none⟩ = some (.bool (akI qs j).2)
theorem AAt.below {w w' : World} {b off B : Nat} {qs : List Ak} (h : AAt w b off qs) (hb : Below B w w') (hB : b < B) : AAt w' b off qs := fun j hj =>
  ⟨(hb.cell (p := ⟨b, off + j * 2, none⟩) hB).trans (h j hj).1, (hb.cell (p := ⟨b, off + j * 2 + 1, none⟩) hB).trans (h j hj).2⟩
theorem Dr.aat {w w' : World} (h : Dr w w') {b off : Nat} {qs : List Ak} (hb : AAt w b off qs) : AAt w' b off qs := by obtain ⟨q, rfl⟩ := h; exact hb
theorem aat_dr {w : World} {b off : Nat} {qs : List Ak} (h : AAt w b off qs) (q : Nat) : AAt (w.drewN q) b off qs := h
/-- A slice of questions that came in: nothing is known of one without questions. -/
def Sla (B : Nat) (w : World) (a : Option Addr) (qs : List Ak) : Prop := qs = [] ∨ ∃ b off, a = some ⟨b, off, none⟩ ∧ b < B ∧ AAt w b off qs
theorem Sla.below {B : Nat} {w w' : World} {a : Option Addr} {qs : List Ak} (h : Sla B w a qs) (hb : Below B w w') : Sla B w' a qs := by
  rcases h with h | ⟨b, off, e, hB, hc⟩
  · exact .inl h
  · exact .inr ⟨b, off, e, hB, hc.below hb hB⟩
theorem Sla.up {B : Nat} {w w' : World} {a : Option Addr} {qs : List Ak} (h : Sla B w a qs) (hb : Below B w w') (hs : B ≤ w.heap.size) : Sla w'.heap.size w' a qs := by
  rcases h with h | ⟨b, off, rfl, hB, hc⟩
  · exact .inl h
  · exact .inr ⟨b, off, rfl, by have := hb.size; omega, hc.below hb hB⟩
/-- The cells of a list of questions. -/
def acell (qs : List Ak) (i : Nat) : Value := if i % 2 = 0 then .int .u64 (akI qs (i / 2)).1 else .bool (akI qs (i / 2)).2
def acells (qs : List Ak) : Array Value := Array.ofFn (n := qs.length * 2) (fun i => acell qs i)
theorem acell_0 (qs : List Ak) (j : Nat) : acell qs (j * 2) = .int .u64 (akI qs j).1 := by
  unfold acell; rw [if_pos (by omega), show j * 2 / 2 = j by omega]
theorem acell_1 (qs : List Ak) (j : Nat) : acell qs (j * 2 + 1) = .bool (akI qs j).2 := by
  unfold acell; rw [if_neg (by omega), show (j * 2 + 1) / 2 = j by omega]
theorem acells_size (qs : List Ak) : (acells qs).size = qs.length * 2 := by simp [acells]
theorem acells_get (qs : List Ak) (i : Nat) (h : i < qs.length * 2) : (acells qs)[i]? = some (acell qs i) := by
  unfold acells
  rw [Array.getElem?_ofFn, dif_pos h]
theorem Blk.asks {w : World} {b : Nat} {t : TypeId} {qs : List Ak} (h : Blk w b (acells qs) t) : AAt w b 0 qs := fun j hj => by
  rw [h.cell, h.cell, Nat.zero_add, acells_get _ _ (by omega), acells_get _ _ (by omega), acell_0, acell_1]
  exact ⟨rfl, rfl⟩
theorem Sla.own {w : World} {b : Nat} {qs : List Ak} {t : TypeId} (h : Blk w b (acells qs) t) : Sla w.heap.size w (some ⟨b, 0, none⟩) qs := .inr ⟨b, 0, rfl, h.lt, h.asks⟩
theorem blk_of_rowa {w : World} {b : Nat} {t : TypeId} {qs : List Ak} (h : w.rowIs b t (qs.length * 2) (acell qs)) : Blk w b (acells qs) t := by
  obtain ⟨c, hc, hs, hf⟩ := h
  have e : c = acells qs := by
    apply Array.ext
    · rw [hs]; simp [acells]
    · intro i h1 h2
      have := hf i (by omega)
      have h3 := acells_get qs i (by omega)
      rw [Array.getElem?_eq_getElem h1] at this
      rw [Array.getElem?_eq_getElem h2] at h3
      exact Option.some.inj (this.trans h3.symm)
  subst e
  exact hc
theorem rowa_of_blk {w : World} {b : Nat} {t : TypeId} {qs : List Ak} (h : Blk w b (acells qs) t) : w.rowIs b t (qs.length * 2) (acell qs) :=
  ⟨acells qs, h, by simp [acells], fun i hi => acells_get qs i hi⟩
theorem Blk.three {w : World} {b : Nat} {a0 a1 a2 : Value} {t : TypeId} (h : Blk w b #[a0, a1, a2] t) :
    w.cell? ⟨b, 0, none⟩ = some a0 ∧ w.cell? ⟨b, 1, none⟩ = some a1 ∧ w.cell? ⟨b, 2, none⟩ = some a2 ∧ ∀ i, w.frozen? ⟨b, i, none⟩ = false :=
  ⟨h.cell 0, h.cell 1, h.cell 2, h.free⟩
/-- The value of a game. -/
abbrev gamV (l k : Int) (a : Option Addr) (n c : Nat) : Value := .agg #[.int .i8 l, .int .i8 k, .slice a n c]
theorem bounds_u64 {n : Int} (h : (Lit.int .u64 n).wf = true) : U64 n := by
  simp only [Lit.wf, Bool.and_eq_true, decide_eq_true_eq] at h
  exact ⟨h.1, h.2⟩
section
variable {H : Type} {enc : TypeId × Value → H} {w : World} {base : Nat} {r : Reach} {b0 : Nat}
theorem ask_cells {n : Nat} {cs : List Value} {y : DataW H × List MemPlace} (h : DataW.trod enc Tryd.prog w base (fun _ => true) true n 56 cs = some y) (hl : cs.length = 2) :
    ∃ m : Ak, cs = [.int .u64 m.1, .bool m.2] ∧ U64 m.1 := by
  have hC1 : Tryd.prog.cellsOf 49 = 1 := by kernel_rfl
  have hC2 : Tryd.prog.cellsOf 4 = 1 := by kernel_rfl
  obtain ⟨ys, n, _, _, _, hl2, hg⟩ := DataW.trod_struct Tryd.underlying56 h
  match cs, hl with
  | [c0, c1], _ =>
  match ys, hl2 with
  | [y0, y1], _ =>
    have h0 : DataW.trod enc Tryd.prog w base (fun _ => true) true n 49 (([c0, c1].drop 0).take (Tryd.prog.cellsOf 49)) = some y0 := hg 0 _ rfl
    have h1 : DataW.trod enc Tryd.prog w base (fun _ => true) true n 4 (([c0, c1].drop 1).take (Tryd.prog.cellsOf 4)) = some y1 := hg 1 _ rfl
    rw [hC1] at h0
    rw [hC2] at h1
    simp only [List.drop, List.take] at h0 h1
    obtain ⟨a, e0, _, w0⟩ := DataW.trod_int Tryd.underlying49 h0
    obtain ⟨b, e1, _⟩ := DataW.trod_bool Tryd.underlying4 h1
    simp only [List.cons.injEq, and_true] at e0 e1
    subst e0 e1
    exact ⟨(a, b), rfl, bounds_u64 w0⟩
theorem asks_row {fuel : Nat} {v : Value} {y : DataW H × List MemPlace} (hf : DataW.trod enc Tryd.prog w base (fun _ => true) true fuel 23 [v] = some y) :
    ∃ a cap qs, v = .slice a (List.length qs) cap ∧ Sla w.heap.size w a qs ∧ Aall qs ∧ qs.length ≤ 9223372036854775807 := by
  rcases Go.Deep.open_slice Tryd.underlying23 hf with ⟨e, _⟩ | ⟨x, len, cap, m, n, D, Pl, e, _, hlc, hm, hmm, _, hx⟩
  · have e2 := List.cons.inj e |>.1
    subst e2
    exact ⟨none, 0, [], rfl, .inl rfl, fun j => by simp [akI, U64], by simp⟩
  · have e2 := List.cons.inj e |>.1
    subst e2
    have hC : Tryd.prog.cellsOf 56 = 2 := by kernel_rfl
    rw [hC] at hx
    have hlm : len ≤ m := by rw [hmm]; simpa using hlc
    have each : ∀ i, i < len → ∃ q : Ak, (w.cell? (x.add (i * 2)) = some (.int .u64 q.1) ∧ w.cell? ((x.add (i * 2)).add 1) = some (.bool q.2)) ∧ U64 q.1 := by
      intro i hi
      obtain ⟨cs', h1, h2⟩ := hx i (by omega)
      obtain ⟨_, hlen, hcell⟩ := World.cells?_some h1
      obtain ⟨q, rfl, hq⟩ := ask_cells h2 hlen
      have e0 := hcell 0 (by omega)
      have e1 := hcell 1 (by omega)
      exact ⟨q, ⟨by simpa [Addr.add] using e0, by simpa using e1⟩, hq⟩
    obtain ⟨q, hq⟩ := Go.Deep.choose_lt each
    refine ⟨some x, cap, (List.range len).map q, by simp, ?_, fun j => ?_, by simp; unfold maxLen at hm; omega⟩
    · by_cases h0 : len = 0
      · subst h0; exact .inl (by simp)
      · obtain ⟨b, off, spot⟩ := x
        have hc0 := (hq 0 (by omega)).1.1
        have hspot : spot = none := by simpa [Addr.add] using World.cell?_spot hc0
        subst hspot
        refine .inr ⟨b, off, rfl, ?_, fun j hj => ?_⟩
        · have := World.block_lt_of_cell? _ _ hc0; simpa [Addr.add] using this
        · simp at hj
          have h2 := (hq j hj).1
          have e1 : (⟨b, off, none⟩ : Addr).add (j * 2) = ⟨b, off + j * 2, none⟩ := Addr.add_lit _ _ _
          rw [e1, Addr.add_lit] at h2
          have e2 : akI ((List.range len).map q) j = q j := by simp [akI, List.getD_eq_getElem?_getD, hj]
          rw [e2]
          exact h2
    · by_cases hj : j < len
      · have e2 : akI ((List.range len).map q) j = q j := by simp [akI, List.getD_eq_getElem?_getD, hj]
        rw [e2]
        exact (hq j hj).2
      · have e2 : akI ((List.range len).map q) j = (0, false) := by simp [akI, List.getD_eq_getElem?_getD, List.getElem?_eq_none (show (List.range len).length ≤ j by simp; omega)]
        rw [e2]
        simp [U64]
theorem open_game {v : Value} {d : DataW H} {p : List MemPlace} (hv : Value.okWide Tryd.prog w r b0 25 v) (h : DataW.Trod enc Tryd.prog w base (fun _ => true) true 25 v d p) :
    ∃ l k a cap qs, v = gamV l k a (List.length qs) cap ∧ B8 l ∧ B8 k ∧ Sla w.heap.size w a qs ∧ qs.length ≤ 9223372036854775807 ∧ Aall qs := by
  obtain ⟨cs, rfl, hsz⟩ := okWide_struct Tryd.underlying25 hv
  have hC : Tryd.prog.cellsOf 25 = 3 := by kernel_rfl
  have hC1 : Tryd.prog.cellsOf 22 = 1 := by kernel_rfl
  have hC2 : Tryd.prog.cellsOf 23 = 1 := by kernel_rfl
  obtain ⟨l⟩ := cs
  match l, hsz.trans hC with
  | [c0, c1, c2], _ =>
    obtain ⟨fuel, hf⟩ := h
    obtain ⟨ys, n, _, _, _, hl, hg⟩ := DataW.trod_struct Tryd.underlying25 hf
    match ys, hl with
    | [y0, y1, y2], _ =>
      have h0 : DataW.trod enc Tryd.prog w base (fun _ => true) true n 22 (([c0, c1, c2].drop 0).take (Tryd.prog.cellsOf 22)) = some y0 := hg 0 _ rfl
      have h1 : DataW.trod enc Tryd.prog w base (fun _ => true) true n 22 (([c0, c1, c2].drop 1).take (Tryd.prog.cellsOf 22)) = some y1 := hg 1 _ rfl
      have h2 : DataW.trod enc Tryd.prog w base (fun _ => true) true n 23 (([c0, c1, c2].drop 2).take (Tryd.prog.cellsOf 23)) = some y2 := hg 2 _ rfl
      rw [hC1] at h0 h1
      rw [hC2] at h2
      simp only [List.drop, List.take] at h0 h1 h2
      obtain ⟨a0, e0, _, w0⟩ := DataW.trod_int Tryd.underlying22 h0
      obtain ⟨a1, e1, _, w1⟩ := DataW.trod_int Tryd.underlying22 h1
      obtain ⟨a, cap, qs, e2, hs, hw, hl⟩ := asks_row h2
      simp only [List.cons.injEq, and_true] at e0 e1
      subst e0 e1 e2
      exact ⟨a0, a1, a, cap, qs, rfl, bounds_i8 w0, bounds_i8 w1, hs, hl, hw⟩
theorem z2_mark : True := trivial
end
end Go.Proofs.YtijaghkbmgkjnaaDoor
