/-
  Lists of words and fixed plans: as they come in, copied, and compared.
-/
import Derived.Test.YtnleblnikcoaiaaD1
import Derived.Deep.Slices
import Derived.StillTailTactics
import Derived.Deep.DeepCutAuto
namespace Go.Proofs.Ytnleblnikcoaiaa
open Go.RowKit Go.ChangeShapes Go.WideShapes
set_option maxRecDepth 100000
set_option linter.unusedVariables false

abbrev Wf := Nat → Int
/-- The i-th word of a list. -/
def wI (ws : List Wf) (i : Nat) : Wf := ws.getD i (fun _ => 0)
/-- The words of a list lie in block b from off on. -/
def WAt (w : World) (b off : Nat) (ws : List Wf) : Prop := ∀ j, j < ws.length → ∀ i, i < 4 → w.cell? ⟨b, off + j * 4 + i, none⟩ = some (.int .i8 (wI ws j i))
theorem WAt.below {w w' : World} {b off B : Nat} {ws : List Wf} (h : WAt w b off ws) (hb : Below B w w') (hB : b < B) : WAt w' b off ws := fun j hj i hi => (hb.cell (p := ⟨b, off + j * 4 + i, none⟩) hB).trans (h j hj i hi)
theorem WAt.four {w : World} {b off : Nat} {ws : List Wf} (h : WAt w b off ws) (j : Nat) (hj : j < ws.length) :
    w.cell? ⟨b, off + j * 4, none⟩ = some (.int .i8 (wI ws j 0)) ∧ w.cell? ⟨b, off + j * 4 + 1, none⟩ = some (.int .i8 (wI ws j 1)) ∧ w.cell? ⟨b, off + j * 4 + 2, none⟩ = some (.int .i8 (wI ws j 2)) ∧ w.cell? ⟨b, off + j * 4 + 3, none⟩ = some (.int .i8 (wI ws j 3)) :=
  ⟨h j hj 0 (by decide), h j hj 1 (by decide), h j hj 2 (by decide), h j hj 3 (by decide)⟩
/-- A slice of words that came in: nothing is known of one without words. -/
def Slw (B : Nat) (w : World) (a : Option Addr) (ws : List Wf) : Prop := ws = [] ∨ ∃ b off, a = some ⟨b, off, none⟩ ∧ b < B ∧ WAt w b off ws
theorem Slw.below {B : Nat} {w w' : World} {a : Option Addr} {ws : List Wf} (h : Slw B w a ws) (hb : Below B w w') : Slw B w' a ws := by
  rcases h with h | ⟨b, off, e, hB, hc⟩
  · exact .inl h
  · exact .inr ⟨b, off, e, hB, hc.below hb hB⟩
def Wall (ws : List Wf) : Prop := ∀ j, W4 (wI ws j)
abbrev fixV (l k : Int) (a : Option Addr) (n c : Nat) : Value := .agg #[.int .i8 l, .int .i8 k, .slice a n c]
/-- The cells of a list of words. -/
def wcell (ws : List Wf) (i : Nat) : Value := .int .i8 (wI ws (i / 4) (i % 4))
def wcells (ws : List Wf) : Array Value := Array.ofFn (n := ws.length * 4) (fun i => wcell ws i)
theorem wcell_at (ws : List Wf) (j i : Nat) (h : i < 4) : wcell ws (j * 4 + i) = .int .i8 (wI ws j i) := by
  unfold wcell
  rw [show (j * 4 + i) / 4 = j by omega, show (j * 4 + i) % 4 = i by omega]
theorem wcells_get (ws : List Wf) (i : Nat) (h : i < ws.length * 4) : (wcells ws)[i]? = some (wcell ws i) := by
  unfold wcells
  rw [Array.getElem?_ofFn, dif_pos h]
theorem Blk.words {w : World} {b : Nat} {t : TypeId} {ws : List Wf} (h : Blk w b (wcells ws) t) : WAt w b 0 ws := fun j hj i hi => by
  rw [h.cell, Nat.zero_add, wcells_get _ _ (by omega), wcell_at _ _ _ hi]
theorem blk_of_row {w : World} {b : Nat} {t : TypeId} {ws : List Wf} (h : w.rowIs b t (ws.length * 4) (wcell ws)) : Blk w b (wcells ws) t := by
  obtain ⟨c, hc, hs, hf⟩ := h
  have e : c = wcells ws := by
    apply Array.ext
    · rw [hs]; simp [wcells]
    · intro i h1 h2
      have := hf i (by omega)
      have h3 := wcells_get ws i (by omega)
      rw [Array.getElem?_eq_getElem h1] at this
      rw [Array.getElem?_eq_getElem h2] at h3
      exact Option.some.inj (this.trans h3.symm)
  subst e
  exact hc
section
variable {H : Type} {enc : TypeId × Value → H} {w : World} {base : Nat} {r : Reach} {b0 : Nat}
theorem zero_W4 : W4 (fun _ => 0) := fun i _ => by show -128 ≤ (0 : Int) ∧ (0 : Int) ≤ 127; omega
theorem words_of {fuel : Nat} {v : Value} {x : DataW H × List MemPlace} (hf : DataW.trod enc Try.prog w base (fun _ => true) true fuel 23 [v] = some x) :
    ∃ a cap ws, v = .slice a (List.length ws) cap ∧ Slw w.heap.size w a ws ∧ Wall ws ∧ ws.length ≤ 9223372036854775807 := by
  rcases Go.Deep.open_slice Try.underlying23 hf with ⟨e, _⟩ | ⟨x, l, c, m, n, D, Pl, e, _, hlc, hm, hmm, _, hx⟩
  · have e2 := List.cons.inj e |>.1
    cases e2
    exact ⟨none, 0, [], rfl, .inl rfl, fun j => by simpa [wI] using zero_W4, by simp⟩
  · have e2 := List.cons.inj e |>.1
    cases e2
    have hC : Try.prog.cellsOf 29 = 4 := by kernel_rfl
    rw [hC] at hx
    have hlm : l ≤ m := by rw [hmm]; simpa using hlc
    have each : ∀ i, i < l → ∃ q : Wf, (∀ k, k < 4 → w.cell? ((x.add (i * 4)).add k) = some (.int .i8 (q k))) ∧ W4 q := by
      intro i hi
      obtain ⟨cs', h1, h2⟩ := hx i (by omega)
      obtain ⟨_, hlen, hcell⟩ := World.cells?_some h1
      match cs', hlen with
      | [c0, c1, c2, c3], _ =>
        obtain ⟨q, rfl, rfl, rfl, rfl, hq⟩ := word_cells Try.underlying29 h2
        refine ⟨q, fun k hk => ?_, hq⟩
        have e0 := hcell k (by omega)
        match k, hk with
        | 0, _ => simpa using e0
        | 1, _ => simpa using e0
        | 2, _ => simpa using e0
        | 3, _ => simpa using e0
    obtain ⟨q, hq⟩ := Go.Deep.choose_lt each
    refine ⟨some x, c, (List.range l).map q, by simp, ?_, fun j => ?_, by simp; unfold maxLen at hm; omega⟩
    · by_cases h0 : l = 0
      · subst h0; exact .inl (by simp)
      · obtain ⟨b, off, spot⟩ := x
        have hc0 := (hq 0 (by omega)).1 0 (by decide)
        have hspot : spot = none := by simpa [Addr.add] using World.cell?_spot hc0
        subst hspot
        refine .inr ⟨b, off, rfl, ?_, fun j hj i hi => ?_⟩
        · have := World.block_lt_of_cell? _ _ hc0; simpa [Addr.add] using this
        · simp at hj
          have h2 := (hq j hj).1 i hi
          have e1 : (⟨b, off, none⟩ : Addr).add (j * 4) = ⟨b, off + j * 4, none⟩ := Addr.add_lit _ _ _
          rw [e1, Addr.add_lit] at h2
          have e2 : wI ((List.range l).map q) j = q j := by simp [wI, List.getD_eq_getElem?_getD, hj]
          rw [e2]
          exact h2
    · by_cases hj : j < l
      · have e2 : wI ((List.range l).map q) j = q j := by simp [wI, List.getD_eq_getElem?_getD, hj]
        rw [e2]
        exact (hq j hj).2
      · have e2 : wI ((List.range l).map q) j = (fun _ => 0) := by simp [wI, List.getD_eq_getElem?_getD, List.getElem?_eq_none (show (List.range l).length ≤ j by simp; omega)]
        rw [e2]
        exact zero_W4
theorem open_fixed {v : Value} {d : DataW H} {p : List MemPlace} (hv : Value.okWide Try.prog w r b0 25 v) (h : DataW.Trod enc Try.prog w base (fun _ => true) true 25 v d p) :
    ∃ l k a cap ws, v = fixV l k a (List.length ws) cap ∧ B8 l ∧ B8 k ∧ Slw w.heap.size w a ws ∧ ws.length ≤ 9223372036854775807 ∧ Wall ws := by
  obtain ⟨cs, rfl, hsz⟩ := okWide_struct Try.underlying25 hv
  have hC : Try.prog.cellsOf 25 = 3 := by kernel_rfl
  have hC1 : Try.prog.cellsOf 22 = 1 := by kernel_rfl
  have hC2 : Try.prog.cellsOf 23 = 1 := by kernel_rfl
  obtain ⟨l⟩ := cs
  match l, hsz.trans hC with
  | [c0, c1, c2], _ =>
    obtain ⟨fuel, hf⟩ := h
    obtain ⟨ys, n, _, _, _, hl, hg⟩ := DataW.trod_struct Try.underlying25 hf
    match ys, hl with
    | [y0, y1, y2], _ =>
      have h0 : DataW.trod enc Try.prog w base (fun _ => true) true n 22 (([c0, c1, c2].drop 0).take (Try.prog.cellsOf 22)) = some y0 := hg 0 _ rfl
      have h1 : DataW.trod enc Try.prog w base (fun _ => true) true n 22 (([c0, c1, c2].drop 1).take (Try.prog.cellsOf 22)) = some y1 := hg 1 _ rfl
      have h2 : DataW.trod enc Try.prog w base (fun _ => true) true n 23 (([c0, c1, c2].drop 2).take (Try.prog.cellsOf 23)) = some y2 := hg 2 _ rfl
      rw [hC1] at h0 h1
      rw [hC2] at h2
      simp only [List.drop, List.take] at h0 h1 h2
      obtain ⟨a0, e0, _, w0⟩ := DataW.trod_int Try.underlying22 h0
      obtain ⟨a1, e1, _, w1⟩ := DataW.trod_int Try.underlying22 h1
      obtain ⟨a, cap, ws, rfl, hs, hw, hn⟩ := words_of h2
      simp only [List.cons.injEq, and_true] at e0 e1
      subst e0 e1
      exact ⟨a0, a1, a, cap, ws, rfl, bounds_i8 w0, bounds_i8 w1, hs, hn, hw⟩
theorem e1_mark : True := trivial
end
theorem szWordS_any (a : Option Addr) (n c : Nat) (l : Int) (w : World) (hl : 0 ≤ l ∧ l ≤ 1048576) (hn : n ≤ 9223372036854775807) :
    Calls Try.prog 28 #[.slice a n c, .int .i64 l] w fun e w' => e = .returned (.int .i64 (if l < n then -1 else l - (n : Int))) ∧ w = w' := by
  by_cases h : l < n
  · rw [if_pos h]
    go_enter Try.func28, Try.ntmps28
    go_wp2
    go_ret
    exact ⟨rfl, rfl⟩
  · rw [if_neg h]
    go_enter Try.func28, Try.ntmps28
    go_wp2
    go_ret
    exact ⟨rfl, rfl⟩
theorem szFixed_any (l k : Int) (a : Option Addr) (n c : Nat) (m : Int) (w : World) (hl : 0 ≤ m ∧ m ≤ 1048576) (hn : n ≤ 9223372036854775807) :
    Calls Try.prog 9 #[fixV l k a n c, .int .i64 m] w fun e w' => e = .returned (.int .i64 (if m < n then -1 else m - (n : Int))) ∧ Below w.heap.size w w' := by
  have HB := Lib.hid ((Below.refl w.heap.size w).alloc (Nat.le_refl _) (.cells #[.int .i8 l, .int .i8 k, .slice a n c] 25))
  have HS := Lib.hid (fun W => szWordS_any a n c m W hl hn)
  by_cases h : m < n
  · rw [if_pos h] at HS ⊢
    go_enter Try.func9, Try.ntmps9
    go_wp2_with fail
    refine (HS.out _).mono ?_
    rintro e w2 ⟨rfl, rfl⟩
    go_wp2
    go_ret
    exact ⟨rfl, HB.out⟩
  · rw [if_neg h] at HS ⊢
    have hq : 0 ≤ m - (n : Int) := by omega
    generalize m - (n : Int) = q at *
    clear h
    go_enter Try.func9, Try.ntmps9
    go_wp2_with fail
    refine (HS.out _).mono ?_
    rintro e w2 ⟨rfl, rfl⟩
    go_wp2
    go_ret
    exact ⟨rfl, HB.out⟩
end Go.Proofs.Ytnleblnikcoaiaa
