/-
  Glasses and tops as they come in, copied, and compared; rows of numbers as blocks.
-/
import Derived.Test.YtnpgnekofclciaaDoorC1
import Derived.Deep.Slices
namespace Go.Proofs.YtnpgnekofclciaaDoor
open Go.RowKit Go.ChangeShapes Go.WideShapes
set_option maxRecDepth 100000
set_option linter.unusedVariables false

/-- The value of tops, or of a water. -/
abbrev watV (x : Nat → Int) : Value := .agg #[.int .i16 (x 0), .int .i16 (x 1), .int .i16 (x 2), .int .i16 (x 3)]
abbrev watC (x : Nat → Int) : Array Value := #[.int .i16 (x 0), .int .i16 (x 1), .int .i16 (x 2), .int .i16 (x 3)]
/-- The cells of a list of numbers. -/
def rcells (k : IntKind) (xs : List Int) : Array Value := Array.ofFn (n := xs.length) (fun i => .int k (xs.getD i 0))
theorem rcells_get (k : IntKind) (xs : List Int) (i : Nat) (h : i < xs.length) : (rcells k xs)[i]? = some (.int k (xs.getD i 0)) := by
  unfold rcells
  rw [Array.getElem?_ofFn, dif_pos h]
theorem Blk.ints {k : IntKind} {w : World} {b : Nat} {t : TypeId} {xs : List Int} (h : Blk w b (rcells k xs) t) : At k w b 0 xs := fun j hj => by
  rw [h.cell, Nat.zero_add, rcells_get _ _ _ hj]
theorem blk_of_ints {k : IntKind} {w : World} {b : Nat} {t : TypeId} {xs : List Int} (h : RowOf k t w b xs) : Blk w b (rcells k xs) t := by
  obtain ⟨c, hc, hs, hf⟩ := h
  have e : c = rcells k xs := by
    apply Array.ext
    · rw [hs]; simp [rcells]
    · intro i h1 h2
      have := hf i (by omega)
      have h3 := rcells_get k xs i (by omega)
      rw [Array.getElem?_eq_getElem h1] at this
      rw [Array.getElem?_eq_getElem h2] at h3
      exact Option.some.inj (this.trans h3.symm)
  subst e
  exact hc
theorem ints_of_blk {k : IntKind} {w : World} {b : Nat} {t : TypeId} {xs : List Int} (h : Blk w b (rcells k xs) t) : RowOf k t w b xs :=
  ⟨rcells k xs, h, by simp [rcells], fun i hi => rcells_get k xs i hi⟩
theorem Sl.own {k : IntKind} {w : World} {b : Nat} {xs : List Int} {t : TypeId} (h : Blk w b (rcells k xs) t) : Sl k w.heap.size w (some ⟨b, 0, none⟩) xs := .inr ⟨b, 0, rfl, h.lt, h.ints⟩
theorem Sl.up {k : IntKind} {B : Nat} {w w' : World} {a : Option Addr} {xs : List Int} (h : Sl k B w a xs) (hb : Below B w w') (hs : B ≤ w.heap.size) : Sl k w'.heap.size w' a xs := by
  rcases h with h | ⟨b, off, rfl, hB, hc⟩
  · exact .inl h
  · exact .inr ⟨b, off, rfl, by have := hb.size; omega, hc.below hb hB⟩
theorem u8_of {xs : List Int} (h : ∀ n ∈ xs, (Lit.int .u8 n).wf = true) : ∀ j, 0 ≤ xs.getD j 0 ∧ xs.getD j 0 ≤ 255 := by
  intro j
  by_cases hj : j < xs.length
  · have := h _ (List.getElem_mem hj)
    have e : xs.getD j 0 = xs[j] := by rw [List.getD_eq_getElem?_getD, List.getElem?_eq_getElem hj]; rfl
    rw [e]
    simp only [Lit.wf, Bool.and_eq_true, decide_eq_true_eq] at this
    exact ⟨this.1, this.2⟩
  · rw [List.getD_eq_getElem?_getD, List.getElem?_eq_none (by omega)]; simp
theorem bounds_u8 {n : Int} (h : (Lit.int .u8 n).wf = true) : 0 ≤ n ∧ n ≤ 255 := by
  simp only [Lit.wf, Bool.and_eq_true, decide_eq_true_eq] at h
  exact ⟨h.1, h.2⟩
theorem bcell {W w1 : World} (hb : Below W.heap.size W w1) : (∀ b o, b < W.heap.size → w1.cell? ⟨b, o, none⟩ = W.cell? ⟨b, o, none⟩) ∧ (∀ b o, b < W.heap.size → w1.frozen? ⟨b, o, none⟩ = W.frozen? ⟨b, o, none⟩) :=
  ⟨fun b o h => hb.cell (p := ⟨b, o, none⟩) h, fun b o h => hb.frozen (p := ⟨b, o, none⟩) h⟩
theorem Blk.three {w : World} {b : Nat} {a0 a1 a2 : Value} {t : TypeId} (h : Blk w b #[a0, a1, a2] t) :
    w.cell? ⟨b, 0, none⟩ = some a0 ∧ w.cell? ⟨b, 1, none⟩ = some a1 ∧ w.cell? ⟨b, 2, none⟩ = some a2 ∧ ∀ i, w.frozen? ⟨b, i, none⟩ = false :=
  ⟨h.cell 0, h.cell 1, h.cell 2, h.free⟩
theorem Blk.six {w : World} {b : Nat} {a0 a1 a2 a3 a4 a5 : Value} {t : TypeId} (h : Blk w b #[a0, a1, a2, a3, a4, a5] t) :
    w.cell? ⟨b, 0, none⟩ = some a0 ∧ w.cell? ⟨b, 1, none⟩ = some a1 ∧ w.cell? ⟨b, 2, none⟩ = some a2 ∧ w.cell? ⟨b, 3, none⟩ = some a3 ∧ w.cell? ⟨b, 4, none⟩ = some a4 ∧ w.cell? ⟨b, 5, none⟩ = some a5 ∧ ∀ i, w.frozen? ⟨b, i, none⟩ = false :=
  ⟨h.cell 0, h.cell 1, h.cell 2, h.cell 3, h.cell 4, h.cell 5, h.free⟩
/-- Four numbers by their places. -/
def four (a b c d : Int) (i : Nat) : Int := match i with | 0 => a | 1 => b | 2 => c | 3 => d | _ => 0
def W16 (x : Nat → Int) : Prop := ∀ i, i < 4 → -32768 ≤ x i ∧ x i ≤ 32767
/-- A slice of integers that came in. -/
def IsRow (k : IntKind) (w : World) (a : Option Addr) (len cap : Nat) (zs : List Int) : Prop :=
  (a = none ∧ len = 0 ∧ cap = 0 ∧ zs = []) ∨
  ∃ x, a = some x ∧ len ≤ cap ∧ cap ≤ maxLen ∧ zs.length = cap ∧ (∀ i, i < zs.length → w.cell? (x.add i) = some (.int k (zs.getD i 0))) ∧ ∀ n ∈ zs, (Lit.int k n).wf = true

theorem IsRow.len_le {k : IntKind} {w : World} {a : Option Addr} {len cap : Nat} {zs : List Int} (h : IsRow k w a len cap zs) : len ≤ 9223372036854775807 := by
  rcases h with ⟨_, rfl, _⟩ | ⟨x, _, hl, hm, _⟩
  · omega
  · unfold maxLen at hm; omega

section GS
variable {H : Type} {enc : TypeId × Value → H} {w : World} {base : Nat} {r : Reach} {b0 : Nat}
theorem row_of_ints {k : IntKind} {t e : TypeId} {fuel : Nat} {v : Value} {x : DataW H × List MemPlace} (ht : Tryd.prog.underlying t = some (.slice e)) (he : Tryd.prog.underlying e = some (.int k)) (hc : Tryd.prog.cellsOf e = 1)
    (h : DataW.trod enc Tryd.prog w base (fun _ => true) true fuel t [v] = some x) : ∃ a len cap zs, v = .slice a len cap ∧ IsRow k w a len cap zs := by
  rcases open_ints ht he hc h with ⟨hcs, _⟩ | ⟨x, l, c, zs, hcs, _, hl, hm, hz, _, hcell, hwz⟩
  · simp only [List.cons.injEq, and_true] at hcs
    exact ⟨none, 0, 0, [], hcs, .inl ⟨rfl, rfl, rfl, rfl⟩⟩
  · simp only [List.cons.injEq, and_true] at hcs
    exact ⟨some x, l, c, zs, hcs, .inr ⟨x, rfl, hl, hm, by simpa using hz, hcell, hwz⟩⟩
theorem four_of {m : Nat} {t : TypeId} {c0 c1 c2 c3 : Value} {y : DataW H × List MemPlace} (ht : Tryd.prog.underlying t = some (.array 4 23)) (hf : DataW.trod enc Tryd.prog w base (fun _ => true) true m t [c0, c1, c2, c3] = some y) :
    ∃ x : Nat → Int, c0 = .int .i16 (x 0) ∧ c1 = .int .i16 (x 1) ∧ c2 = .int .i16 (x 2) ∧ c3 = .int .i16 (x 3) ∧ W16 x := by
  have hC1 : Tryd.prog.cellsOf 23 = 1 := by kernel_rfl
  obtain ⟨y0, y1, y2, y3, n, _, h0, h1, h2, h3⟩ := trod_array4 ht hC1 hf
  obtain ⟨a, e0, _, w0⟩ := DataW.trod_int Tryd.underlying23 h0
  obtain ⟨b, e1, _, w1⟩ := DataW.trod_int Tryd.underlying23 h1
  obtain ⟨c, e2, _, w2⟩ := DataW.trod_int Tryd.underlying23 h2
  obtain ⟨d, e3, _, w3⟩ := DataW.trod_int Tryd.underlying23 h3
  simp only [List.cons.injEq, and_true] at e0 e1 e2 e3
  refine ⟨four a b c d, e0, e1, e2, e3, fun i hi => ?_⟩
  match i, hi with
  | 0, _ => exact bounds_i16 w0
  | 1, _ => exact bounds_i16 w1
  | 2, _ => exact bounds_i16 w2
  | 3, _ => exact bounds_i16 w3
theorem open_water {v : Value} {d : DataW H} {p : List MemPlace} (hv : Value.okWide Tryd.prog w r b0 24 v) (h : DataW.Trod enc Tryd.prog w base (fun _ => true) true 24 v d p) :
    ∃ x : Nat → Int, v = watV x ∧ W16 x := by
  obtain ⟨cs, rfl, hsz, _⟩ : ∃ cs, v = .agg cs ∧ cs.size = Tryd.prog.cellsOf 24 ∧ Row.okWide Tryd.prog w r b0 24 cs := by
    simpa [Value.okWide, Tryd.underlying24] using hv
  have hC : Tryd.prog.cellsOf 24 = 4 := by kernel_rfl
  obtain ⟨l⟩ := cs
  match l, hsz.trans hC with
  | [c0, c1, c2, c3], _ =>
    obtain ⟨fuel, hf⟩ := h
    obtain ⟨x, rfl, rfl, rfl, rfl, hw⟩ := four_of Tryd.underlying24 hf
    exact ⟨x, rfl, hw⟩
end GS
theorem h1_mark : True := trivial

theorem toTops_any (x : Nat → Int) (w : World) :
    Calls Tryd.prog 7 #[watV x] w fun e w' => e = .returned (watV x) ∧ Below w.heap.size w w' := by
  go_enter Tryd.func7, Tryd.ntmps7
  go_wp2
  refine wp_loop_rounds 5 ?_
  iterate 5 (rw [rounds_succ]; go_wp2)
  exact bodyPost_ret (v := watV x) (by simp [results, Tryd.results7, go_sem]) rfl ⟨rfl, (((Below.refl _ _).alloc (Nat.le_refl _) _).alloc (by simp) _).alloc (by simp; omega) _⟩
theorem toTops_fr {w0 W : World} {L : List (Nat × Array Value × TypeId)} (h : FR w0 L W) (x : Nat → Int) :
    Calls Tryd.prog 7 #[watV x] W fun e w' => e = .returned (watV x) ∧ FR w0 L w' := Calls.fr h (toTops_any x W)
theorem eqTops_same (x : Nat → Int) (w : World) :
    Calls Tryd.prog 12 #[watV x, watV x] w fun e w' => e = .returned (.bool true) ∧ Below w.heap.size w w' := by
  go_enter Tryd.func12, Tryd.ntmps12
  go_wp2
  refine wp_loop_rounds 5 ?_
  iterate 4 (rw [rounds_succ]; go_wp2; go_quiet (fail); go_wp2)
  rw [rounds_succ]
  go_wp2
  go_ret
  refine ⟨rfl, ?_⟩
  repeat (first | exact Below.refl _ _ | refine below_drewN ?_ _ | refine Below.alloc ?_ (by simp <;> omega) _)
theorem eqTops_fr {w0 W : World} {L : List (Nat × Array Value × TypeId)} (h : FR w0 L W) (x : Nat → Int) :
    Calls Tryd.prog 12 #[watV x, watV x] W fun e w' => e = .returned (.bool true) ∧ FR w0 L w' := Calls.fr h (eqTops_same x W)
theorem toGlasses_fr {w0 W : World} {L : List (Nat × Array Value × TypeId)} (h : FR w0 L W) (a : Option Addr) (c : Nat) (xs : List Int) (hn : xs.length ≤ 1048576) (hs : Sl .i16 w0.heap.size w0 a xs) :
    Calls Tryd.prog 6 #[.slice a xs.length c] W fun e w' => ∃ g, e = .returned (.slice (some ⟨g, 0, none⟩) xs.length xs.length) ∧ FR w0 ((g, rcells .i16 xs, 23) :: L) w' := by
  refine (toGlasses_any w0.heap.size a c xs W hn h.size (hs.below h.below)).mono ?_
  rintro e w' ⟨rfl, hk, hb⟩
  exact ⟨_, rfl, h.add hb (Nat.le_refl _) (blk_of_ints hk)⟩
theorem eqGlasses_fr {w0 W : World} {L : List (Nat × Array Value × TypeId)} {g g2 : Nat} {xs : List Int} (h : FR w0 L W) (h1 : (g, rcells .i16 xs, 23) ∈ L) (h2 : (g2, rcells .i16 xs, 23) ∈ L) (c c2 : Nat) (hn : xs.length ≤ 1048576) :
    Calls Tryd.prog 9 #[.slice (some ⟨g, 0, none⟩) xs.length c, .slice (some ⟨g2, 0, none⟩) xs.length c2] W fun e w' => e = .returned (.bool true) ∧ FR w0 L w' :=
  Calls.frd h (eqGlasses_same g 0 c g2 0 c2 xs W hn (h.blk _ h1).ints (h.blk _ h2).ints)
end Go.Proofs.YtnpgnekofclciaaDoor
