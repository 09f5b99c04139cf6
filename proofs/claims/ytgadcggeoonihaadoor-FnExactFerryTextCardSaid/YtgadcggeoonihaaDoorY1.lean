/-
  Ferries: as they come in, copied, and compared.
-/
import Derived.Test.YtgadcggeoonihaaDoorC1
import Derived.Deep.Slices
namespace Go.Proofs.YtgadcggeoonihaaDoor
open Go.RowKit Go.ChangeShapes Go.WideShapes
set_option maxRecDepth 100000
set_option linter.unusedVariables false

def U16 (xs : List Int) : Prop := ∀ j, 0 ≤ xs.getD j 0 ∧ xs.getD j 0 ≤ 65535
theorem u16_of {xs : List Int} (h : ∀ n ∈ xs, (Lit.int .u16 n).wf = true) : U16 xs := by
  intro j
  by_cases hj : j < xs.length
  · have := h _ (List.getElem_mem hj)
    have e : xs.getD j 0 = xs[j] := by rw [List.getD_eq_getElem?_getD, List.getElem?_eq_getElem hj]; rfl
    rw [e]
    simp only [Lit.wf, Bool.and_eq_true, decide_eq_true_eq] at this
    exact ⟨this.1, this.2⟩
  · rw [List.getD_eq_getElem?_getD, List.getElem?_eq_none (by omega)]; simp
theorem bounds_u16 {n : Int} (h : (Lit.int .u16 n).wf = true) : 0 ≤ n ∧ n ≤ 65535 := by
  simp only [Lit.wf, Bool.and_eq_true, decide_eq_true_eq] at h
  exact ⟨h.1, h.2⟩
/-- The value of a ferry. -/
abbrev ferV (l k : Int) (a : Option Addr) (n c : Nat) : Value := .agg #[.int .i8 l, .int .i8 k, .slice a n c]
/-- The cells of a list of sets. -/
def ucells (xs : List Int) : Array Value := Array.ofFn (n := xs.length) (fun i => .int .u16 (xs.getD i 0))
theorem ucells_get (xs : List Int) (i : Nat) (h : i < xs.length) : (ucells xs)[i]? = some (.int .u16 (xs.getD i 0)) := by
  unfold ucells
  rw [Array.getElem?_ofFn, dif_pos h]
theorem Blk.u16 {w : World} {b : Nat} {t : TypeId} {xs : List Int} (h : Blk w b (ucells xs) t) : At .u16 w b 0 xs := fun j hj => by
  rw [h.cell, Nat.zero_add, ucells_get _ _ hj]
theorem blk_of_rowu {w : World} {b : Nat} {t : TypeId} {xs : List Int} (h : RowOf .u16 t w b xs) : Blk w b (ucells xs) t := by
  obtain ⟨c, hc, hs, hf⟩ := h
  have e : c = ucells xs := by
    apply Array.ext
    · rw [hs]; simp [ucells]
    · intro i h1 h2
      have := hf i (by omega)
      have h3 := ucells_get xs i (by omega)
      rw [Array.getElem?_eq_getElem h1] at this
      rw [Array.getElem?_eq_getElem h2] at h3
      exact Option.some.inj (this.trans h3.symm)
  subst e
  exact hc
theorem rowu_of_blk {w : World} {b : Nat} {t : TypeId} {xs : List Int} (h : Blk w b (ucells xs) t) : RowOf .u16 t w b xs :=
  ⟨ucells xs, h, by simp [ucells], fun i hi => ucells_get xs i hi⟩
theorem Sl.own {w : World} {b : Nat} {xs : List Int} {t : TypeId} (h : Blk w b (ucells xs) t) : Sl .u16 w.heap.size w (some ⟨b, 0, none⟩) xs := .inr ⟨b, 0, rfl, h.lt, h.u16⟩
theorem Sl.up {k : IntKind} {B : Nat} {w w' : World} {a : Option Addr} {xs : List Int} (h : Sl k B w a xs) (hb : Below B w w') (hs : B ≤ w.heap.size) : Sl k w'.heap.size w' a xs := by
  rcases h with h | ⟨b, off, rfl, hB, hc⟩
  · exact .inl h
  · exact .inr ⟨b, off, rfl, by have := hb.size; omega, hc.below hb hB⟩
theorem Blk.three {w : World} {b : Nat} {a0 a1 a2 : Value} {t : TypeId} (h : Blk w b #[a0, a1, a2] t) :
    w.cell? ⟨b, 0, none⟩ = some a0 ∧ w.cell? ⟨b, 1, none⟩ = some a1 ∧ w.cell? ⟨b, 2, none⟩ = some a2 ∧ ∀ i, w.frozen? ⟨b, i, none⟩ = false :=
  ⟨h.cell 0, h.cell 1, h.cell 2, h.free⟩
/-- A slice of integers that came in. -/
def IsRow (k : IntKind) (w : World) (a : Option Addr) (len cap : Nat) (zs : List Int) : Prop :=
  (a = none ∧ len = 0 ∧ cap = 0 ∧ zs = []) ∨
  ∃ x, a = some x ∧ len ≤ cap ∧ cap ≤ maxLen ∧ zs.length = cap ∧ (∀ i, i < zs.length → w.cell? (x.add i) = some (.int k (zs.getD i 0))) ∧ ∀ n ∈ zs, (Lit.int k n).wf = true

theorem IsRow.len_le {k : IntKind} {w : World} {a : Option Addr} {len cap : Nat} {zs : List Int} (h : IsRow k w a len cap zs) : len ≤ 9223372036854775807 := by
  rcases h with ⟨_, rfl, _⟩ | ⟨x, _, hl, hm, _⟩
  · omega
  · unfold maxLen at hm; omega

section
variable {H : Type} {enc : TypeId × Value → H} {w : World} {base : Nat} {r : Reach} {b0 : Nat}
theorem row_of_ints {k : IntKind} {t e : TypeId} {fuel : Nat} {v : Value} {x : DataW H × List MemPlace} (ht : Tryd.prog.underlying t = some (.slice e)) (he : Tryd.prog.underlying e = some (.int k)) (hc : Tryd.prog.cellsOf e = 1)
    (h : DataW.trod enc Tryd.prog w base (fun _ => true) true fuel t [v] = some x) : ∃ a len cap zs, v = .slice a len cap ∧ IsRow k w a len cap zs := by
  rcases open_ints ht he hc h with ⟨hcs, _⟩ | ⟨x, l, c, zs, hcs, _, hl, hm, hz, _, hcell, hwz⟩
  · simp only [List.cons.injEq, and_true] at hcs
    exact ⟨none, 0, 0, [], hcs, .inl ⟨rfl, rfl, rfl, rfl⟩⟩
  · simp only [List.cons.injEq, and_true] at hcs
    exact ⟨some x, l, c, zs, hcs, .inr ⟨x, rfl, hl, hm, by simpa using hz, hcell, hwz⟩⟩
theorem open_ferry {v : Value} {d : DataW H} {p : List MemPlace} (hv : Value.okWide Tryd.prog w r b0 25 v) (h : DataW.Trod enc Tryd.prog w base (fun _ => true) true 25 v d p) :
    ∃ l k a cap xs, v = ferV l k a (List.length xs) cap ∧ B8 l ∧ B8 k ∧ Sl .u16 w.heap.size w a xs ∧ xs.length ≤ 9223372036854775807 ∧ U16 xs := by
  obtain ⟨cs, rfl, hsz⟩ := okWide_struct Tryd.underlying25 hv
  have hC : Tryd.prog.cellsOf 25 = 3 := by kernel_rfl
  have hC1 : Tryd.prog.cellsOf 22 = 1 := by kernel_rfl
  have hC2 : Tryd.prog.cellsOf 23 = 1 := by kernel_rfl
  obtain ⟨l⟩ := cs
  match l, hsz.trans hC with
  | [c0, c1, c2], _ =>
    obtain ⟨fuel, hf⟩ := h
    obtain ⟨ys, n, _, _, _, hl, hg⟩ := DataW.trod_struct Tryd.underlying25 hf
    match ys, hl with
    | [y0, y1, y2], _ =>
      have h0 : DataW.trod enc Tryd.prog w base (fun _ => true) true n 22 (([c0, c1, c2].drop 0).take (Tryd.prog.cellsOf 22)) = some y0 := hg 0 _ rfl
      have h1 : DataW.trod enc Tryd.prog w base (fun _ => true) true n 22 (([c0, c1, c2].drop 1).take (Tryd.prog.cellsOf 22)) = some y1 := hg 1 _ rfl
      have h2 : DataW.trod enc Tryd.prog w base (fun _ => true) true n 23 (([c0, c1, c2].drop 2).take (Tryd.prog.cellsOf 23)) = some y2 := hg 2 _ rfl
      rw [hC1] at h0 h1
      rw [hC2] at h2
      simp only [List.drop, List.take] at h0 h1 h2
      obtain ⟨a0, e0, _, w0⟩ := DataW.trod_int Tryd.underlying22 h0
      obtain ⟨a1, e1, _, w1⟩ := DataW.trod_int Tryd.underlying22 h1
      obtain ⟨a, len, cap, zs, e2, hr⟩ := row_of_ints Tryd.underlying23 Tryd.underlying44 (by kernel_rfl) h2
      cases e2
      obtain ⟨xs, hx, hs, hw⟩ := sl_of hr
      subst hx
      simp only [List.cons.injEq, and_true] at e0 e1
      subst e0 e1
      exact ⟨a0, a1, a, cap, xs, rfl, bounds_i8 w0, bounds_i8 w1, hs, hr.len_le, u16_of hw⟩
theorem y1_mark : True := trivial
end
theorem szUint16S_any (a : Option Addr) (n c : Nat) (l : Int) (w : World) (hl : 0 ≤ l ∧ l ≤ 1048576) (hn : n ≤ 9223372036854775807) :
    Calls Tryd.prog 14 #[.slice a n c, .int .i64 l] w fun e w' => e = .returned (.int .i64 (if l < n then -1 else l - (n : Int))) ∧ w = w' := by
  by_cases h : l < n
  · rw [if_pos h]
    go_enter Tryd.func14, Tryd.ntmps14
    go_wp2
    go_ret
    exact ⟨rfl, rfl⟩
  · rw [if_neg h]
    go_enter Tryd.func14, Tryd.ntmps14
    go_wp2
    go_ret
    exact ⟨rfl, rfl⟩
theorem szFerry_any (l k : Int) (a : Option Addr) (n c : Nat) (m : Int) (w : World) (hl : 0 ≤ m ∧ m ≤ 1048576) (hn : n ≤ 9223372036854775807) :
    Calls Tryd.prog 5 #[ferV l k a n c, .int .i64 m] w fun e w' => e = .returned (.int .i64 (if m < n then -1 else m - (n : Int))) ∧ Below w.heap.size w w' := by
  have HB := Lib.hid ((Below.refl w.heap.size w).alloc (Nat.le_refl _) (.cells #[.int .i8 l, .int .i8 k, .slice a n c] 25))
  have HS := Lib.hid (fun W => szUint16S_any a n c m W hl hn)
  by_cases h : m < n
  · rw [if_pos h] at HS ⊢
    go_enter Tryd.func5, Tryd.ntmps5
    go_wp2_with fail
    refine (HS.out _).mono ?_
    rintro e w2 ⟨rfl, rfl⟩
    go_wp2
    go_ret
    exact ⟨rfl, HB.out⟩
  · rw [if_neg h] at HS ⊢
    have hq : 0 ≤ m - (n : Int) := by omega
    generalize m - (n : Int) = q at *
    clear h
    go_enter Tryd.func5, Tryd.ntmps5
    go_wp2_with fail
    refine (HS.out _).mono ?_
    rintro e w2 ⟨rfl, rfl⟩
    go_wp2
    go_ret
    exact ⟨rfl, HB.out⟩
theorem toUint16S_any (B : Nat) (a : Option Addr) (c : Nat) (xs : List Int) (w : World) (hn : xs.length ≤ 1048576) (hB : B ≤ w.heap.size) (h : Sl .u16 B w a xs) :
    Calls Tryd.prog 17 #[.slice a xs.length c] w fun e w' => ∃ g, e = .returned (.slice (some ⟨g, 0, none⟩) xs.length xs.length) ∧ w.heap.size ≤ g ∧ Blk w' g (ucells xs) 44 ∧ Below w.heap.size w w' := by
  rcases h with rfl | ⟨b, off, rfl, hb, hc⟩
  · refine (toUint16S_nil a c w).mono ?_
    rintro e w' ⟨rfl, h1, h2⟩
    exact ⟨_, rfl, Nat.le_refl _, blk_of_rowu h1, h2⟩
  · refine (toUint16S_some b off c xs w hn (by omega) hc).mono ?_
    rintro e w' ⟨rfl, h1, h2⟩
    exact ⟨_, rfl, Nat.le_refl _, blk_of_rowu h1, h2⟩
theorem res_toFerry {W : World} {b : Nat} {v0 v1 v2 : Value} (K : Blk W b #[v0, v1, v2] 28) (tmps : Array Value) (h2 : tmps.getD 2 undef = .pointer (some ⟨b, 0, none⟩)) : (results Tryd.f7 tmps).run Tryd.prog W = .ok (.agg #[v0, v1, v2]) W := by
  have h2' : tmps[2]?.getD undef = .pointer (some ⟨b, 0, none⟩) := by simpa using h2
  have e0 := K.cell 0
  have e1 := K.cell 1
  have e2 := K.cell 2
  simp at e0 e1 e2
  simp [results, Tryd.results7, go_sem, e0, e1, e2, h2']
set_option maxHeartbeats 1000000 in
theorem toFerry_any (B : Nat) (l k : Int) (a : Option Addr) (c : Nat) (ws : List Int) (w : World) (hn : ws.length ≤ 1048576) (hB : B ≤ w.heap.size) (h : Sl .u16 B w a ws) :
    Calls Tryd.prog 7 #[ferV l k a ws.length c] w fun e w' => ∃ g, e = .returned (ferV l k (some ⟨g, 0, none⟩) ws.length ws.length) ∧ w.heap.size ≤ g ∧ Blk w' g (ucells ws) 44 ∧ Below w.heap.size w w' := by
  have F0 := (((FR.start w).box #[.int .i8 l, .int .i8 k, .slice a ws.length c] 25).box #[.int .i8 0, .int .i8 0, .slice none 0 0] 28).box #[.int .i8 l, .int .i8 k, .slice none 0 0] 28
  simp only [World.size_alloc] at F0
  have HT := Lib.hid (fun W (hw : Below w.heap.size w W) => toUint16S_any B a c ws W hn (by have := hw.size; omega) (Sl.below h (hw.mono hB)))
  clear h
  go_enter Tryd.func7, Tryd.ntmps7
  go_wp2_with fail
  refine (HT.out _ F0.below).mono ?_
  rintro e w2 ⟨g, rfl, hg, hk, hb⟩
  have F1 := F0.next hb
  have hlt := hk.lt
  have HK := Lib.hid hk
  have hsz := F0.size
  have hgs : w.heap.size ≤ g := Nat.le_trans hsz hg
  have hb0 := (F0.blk _ List.mem_cons_self).lt
  simp only [World.size_alloc] at hg hb0 hlt
  have k0 := F1.blk _ List.mem_cons_self
  have k1 := F1.blk _ (List.mem_cons_of_mem _ List.mem_cons_self)
  dsimp only at k0 k1
  have hg0 : g ≠ w.heap.size + 1 + 1 := by omega
  have hg1 : g ≠ w.heap.size + 1 := by omega
  have HG := Lib.hid ((((hk.setOther hg0 2 (.slice (some ⟨g, 0, none⟩) ws.length ws.length)).setOther hg1 0 (.int .i8 l)).setOther hg1 1 (.int .i8 k)).setOther hg1 2 (.slice (some ⟨g, 0, none⟩) ws.length ws.length))
  have HR := Lib.hid ((((k1.setOther (show w.heap.size + 1 ≠ w.heap.size + 1 + 1 by omega) 2 (.slice (some ⟨g, 0, none⟩) ws.length ws.length)).set 0 (.int .i8 l)).set 1 (.int .i8 k)).set 2 (.slice (some ⟨g, 0, none⟩) ws.length ws.length))
  have HW := Lib.hid ((((F1.below.setCell (show w.heap.size ≤ (⟨w.heap.size + 1 + 1, 2, none⟩ : Addr).block by simp; omega) (.slice (some ⟨g, 0, none⟩) ws.length ws.length)).setCell (show w.heap.size ≤ (⟨w.heap.size + 1, 0, none⟩ : Addr).block by simp) (.int .i8 l)).setCell (show w.heap.size ≤ (⟨w.heap.size + 1, 1, none⟩ : Addr).block by simp) (.int .i8 k)).setCell (show w.heap.size ≤ (⟨w.heap.size + 1, 2, none⟩ : Addr).block by simp) (.slice (some ⟨g, 0, none⟩) ws.length ws.length))
  obtain ⟨d0, d1, d2, d3⟩ := k0.three
  obtain ⟨e0, e1, e2, e3⟩ := k1.three
  clear F0 F1 hb hk HT k0 k1 hg0 hg1 HK hlt hb0 hsz
  go_wp2
  exact bodyPost_ret (res_toFerry HR.out _ rfl) rfl ⟨g, rfl, hgs, HG.out, HW.out⟩
theorem toFerry_fr {w0 W : World} {L : List (Nat × Array Value × TypeId)} (h : FR w0 L W) (l k : Int) (a : Option Addr) (c : Nat) (ws : List Int) (hn : ws.length ≤ 1048576) (hs : Sl .u16 w0.heap.size w0 a ws) :
    Calls Tryd.prog 7 #[ferV l k a ws.length c] W fun e w' => ∃ g, e = .returned (ferV l k (some ⟨g, 0, none⟩) ws.length ws.length) ∧ FR w0 ((g, ucells ws, 44) :: L) w' := by
  refine (toFerry_any w0.heap.size l k a c ws W hn h.size (hs.below h.below)).mono ?_
  rintro e w' ⟨g, rfl, hg, hk, hb⟩
  exact ⟨g, rfl, h.add hb hg hk⟩
theorem szFerry_fr {w0 W : World} {L : List (Nat × Array Value × TypeId)} (h : FR w0 L W) (l k : Int) (a : Option Addr) (n c : Nat) (m : Int) (hl : 0 ≤ m ∧ m ≤ 1048576) (hn : n ≤ 9223372036854775807) :
    Calls Tryd.prog 5 #[ferV l k a n c, .int .i64 m] W fun e w' => e = .returned (.int .i64 (if m < n then -1 else m - (n : Int))) ∧ FR w0 L w' := Calls.fr h (szFerry_any l k a n c m W hl hn)
/-- Two slices with the same words. -/
def Twin (w : World) (a a2 : Option Addr) (ws : List Int) : Prop := ws = [] ∨ ∃ b off b2 off2, a = some ⟨b, off, none⟩ ∧ a2 = some ⟨b2, off2, none⟩ ∧ b < w.heap.size ∧ b2 < w.heap.size ∧ At .u16 w b off ws ∧ At .u16 w b2 off2 ws
theorem Twin.below {w w' : World} {a a2 : Option Addr} {ws : List Int} (h : Twin w a a2 ws) (hb : Below w.heap.size w w') : Twin w' a a2 ws := by
  rcases h with h | ⟨b, off, b2, off2, rfl, rfl, h1, h2, h3, h4⟩
  · exact .inl h
  · have := hb.size
    exact .inr ⟨b, off, b2, off2, rfl, rfl, by omega, by omega, h3.below hb h1, h4.below hb h2⟩
theorem eqUint16S_any (a a2 : Option Addr) (c c2 : Nat) (ws : List Int) (w : World) (hn : ws.length ≤ 1048576) (h : Twin w a a2 ws) :
    Calls Tryd.prog 22 #[.slice a ws.length c, .slice a2 ws.length c2] w fun e w' => e = .returned (.bool true) ∧ Below w.heap.size w w' := by
  rcases h with rfl | ⟨b, off, b2, off2, rfl, rfl, h1, h2, h3, h4⟩
  · exact Calls.drb (eqUint16S_empty a a2 c c2 w)
  · exact Calls.drb (eqUint16S_same b off c b2 off2 c2 ws w hn h3 h4)
theorem eqFerry_any (l k : Int) (a a2 : Option Addr) (c c2 : Nat) (ws : List Int) (w : World) (hn : ws.length ≤ 1048576) (h : Twin w a a2 ws) :
    Calls Tryd.prog 9 #[ferV l k a ws.length c, ferV l k a2 ws.length c2] w fun e w' => e = .returned (.bool true) ∧ Below w.heap.size w w' := by
  have F0 := ((FR.start w).box #[.int .i8 l, .int .i8 k, .slice a ws.length c] 28).box #[.int .i8 l, .int .i8 k, .slice a2 ws.length c2] 28
  simp only [World.size_alloc] at F0
  have HE := Lib.hid (eqUint16S_any a a2 c c2 ws _ hn (h.below F0.below))
  go_enter Tryd.func9, Tryd.ntmps9
  go_wp2_with fail
  refine HE.out.mono ?_
  rintro e w2 ⟨rfl, hb⟩
  have HF := Lib.hid (F0.next hb).below
  clear hb F0 HE
  go_wp2
  go_ret
  exact ⟨rfl, HF.out⟩
theorem eqFerry_fr {w0 W : World} {L : List (Nat × Array Value × TypeId)} {g g2 : Nat} {ws : List Int} (h : FR w0 L W) (h1 : (g, ucells ws, 44) ∈ L) (h2 : (g2, ucells ws, 44) ∈ L) (l k : Int) (c c2 : Nat) (hn : ws.length ≤ 1048576) :
    Calls Tryd.prog 9 #[ferV l k (some ⟨g, 0, none⟩) ws.length c, ferV l k (some ⟨g2, 0, none⟩) ws.length c2] W fun e w' => e = .returned (.bool true) ∧ FR w0 L w' :=
  Calls.fr h (eqFerry_any l k _ _ c c2 ws W hn (.inr ⟨g, 0, g2, 0, rfl, rfl, (h.blk _ h1).lt, (h.blk _ h2).lt, (h.blk _ h1).u16, (h.blk _ h2).u16⟩))
end Go.Proofs.YtgadcggeoonihaaDoor
