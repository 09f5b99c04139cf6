/-
  The first case of each seen word: the map of the program.
-/
import Derived.Test.YtnleblnikcoaiaaB7
import Derived.Test.YtnleblnikcoaiaaHMI
namespace Go.Proofs.Ytnleblnikcoaiaa
open Go.RowKit Go.Shelf Go.Maps Go.MapKept Go.ChangeMaps
set_option maxRecDepth 100000
set_option linter.unusedVariables false

attribute [local go_sem] Oper.semAt_some

theorem keyD : Keyed Try.prog 30 := Keyed.of_law (deep_law_laid (m := 9999) (by kernel_rfl) (by decide) (of_decide_eq_true (by kernel_rfl)) (by kernel_rfl) (by kernel_rfl))
/-- The key that a word is read as. -/
theorem keyD_mk (x : Nat → Int) (h : W4 x) : ∃ kl, keyOf Try.prog 30 (wordV x) = some kl := by
  have hw : ∀ i, i < 4 → (Lit.int .i8 (x i)).wf = true := fun i hi => by
    have := h i hi
    simp only [Lit.wf, Bool.and_eq_true, decide_eq_true_eq]; exact this
  have h0 := hw 0 (by omega)
  have h1 := hw 1 (by omega)
  have h2 := hw 2 (by omega)
  have h3 := hw 3 (by omega)
  have hu : Try.prog.underlying 30 = some (.array 4 22) := Try.underlying30
  have hi : Try.prog.underlying 22 = some (.int .i8) := Try.underlying22
  have hc : Try.prog.cellsOf 22 = 1 := by kernel_rfl
  have hc4 : Try.prog.cellsOf 30 = 4 := by kernel_rfl
  have hkt : Try.prog.keyType 30 = true := by kernel_rfl
  obtain ⟨d, hd⟩ : ∃ d, Try.prog.types.size = d + 1 := ⟨Try.prog.types.size - 1, by kernel_rfl⟩
  have hf : (wordV x : Value).formed Try.prog 30 = true := by simp [Value.formed, hu, hc4]
  unfold keyOf
  rw [hu]
  simp only [hkt, hf, Bool.and_self, if_true]
  rw [hd]
  simp [Program.keyLits, hu, hi, hc, hc4, Value.cells, h0, h1, h2, h3, List.range_succ]
theorem opD_W4 {x : Nat → Int} (h : W4 x) : W4 (opD x) := fun i hi => by
  have h1 := h i hi
  unfold opD
  by_cases e : x i = -128
  · rw [e]; decide
  · rw [show IntKind.i8.wrap (-x i) = -x i from IntWalk.i8_in _ (by omega)]; omega
theorem seenV_W4 {ws : List Wf} (hw : Wall ws) (q : Cs) : W4 (seenV ws q) := by
  unfold seenV
  split
  · exact zero_W4
  · split
    · exact hw _
    · exact opD_W4 (hw _)
theorem wordV_inj {x y : Nat → Int} (h : wordV x = wordV y) : x 0 = y 0 ∧ x 1 = y 1 ∧ x 2 = y 2 ∧ x 3 = y 3 := by
  simpa [wordV] using h
open Classical in
/-- The first case with a seen word. -/
noncomputable def fcQ (ws : List Wf) (pre : List Cs) (v : Value) : Option Cs := pre.find? (fun q => decide (wordV (seenV ws q) = v))
/-- What the map of first cases holds. -/
noncomputable def fcF (ws : List Wf) (pre : List Cs) (v : Value) : Option Value := (fcQ ws pre v).map (fun q => caseV q.1 q.2)
open Classical in
theorem fcQ_snoc (ws : List Wf) (pre : List Cs) (q : Cs) (v : Value) : fcQ ws (pre ++ [q]) v = (fcQ ws pre v).or (if wordV (seenV ws q) = v then some q else none) := by
  unfold fcQ
  rw [List.find?_append]
  congr 1
  by_cases h : wordV (seenV ws q) = v
  · rw [if_pos h]; simp [h]
  · rw [if_neg h]; simp [h]
theorem fcF_t {ws : List Wf} {pre : List Cs} {q q' : Cs} (h : fcQ ws pre (wordV (seenV ws q)) = some q') : fcF ws (pre ++ [q]) = fcF ws pre := by
  funext v
  unfold fcF
  rw [fcQ_snoc]
  by_cases e : wordV (seenV ws q) = v
  · subst e; rw [h]; rfl
  · rw [if_neg e, Option.or_none]
theorem fcF_f {ws : List Wf} {pre : List Cs} {q : Cs} (h : fcQ ws pre (wordV (seenV ws q)) = none) : fcF ws (pre ++ [q]) = updF (fcF ws pre) (wordV (seenV ws q)) (caseV q.1 q.2) := by
  funext v
  by_cases e : wordV (seenV ws q) = v
  · subst e; rw [updF_same]; unfold fcF; rw [fcQ_snoc, h, if_pos rfl]; rfl
  · rw [updF_other _ _ (fun h => e h.symm)]; unfold fcF; rw [fcQ_snoc, if_neg e, Option.or_none]
theorem zeroCs (w : World) : (zeroValue 37).run Try.prog w = .ok (.agg #[.int .i8 0, .bool false]) w := by kernel_rfl
set_option maxHeartbeats 8000000 in
theorem firstCases_in (b off c : Nat) (l k : Int) (ws : List Wf) (w : World) (hb1 : b < w.heap.size) (hc1 : WAt w b off ws) (hw : Wall ws) (h80 : ws.length ≤ 80) (hl4 : 1 ≤ l ∧ l ≤ 4) (hkk : 0 ≤ k ∧ k ≤ 2) :
    CallsIn Fence.wide 9 Try.prog 39 #[opV (some ⟨b, off, none⟩) ws.length c l k] w fun e w' => ∃ mb n, e = .returned (.map (some mb)) ∧ w.heap.size ≤ mb ∧ n ≤ 161 ∧ MapAt Try.prog 30 w' mb n (fcF ws (upC k true ws.length)) ∧ Below w.heap.size w w' := by
  have F0 := (FR.start w).box (opC (some ⟨b, off, none⟩) ws.length c l k) 66
  have h8 : (ws.length : Int) ≤ 80 := by omega
  have HW := Lib.hid (And.intro hw hc1)
  have hk8 : -128 ≤ k ∧ k ≤ 127 := by omega
  clear hw hc1
  have hmm := @run_makeMap Try.prog
  have hM0 := MapAt.made (w.alloc (.cells (opC (some ⟨b, off, none⟩) ws.length c l k) 66)) Try.prog 30
  obtain ⟨d0, d1, d2, d3, d4, d5, d6⟩ := (F0.blk _ List.mem_cons_self).six
  simp only [World.size_alloc] at hM0
  refine callsIn_of_wp_marks Try.func39 rfl trivial ?_ rfl
  simp only [Try.ntmps39, List.size_toArray, List.length_cons, List.length_nil, Nat.reduceAdd, Nat.reduceSub, Array.replicate_succ, Array.replicate_zero, List.push_toArray, List.append_toArray, List.nil_append, List.cons_append]
  gi_wp2_with (first
    | (refine ⟨trivial, ?_⟩; gi_at_call 34; refine (seenWords_in Fence.wide 8 trivial rfl _ _ _ _ _ _).mono ?_; rintro e w4 ⟨rfl, rfl⟩))
  -- TAIL
  clear d0 d1 d2 d3 d4 d5 d6 hmm
  have hM1 := ((hM0.alloc (.cells #[.map (some (w.heap.size + 1))] 77)).alloc (.cells (opC (some ⟨b, off, none⟩) ws.length c l k) 66))
  have bV := Blk.alloc (blk_new ((w.alloc (.cells (opC (some ⟨b, off, none⟩) ws.length c l k) 66)).alloc (.map #[] 0)) #[.map (some (w.heap.size + 1))] 77) (.cells (opC (some ⟨b, off, none⟩) ws.length c l k) 66)
  have bP := blk_new (((w.alloc (.cells (opC (some ⟨b, off, none⟩) ws.length c l k) 66)).alloc (.map #[] 0)).alloc (.cells #[.map (some (w.heap.size + 1))] 77)) (opC (some ⟨b, off, none⟩) ws.length c l k) 66
  have hB0 := ((((Below.refl w.heap.size w).alloc (Nat.le_refl _) (.cells (opC (some ⟨b, off, none⟩) ws.length c l k) 66)).alloc (by simp) (.map #[] 0)).alloc (by simp; omega) (.cells #[.map (some (w.heap.size + 1))] 77)).alloc (by simp; omega) (.cells (opC (some ⟨b, off, none⟩) ws.length c l k) 66)
  simp only [World.size_alloc] at bV bP
  have hsz : ((((w.alloc (.cells (opC (some ⟨b, off, none⟩) ws.length c l k) 66)).alloc (.map #[] 0)).alloc (.cells #[.map (some (w.heap.size + 1))] 77)).alloc (.cells (opC (some ⟨b, off, none⟩) ws.length c l k) 66)).heap.size = w.heap.size + 4 := by simp
  obtain ⟨W0, hW0⟩ : ∃ W0, ((((w.alloc (.cells (opC (some ⟨b, off, none⟩) ws.length c l k) 66)).alloc (.map #[] 0)).alloc (.cells #[.map (some (w.heap.size + 1))] 77)).alloc (.cells (opC (some ⟨b, off, none⟩) ws.length c l k) 66)) = W0 := ⟨_, rfl⟩
  rw [hW0] at bV bP hM1 hB0 hsz ⊢
  clear hW0 F0 hM0
  refine loop_gives rfl (by decide) (gf := 50) (lb := #[.pointer (some ⟨w.heap.size + 1 + 1 + 1, 0, none⟩)]) rfl trivial (enters_of Try.func50 (by kernel_rfl) rfl)
    (encs := fun q : Cs => #[caseV q.1 q.2, wordV (seenV ws q)]) (n₀ := w.heap.size) (S := fun q => q = w.heap.size + 1 + 1 + 1 ∨ q = w.heap.size + 6 ∨ q = w.heap.size + 7) (L := upC k true ws.length) (by omega)
    (fun W1 h1 h2 => seen1_gives (w.heap.size + 1 + 1 + 1) w.heap.size _ b off c ws l k W1 (bP.below h2 bP.lt) hb1 (by omega) (HW.out.2.below (hB0.trans (h2.mono hB0.size)) hb1) HW.out.1 (by omega) hkk ⟨.inl rfl, .inr (.inl (by omega)), .inr (.inr (by omega))⟩ (fun q hq => by omega)) (fun _ => rfl)
    (fun pre W => (∃ n, n ≤ pre.length ∧ MapAt Try.prog 30 W (w.heap.size + 1) n (fcF ws pre)) ∧ Blk W (w.heap.size + 1 + 1) #[.map (some (w.heap.size + 1))] 77 ∧ Below w.heap.size w W)
    (fun pre W => False)
    (OwnFrom.and (map_own (by omega) (fun pre => fcF ws pre) (fun pre => pre.length)) (OwnFrom.and (Own.from (blk_own _ _ (fun _ => _)) _) (ownFrom_below (Nat.le_refl _) (by omega))))
    (fun _ _ _ _ hs _ _ => hs)
    ⟨⟨0, Nat.le_refl _, hM1⟩, bV, hB0⟩
    (fun q a' W => ∃ Bx By, By ≠ w.heap.size + 1 ∧ Bx ≠ w.heap.size + 1 ∧ Blk W Bx #[.int .i8 q.1, .bool q.2] 37 ∧ Blk W By (wordC (seenV ws q)) 30 ∧ a' = { tmps := #[opV (some ⟨b, off, none⟩) ws.length c l k, .pointer (some ⟨w.heap.size, 0, none⟩), .map none, .pointer (some ⟨w.heap.size + 1 + 1, 0, none⟩), .pointer (some ⟨Bx, 0, none⟩), .pointer (some ⟨By, 0, none⟩), undef, undef, .map (some (w.heap.size + 1)), opV (some ⟨b, off, none⟩) ws.length c l k, .func (.func 50) #[] #[.pointer (some ⟨w.heap.size + 1 + 1 + 1, 0, none⟩)], caseV q.1 q.2, wordV (seenV ws q), undef, undef, undef, undef, undef, undef, undef, undef, undef, undef, undef, undef], defers := [] })
    (fun q a' _ X Y row hs hg hr => by obtain ⟨Bx, By, h0, h1, h2, h3, h4⟩ := hs; exact ⟨Bx, By, h0, h1, blk_own _ _ (fun (_ : Unit) => _) () X Y row h2 hg (fun r e => (hr r e).2), blk_own _ _ (fun (_ : Unit) => _) () X Y row h3 hg (fun r e => (hr r e).2), h4⟩)
    ?assign ?body ?done ?stop
  case assign =>
    rintro l2 pre q W K ⟨⟨n, hn, hM⟩, b1, hB1⟩ hbn hK
    have hml := hM.lt
    gi_wp2
    exact hK _ _ (((KeepsOthers.alloc _ _).trans (KeepsOthers.alloc _ _)).from _) ((KpS.alloc hB1.size _).t (KpS.alloc (by have := hB1.size; simp; omega) _)) ⟨⟨n, hn, (hM.alloc _).alloc _⟩, (b1.alloc _).alloc _, (hB1.alloc hB1.size _).alloc (by have := hB1.size; simp; omega) _⟩ ⟨W.heap.size, W.heap.size + 1, by omega, by omega, (blk_new W _ _).alloc _, by simpa [World.size_alloc] using blk_new (W.alloc _) _ _, rfl⟩
  case body =>
    have HZ := Lib.hid hsz
    clear hsz
    rintro l2 pre q a' W ⟨⟨n, hn, hM⟩, b1, hB1⟩ ⟨Bx, By, hne1, hne2, bX, bY, rfl⟩ hpre hbn
    obtain ⟨x0, x1, x2⟩ := bX.two
    obtain ⟨y0, y1, y2, y3, y4⟩ := bY.four
    have k0 := b1.cell 0
    obtain ⟨kl, hkl⟩ := keyD_mk (seenV ws q) (seenV_W4 HW.out.1 q)
    have HKL := Lib.hid hkl
    have HM := Lib.hid hM
    have hlen : pre.length + 1 ≤ 161 := by
      have h2 := hpre.length_le
      have h3 := upC_len k true ws.length
      rw [List.length_append] at h2
      simp at h2
      omega
    have HK := Lib.hid (And.intro b1 (And.intro bX (And.intro bY (And.intro hB1 (And.intro hbn hpre)))))
    have hb0 := hB1.size
    have l1 := b1.lt
    have l2' := bX.lt
    have l3 := bY.lt
    clear b1 bX bY hB1 hbn hpre hM hkl
    cases hq : fcQ ws pre (wordV (seenV ws q)) with
    | some q' =>
      have HG := Lib.hid (show (fcF ws pre (wordV (seenV ws q))).getD (.agg #[.int .i8 0, .bool false]) = caseV q'.1 q'.2 ∧ (fcF ws pre (wordV (seenV ws q))).isSome = true from by unfold fcF; rw [hq]; exact ⟨rfl, rfl⟩)
      have HT := Lib.hid (fcF_t hq)
      clear hq
      gi_wp2_with (gi_at_lookup; refine wpListIn_lookH_ok rfl _ _ 77 rfl 37 keyD Try.underlying77 (zeroCs _) rfl HM.out (wordV (seenV ws q)) kl rfl HKL.out _ HG.out.1 true HG.out.2 ?_)
      refine ⟨(KeepsOthers.alloc _ _).from _, KpS.alloc hb0 _, ⟨n, by omega, ?_⟩, HK.out.1.alloc _, HK.out.2.2.2.1.alloc hb0 _⟩
      rw [HT.out]
      exact HM.out.alloc _
    | none =>
      have HG := Lib.hid (show (fcF ws pre (wordV (seenV ws q))).getD (.agg #[.int .i8 0, .bool false]) = caseV 0 false ∧ (fcF ws pre (wordV (seenV ws q))).isSome = false from by unfold fcF; rw [hq]; exact ⟨rfl, rfl⟩)
      have HT := Lib.hid (fcF_f hq)
      have HMa := Lib.hid (HM.out.alloc (.cells #[.int .i8 0, .bool false] 37))
      have hml := HM.out.lt
      clear hq
      gi_wp2_with (first
        | (gi_at_lookup; refine wpListIn_lookH_ok rfl _ _ 77 rfl 37 keyD Try.underlying77 (zeroCs _) rfl HM.out (wordV (seenV ws q)) kl rfl HKL.out _ HG.out.1 false HG.out.2 ?_)
        | (gi_at_mapUpdate; refine wpListIn_storeH rfl _ _ _ 77 rfl 37 keyD Try.underlying77 rfl HMa.out (by unfold maxLen; omega) (wordV (seenV ws q)) (caseV q.1 q.2) kl rfl rfl HKL.out ?_; intro w7 hM7 hT7))
      have hgr := hT7.grown
      have hk : KeepsFrom W0.heap.size W w7 := ⟨by have := hgr.size; simp at this; omega, fun j o hj ho _ => by
        have hlt := (Array.getElem?_eq_some_iff.1 ho).1
        exact (hgr.block j (by simp; omega) (fun e => by have e2 : j = w.heap.size + 1 := Option.some.inj e; have := HZ.out; omega)).trans ((Below.heap_alloc W _ j hlt).trans ho)⟩
      have hbb : Below w.heap.size W w7 := ((Below.refl _ W).alloc hb0 _).grown hgr (by simp; omega) (fun j e => by have e2 : w.heap.size + 1 = j := Option.some.inj e; omega)
      have hkb : ∀ {B : Nat} {cs : Array Value} {t : TypeId}, Blk W B cs t → Blk w7 B cs t := fun {B cs t} hB => by
        have hne : B ≠ w.heap.size + 1 := fun e => by subst e; obtain ⟨D, ⟨es, clock, h1, r⟩, h2⟩ := HM.out; rw [show W.heap[w.heap.size + 1]? = _ from hB] at h1; cases h1
        exact (hgr.block B (by have := hB.lt; simp; omega) (fun e => hne (Option.some.inj e))).trans (hB.alloc _)
      refine ⟨hk, ⟨hbb, fun B cs t _ hB => hkb hB⟩, ⟨n + 1, by (try simp); omega, ?_⟩, hkb HK.out.1, HK.out.2.2.2.1.trans hbb⟩
      rw [HT.out]
      exact hM7
  case done =>
    have HZ := Lib.hid hsz
    clear hsz
    rintro W ⟨⟨n, hn, hM⟩, b1, hB1⟩ hK
    have k0 := b1.cell 0
    have hn2 : n ≤ 161 := by have h3 := upC_len k true ws.length; omega
    have HR := Lib.hid (And.intro hM (And.intro hB1 hK))
    have hml := hM.lt
    clear hM hB1 hK b1 hn
    gi_wp2
    refine ⟨by simp, .inl ⟨_, _, rfl, run_takeDeferred (b := W0.heap.size) (ds := []) HR.out.2.2, ?_⟩⟩
    exact ⟨.map (some (w.heap.size + 1)), by simp [results, Try.results39, go_sem], w.heap.size + 1, n, rfl, by omega, hn2, HR.out.1.block (World.putObj_heap_other (by have := HZ.out; omega)), HR.out.2.1.trans (belowK_b (w := w) (Nat.le_refl _) _ W0.heap.size _ _ (by have := HZ.out; omega) HR.out.2.2 rfl rfl)⟩
  case stop =>
    exact fun _ _ _ h _ => h.elim
end Go.Proofs.Ytnleblnikcoaiaa
