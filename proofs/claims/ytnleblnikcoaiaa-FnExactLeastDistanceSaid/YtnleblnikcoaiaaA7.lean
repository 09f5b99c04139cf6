/-
  The walk of SeenOf, for a valid fixed plan.
-/
import Derived.Test.YtnleblnikcoaiaaA6
namespace Go.Proofs.Ytnleblnikcoaiaa
open Go.RowKit Go.Shelf
set_option maxRecDepth 100000
set_option linter.unusedVariables false

attribute [local go_sem] Oper.semAt_some

theorem so_in {l k : Int} {ws : List Wf} {x : Cs} {pre : List Cs} (hok : okX l k ws = true) (h : pre ++ [x] <+: upC k true ws.length) : soW l k ws x = seenV ws x ∧ soC l k ws x = 0 := by
  have hm : x ∈ upC k true ws.length := h.subset (by simp)
  exact ⟨if_pos ⟨hok, hm⟩, by rw [soC, if_pos hok, if_pos hm]⟩
theorem so_out {l k : Int} {ws : List Wf} {x : Cs} (hok : okX l k ws = true) (h : x ∉ upC k true ws.length) : soW l k ws x = (fun _ => 0) ∧ soC l k ws x = 2 :=
  ⟨if_neg (fun e => h e.2), by rw [soC, if_pos hok, if_neg h]⟩
theorem so_bad {l k : Int} {ws : List Wf} {x : Cs} (hok : okX l k ws = false) : soW l k ws x = (fun _ => 0) ∧ soC l k ws x = 1 :=
  ⟨if_neg (fun e => by rw [hok] at e; cases e.1), by rw [soC, if_neg (by rw [hok]; decide)]⟩
set_option maxHeartbeats 4000000 in
theorem seenOf_in (b off c : Nat) (l k : Int) (ws : List Wf) (cc : Int) (hh : Bool) (w : World) (hb1 : b < w.heap.size) (hc1 : WAt w b off ws) (hl : B8 l) (hk : B8 k) (hw : Wall ws) (hok : okX l k ws = true) :
    CallsIn Fence.wide 9 Try.prog 13 #[fixV l k (some ⟨b, off, none⟩) ws.length c, caseV cc hh] w fun e w' => e = .returned (.tuple #[wordV (soW l k ws (cc, hh)), .int .i64 (soC l k ws (cc, hh))]) ∧ Below w.heap.size w w' := by
  have F0 := ((((FR.start w).box #[.int .i8 l, .int .i8 k, .slice (some ⟨b, off, none⟩) ws.length c] 35).box #[.int .i8 cc, .bool hh] 37).box #[.int .i8 0, .int .i8 0, .int .i8 0, .int .i8 0] 30).box #[.int .i64 0] 2
  have hx := okX_t hok
  have h80 := hx.2.2.1.2
  have HO := Lib.hid (openFixed_t l k (some ⟨b, off, none⟩) c ws _ (slw_up (.inr ⟨b, off, rfl, hb1, hc1⟩) F0.below) hl hk (by omega) hw hok)
  obtain ⟨c0, c1, c2, -⟩ := (F0.blk _ (List.mem_cons_of_mem _ (List.mem_cons_of_mem _ (List.mem_cons_of_mem _ List.mem_cons_self)))).three
  simp only [World.size_alloc] at F0
  have HX := Lib.hid hx
  have HW := Lib.hid (And.intro hw hc1)
  have hkk := hx.2.1
  clear hx hw hc1 hl hk
  refine callsIn_of_wp_marks Try.func13 rfl trivial ?_ rfl
  simp only [Try.ntmps13, List.size_toArray, List.length_cons, List.length_nil, Nat.reduceAdd, Nat.reduceSub, Array.replicate_succ, Array.replicate_zero, List.push_toArray, List.append_toArray, List.nil_append, List.cons_append]
  gi_wp2_with (first
    | (refine ⟨trivial, ?_⟩; gi_at_call 33; refine (callsIn_wide.2 HO.out).mono ?_; rintro e w2 ⟨rfl, hb2⟩; have F2 := (F0.next hb2).box (opC (some ⟨b, off, none⟩) ws.length c l k) 66; obtain ⟨d0, d1, d2, d3, d4, d5, d6⟩ := (F2.blk _ List.mem_cons_self).six; clear hb2 F0 c0 c1 c2 HO)
    | (refine ⟨trivial, ?_⟩; gi_at_call 34; refine (seenWords_in Fence.wide 8 trivial rfl _ _ _ _ _ _).mono ?_; rintro e w3 ⟨rfl, rfl⟩))
  have F3 := F2.box (opC (some ⟨b, off, none⟩) ws.length c l k) 66
  simp only [World.size_alloc] at F3
  have bP := F3.blk _ List.mem_cons_self
  have bS := F3.blk _ (List.mem_cons_of_mem _ (List.mem_cons_of_mem _ List.mem_cons_self))
  have bR := F3.blk _ (List.mem_cons_of_mem _ (List.mem_cons_of_mem _ (List.mem_cons_of_mem _ List.mem_cons_self)))
  have bC := F3.blk _ (List.mem_cons_of_mem _ (List.mem_cons_of_mem _ (List.mem_cons_of_mem _ (List.mem_cons_of_mem _ List.mem_cons_self))))
  have hB0 := F3.below
  have hsz : ((w2.alloc (.cells (opC (some ⟨b, off, none⟩) ws.length c l k) 66)).alloc (.cells (opC (some ⟨b, off, none⟩) ws.length c l k) 66)).heap.size = w2.heap.size + 2 := by simp
  have hz3 : w.heap.size + 1 + 1 + 1 < w2.heap.size := (F2.top _ _ rfl).2 _ List.mem_cons_self
  dsimp only at bP bS bR bC
  clear d0 d1 d2 d3 d4 d5 d6 F2 F3
  obtain ⟨W0, hW0⟩ : ∃ W0, ((w2.alloc (.cells (opC (some ⟨b, off, none⟩) ws.length c l k) 66)).alloc (.cells (opC (some ⟨b, off, none⟩) ws.length c l k) 66)) = W0 := ⟨_, rfl⟩
  rw [hW0] at bP bS bR bC hB0 hsz ⊢
  clear hW0
  have hE := fun a b a' b' W => eqCs a b a' b' W
  have hzz : w.heap.size + 1 + 1 + 1 + 1 ≤ w2.heap.size := hz3
  refine loop_gives rfl (by decide) (gf := 50) (lb := #[.pointer (some ⟨w2.heap.size + 1, 0, none⟩)]) rfl trivial (enters_of Try.func50 (by kernel_rfl) rfl)
    (encs := fun x : Cs => #[caseV x.1 x.2, wordV (seenV ws x)]) (n₀ := w.heap.size) (S := fun q => q = w2.heap.size + 1 ∨ q = w2.heap.size + 4 ∨ q = w2.heap.size + 5) (L := upC k true ws.length) (by omega)
    (fun W1 h1 h2 => seen1_gives (w2.heap.size + 1) w.heap.size _ b off c ws l k W1 (bP.below h2 bP.lt) hb1 (by omega) (HW.out.2.below (hB0.trans (h2.mono hB0.size)) hb1) HW.out.1 (by omega) hkk ⟨.inl rfl, .inr (.inl (by omega)), .inr (.inr (by omega))⟩ (fun q hq => by omega)) (fun _ => rfl)
    (fun pre W => (Blk W (w.heap.size + 1) #[.int .i8 cc, .bool hh] 37 ∧ Blk W (w.heap.size + 1 + 1) #[.int .i8 0, .int .i8 0, .int .i8 0, .int .i8 0] 30 ∧ Blk W (w.heap.size + 1 + 1 + 1) #[.int .i64 0] 2) ∧ Below w.heap.size w W ∧ (cc, hh) ∉ pre)
    (fun pre W => ∃ pre', pre = pre' ++ [(cc, hh)] ∧ (Blk W (w.heap.size + 1 + 1) (wordC (seenV ws (cc, hh))) 30 ∧ Blk W (w.heap.size + 1 + 1 + 1) #[.int .i64 0] 2) ∧ Below w.heap.size w W)
    (OwnFrom.and (OwnFrom.and (Own.from (blk_own _ _ (fun _ => _)) _) (OwnFrom.and (Own.from (blk_own _ _ (fun _ => _)) _) (Own.from (blk_own _ _ (fun _ => _)) _))) (OwnFrom.and (ownFrom_below (Nat.le_refl _) (by omega)) (pure_own _ _)))
    (fun pre X Y row hs hg hr => by
      obtain ⟨pre', h1, ⟨h3, h4⟩, h5⟩ := hs
      exact ⟨pre', h1, ⟨blk_own _ _ (fun (_ : Unit) => _) () X Y row h3 hg (fun r e => (hr r e).2), blk_own _ _ (fun (_ : Unit) => _) () X Y row h4 hg (fun r e => (hr r e).2)⟩, ownFrom_below (β := Unit) (Nat.le_refl _) (by omega) () X Y row h5 hg hr⟩)
    ⟨⟨bC, bR, bS⟩, hB0, by simp⟩
    (fun x a' W => ∃ Bx By, Blk W Bx #[.int .i8 x.1, .bool x.2] 37 ∧ Blk W By (wordC (seenV ws x)) 30 ∧ a' = { tmps := #[fixV l k (some ⟨b, off, none⟩) ws.length c, caseV cc hh, .pointer (some ⟨w.heap.size, 0, none⟩), .pointer (some ⟨w.heap.size + 1, 0, none⟩), .pointer (some ⟨w.heap.size + 1 + 1, 0, none⟩), .pointer (some ⟨w.heap.size + 1 + 1 + 1, 0, none⟩), .pointer (some ⟨w2.heap.size, 0, none⟩), .int .i64 0, .pointer (some ⟨Bx, 0, none⟩), .pointer (some ⟨By, 0, none⟩),
      .tuple #[opV (some ⟨b, off, none⟩) ws.length c l k, .int .i64 0], fixV l k (some ⟨b, off, none⟩) ws.length c, .tuple #[opV (some ⟨b, off, none⟩) ws.length c l k, .int .i64 0], opV (some ⟨b, off, none⟩) ws.length c l k, .int .i64 0, .int .i64 0, .bool false, undef, undef, opV (some ⟨b, off, none⟩) ws.length c l k, .func (.func 50) #[] #[.pointer (some ⟨w2.heap.size + 1, 0, none⟩)], caseV x.1 x.2, wordV (seenV ws x), undef, undef, undef, undef, undef], defers := [] })
    (fun x a' _ X Y row hs hg hr => by obtain ⟨Bx, By, h2, h3, h4⟩ := hs; exact ⟨Bx, By, blk_own _ _ (fun (_ : Unit) => _) () X Y row h2 hg (fun r e => (hr r e).2), blk_own _ _ (fun (_ : Unit) => _) () X Y row h3 hg (fun r e => (hr r e).2), h4⟩)
    ?assign ?body ?done ?stop
  case assign =>
    rintro l2 pre x W K ⟨⟨b1, b2, b3⟩, hB1, hx1⟩ hbn hK
    gi_wp2
    exact hK _ _ (((KeepsOthers.alloc _ _).trans (KeepsOthers.alloc _ _)).from _) ((KpS.alloc hB1.size _).t (KpS.alloc (by have := hB1.size; simp; omega) _)) ⟨⟨(b1.alloc _).alloc _, (b2.alloc _).alloc _, (b3.alloc _).alloc _⟩, (hB1.alloc hB1.size _).alloc (by have := hB1.size; simp; omega) _, hx1⟩ ⟨W.heap.size, W.heap.size + 1, (blk_new W _ _).alloc _, by simpa [World.size_alloc] using blk_new (W.alloc _) _ _, rfl⟩
  case body =>
    have HZ := Lib.hid (And.intro hsz (And.intro hz3 hzz))
    clear hsz hz3 hzz
    rintro l2 pre x a' W ⟨⟨b1, b2, b3⟩, hB1, hx1⟩ ⟨Bx, By, bX, bY, rfl⟩ hpre hbn
    have HP := Lib.hid hpre
    have HN := Lib.hid hbn
    clear hpre hbn
    obtain ⟨c0, c1, c2⟩ := b1.two
    obtain ⟨d0, d1, d2⟩ := bX.two
    by_cases hxx : x = (cc, hh)
    · subst hxx
      obtain ⟨y0, y1, y2, y3, y4⟩ := bY.four
      obtain ⟨f0, f1, f2, f3, f4⟩ := b2.four
      have g0 := b3.cell 0
      have g1 := b3.free 0
      generalize seenV ws (cc, hh) = v at *
      have HE := Lib.hid (show KeepsFrom W0.heap.size W (((((W.setCell ⟨w.heap.size + 1 + 1, 0, none⟩ (.int .i8 (v 0))).setCell ⟨w.heap.size + 1 + 1, 1, none⟩ (.int .i8 (v 1))).setCell ⟨w.heap.size + 1 + 1, 2, none⟩ (.int .i8 (v 2))).setCell ⟨w.heap.size + 1 + 1, 3, none⟩ (.int .i8 (v 3))).setCell ⟨w.heap.size + 1 + 1 + 1, 0, none⟩ (.int .i64 0))
          ∧ ∃ pre', pre ++ [(cc, hh)] = pre' ++ [(cc, hh)] ∧ (Blk (((((W.setCell ⟨w.heap.size + 1 + 1, 0, none⟩ (.int .i8 (v 0))).setCell ⟨w.heap.size + 1 + 1, 1, none⟩ (.int .i8 (v 1))).setCell ⟨w.heap.size + 1 + 1, 2, none⟩ (.int .i8 (v 2))).setCell ⟨w.heap.size + 1 + 1, 3, none⟩ (.int .i8 (v 3))).setCell ⟨w.heap.size + 1 + 1 + 1, 0, none⟩ (.int .i64 0)) (w.heap.size + 1 + 1) (wordC v) 30 ∧ Blk (((((W.setCell ⟨w.heap.size + 1 + 1, 0, none⟩ (.int .i8 (v 0))).setCell ⟨w.heap.size + 1 + 1, 1, none⟩ (.int .i8 (v 1))).setCell ⟨w.heap.size + 1 + 1, 2, none⟩ (.int .i8 (v 2))).setCell ⟨w.heap.size + 1 + 1, 3, none⟩ (.int .i8 (v 3))).setCell ⟨w.heap.size + 1 + 1 + 1, 0, none⟩ (.int .i64 0)) (w.heap.size + 1 + 1 + 1) #[.int .i64 0] 2)
            ∧ Below w.heap.size w (((((W.setCell ⟨w.heap.size + 1 + 1, 0, none⟩ (.int .i8 (v 0))).setCell ⟨w.heap.size + 1 + 1, 1, none⟩ (.int .i8 (v 1))).setCell ⟨w.heap.size + 1 + 1, 2, none⟩ (.int .i8 (v 2))).setCell ⟨w.heap.size + 1 + 1, 3, none⟩ (.int .i8 (v 3))).setCell ⟨w.heap.size + 1 + 1 + 1, 0, none⟩ (.int .i64 0)) from
        ⟨(((((KeepsOthers.setCell _ _ _).trans (KeepsOthers.setCell _ _ _)).trans (KeepsOthers.setCell _ _ _)).trans (KeepsOthers.setCell _ _ _)).trans (KeepsOthers.setCell _ _ _)).from _, pre, rfl,
          ⟨((((b2.set 0 _).set 1 _).set 2 _).set 3 _).setOther (by omega) _ _, (((((b3.setOther (by omega) _ _).setOther (by omega) _ _).setOther (by omega) _ _).setOther (by omega) _ _).set 0 _)⟩,
          setAt (setAt (setAt (setAt (setAt hB1 (by omega) _ _) (by omega) _ _) (by omega) _ _) (by omega) _ _) (by omega) _ _⟩)
      clear b1 b2 b3 bX bY hB1
      gi_wp2
      obtain ⟨h1, p, _, h2⟩ := HE.out
      exact ⟨h1, h2⟩
    · have hq : (x.1 == cc && x.2 == hh) = false := by
        by_cases h1 : x.1 = cc <;> by_cases h2 : x.2 = hh <;> simp [h1, h2]
        exact hxx (Prod.ext h1 h2)
      have HE := Lib.hid (show KeepsFrom W0.heap.size W W ∧ KpS w.heap.size (fun q => q = w2.heap.size + 1 ∨ q = w2.heap.size + 4 ∨ q = w2.heap.size + 5) W W ∧ ((Blk W (w.heap.size + 1) #[.int .i8 cc, .bool hh] 37 ∧ Blk W (w.heap.size + 1 + 1) #[.int .i8 0, .int .i8 0, .int .i8 0, .int .i8 0] 30 ∧ Blk W (w.heap.size + 1 + 1 + 1) #[.int .i64 0] 2) ∧ Below w.heap.size w W ∧ (cc, hh) ∉ pre ++ [x]) from
        ⟨(KeepsOthers.refl _).from _, ⟨Below.refl _ _, fun _ _ _ _ h => h⟩, ⟨b1, b2, b3⟩, hB1, by
          rw [List.mem_append, List.mem_singleton]
          exact fun h => h.elim hx1 (fun h => hxx h.symm)⟩)
      clear b1 b2 b3 bX bY hB1
      gi_wp2
      exact ⟨HE.out.1, HE.out.2.1, HE.out.2.2.1, HE.out.2.2.2.1, fun e => hxx e.symm⟩
  case done =>
    have HZ := Lib.hid (And.intro hsz (And.intro hz3 hzz))
    clear hsz hz3 hzz
    rintro W ⟨⟨b1, b2, b3⟩, hB1, hx1⟩ hK
    have HF := Lib.hid (so_out hok hx1)
    obtain ⟨f0, f1, f2, f3, f4⟩ := b2.four
    have g0 := b3.cell 0
    have g1 := b3.free 0
    have hK5 : (((((W.setCell ⟨w.heap.size + 1 + 1, 0, none⟩ (.int .i8 0)).setCell ⟨w.heap.size + 1 + 1, 1, none⟩ (.int .i8 0)).setCell ⟨w.heap.size + 1 + 1, 2, none⟩ (.int .i8 0)).setCell ⟨w.heap.size + 1 + 1, 3, none⟩ (.int .i8 0)).setCell ⟨w.heap.size + 1 + 1 + 1, 0, none⟩ (.int .i64 2)).heap[W0.heap.size]? = some (.deferred (some [])) :=
      (((((KeepsOthers.setCell W _ _).trans (KeepsOthers.setCell _ _ _)).trans (KeepsOthers.setCell _ _ _)).trans (KeepsOthers.setCell _ _ _)).trans (KeepsOthers.setCell _ _ _)).same _ _ hK rfl
    have k2 := ((((b2.set 0 (.int .i8 0)).set 1 (.int .i8 0)).set 2 (.int .i8 0)).set 3 (.int .i8 0)).setOther (show w.heap.size + 1 + 1 ≠ w.heap.size + 1 + 1 + 1 by omega) 0 (.int .i64 2)
    have k3 := ((((b3.setOther (show w.heap.size + 1 + 1 + 1 ≠ w.heap.size + 1 + 1 by omega) 0 (.int .i8 0)).setOther (show w.heap.size + 1 + 1 + 1 ≠ w.heap.size + 1 + 1 by omega) 1 (.int .i8 0)).setOther (show w.heap.size + 1 + 1 + 1 ≠ w.heap.size + 1 + 1 by omega) 2 (.int .i8 0)).setOther (show w.heap.size + 1 + 1 + 1 ≠ w.heap.size + 1 + 1 by omega) 3 (.int .i8 0)).set 0 (.int .i64 2)
    have kB := Lib.hid (setAt (setAt (setAt (setAt (setAt hB1 (show w.heap.size ≤ w.heap.size + 1 + 1 by omega) 0 (.int .i8 0)) (show w.heap.size ≤ w.heap.size + 1 + 1 by omega) 1 (.int .i8 0)) (show w.heap.size ≤ w.heap.size + 1 + 1 by omega) 2 (.int .i8 0)) (show w.heap.size ≤ w.heap.size + 1 + 1 by omega) 3 (.int .i8 0)) (show w.heap.size ≤ w.heap.size + 1 + 1 + 1 by omega) 0 (.int .i64 2))
    have q2 := Lib.hid ((World.putObj_heap_other (o := .deferred none) (show w.heap.size + 1 + 1 ≠ W0.heap.size by have := HZ.out; omega)).trans k2)
    have q3 := Lib.hid ((World.putObj_heap_other (o := .deferred none) (show w.heap.size + 1 + 1 + 1 ≠ W0.heap.size by have := HZ.out; omega)).trans k3)
    have HK5 := Lib.hid hK5
    clear b1 b2 b3 hB1 k2 k3 hK5
    gi_wp2
    refine ⟨by simp, .inl ⟨_, _, rfl, run_takeDeferred (b := W0.heap.size) (ds := []) HK5.out, ?_⟩⟩
    have r2 : Blk _ _ _ _ := q2.out
    have r3 : Blk _ _ _ _ := q3.out
    obtain ⟨t0, t1, t2, t3, -⟩ := r2.four
    have r5 := r3.cell 0
    exact ⟨.tuple #[wordV fun _ => 0, .int .i64 2], by simp at t0 t1 t2 t3 r5; simp [results, Try.results13, go_sem, t0, t1, t2, t3, r5], by rw [HF.out.1, HF.out.2], kB.out.trans (belowK_b (w := w) (Nat.le_refl _) _ W0.heap.size _ _ (by have := HZ.out; omega) HK5.out rfl rfl)⟩
  case stop =>
    have HZ := Lib.hid (And.intro hsz (And.intro hz3 hzz))
    clear hsz hz3 hzz
    rintro pre W hpre ⟨pre', rfl, ⟨b2, b3⟩, hB1⟩ hK
    have HF := Lib.hid (so_in hok hpre)
    clear hpre
    generalize seenV ws (cc, hh) = v at *
    have q2 := Lib.hid ((World.putObj_heap_other (o := .deferred none) (show w.heap.size + 1 + 1 ≠ W0.heap.size by have := HZ.out; omega)).trans b2)
    have q3 := Lib.hid ((World.putObj_heap_other (o := .deferred none) (show w.heap.size + 1 + 1 + 1 ≠ W0.heap.size by have := HZ.out; omega)).trans b3)
    have kB := Lib.hid hB1
    have HK5 := Lib.hid hK
    clear b2 b3 hB1 hK
    gi_wp2
    refine ⟨by simp, .inl ⟨_, _, rfl, run_takeDeferred (b := W0.heap.size) (ds := []) HK5.out, ?_⟩⟩
    have r2 : Blk _ _ _ _ := q2.out
    have r3 : Blk _ _ _ _ := q3.out
    obtain ⟨t0, t1, t2, t3, -⟩ := r2.four
    have r5 := r3.cell 0
    exact ⟨.tuple #[wordV v, .int .i64 0], by simp at t0 t1 t2 t3 r5; simp [results, Try.results13, go_sem, t0, t1, t2, t3, r5], by rw [HF.out.1, HF.out.2], kB.out.trans (belowK_b (w := w) (Nat.le_refl _) _ W0.heap.size _ _ (by have := HZ.out; omega) HK5.out rfl rfl)⟩
end Go.Proofs.Ytnleblnikcoaiaa
