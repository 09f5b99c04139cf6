/-
  DecodeNear where the cases are looked through.
-/
import Derived.Test.YtieghjpecoiodaaB6
import Derived.Test.YtieghjpecoiodaaB1
import Derived.Test.YtieghjpecoiodaaA7
import Derived.Test.YtieghjpecoiodaaB4
namespace Go.Proofs.Ytieghjpecoiodaa
open Go.RowKit Go.Shelf
set_option maxRecDepth 100000
set_option linter.unusedVariables false

attribute [local go_sem] Oper.semAt_some

/-- What DecodeNear hands back. -/
noncomputable def dnC (ws : List Wf) (x : Nat → Int) (wr : Int) (L : List Cs) : Int := if (nearL ws x wr L).length = 0 then 6 else if (nearL ws x wr L).length = 1 then 0 else 8
noncomputable def dnV (ws : List Wf) (x : Nat → Int) (wr : Int) (L : List Cs) : Cs := if (nearL ws x wr L).length = 1 then (nearL ws x wr L).getD 0 (0, false) else (0, false)
theorem row_next {w w' : World} {base : Nat} {e : TypeId} {size : Nat} {v : Value} {n : Nat} {xs : List Value} (h : w.ownsRow base e size v n xs) (hb : Below w.heap.size w w') : w'.ownsRow base e size v n xs :=
  h.kept (row := none) ⟨hb.os, hb.tape, hb.output, hb.size, fun k hk _ => hb.block k hk⟩ (by cases h : v.ownBlock <;> simp)
/-- An append to a row that lies past nb, behind a box: what the walk owes. -/
theorem appended_far {W w1 : World} {n₀ nb B : Nat} {t e : TypeId} {size : Nat} {v v' : Value} {k m : Nat} {xs ys : List Value} {tmp : Obj}
    (hv : Boxed W B t v) (hte : t ≠ e) (hrow : W.ownsRow nb e size v k xs) (hn₀ : n₀ ≤ W.heap.size) (hB : n₀ ≤ B) (hnb : n₀ ≤ nb)
    (hown' : w1.ownsRow nb e size v' m ys) (hgrow : (W.alloc tmp).grownBy w1 v.ownBlock) :
    Boxed w1 B t v ∧ Boxed (w1.setCell ⟨B, 0, none⟩ v') B t v' ∧ (w1.setCell ⟨B, 0, none⟩ v').ownsRow nb e size v' m ys ∧ KeepsOthers W (w1.setCell ⟨B, 0, none⟩ v') ∧ Below n₀ W (w1.setCell ⟨B, 0, none⟩ v')
      ∧ ∀ q cs u, Blk W q cs u → q < nb → q ≠ B → Blk (w1.setCell ⟨B, 0, none⟩ v') q cs u := by
  have hv1 : Boxed w1 B t v := (hv.alloc tmp).kept hgrow (hv.not_row hte hrow)
  have hrw : ∀ j, v.ownBlock = some j → nb ≤ j ∧ ∀ o, (W.alloc tmp).heap[j]? = some o → o.isCells = true := fun j ej => by
    rcases (hrow.alloc tmp).2 with ⟨rfl, _⟩ | ⟨g, cap, cur, rfl, hb, hgb, _⟩
    · simp [Value.ownBlock] at ej
    · obtain rfl : g = j := by simpa [Value.ownBlock] using ej
      exact ⟨hb, fun o ho => by rw [hgb] at ho; cases ho; rfl⟩
  refine ⟨hv1, hv1.set v', hown'.kept (grownBy_setCell' w1 B v') (.inr (hv1.not_row hte hown').symm), ?_, ?_, ?_⟩
  · exact ((KeepsOthers.alloc W tmp).trans (KeepsOthers.of_grownBy hgrow fun j o ej hj => (hrw j ej).2 o hj)).trans (KeepsOthers.setCell _ _ _)
  · exact (((Below.refl n₀ W).alloc hn₀ tmp).grown hgrow (by simp; omega) fun j ej => by have := (hrw j ej).1; omega).setCell (p := ⟨B, 0, none⟩) hB v'
  · intro q cs u hq hlt hne
    have h1 := hq.alloc tmp
    have h2 : Blk w1 q cs u := (hgrow.block q h1.lt (fun e' => by have := (hrw q e'.symm).1; omega)).trans h1
    exact h2.setOther hne _ _
set_option maxHeartbeats 4000000 in
theorem decodeNear_in (b off c : Nat) (l k : Int) (ws : List Wf) (x : Nat → Int) (wr : Int) (w : World) (hb1 : b < w.heap.size) (hc1 : WAt w b off ws) (hl : B8 l) (hk : B8 k) (hw : Wall ws) (hx4 : W4 x) (hok : okX l k ws = true) (hd : okD l x = true) (hr : 0 ≤ wr ∧ wr ≤ 4) :
    CallsIn Fence.wide 9 Try.prog 12 #[fixV l k (some ⟨b, off, none⟩) ws.length c, wordV x, .int .i64 wr] w fun e w' => e = .returned (.tuple #[caseV (dnV ws x wr (upC k true ws.length)).1 (dnV ws x wr (upC k true ws.length)).2, .int .i64 (dnC ws x wr (upC k true ws.length))]) ∧ Below w.heap.size w w' := by
  have F0 := ((((FR.start w).box #[.int .i8 l, .int .i8 k, .slice (some ⟨b, off, none⟩) ws.length c] 27).box (wordC x) 40).box #[.int .i64 wr] 2).box #[.int .i8 0, .bool false] 37
  have hx := okX_t hok
  have h80 := hx.2.2.1.2
  have HO := Lib.hid (openSeen_t l k (some ⟨b, off, none⟩) c ws x _ (slw_up (.inr ⟨b, off, rfl, hb1, hc1⟩) F0.below) hl hk (by omega) hw hx4 hok hd)
  have HI := Lib.hid (fun W => within_any wr 0 4 W)
  rw [show inB wr 0 4 = true from cb_t hr] at HI
  obtain ⟨c0, c1, c2, -⟩ := (F0.blk _ (List.mem_cons_of_mem _ (List.mem_cons_of_mem _ (List.mem_cons_of_mem _ List.mem_cons_self)))).three
  obtain ⟨x0, x1, x2, x3, x4⟩ := (F0.blk _ (List.mem_cons_of_mem _ (List.mem_cons_of_mem _ List.mem_cons_self))).four
  simp only [World.size_alloc] at F0
  have HX := Lib.hid hx
  have HW := Lib.hid (And.intro hw hc1)
  have hkk := hx.2.1
  clear hx hw hc1 hl hk hd hx4
  refine callsIn_of_wp_marks Try.func12 rfl trivial ?_ rfl
  simp only [Try.ntmps12, List.size_toArray, List.length_cons, List.length_nil, Nat.reduceAdd, Nat.reduceSub, Array.replicate_succ, Array.replicate_zero, List.push_toArray, List.append_toArray, List.nil_append, List.cons_append]
  gi_wp2_with (first
    | (refine ⟨trivial, ?_⟩; gi_at_call 33; refine (callsIn_wide.2 HO.out).mono ?_; rintro e w2 ⟨rfl, hb2⟩; have F2 := (F0.next hb2).box (opC (some ⟨b, off, none⟩) ws.length c l k) 58; obtain ⟨d0, d1, d2, d3, d4, d5, d6⟩ := (F2.blk _ List.mem_cons_self).six; have k0 := (F2.blk _ (List.mem_cons_of_mem _ (List.mem_cons_of_mem _ List.mem_cons_self))).cell 0; dsimp only at k0; clear hb2 F0 c0 c1 c2 x0 x1 x2 x3 x4 HO)
    | (refine ⟨trivial, ?_⟩; gi_at_call 34; refine (callsIn_wide.2 (HI.out _)).mono ?_; rintro e w3 ⟨rfl, rfl⟩)
    | (refine ⟨trivial, ?_⟩; gi_at_call 24; refine (seenWords_in Fence.wide 8 trivial rfl _ _ _ _ _ _).mono ?_; rintro e w4 ⟨rfl, rfl⟩))
  have F3 := (F2.box #[.slice none 0 0] 31).box (opC (some ⟨b, off, none⟩) ws.length c l k) 58
  simp only [World.size_alloc] at F3
  have bP := F3.blk _ List.mem_cons_self
  have bN := F3.blk _ (List.mem_cons_of_mem _ List.mem_cons_self)
  have bR := F3.blk _ (List.mem_cons_of_mem _ (List.mem_cons_of_mem _ (List.mem_cons_of_mem _ List.mem_cons_self)))
  have bI := F3.blk _ (List.mem_cons_of_mem _ (List.mem_cons_of_mem _ (List.mem_cons_of_mem _ (List.mem_cons_of_mem _ List.mem_cons_self))))
  have bX := F3.blk _ (List.mem_cons_of_mem _ (List.mem_cons_of_mem _ (List.mem_cons_of_mem _ (List.mem_cons_of_mem _ (List.mem_cons_of_mem _ List.mem_cons_self)))))
  have hB0 := F3.below
  have hz3 : w.heap.size + 1 + 1 + 1 < w2.heap.size := (F2.top _ _ rfl).2 _ List.mem_cons_self
  have hsz : (((w2.alloc (.cells (opC (some ⟨b, off, none⟩) ws.length c l k) 58)).alloc (.cells #[.slice none 0 0] 31)).alloc (.cells (opC (some ⟨b, off, none⟩) ws.length c l k) 58)).heap.size = w2.heap.size + 3 := by simp
  dsimp only at bP bN bR bI bX
  clear d0 d1 d2 d3 d4 d5 d6 F2 F3 k0
  obtain ⟨W0, hW0⟩ : ∃ W0, (((w2.alloc (.cells (opC (some ⟨b, off, none⟩) ws.length c l k) 58)).alloc (.cells #[.slice none 0 0] 31)).alloc (.cells (opC (some ⟨b, off, none⟩) ws.length c l k) 58)) = W0 := ⟨_, rfl⟩
  rw [hW0] at bP bN bR bI bX hB0 hsz ⊢
  clear hW0
  obtain ⟨i0, hi, hz0, hz1, hz2⟩ := info_parts Try.infoC
  refine loop_gives rfl (by decide) (gf := 50) (lb := #[.pointer (some ⟨w2.heap.size + 1 + 1, 0, none⟩)]) rfl trivial (enters_of Try.func50 (by kernel_rfl) rfl)
    (encs := fun q : Cs => #[caseV q.1 q.2, wordV (seenV ws q)]) (n₀ := w.heap.size) (S := fun q => q = w2.heap.size + 1 + 1 ∨ q = w2.heap.size + 5 ∨ q = w2.heap.size + 6) (L := upC k true ws.length) (by omega)
    (fun W1 h1 h2 => seen1_gives (w2.heap.size + 1 + 1) w.heap.size _ b off c ws l k W1 (bP.below h2 bP.lt) hb1 (by omega) (HW.out.2.below (hB0.trans (h2.mono hB0.size)) hb1) HW.out.1 (by omega) hkk ⟨.inl rfl, .inr (.inl (by omega)), .inr (.inr (by omega))⟩ (fun q hq => by omega)) (fun _ => rfl)
    (fun pre W => (Blk W (w.heap.size + 1) (wordC x) 40 ∧ Blk W (w.heap.size + 1 + 1) #[.int .i64 wr] 2 ∧ Blk W (w.heap.size + 1 + 1 + 1) #[.int .i8 0, .bool false] 37) ∧ (∃ v, Boxed W (w2.heap.size + 1) 31 v ∧ W.ownsRow (w2.heap.size + 7) 37 2 v (nearL ws x wr pre).length (cvals (nearL ws x wr pre)) ∧ True) ∧ Below w.heap.size w W)
    (fun pre W => False)
    (OwnFrom.and (OwnFrom.and (Own.from (blk_own _ _ (fun _ => _)) _) (OwnFrom.and (Own.from (blk_own _ _ (fun _ => _)) _) (Own.from (blk_own _ _ (fun _ => _)) _))) (OwnFrom.and (Own.from (holdsRow_own (w2.heap.size + 7) (w2.heap.size + 1) 31 37 2 (fun pre => (nearL ws x wr pre).length) (fun pre => cvals (nearL ws x wr pre)) (fun _ _ => True)) _) (ownFrom_below (Nat.le_refl _) (by omega))))
    (fun _ _ _ _ hs _ _ => hs)
    ⟨⟨bX, bI, bR⟩, ⟨_, bN, World.ownsRow_nil _ _ _ _, trivial⟩, hB0⟩
    (fun q a' W => ∃ Bx By, Blk W Bx #[.int .i8 q.1, .bool q.2] 37 ∧ Blk W By (wordC (seenV ws q)) 40 ∧ a' = { tmps := #[fixV l k (some ⟨b, off, none⟩) ws.length c, wordV x, .int .i64 wr, .pointer (some ⟨w.heap.size, 0, none⟩), .pointer (some ⟨w.heap.size + 1, 0, none⟩), .pointer (some ⟨w.heap.size + 1 + 1, 0, none⟩), .pointer (some ⟨w.heap.size + 1 + 1 + 1, 0, none⟩), .int .i64 0, .pointer (some ⟨w2.heap.size, 0, none⟩), .int .i64 0, .pointer (some ⟨w2.heap.size + 1, 0, none⟩), .pointer (some ⟨Bx, 0, none⟩), .pointer (some ⟨By, 0, none⟩),
      .tuple #[opV (some ⟨b, off, none⟩) ws.length c l k, .int .i64 0], fixV l k (some ⟨b, off, none⟩) ws.length c, wordV x, .tuple #[opV (some ⟨b, off, none⟩) ws.length c l k, .int .i64 0], opV (some ⟨b, off, none⟩) ws.length c l k, .int .i64 0, .int .i64 0, .bool false, undef, undef, .int .i64 wr, .bool true, .bool false, undef, opV (some ⟨b, off, none⟩) ws.length c l k, .func (.func 50) #[] #[.pointer (some ⟨w2.heap.size + 1 + 1, 0, none⟩)], caseV q.1 q.2, wordV (seenV ws q), undef, undef, undef, undef, undef, undef, undef, undef, undef, undef, undef, undef, undef, undef, undef, undef, undef, undef, undef, undef], defers := [] })
    (fun q a' _ X Y row hs hg hr => by obtain ⟨Bx, By, h2, h3, h4⟩ := hs; exact ⟨Bx, By, blk_own _ _ (fun (_ : Unit) => _) () X Y row h2 hg (fun r e => (hr r e).2), blk_own _ _ (fun (_ : Unit) => _) () X Y row h3 hg (fun r e => (hr r e).2), h4⟩)
    ?assign ?body ?done ?stop
  case assign =>
    rintro l2 pre q W K ⟨⟨b1, b2, b3⟩, ⟨v, hv, hrow, -⟩, hB1⟩ hbn hK
    gi_wp2
    exact hK _ _ (((KeepsOthers.alloc _ _).trans (KeepsOthers.alloc _ _)).from _) ((KpS.alloc hB1.size _).t (KpS.alloc (by have := hB1.size; simp; omega) _)) ⟨⟨(b1.alloc _).alloc _, (b2.alloc _).alloc _, (b3.alloc _).alloc _⟩, ⟨v, (hv.alloc _).alloc _, (hrow.alloc _).alloc _, trivial⟩, (hB1.alloc hB1.size _).alloc (by have := hB1.size; simp; omega) _⟩ ⟨W.heap.size, W.heap.size + 1, (blk_new W _ _).alloc _, by simpa [World.size_alloc] using blk_new (W.alloc _) _ _, rfl⟩
  case body =>
    have HZ := Lib.hid (And.intro hsz hz3)
    clear hsz hz3
    rintro l2 pre q a' W ⟨⟨b1, b2, b3⟩, ⟨v, hv, hrow, -⟩, hB1⟩ ⟨Bx, By, bX, bY, rfl⟩ hpre hbn
    have hmx : Try.prog.follows .mixedOrders = true := by kernel_rfl
    have HD := Lib.hid (fun W => distance_any (seenV ws q) x W)
    obtain ⟨x0, x1, x2, x3, x4⟩ := b1.four
    obtain ⟨y0, y1, y2, y3, y4⟩ := bY.four
    have k0 := b2.cell 0
    have k1 := b2.free 0
    have HK := Lib.hid (And.intro b1 (And.intro b2 (And.intro b3 (And.intro bX (And.intro bY hB1)))))
    have HN := Lib.hid hbn
    have HV := Lib.hid (And.intro hv hrow)
    clear b1 b2 b3 bX bY hB1 hbn hv hrow
    gi_wp2
    gi_region_with_o (refine ⟨trivial, ?_⟩; gi_at_call 25; refine (CallsIn.inRound l2 (callsIn_wide.2 (HD.out _))).mono ?_; rintro e w3 ⟨rfl, hb3⟩; have g2 := Blk.below (w := W.drew) HK.out.2.1 hb3 HK.out.2.1.lt; have k2 := g2.cell 0; have k3 := g2.free 0; have HG := Lib.hid hb3; clear hb3 g2)
    all_goals
      have hb : Below W.heap.size W w3 := ⟨HG.out.os, HG.out.tape, HG.out.output, HG.out.size, HG.out.block⟩
      have m1 := HK.out.1.below hb HK.out.1.lt
      have m2 := HK.out.2.1.below hb HK.out.2.1.lt
      have m3 := HK.out.2.2.1.below hb HK.out.2.2.1.lt
      have m4 := HK.out.2.2.2.1.below hb HK.out.2.2.2.1.lt
      have mB := HK.out.2.2.2.2.2.trans (hb.mono HK.out.2.2.2.2.2.size)
      have hv3 : Boxed w3 (w2.heap.size + 1) 31 v := (hb.block _ HV.out.1.lt).trans HV.out.1
      have hrow3 := row_next HV.out.2 hb
      have hks := kps_call (S := fun q => q = w2.heap.size + 1 + 1 ∨ q = w2.heap.size + 5 ∨ q = w2.heap.size + 6) HK.out.2.2.2.2.2.size hb
      have hkf := (KeepsBut.from (B := w.heap.size) (l := 0) (C := W0.heap.size) (kb_call hb) (by have := HZ.out; omega) (by have := HZ.out; omega))
      clear x0 x1 x2 x3 x4 y0 y1 y2 y3 y4 k0 k1 k2 k3
      have hlen : (nearL ws x wr pre).length ≤ 161 := by
        have h1 := nearL_len ws x wr pre
        have h2 := hpre.length_le
        have h3 := upC_len k true ws.length
        rw [List.length_append] at h2
        omega
      clear hpre
      cases hd : decide (dist (seenV ws q) x 4 ≤ wr)
      case' false =>
        have h : ¬ dist (seenV ws q) x 4 ≤ wr := of_decide_eq_false hd
        clear hd
        have HE := Lib.hid (And.intro hkf (And.intro hks (And.intro (And.intro m1 (And.intro m2 m3)) (And.intro (show ∃ v, Boxed w3 (w2.heap.size + 1) 31 v ∧ w3.ownsRow (w2.heap.size + 7) 37 2 v (nearL ws x wr (pre ++ [q])).length (cvals (nearL ws x wr (pre ++ [q]))) ∧ True from ⟨v, hv3, by rw [nearL_f h]; exact hrow3, trivial⟩) mB))))
        clear hkf hks m1 m2 m3 m4 mB hv3 hrow3 h hb
        gi_wp2
        obtain ⟨h1, h2, h3, ⟨v', h4, h5, -⟩, h6⟩ := HE.out
        exact ⟨h1, h2, h3, ⟨v', h4, h5⟩, h6⟩
      case' true =>
        have h : dist (seenV ws q) x 4 ≤ wr := of_decide_eq_true hd
        obtain ⟨q0, q1, q2⟩ := m4.two
        have hc := hv3.cell
        have hz : w2.heap.size + 7 ≤ w3.heap.size := by
          have h1 := HN.out (w2.heap.size + 6) (.inr (.inr rfl))
          have h2 := hb.size
          omega
        have HR := Lib.hid (And.intro hkf (And.intro hks (And.intro m1 (And.intro m2 (And.intro m3 mB)))))
        clear hd hkf hks m1 m2 m3 m4 hb
        gi_wp2_with (gi_at_builtin; refine wpListIn_append_own _ rfl _ _ 31 rfl (w2.heap.size + 7) 37 i0 (.agg #[.int .i8 0, .bool false]) 2 2 Try.underlying31 hi hz0 hz1 hz2 rfl (by decide) _ _ _ rfl (hrow3.alloc _) ⟨w3.heap.size, 0, none⟩ 1 1 [.int .i8 q.1, .bool q.2] rfl rfl (World.news_of_block (cs := #[.int .i8 q.1, .bool q.2]) (t := 37) (fr := (0, 0)) (heap_alloc_new w3 _)) (by simp [Value.oneCell']) (by unfold maxLen; omega) (by omega) (by simp; omega) ?_; intro v' w1 hown' hgrow _; obtain ⟨g', cap', rfl⟩ := ownsRow_succ hown'; obtain ⟨hv1, hv2, hr2, hk2, hb2, hf2⟩ := appended_far (n₀ := w.heap.size) hv3 (by decide) hrow3 mB.size (by have := HZ.out; omega) (by have := HZ.out; omega) hown' hgrow; have hc1 := hv1.cell; have hf1 := hv1.frozen)
        obtain ⟨r1, r2, r3, r4, r5, r6⟩ := HR.out
        have z1 := HZ.out
        refine ⟨r1.trans (hk2.from _), r2.t ⟨hb2, fun B cs t hS hB => hf2 B cs t hB (by omega) (by omega)⟩, ⟨hf2 _ _ _ r3 (by omega) (by omega), hf2 _ _ _ r4 (by omega) (by omega), hf2 _ _ _ r5 (by omega) (by omega)⟩, ⟨_, hv2, ?_⟩, r6.trans hb2⟩
        rw [nearL_t h, List.length_append, cvals_snoc]
        exact hr2
  case done =>
    have HZ := Lib.hid (And.intro hsz hz3)
    clear hsz hz3
    rintro W ⟨⟨b1, b2, b3⟩, ⟨v, hv, hrow, -⟩, hB1⟩ hK
    obtain ⟨a, c', rfl, hx2⟩ := OwnX.ofOwns hrow
    clear hrow
    have hc := hv.cell
    have hf := hv.frozen
    clear hv
    obtain ⟨f0, f1, f2⟩ := b3.two
    have hlen : (nearL ws x wr (upC k true ws.length)).length ≤ 161 := by
      have h1 := nearL_len ws x wr (upC k true ws.length)
      have h3 := upC_len k true ws.length
      omega
    obtain ⟨L, hL⟩ : ∃ L, nearL ws x wr (upC k true ws.length) = L := ⟨_, rfl⟩
    rw [hL] at hx2 hc hlen
    by_cases h0 : L.length = 0
    · have HF := Lib.hid (show dnV ws x wr (upC k true ws.length) = (0, false) ∧ dnC ws x wr (upC k true ws.length) = 6 from by unfold dnV dnC; rw [hL, if_pos h0, if_neg (by omega)]; exact ⟨rfl, rfl⟩)
      rw [h0] at hc
      clear hlen h0 hx2
      have hK5 : ((W.setCell ⟨w.heap.size + 1 + 1 + 1, 0, none⟩ (.int .i8 0)).setCell ⟨w.heap.size + 1 + 1 + 1, 1, none⟩ (.bool false)).heap[W0.heap.size]? = some (.deferred (some [])) := ((KeepsOthers.setCell W _ _).trans (KeepsOthers.setCell _ _ _)).same _ _ hK rfl
      have kB := Lib.hid (setAt (setAt hB1 (show w.heap.size ≤ w.heap.size + 1 + 1 + 1 by omega) 0 (.int .i8 0)) (show w.heap.size ≤ w.heap.size + 1 + 1 + 1 by omega) 1 (.bool false))
      have q3 := Lib.hid ((World.putObj_heap_other (o := .deferred none) (show w.heap.size + 1 + 1 + 1 ≠ W0.heap.size by have := HZ.out; omega)).trans ((b3.set 0 (.int .i8 0)).set 1 (.bool false)))
      have HK5 := Lib.hid hK5
      clear b1 b2 b3 hB1 hK5 hK hL
      gi_wp2
      refine ⟨by simp, .inl ⟨_, _, rfl, run_takeDeferred (b := W0.heap.size) (ds := []) HK5.out, ?_⟩⟩
      have r3 : Blk _ _ _ _ := q3.out
      obtain ⟨t0, t1, -⟩ := r3.two
      exact ⟨.tuple #[.agg #[.int .i8 0, .bool false], .int .i64 6], by (try simp at t0 t1); simp [results, Try.results12, go_sem, t0, t1], by rw [HF.out.1, HF.out.2], kB.out.trans (belowK_b (w := w) (Nat.le_refl _) _ W0.heap.size _ _ (by have := HZ.out; omega) HK5.out rfl rfl)⟩
    by_cases h1 : L.length = 1
    · obtain ⟨y, rfl⟩ := List.length_eq_one_iff.1 h1
      have HF := Lib.hid (show dnV ws x wr (upC k true ws.length) = y ∧ dnC ws x wr (upC k true ws.length) = 0 from by unfold dnV dnC; rw [hL, if_pos h1, if_neg h0, if_pos h1]; exact ⟨rfl, rfl⟩)
      obtain ⟨g, rfl, hg1, hg2, hg3, hg4⟩ := hx2.resolve_left (by simp [cvals])
      have hg := hg3.cs
      have e0 := (hg 0 (by simp)).1
      have e1 := (hg 0 (by simp)).2
      simp at e0 e1
      have e2 := hg4 0
      rw [h1] at hc
      clear hlen h0 h1 hg hg3
      have hK5 : ((W.setCell ⟨w.heap.size + 1 + 1 + 1, 0, none⟩ (.int .i8 y.1)).setCell ⟨w.heap.size + 1 + 1 + 1, 1, none⟩ (.bool y.2)).heap[W0.heap.size]? = some (.deferred (some [])) := ((KeepsOthers.setCell W _ _).trans (KeepsOthers.setCell _ _ _)).same _ _ hK rfl
      have kB := Lib.hid (setAt (setAt hB1 (show w.heap.size ≤ w.heap.size + 1 + 1 + 1 by omega) 0 (.int .i8 y.1)) (show w.heap.size ≤ w.heap.size + 1 + 1 + 1 by omega) 1 (.bool y.2))
      have q3 := Lib.hid ((World.putObj_heap_other (o := .deferred none) (show w.heap.size + 1 + 1 + 1 ≠ W0.heap.size by have := HZ.out; omega)).trans ((b3.set 0 (.int .i8 y.1)).set 1 (.bool y.2)))
      have HK5 := Lib.hid hK5
      clear b1 b2 b3 hB1 hK5 hK hL
      gi_wp2
      refine ⟨by simp, .inl ⟨_, _, rfl, run_takeDeferred (b := W0.heap.size) (ds := []) HK5.out, ?_⟩⟩
      have r3 : Blk _ _ _ _ := q3.out
      obtain ⟨t0, t1, -⟩ := r3.two
      exact ⟨.tuple #[.agg #[.int .i8 y.1, .bool y.2], .int .i64 0], by (try simp at t0 t1); simp [results, Try.results12, go_sem, t0, t1], by rw [HF.out.1, HF.out.2], kB.out.trans (belowK_b (w := w) (Nat.le_refl _) _ W0.heap.size _ _ (by have := HZ.out; omega) HK5.out rfl rfl)⟩
    · have HF := Lib.hid (show dnV ws x wr (upC k true ws.length) = (0, false) ∧ dnC ws x wr (upC k true ws.length) = 8 from by unfold dnV dnC; rw [hL, if_neg h0, if_neg h1, if_neg h1]; exact ⟨rfl, rfl⟩)
      generalize L.length = m at *
      have hm0 : ¬ (m : Int) = 0 := by omega
      have hm1 : ¬ (m : Int) = 1 := by omega
      clear h0 h1 hx2
      have hK5 : ((W.setCell ⟨w.heap.size + 1 + 1 + 1, 0, none⟩ (.int .i8 0)).setCell ⟨w.heap.size + 1 + 1 + 1, 1, none⟩ (.bool false)).heap[W0.heap.size]? = some (.deferred (some [])) := ((KeepsOthers.setCell W _ _).trans (KeepsOthers.setCell _ _ _)).same _ _ hK rfl
      have kB := Lib.hid (setAt (setAt hB1 (show w.heap.size ≤ w.heap.size + 1 + 1 + 1 by omega) 0 (.int .i8 0)) (show w.heap.size ≤ w.heap.size + 1 + 1 + 1 by omega) 1 (.bool false))
      have q3 := Lib.hid ((World.putObj_heap_other (o := .deferred none) (show w.heap.size + 1 + 1 + 1 ≠ W0.heap.size by have := HZ.out; omega)).trans ((b3.set 0 (.int .i8 0)).set 1 (.bool false)))
      have HK5 := Lib.hid hK5
      clear b1 b2 b3 hB1 hK5 hK hL
      gi_wp2
      refine ⟨by simp, .inl ⟨_, _, rfl, run_takeDeferred (b := W0.heap.size) (ds := []) HK5.out, ?_⟩⟩
      have r3 : Blk _ _ _ _ := q3.out
      obtain ⟨t0, t1, -⟩ := r3.two
      exact ⟨.tuple #[.agg #[.int .i8 0, .bool false], .int .i64 8], by (try simp at t0 t1); simp [results, Try.results12, go_sem, t0, t1], by rw [HF.out.1, HF.out.2], kB.out.trans (belowK_b (w := w) (Nat.le_refl _) _ W0.heap.size _ _ (by have := HZ.out; omega) HK5.out rfl rfl)⟩
  case stop =>
    exact fun _ _ _ h _ => h.elim
end Go.Proofs.Ytieghjpecoiodaa
