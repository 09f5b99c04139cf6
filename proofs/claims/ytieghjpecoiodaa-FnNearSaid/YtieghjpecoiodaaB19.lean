/-
  The program's LeastDistance.
-/
import Derived.Test.YtieghjpecoiodaaB18
import Derived.Test.YtieghjpecoiodaaB7
import Derived.Sort.CutIn
import Derived.LoopIn
namespace Go.Proofs.Ytieghjpecoiodaa
open Go.RowKit Go.Shelf
set_option maxRecDepth 100000
set_option linter.unusedVariables false

attribute [local go_sem] Oper.semAt_some

/-- Of what was there only block h has changed. -/
structure OthB (h : Nat) (w w' : World) : Prop where
  below : Below h w w'
  blk : ∀ k, k < w.heap.size → k ≠ h → w'.heap[k]? = w.heap[k]?
theorem OthB.refl (h : Nat) (w : World) : OthB h w w := ⟨Below.refl _ _, fun _ _ _ => rfl⟩
theorem OthB.size {h : Nat} {w w' : World} (o : OthB h w w') : w.heap.size ≤ w'.heap.size := o.below.size
theorem OthB.setCell {h : Nat} {w w' : World} (o : OthB h w w') (i : Nat) (v : Value) : OthB h w (w'.setCell ⟨h, i, none⟩ v) :=
  ⟨o.below.setCell (show h ≤ (⟨h, i, none⟩ : Addr).block from Nat.le_refl _) v, fun k hk hne => (heap_setCell_other w' ⟨h, i, none⟩ k v hne).trans (o.blk k hk hne)⟩
theorem OthB.next {h : Nat} {w a b : World} (o : OthB h w a) (hh : h ≤ w.heap.size) (hb : Below a.heap.size a b) : OthB h w b :=
  ⟨o.below.trans (hb.mono (Nat.le_trans hh o.size)), fun k hk hne => (hb.block k (Nat.lt_of_lt_of_le hk o.size)).trans (o.blk k hk hne)⟩
theorem OthB.blkAt {h : Nat} {w w' : World} (o : OthB h w w') {b : Nat} {cs : Array Value} {t : TypeId} (hb : Blk w b cs t) (hne : b ≠ h) : Blk w' b cs t := (o.blk b hb.lt hne).trans hb
theorem OthB.keeps {h : Nat} {w w' : World} (o : OthB h w w') {cs : Array Value} {t : TypeId} (hb : Blk w h cs t) : KeepsOthers w w' := ⟨o.size, fun k q hk hc => by
  have hne : k ≠ h := fun e => by subst e; rw [show w.heap[k]? = _ from hb] at hk; cases hk; cases hc
  exact (o.blk k (Array.getElem?_eq_some_iff.1 hk).1 hne).trans hk⟩
theorem OthB.cell {h : Nat} {w w' : World} (o : OthB h w w') {b i : Nat} (hb : b < w.heap.size) (hne : b ≠ h) : w'.cell? ⟨b, i, none⟩ = w.cell? ⟨b, i, none⟩ := by
  have := o.blk b hb hne
  simp [World.cell?, this]
/-- The cells of seen words, one behind the other. -/
def wcl (ws : List Wf) (pre : List Cs) : List Value := pre.flatMap (fun q => [.int .i8 (seenV ws q 0), .int .i8 (seenV ws q 1), .int .i8 (seenV ws q 2), .int .i8 (seenV ws q 3)])
theorem wcl_snoc (ws : List Wf) (pre : List Cs) (q : Cs) : wcl ws (pre ++ [q]) = wcl ws pre ++ [.int .i8 (seenV ws q 0), .int .i8 (seenV ws q 1), .int .i8 (seenV ws q 2), .int .i8 (seenV ws q 3)] := by simp [wcl]
theorem wcl_get (ws : List Wf) (pre : List Cs) (j : Nat) (hj : j < pre.length) : ∀ i, i < 4 → (wcl ws pre)[j * 4 + i]? = some (.int .i8 (seenV ws (pre.getD j (0, false)) i)) := by
  induction pre generalizing j with
  | nil => exact absurd hj (by simp)
  | cons m ms ih =>
    intro i hi
    rw [show wcl ws (m :: ms) = .int .i8 (seenV ws m 0) :: .int .i8 (seenV ws m 1) :: .int .i8 (seenV ws m 2) :: .int .i8 (seenV ws m 3) :: wcl ws ms from rfl]
    cases j with
    | zero => match i, hi with
      | 0, _ => rfl
      | 1, _ => rfl
      | 2, _ => rfl
      | 3, _ => rfl
    | succ j =>
      have h := ih j (by simpa using hj) i hi
      rw [show (j + 1) * 4 + i = j * 4 + i + 4 by omega]
      simpa using h
theorem wcl_ne {ws : List Wf} {pre : List Cs} (h : 0 < pre.length) : wcl ws pre ≠ [] := by
  cases pre with
  | nil => simp at h
  | cons m ms => simp [wcl]
theorem row_words {nb : Nat} {W : World} {v : Value} {ws : List Wf} {pre : List Cs} (ho : W.ownsRow nb 40 4 v pre.length (wcl ws pre)) :
    ∃ a c, v = .slice a pre.length c ∧ ∀ i, i < pre.length → ∃ g, a = some ⟨g, 0, none⟩ ∧ nb ≤ g ∧ g < W.heap.size ∧ ∀ j, j < 4 → W.cell? ⟨g, i * 4 + j, none⟩ = some (.int .i8 (seenV ws (pre.getD i (0, false)) j)) := by
  obtain ⟨a, c, e, hx⟩ := OwnX.ofOwns ho
  refine ⟨a, c, e, fun i hi => ?_⟩
  rcases hx with h | ⟨g, rfl, h1, h2, h3, h4⟩
  · exact absurd h (wcl_ne (by omega))
  · refine ⟨g, rfl, h1, h2, fun j hj => ?_⟩
    have := h3 _ _ (wcl_get ws pre i hi j hj)
    simpa using this
theorem pre_take {L pre : List Cs} {q : Cs} (h : pre ++ [q] <+: L) : pre = L.take pre.length ∧ q = L.getD pre.length (0, false) := by
  obtain ⟨r, rfl⟩ := h
  refine ⟨by simp, by simp [List.getD_eq_getElem?_getD]⟩
theorem World.size_alloc4 (w : World) (a b c d : Obj) : ((((w.alloc a).alloc b).alloc c).alloc d).heap.size = w.heap.size + 4 := by simp
set_option maxHeartbeats 4000000 in
theorem leastDistance_no (l k : Int) (a : Option Addr) (c : Nat) (ws : List Wf) (w : World) (hs : Slw w.heap.size w a ws) (hl : B8 l) (hk : B8 k) (hn : ws.length ≤ 1048576) (hw : Wall ws) (hok : okX l k ws = false) :
    Calls Try.prog 8 #[fixV l k a ws.length c] w fun e w' => e = .returned (.tuple #[.int .i64 0, .int .i64 1]) ∧ Below w.heap.size w w' := by
  have F0 := (FR.start w).box #[.int .i8 l, .int .i8 k, .slice a ws.length c] 27
  have HO := Lib.hid (openFixed_f l k a c ws _ (slw_up hs F0.below) hl hk hn hw hok)
  clear hok hw hs hn hl hk
  generalize ws.length = n at *
  obtain ⟨c0, c1, c2, c3⟩ := (F0.blk _ List.mem_cons_self).three
  go_enter Try.func8, Try.ntmps8
  go_wp2_with fail
  refine HO.out.mono ?_
  rintro e w2 ⟨rfl, hb⟩
  have HB := Lib.hid ((F0.next hb).box nopC 58).below
  clear hb c0 c1 c2 c3 HO F0
  go_wp2
  go_ret2
  exact ⟨rfl, HB.out⟩
set_option maxHeartbeats 8000000 in
theorem leastDistance_in (b off c : Nat) (l k : Int) (ws : List Wf) (w : World) (hb1 : b < w.heap.size) (hc1 : WAt w b off ws) (hl : B8 l) (hk : B8 k) (hw : Wall ws) (hok : okX l k ws = true) :
    CallsIn Fence.wide 9 Try.prog 8 #[fixV l k (some ⟨b, off, none⟩) ws.length c] w fun e w' => e = .returned (.tuple #[.int .i64 (lsD l k ws), .int .i64 (lsC l k ws)]) ∧ Below w.heap.size w w' := by
  rw [(ls_t hok).1, (ls_t hok).2, ← ldJ_start (okX_t hok)]
  have F0 := (FR.start w).box #[.int .i8 l, .int .i8 k, .slice (some ⟨b, off, none⟩) ws.length c] 27
  have hx := okX_t hok
  have h80 := hx.2.2.1.2
  have HO := Lib.hid (openFixed_t l k (some ⟨b, off, none⟩) c ws _ (slw_up (.inr ⟨b, off, rfl, hb1, hc1⟩) F0.below) hl hk (by omega) hw hok)
  obtain ⟨c0, c1, c2, -⟩ := (F0.blk _ List.mem_cons_self).three
  have HW := Lib.hid (And.intro hw hc1)
  have hkk := hx.2.1
  clear hx hw hc1 hl hk hok
  refine callsIn_of_wp_marks Try.func8 rfl trivial ?_ rfl
  simp only [Try.ntmps8, List.size_toArray, List.length_cons, List.length_nil, Nat.reduceAdd, Nat.reduceSub, Array.replicate_succ, Array.replicate_zero, List.push_toArray, List.append_toArray, List.nil_append, List.cons_append]
  gi_wp2_with (first
    | (refine ⟨trivial, ?_⟩; gi_at_call 23; refine (callsIn_wide.2 HO.out).mono ?_; rintro e w2 ⟨rfl, hb2⟩; have F2 := (F0.next hb2).box (opC (some ⟨b, off, none⟩) ws.length c l k) 58; obtain ⟨d0, d1, d2, d3, d4, d5, d6⟩ := (F2.blk _ List.mem_cons_self).six; clear hb2 F0 c0 c1 c2 HO)
    | (refine ⟨trivial, ?_⟩; gi_at_call 24; refine (seenWords_in Fence.wide 8 trivial rfl _ _ _ _ _ _).mono ?_; rintro e w4 ⟨rfl, rfl⟩))
  -- TAIL
  have F3 := ((F2.box #[.int .i64 l] 2).box #[.slice none 0 0] 25).box (opC (some ⟨b, off, none⟩) ws.length c l k) 58
  simp only [World.size_alloc] at F3
  have bP := F3.blk _ List.mem_cons_self
  have bN := F3.blk _ (List.mem_cons_of_mem _ List.mem_cons_self)
  have bA := F3.blk _ (List.mem_cons_of_mem _ (List.mem_cons_of_mem _ List.mem_cons_self))
  have hB0 := F3.below
  have hz3 : w.heap.size < w2.heap.size := (F2.top _ _ rfl).2 _ List.mem_cons_self
  dsimp only at bP bN bA
  clear d0 d1 d2 d3 d4 d5 d6 F2 F3
  obtain ⟨W0, hW0, hsz⟩ : ∃ W0 : World, _ = W0 ∧ W0.heap.size = _ + 4 := ⟨_, rfl, World.size_alloc4 w2 _ _ _ _⟩
  rw [hW0] at bP bN bA hB0 ⊢
  clear hW0
  generalize w2.heap.size = B2 at *
  obtain ⟨i0, hi, hz0, hz1, hz2⟩ := info_parts Try.info_wd
  refine loop_gives rfl (by decide) (gf := 50) (lb := #[.pointer (some ⟨B2 + 1 + 1 + 1, 0, none⟩)]) rfl trivial (enters_of Try.func50 (by kernel_rfl) rfl)
    (encs := fun q : Cs => #[caseV q.1 q.2, wordV (seenV ws q)]) (n₀ := w.heap.size) (S := fun q => q = B2 + 1 + 1 + 1 ∨ q = B2 + 6 ∨ q = B2 + 7) (L := upC k true ws.length) (by omega)
    (fun W1 h1 h2 => seen1_gives (B2 + 1 + 1 + 1) w.heap.size _ b off c ws l k W1 (bP.below h2 bP.lt) hb1 (by omega) (HW.out.2.below (hB0.trans (h2.mono hB0.size)) hb1) HW.out.1 (by omega) hkk ⟨.inl rfl, .inr (.inl (by omega)), .inr (.inr (by omega))⟩ (fun q hq => by omega)) (fun _ => rfl)
    (fun pre W => Blk W (B2 + 1) #[.int .i64 (ldJ ws (upC k true ws.length) l pre.length)] 2 ∧ (∃ v, Boxed W (B2 + 1 + 1) 25 v ∧ W.ownsRow (B2 + 8) 40 4 v pre.length (wcl ws pre) ∧ True) ∧ Below w.heap.size w W)
    (fun pre W => False)
    (OwnFrom.and (Own.from (blk_own _ _ (fun pre : List Cs => #[.int .i64 (ldJ ws (upC k true ws.length) l pre.length)])) _) (OwnFrom.and (Own.from (holdsRow_own (B2 + 8) (B2 + 1 + 1) 25 40 4 (fun pre : List Cs => pre.length) (fun pre => wcl ws pre) (fun _ _ => True)) _) (ownFrom_below (Nat.le_refl _) (by omega))))
    (fun _ _ _ _ hs _ _ => hs)
    ⟨bA, ⟨_, bN, World.ownsRow_nil _ _ _ _, trivial⟩, hB0⟩
    (fun q a' W => ∃ By, B2 + 8 ≤ By ∧ Blk W By (wordC (seenV ws q)) 40 ∧ a' = { tmps := #[fixV l k (some ⟨b, off, none⟩) ws.length c, .pointer (some ⟨w.heap.size, 0, none⟩), .int .i64 0, .int .i64 0, .pointer (some ⟨B2, 0, none⟩), .int .i64 0, .pointer (some ⟨B2 + 1, 0, none⟩), .pointer (some ⟨B2 + 1 + 1, 0, none⟩), undef, .pointer (some ⟨By, 0, none⟩), undef, undef,
      .tuple #[opV (some ⟨b, off, none⟩) ws.length c l k, .int .i64 0], fixV l k (some ⟨b, off, none⟩) ws.length c, .tuple #[opV (some ⟨b, off, none⟩) ws.length c l k, .int .i64 0], opV (some ⟨b, off, none⟩) ws.length c l k, .int .i64 0, .int .i64 0, .bool false, undef, .pointer (some ⟨B2, 1, none⟩), .int .i64 l, opV (some ⟨b, off, none⟩) ws.length c l k, .func (.func 50) #[] #[.pointer (some ⟨B2 + 1 + 1 + 1, 0, none⟩)], caseV q.1 q.2, wordV (seenV ws q), undef, undef, undef, undef, undef, undef, undef, undef, undef, undef, undef, undef, undef, undef, undef, undef, undef], defers := [] })
    (fun q a' _ X Y row hs hg hr => by obtain ⟨By, h0, h3, h4⟩ := hs; exact ⟨By, h0, blk_own _ _ (fun (_ : Unit) => _) () X Y row h3 hg (fun r e => (hr r e).2), h4⟩)
    ?assign ?body ?done ?stop
  case assign =>
    rintro l2 pre q W K ⟨b1, ⟨v, hv, hrow, -⟩, hB1⟩ hbn hK
    have hW8 : B2 + 8 ≤ W.heap.size := by have := hbn (B2 + 7) (.inr (.inr rfl)); omega
    gi_wp2
    exact hK _ _ ((KeepsOthers.alloc _ _).from _) (KpS.alloc hB1.size _) ⟨b1.alloc _, ⟨v, hv.alloc _, hrow.alloc _, trivial⟩, hB1.alloc hB1.size _⟩ ⟨W.heap.size, hW8, blk_new W _ _, rfl⟩
  case body =>
    have HZ := Lib.hid (And.intro hsz hz3)
    clear hsz hz3
    rintro l2 pre q a' W ⟨b1, ⟨v, hv, hrow, -⟩, hB1⟩ ⟨By, hBy, bY, rfl⟩ hpre hbn
    have hW8 : B2 + 8 ≤ W.heap.size := by have := hbn (B2 + 7) (.inr (.inr rfl)); omega
    obtain ⟨a, cp, rfl, hrw⟩ := row_words hrow
    have hlen : pre.length + 1 ≤ 161 := by
      have h2 := hpre.length_le
      have h3 := upC_len k true ws.length
      rw [List.length_append] at h2
      simp at h2
      omega
    obtain ⟨hp1, hp2⟩ := pre_take hpre
    have HJ := Lib.hid (show ldJ ws (upC k true ws.length) l (pre.length + 1) = minI ws (seenV ws q) (ldJ ws (upC k true ws.length) l pre.length) pre from by
      rw [hp2]; show minI ws _ _ ((upC k true ws.length).take pre.length) = _; rw [← hp1])
    have HK := Lib.hid (And.intro b1 (And.intro bY (And.intro hrow (And.intro hB1 hv))))
    have HR := Lib.hid hrw
    have hc := hv.cell
    clear b1 bY hrow hB1 hv hpre hbn hp1 hp2 hrw
    have HI0 := Lib.hid (show Blk W (B2 + 1) #[.int .i64 (minI ws (seenV ws q) (ldJ ws (upC k true ws.length) l pre.length) (pre.take 0))] 2 from HK.out.1)
    generalize hldj : ldJ ws (upC k true ws.length) l pre.length = ac at *
    gi_wp2
    gi_loopw [11, 28] (fun _ iv wr => ∃ i : Nat, iv = .int .i64 (i : Int) ∧ i ≤ pre.length ∧ Blk wr (B2 + 1) #[.int .i64 (minI ws (seenV ws q) ac (pre.take i))] 2 ∧ OthB (B2 + 1) W wr) (fun _ iv _ => pre.length - (intOf iv).toNat)
    case atStart => exact ⟨0, rfl, Nat.zero_le _, HI0.out, OthB.refl _ _⟩
    case round =>
      clear HI0
      obtain ⟨i, rfl, hi', hA, hO⟩ := hrel
      by_cases hlt : i < pre.length
      case neg =>
        obtain rfl : i = pre.length := by omega
        rw [List.take_length] at hA
        have hv : Boxed wr (B2 + 1 + 1) 25 (.slice a pre.length cp) := (hO.blk _ HK.out.2.2.2.2.lt (by omega)).trans HK.out.2.2.2.2
        have hrow : wr.ownsRow (B2 + 8) 40 4 (.slice a pre.length cp) pre.length (wcl ws pre) := HK.out.2.2.1.kept (row := some (B2 + 1)) ⟨hO.below.os, hO.below.tape, hO.below.output, hO.size, fun k hk hne => hO.blk k hk (fun e => hne (by rw [e]))⟩ (by
          cases h : (Value.slice a pre.length cp).ownBlock with
          | none => exact .inl rfl
          | some x => exact .inr (fun e => by have h1 := (HK.out.2.2.1.lt _ h).1; have h2 := Option.some.inj e; omega))
        have bY := hO.blkAt HK.out.2.1 (show By ≠ B2 + 1 by omega)
        have hsz := hO.size
        have hB2 := HK.out.2.2.2.1.trans (hO.below.mono (show w.heap.size ≤ B2 + 1 by have := HZ.out; omega))
        have HQ := Lib.hid (And.intro (hO.keeps HK.out.1) (And.intro (show KpS w.heap.size (fun q => q = B2 + 1 + 1 + 1 ∨ q = B2 + 6 ∨ q = B2 + 7) W wr from ⟨hO.below.mono (by have := HZ.out; omega), fun B cs t hS hB => hO.blkAt hB (by omega)⟩) (And.intro hA hB2)))
        obtain ⟨y0, y1, y2, y3, y4⟩ := bY.four
        have hc := hv.cell
        have hyl := bY.lt
        have hvl := hv.lt
        have hbz := hB2.size
        clear hA hO hB2
        gi_wp2_with (gi_at_builtin; refine wpListIn_append_own _ rfl _ _ 25 rfl (B2 + 8) 40 i0 (.agg #[.int .i8 0, .int .i8 0, .int .i8 0, .int .i8 0]) 4 4 Try.underlying25 hi hz0 hz1 hz2 rfl (by decide) _ _ _ rfl (hrow.alloc _) ⟨wr.heap.size, 0, none⟩ 1 1 [.int .i8 (seenV ws q 0), .int .i8 (seenV ws q 1), .int .i8 (seenV ws q 2), .int .i8 (seenV ws q 3)] rfl rfl (World.news_of_block (cs := wordC (seenV ws q)) (t := 40) (fr := (0, 0)) (heap_alloc_new wr _)) (by simp [Value.oneCell']) (by unfold maxLen; omega) (by omega) (by simp; omega) ?_; intro v' w1 hown' hgrow _; obtain ⟨g', cap', rfl⟩ := ownsRow_succ hown'; obtain ⟨hv1, hv2, hr2, hk2, hb2, hf2⟩ := appended_far (n₀ := w.heap.size) hv (by decide) hrow hbz (by have := HZ.out; omega) (by have := HZ.out; omega) hown' hgrow; have hc1 := hv1.cell; have hf1 := hv1.frozen)
        refine ⟨(HQ.out.1.trans hk2).from _, HQ.out.2.1.t ⟨hb2, fun B cs t hS hB => hf2 B cs t hB (by omega) (by omega)⟩, ?_, ⟨_, hv2, ?_⟩, HQ.out.2.2.2.trans hb2⟩
        · rw [HJ.out]
          exact hf2 _ _ _ HQ.out.2.2.1 (by omega) (by omega)
        · rw [wcl_snoc]
          exact hr2
      obtain ⟨g, rfl, hg1, hg2, hgc⟩ := HR.out i hlt
      have hltz : (i : Int) < (pre.length : Int) := by omega
      have p0 := (hO.cell (i := i * 4) hg2 (by omega)).trans (hgc 0 (by omega))
      have p1 := (hO.cell (i := i * 4 + 1) hg2 (by omega)).trans (hgc 1 (by omega))
      have p2 := (hO.cell (i := i * 4 + 2) hg2 (by omega)).trans (hgc 2 (by omega))
      have p3 := (hO.cell (i := i * 4 + 3) hg2 (by omega)).trans (hgc 3 (by omega))
      have HN := Lib.hid (show minI ws (seenV ws q) ac (pre.take (i + 1)) = min (minI ws (seenV ws q) ac (pre.take i)) (dist (seenV ws q) (seenV ws (pre.getD i (0, false))) 4) from by rw [take_cs pre i hlt, minI_snoc])
      generalize minI ws (seenV ws q) ac (pre.take i) = av at *
      generalize seenV ws (pre.getD i (0, false)) = z at *
      clear hgc
      have kA := hA.alloc (.cells (wordC z) 40)
      have kY := (hO.blkAt HK.out.2.1 (by omega)).alloc (.cells (wordC z) 40)
      have kN := blk_new wr (wordC z) 40
      have kO := hO.next (by omega) ((Below.refl wr.heap.size wr).alloc (Nat.le_refl _) (.cells (wordC z) 40))
      have HD := Lib.hid (fun W => distance_any (seenV ws q) z W)
      have hgl := hO.size
      gi_upto_region 11 with fail
      generalize hW9 : wr.alloc (.cells (wordC z) 40) = W9 at *
      clear hW9
      generalize wr.heap.size = nb9 at *
      clear p0 p1 p2 p3 hA hO
      have hmx : Try.prog.follows .mixedOrders = true := by kernel_rfl
      have k0 := kA.cell 0
      have k1 := kA.free 0
      obtain ⟨y0, y1, y2, y3, y4⟩ := kY.four
      obtain ⟨n0, n1, n2, n3, n4⟩ := kN.four
      have hne1 : By ≠ B2 + 1 := by omega
      have HKA := Lib.hid (And.intro kA kO)
      clear kA kO kY kN
      by_cases hdd : dist (seenV ws q) z 4 < av
      · have HN2 := Lib.hid (show minI ws (seenV ws q) ac (pre.take (i + 1)) = dist (seenV ws q) z 4 from by rw [HN.out]; omega)
        generalize dist (seenV ws q) z 4 = d at *
        gi_region_with_o (refine ⟨trivial, ?_⟩; gi_at_call 25; refine (CallsIn.inRound l2 (callsIn_wide.2 (HD.out _))).mono ?_; rintro e w5 ⟨rfl, hb5⟩; have gA := Blk.below (w := W9.drew) HKA.out.1 hb5 HKA.out.1.lt; have k2 := gA.cell 0; have k3 := gA.free 0; have HG := Lib.hid hb5; clear hb5 gA)
        all_goals
          have hb : Below W9.heap.size W9 w5 := ⟨HG.out.os, HG.out.tape, HG.out.output, HG.out.size, HG.out.block⟩
          have HA5 := Lib.hid ((HKA.out.1.below hb HKA.out.1.lt).set 0 (.int .i64 d))
          have HO5 := Lib.hid ((HKA.out.2.next (by omega) hb).setCell 0 (.int .i64 d))
          clear hb k0 k1 k2 k3 y0 y1 y2 y3 y4 n0 n1 n2 n3 n4 HD HG HKA
          gi_wp2
          go_roundw
          case rel => exact ⟨i + 1, by go_num, by omega, by rw [HN2.out]; exact HA5.out, HO5.out⟩
          case measure => simp [intOf]; omega
      · have HN2 := Lib.hid (show minI ws (seenV ws q) ac (pre.take (i + 1)) = av from by rw [HN.out]; omega)
        generalize dist (seenV ws q) z 4 = d at *
        gi_region_with_o (refine ⟨trivial, ?_⟩; gi_at_call 25; refine (CallsIn.inRound l2 (callsIn_wide.2 (HD.out _))).mono ?_; rintro e w5 ⟨rfl, hb5⟩; have gA := Blk.below (w := W9.drew) HKA.out.1 hb5 HKA.out.1.lt; have k2 := gA.cell 0; have k3 := gA.free 0; have HG := Lib.hid hb5; clear hb5 gA)
        all_goals
          have hb : Below W9.heap.size W9 w5 := ⟨HG.out.os, HG.out.tape, HG.out.output, HG.out.size, HG.out.block⟩
          have HA5 := Lib.hid ((HKA.out.1.below hb HKA.out.1.lt).set 0 (.int .i64 av))
          have HO5 := Lib.hid ((HKA.out.2.next (by omega) hb).setCell 0 (.int .i64 av))
          clear hb k0 k1 k2 k3 y0 y1 y2 y3 y4 n0 n1 n2 n3 n4 HD HG HKA
          gi_wp2
          go_roundw
          case rel => exact ⟨i + 1, by go_num, by omega, by rw [HN2.out]; exact HA5.out, HO5.out⟩
          case measure => simp [intOf]; omega
  case done =>
    have HZ := Lib.hid (And.intro hsz hz3)
    clear hsz hz3
    rintro W ⟨b1, ⟨v, hv, hrow, -⟩, hB1⟩ hK
    have k0 := b1.cell 0
    have HR := Lib.hid (And.intro hB1 hK)
    have hml := b1.lt
    clear hB1 hK b1 hv hrow
    gi_wp2
    refine ⟨by simp, .inl ⟨_, _, rfl, run_takeDeferred (b := W0.heap.size) (ds := []) HR.out.2, ?_⟩⟩
    exact ⟨.tuple #[.int .i64 (ldJ ws (upC k true ws.length) l (upC k true ws.length).length), .int .i64 0], by simp [results, Try.results8, go_sem], rfl, HR.out.1.trans (belowK_b (w := w) (Nat.le_refl _) _ W0.heap.size _ _ (by have := HZ.out; omega) HR.out.2 rfl rfl)⟩
  case stop =>
    exact fun _ _ _ h _ => h.elim
theorem leastDistance_any (l k : Int) (a : Option Addr) (c : Nat) (ws : List Wf) (w : World) (hs : Slw w.heap.size w a ws) (hl : B8 l) (hk : B8 k) (hn : ws.length ≤ 1048576) (hw : Wall ws) :
    Calls Try.prog 8 #[fixV l k a ws.length c] w fun e w' => e = .returned (.tuple #[.int .i64 (lsD l k ws), .int .i64 (lsC l k ws)]) ∧ Below w.heap.size w w' := by
  cases hok : okX l k ws
  · rw [(ls_no hok).1, (ls_no hok).2]
    exact leastDistance_no l k a c ws w hs hl hk hn hw hok
  obtain ⟨b, off, rfl, hb1, hc1⟩ := own_of hs (Below.refl _ _) (okX_t hok).2.2.1.1
  exact callsIn_wide.1 (leastDistance_in b off c l k ws w hb1 hc1 hl hk hw hok)
end Go.Proofs.Ytieghjpecoiodaa
