/-
  The iterator of cases with their seen words.
-/
import Derived.Test.YtieghjpecoiodaaA3
import Derived.Test.YtieghjpecoiodaaA4
import Derived.Shelf.RegionOpen
namespace Go.Proofs.Ytieghjpecoiodaa
open Go.RowKit Go.Shelf
set_option maxRecDepth 100000
set_option linter.unusedVariables false

attribute [local go_sem] Oper.semAt_some

theorem own_call {β : Type} {B : Nat} {I : β → World → Prop} (h : OwnFrom B I) {s : β} {W W' : World} (hs : I s W) (hb : Below W.heap.size W W') : I s W' :=
  h s W W' none hs ⟨hb.os, hb.tape, hb.output, hb.size, fun k hk _ => hb.block k hk⟩ (fun r e => by cases e)
theorem own_far {β : Type} {B C : Nat} {I : β → World → Prop} (h : OwnFrom B I) (hB : B ≤ C) : OwnFrom C I := fun s X Y row hs hg hr => h s X Y row hs hg (fun r e => ⟨by have := (hr r e).1; omega, (hr r e).2⟩)
theorem room_any {F : Fence} (hd : F.depth = none) (k : Nat) : F.room k := fun d h => by rw [hd] at h; cases h
theorem round_any {F : Fence} (hd : F.depth = none) {m m' : Nat} {P : Program} {l : Nat} {f : FuncId} {tmps : Array Value} {assign body : Code} {w : World} {R : Ending → World → Prop}
    (h : RoundIn F m P l f tmps assign body w R) : RoundIn F m' P l f tmps assign body w R := ⟨h.1, fun c cs _ => h.2 c cs (room_any hd _)⟩
theorem kb_call {B l : Nat} {W W' : World} (hb : Below W.heap.size W W') : KeepsBut B l W W' := ⟨hb.size, fun k o _ _ hk _ => (hb.block k (Array.getElem?_eq_some_iff.1 hk).1).trans hk⟩
theorem KeepsBut.t {B l : Nat} {X Y Z : World} (h : KeepsBut B l X Y) (k : KeepsBut B l Y Z) : KeepsBut B l X Z := ⟨Nat.le_trans h.size k.size, fun i o h1 h2 h3 h4 => k.same i o h1 h2 (h.same i o h1 h2 h3 h4) h4⟩
theorem kps_call {n₀ : Nat} {S : Nat → Prop} {W W' : World} (hn : n₀ ≤ W.heap.size) (hb : Below W.heap.size W W') : KpS n₀ S W W' := ⟨hb.mono hn, fun B cs t _ hk => hk.below hb hk.lt⟩

theorem seenWords_in (F : Fence) (n : Nat) (h5 : F.fn 24) (hro : F.round = none) (a : Option Addr) (m c : Nat) (l k : Int) (w : World) :
    CallsIn F n Try.prog 24 #[opV a m c l k] w fun e w' => e = .returned (.func (.func 50) #[] #[.pointer (some ⟨w.heap.size, 0, none⟩)]) ∧ w' = w.alloc (.cells (opC a m c l k) 58) := by
  refine callsIn_of_wp Try.func24 rfl h5 ?_ hro
  simp only [Try.ntmps24, List.size_toArray, List.length_cons, List.length_nil, Nat.reduceAdd, Nat.reduceSub, Array.replicate_succ, Array.replicate_zero, List.push_toArray, List.append_toArray, List.nil_append, List.cons_append]
  gi_wp2
  go_ret
  exact ⟨rfl, rfl⟩
/-- A case among the cases of a list of words. -/
theorem case_of {k : Int} {m : Nat} {pre : List Cs} {x : Cs} (h : pre ++ [x] <+: upC k true m) : x = (-1, false) ∨ ∃ j : Nat, j < m ∧ (x = ((j : Int), true) ∨ x = ((j : Int), false)) := by
  have hx : x ∈ upC k true m := h.subset (by simp)
  unfold upC at hx
  rw [if_pos rfl] at hx
  rcases List.mem_append.1 hx with hx | hx
  · exact .inl (by simpa using hx)
  · obtain ⟨j, hj, hx⟩ := List.mem_flatMap.1 hx
    refine .inr ⟨j, List.mem_range.1 hj, ?_⟩
    unfold cOf at hx
    rcases List.mem_append.1 hx with hx | hx
    · split at hx
      · cases hx
      · exact .inl (by simpa using hx)
    · split at hx
      · cases hx
      · exact .inr (by simpa using hx)
theorem seen_any (b off c : Nat) (ws : List Wf) (k : Int) (pre : List Cs) (x : Cs) (w : World) (h : pre ++ [x] <+: upC k true ws.length) (hn : ws.length ≤ 80) (hb : b < w.heap.size) (hc : WAt w b off ws) (hw : Wall ws) :
    Calls Try.prog 52 #[.slice (some ⟨b, off, none⟩) ws.length c, caseV x.1 x.2] w fun e w' => e = .returned (wordV (seenV ws x)) ∧ Below w.heap.size w w' := by
  rcases case_of h with rfl | ⟨j, hj, rfl | rfl⟩
  · rw [seen_none ws false (by decide)]; exact seenNone_any _ _ _ _ _
  · rw [seen_heavy]; exact seenHeavy_any b off c j ws w hj hn hb hc
  · rw [seen_light]; exact seenLight_any b off c j ws w hj hn hb hc (hw j)

theorem blk_own {β : Type} (B : Nat) (t : TypeId) (f : β → Array Value) : Own (fun s W => Blk W B (f s) t) := fun s X Y row hs hg hrow =>
  (hg.block B hs.lt (fun e' => by obtain ⟨o, ho, hc⟩ := hrow B e'.symm; rw [show X.heap[B]? = _ from hs] at ho; cases ho; cases hc)).trans hs
theorem pure_own {β : Type} (B : Nat) (p : β → Prop) : OwnFrom B (fun s (_ : World) => p s) := fun _ _ _ _ hs _ _ => hs
/-- A region in whatever order, by what holds at each point. -/
theorem anyIn_inv {F : Fence} {n : Nat} {P : Program} {md : Region.Mode} {ops : Array Oper} {Q : Exit → Act → World → Prop} (Inv : Nat → Array Bool → Act → World → Prop)
    (h : ∀ f listed a w, Inv f listed a w → (Region.ready md ops listed = [] → Q .normal a w) ∧ ∀ i ∈ Region.ready md ops listed, ∃ f', f = f' + 1 ∧ wpOpIn F n P ops Q i (Inv f' (listed.setIfInBounds i true)) a w) :
    ∀ f listed a w, Inv f listed a w → wpAnyIn F n P md ops Q f listed a w := by
  intro f
  induction f with
  | zero =>
    intro listed a w hI
    have hr : Region.ready md ops listed = [] := by
      rcases hl : Region.ready md ops listed with _ | ⟨i, r⟩
      · rfl
      · obtain ⟨f', e, _⟩ := (h 0 listed a w hI).2 i (by rw [hl]; exact List.mem_cons_self)
        omega
    exact ⟨hr, (h 0 listed a w hI).1 hr⟩
  | succ f ih =>
    intro listed a w hI
    refine ⟨(h _ listed a w hI).1, fun i hi => ?_⟩
    obtain ⟨f', e, h2⟩ := (h _ listed a w hI).2 i hi
    obtain rfl : f' = f := by omega
    exact wpOpIn_mono (fun a' w' => ih _ a' w') h2
theorem ne_nil_of {α : Type} {l : List α} (h : l.isEmpty = false) : l ≠ [] := fun e => by rw [e] at h; cases h
def b2 (b : Bool) : Nat := if b = true then 0 else 1
/-- Where the region of a round stands: loads and the call of seen in whatever order; then the call of yield; then the turn of its answer. -/
def PA (p0 p1 p2 p3 p4 p5 p6 p7 yv cv av sv wv : Value) (C : World → Prop) (R : Bool → World → Prop) (f : Nat) (listed : Array Bool) (a : Act) (w : World) : Prop :=
  (∃ (l0 l1 l2 l3 l4 l5 : Bool) (s8 s9 s10 s11 s12 s13 : Value), listed = #[l0, l1, l2, l3, l4, l5, false, false] ∧ f = 2 + (b2 l0 + b2 l1 + b2 l2 + b2 l3 + b2 l4 + b2 l5) ∧ a = { tmps := #[p0, p1, p2, p3, p4, p5, p6, p7, s8, s9, s10, s11, s12, s13, undef, undef], defers := [] }
    ∧ (l0 = true → s8 = yv) ∧ (l1 = true → s9 = cv) ∧ (l2 = true → s10 = av) ∧ (l3 = true → s11 = sv) ∧ (l4 = true → s12 = cv) ∧ (l5 = true → s13 = wv) ∧ (l5 = true → l3 = true ∧ l4 = true) ∧ (l3 = true → l2 = true) ∧ C w)
  ∨ (∃ (s8 s9 s10 s11 s12 s13 : Value) (r : Bool), listed = #[true, true, true, true, true, true, true, false] ∧ f = 1 ∧ a = { tmps := #[p0, p1, p2, p3, p4, p5, p6, p7, s8, s9, s10, s11, s12, s13, .bool r, undef], defers := [] } ∧ R r w)
  ∨ (∃ (s8 s9 s10 s11 s12 s13 : Value) (r : Bool), listed = #[true, true, true, true, true, true, true, true] ∧ f = 0 ∧ a = { tmps := #[p0, p1, p2, p3, p4, p5, p6, p7, s8, s9, s10, s11, s12, s13, .bool r, .bool (!r)], defers := [] } ∧ R r w)

set_option maxHeartbeats 8000000 in
theorem seen1_gives (Bp n₀ : Nat) (S : Nat → Prop) (b off c : Nat) (ws : List Wf) (l0 k : Int) (W : World) (hp : Blk W Bp (opC (some ⟨b, off, none⟩) ws.length c l0 k) 58) (hb : b < n₀) (hn₀ : n₀ ≤ Bp) (hc : WAt W b off ws) (hw : Wall ws)
    (h80 : ws.length ≤ 80) (hk : 0 ≤ k ∧ k ≤ 2) (hS : S Bp ∧ S W.heap.size ∧ S (W.heap.size + 1)) (hSb : ∀ b, S b → b ≤ W.heap.size + 1) :
    Gives Fence.wide 8 Try.prog 50 #[.pointer (some ⟨Bp, 0, none⟩)] (fun x : Cs => #[caseV x.1 x.2, wordV (seenV ws x)]) n₀ S (upC k true ws.length) W := by
  intro l B J Jx hB hl hJ hJx hY h0
  show CallsIn Fence.wide 8 Try.prog 50 #[.func (.yield l) #[] #[], .pointer (some ⟨Bp, 0, none⟩)] W _
  obtain ⟨e0, e1, e2, e3, e4, e5, e6⟩ := hp.six
  have hp0 : Bp < W.heap.size := hp.lt
  have HN := Lib.hid (And.intro hk h80)
  have HY := Lib.hid hY
  have HW := Lib.hid (And.intro hw hSb)
  have HC := Lib.hid hc
  have Hp := Lib.hid hp
  have H0 := Lib.hid h0
  clear hY hw hSb hc hp h0
  refine callsIn_of_wp_marks Try.func50 rfl trivial ?_ rfl
  simp only [Try.ntmps50, List.size_toArray, List.length_cons, List.length_nil, Nat.reduceAdd, Nat.reduceSub, Array.replicate_succ, Array.replicate_zero, List.push_toArray, List.append_toArray, List.nil_append, List.cons_append]
  gi_wp2_with (refine ⟨trivial, ?_⟩; gi_at_call 51; refine (cases80_in Fence.wide 7 trivial rfl _ _ _ _ _).mono ?_; rintro e w3 ⟨rfl, rfl⟩)
  have bP := (Hp.out.alloc (.cells #[.func (.yield l) #[] #[]] 88)).alloc (.cells #[.int .i8 (ws.length : Int), .int .i8 k, .bool true, .bool false] 30)
  have bY := (blk_new W #[.func (.yield l) #[] #[]] 88).alloc (.cells #[.int .i8 (ws.length : Int), .int .i8 k, .bool true, .bool false] 30)
  have bT := blk_new (W.alloc (.cells #[.func (.yield l) #[] #[]] 88)) #[.int .i8 (ws.length : Int), .int .i8 k, .bool true, .bool false] 30
  have hB0 := ((Below.refl n₀ W).alloc (by omega) (.cells #[.func (.yield l) #[] #[]] 88)).alloc (show n₀ ≤ _ by simp; omega) (.cells #[.int .i8 (ws.length : Int), .int .i8 k, .bool true, .bool false] 30)
  have hJ0 := hJ.alloc (.cells #[.int .i8 (ws.length : Int), .int .i8 k, .bool true, .bool false] 30) (hJ.alloc (.cells #[.func (.yield l) #[] #[]] 88) H0.out)
  have hsz : ((W.alloc (.cells #[.func (.yield l) #[] #[]] 88)).alloc (.cells #[.int .i8 (ws.length : Int), .int .i8 k, .bool true, .bool false] 30)).heap.size = W.heap.size + 2 := by simp
  simp only [World.size_alloc] at bT
  obtain ⟨W0, hW0⟩ : ∃ W0, ((W.alloc (.cells #[.func (.yield l) #[] #[]] 88)).alloc (.cells #[.int .i8 (ws.length : Int), .int .i8 k, .bool true, .bool false] 30)) = W0 := ⟨_, rfl⟩
  rw [hW0] at bP bY bT hB0 hJ0 hsz ⊢
  clear hW0 e0 e1 e2 e3 e4 e5 e6
  have hc0 := HC.out.below hB0 hb
  refine loop_gives rfl (by decide) (gf := 64) (lb := #[.pointer (some ⟨W.heap.size + 1, 0, none⟩)]) rfl trivial (enters_of Try.func64 (by kernel_rfl) rfl)
    (encs := fun x : Cs => #[caseV x.1 x.2]) (n₀ := n₀) (S := S) (L := upC k true ws.length) (by omega) (fun W1 h1 h2 => cases80 Fence.wide 7 trivial rfl (by decide) (W.heap.size + 1) n₀ S hS.2.2 HW.out.2 ws.length k false h80 hk W1 (bT.below h2 bT.lt)) (fun _ => rfl)
    (fun pre W1 => (Blk W1 Bp (opC (some ⟨b, off, none⟩) ws.length c l0 k) 58 ∧ Blk W1 W.heap.size #[.func (.yield l) #[] #[]] 88) ∧ Below n₀ W0 W1 ∧ J pre W1)
    (fun pre W1 => Jx pre W1)
    (OwnFrom.and (OwnFrom.and (Own.from (blk_own _ _ (fun _ => _)) _) (Own.from (blk_own _ _ (fun _ => _)) _)) (OwnFrom.and (ownFrom_below (by omega) (by omega)) (own_far hJ (by omega))))
    (own_far hJx (by omega))
    ⟨⟨bP, bY⟩, Below.refl _ _, hJ0⟩
    (fun x a' W1 => ∃ Bx, Blk W1 Bx #[.int .i8 x.1, .bool x.2] 37 ∧ a' = { tmps := #[.func (.yield l) #[] #[], .pointer (some ⟨Bp, 0, none⟩), .pointer (some ⟨W.heap.size, 0, none⟩), .pointer (some ⟨Bx, 0, none⟩), .pointer (some ⟨Bp, 2, none⟩), taskV ws.length k true false, .func (.func 64) #[] #[.pointer (some ⟨W.heap.size + 1, 0, none⟩)], caseV x.1 x.2, undef, undef, undef, undef, undef, undef, undef, undef], defers := [] })
    (fun x a' _ X Y row hs hg hr => by obtain ⟨Bx, h2, h3⟩ := hs; exact ⟨Bx, blk_own _ _ (fun (_ : Unit) => _) () X Y row h2 hg (fun r e => (hr r e).2), h3⟩)
    ?assign ?body ?done ?stop
  case assign =>
    rintro l2 pre x W1 K ⟨⟨b1, b2⟩, hB1, hj⟩ hbn hK
    gi_wp2
    have hz : n₀ ≤ W1.heap.size := by have := b1.lt; omega
    exact hK _ _ ((KeepsOthers.alloc _ _).from _) (KpS.alloc hz _) ⟨⟨b1.alloc _, b2.alloc _⟩, hB1.alloc hz _, hJ.alloc _ hj⟩ ⟨W1.heap.size, blk_new W1 _ _, rfl⟩
  case body =>
    have HZ := Lib.hid hsz
    clear hsz
    rintro l2 pre x a' W1 ⟨⟨b1, b2⟩, hB1, hj⟩ ⟨Bx, bX, rfl⟩ hpre hbn
    have hmx : Try.prog.follows .mixedOrders = true := by kernel_rfl
    have HSeen := Lib.hid (show ∀ w2, Below W1.drew.heap.size W1.drew w2 → Calls Try.prog 52 #[.slice (some ⟨b, off, none⟩) ws.length c, caseV x.1 x.2] w2 fun e w' => e = .returned (wordV (seenV ws x)) ∧ Below w2.heap.size w2 w' from fun w2 hb2 =>
      seen_any b off c ws k pre x w2 hpre h80 (by have := b1.lt; have h2 : W1.heap.size ≤ w2.heap.size := hb2.size; omega) ((hc0.below (show Below n₀ W0 W1.drew from ⟨hB1.os, hB1.tape, hB1.output, hB1.size, hB1.block⟩) hb).below hb2 (by have := b1.lt; show b < W1.heap.size; omega)) HW.out.1)
    obtain ⟨e0, -, -, -, -, -, e6⟩ := b1.six
    obtain ⟨x0, x1, x2⟩ := bX.two
    have y0 : W1.cell? ⟨W.heap.size, 0, none⟩ = some (.func (.yield l) #[] #[]) := b2.cell 0
    have y1 := b2.free 0
    have HBK := Lib.hid (And.intro b1 (And.intro b2 bX))
    have HJ := Lib.hid (And.intro hB1 (show J pre W1.drew from hJ pre W1 W1.drew none hj ⟨rfl, rfl, rfl, Nat.le_refl _, fun _ _ _ => rfl⟩ (fun r e => by cases e)))
    have HP := Lib.hid (And.intro hpre hbn)
    clear b1 b2 bX hB1 hj hpre hbn
    have HNext := Lib.hid (show ∀ w2, Below W1.drew.heap.size W1.drew w2 → (w2.cell? ⟨Bp, 0, none⟩ = some (.slice (some ⟨b, off, none⟩) ws.length c) ∧ (∀ i, w2.frozen? ⟨Bp, i, none⟩ = false)) ∧ (w2.cell? ⟨Bx, 0, none⟩ = some (.int .i8 x.1) ∧ w2.cell? ⟨Bx, 1, none⟩ = some (.bool x.2) ∧ ∀ i, w2.frozen? ⟨Bx, i, none⟩ = false) ∧ (w2.cell? ⟨W.heap.size, 0, none⟩ = some (.func (.yield l) #[] #[]) ∧ w2.frozen? ⟨W.heap.size, 0, none⟩ = false)
        ∧ YieldAt Fence.wide 7 Try.prog l #[caseV x.1 x.2, wordV (seenV ws x)] w2 (fun e W' => ∃ r : Bool, e = .returned (.bool r) ∧ (r = true ∧ J (pre ++ [x]) W' ∧ KpS n₀ S w2 W' ∧ KeepsBut B l w2 W' ∨ r = false ∧ Jx (pre ++ [x]) W' ∧ KeepsBut B l w2 W')) by
      intro w2 hb2
      have g1 := Blk.below (w := W1.drew) HBK.out.1 hb2 HBK.out.1.lt
      have g2 := Blk.below (w := W1.drew) HBK.out.2.1 hb2 HBK.out.2.1.lt
      have g3 := Blk.below (w := W1.drew) HBK.out.2.2 hb2 HBK.out.2.2.lt
      exact ⟨⟨g1.six.1, g1.free⟩, g3.two, ⟨g2.cell 0, g2.free 0⟩, (HY.out pre x w2 (own_call hJ (W := W1.drew) HJ.out.2 hb2) HP.out.1 (fun b hb => Nat.lt_of_lt_of_le (HP.out.2 b hb) hb2.size)).mono (fun e W' h => h.elim (fun h => ⟨true, h.1, .inl ⟨rfl, h.2⟩⟩) (fun h => ⟨false, h.1, .inr ⟨rfl, h.2.1, h.2.2⟩⟩))⟩)
    gi_wp2
    refine wpIn_region_any hmx ?_
    refine anyIn_inv (PA (.func (.yield l) #[] #[]) (.pointer (some ⟨Bp, 0, none⟩)) (.pointer (some ⟨W.heap.size, 0, none⟩)) (.pointer (some ⟨Bx, 0, none⟩)) (.pointer (some ⟨Bp, 2, none⟩)) (taskV ws.length k true false) (.func (.func 64) #[] #[.pointer (some ⟨W.heap.size + 1, 0, none⟩)]) (caseV x.1 x.2)
      (.func (.yield l) #[] #[]) (caseV x.1 x.2) (.pointer (some ⟨Bp, 0, none⟩)) (.slice (some ⟨b, off, none⟩) ws.length c) (wordV (seenV ws x)) (fun w2 => Below W1.drew.heap.size W1.drew w2)
      (fun r w3 => ∃ w2, Below W1.drew.heap.size W1.drew w2 ∧ (r = true ∧ J (pre ++ [x]) w3 ∧ KpS n₀ S w2 w3 ∧ KeepsBut B l w2 w3 ∨ r = false ∧ Jx (pre ++ [x]) w3 ∧ KeepsBut B l w2 w3))) ?step _ _ _ _
      (Or.inl ⟨false, false, false, false, false, false, undef, undef, undef, undef, undef, undef, rfl, rfl, rfl, nofun, nofun, nofun, nofun, nofun, nofun, nofun, nofun, Below.refl _ _⟩)
    intro f listed a w hI
    rcases hI with ⟨l0, l1, m2, l3, l4, l5, s8, s9, s10, s11, s12, s13, rfl, rfl, rfl, h8, h9, h10, h11, h12, h13, hd5, hd3, hC⟩ | ⟨s8, s9, s10, s11, s12, s13, r, rfl, rfl, rfl, hR⟩ | ⟨s8, s9, s10, s11, s12, s13, r, rfl, rfl, rfl, hR⟩
    · refine ⟨fun h0 => absurd h0 (ne_nil_of ?_), fun i hi => ?_⟩
      · clear h8 h9 h10 h11 h12 h13 hd5 hd3 h0
        cases l0 <;> cases l1 <;> cases m2 <;> cases l3 <;> cases l4 <;> cases l5 <;> kernel_rfl
      · obtain ⟨hun, o, ho, hall⟩ := mem_ready.1 hi
        clear hi
        have hi8 : i < 8 := by
          rcases Nat.lt_or_ge i 8 with h | h
          · exact h
          · simp [Array.getD, show ¬ i < 8 by omega] at hun
        obtain ⟨⟨p0, p6⟩, ⟨q0, q1, q2⟩, ⟨z0, z1⟩, ⟨fn0, tmps0, assign0, body0, hy0, hR0⟩⟩ := HNext.out w hC
        rcases (show i = 0 ∨ i = 1 ∨ i = 2 ∨ i = 3 ∨ i = 4 ∨ i = 5 ∨ i = 6 ∨ i = 7 by omega) with rfl | rfl | rfl | rfl | rfl | rfl | rfl | rfl
        · obtain rfl : l0 = false := hun
          clear ho hall hy0 hR0 
          refine ⟨2 + (b2 true + b2 l1 + b2 m2 + b2 l3 + b2 l4 + b2 l5), by simp [b2]; omega, wpOpIn_step rfl (fun K hK => ?_)⟩
          go_simp
          exact hK _ _ (Or.inl ⟨true, l1, m2, l3, l4, l5, (.func (.yield l) #[] #[]), s9, s10, s11, s12, s13, rfl, rfl, rfl, (fun _ => rfl), h9, h10, h11, h12, h13, hd5, hd3, hC⟩)
        · obtain rfl : l1 = false := hun
          clear ho hall hy0 hR0 
          refine ⟨2 + (b2 l0 + b2 true + b2 m2 + b2 l3 + b2 l4 + b2 l5), by simp [b2]; omega, wpOpIn_step rfl (fun K hK => ?_)⟩
          go_simp
          exact hK _ _ (Or.inl ⟨l0, true, m2, l3, l4, l5, s8, (caseV x.1 x.2), s10, s11, s12, s13, rfl, rfl, rfl, h8, (fun _ => rfl), h10, h11, h12, h13, hd5, hd3, hC⟩)
        · obtain rfl : m2 = false := hun
          clear ho hall hy0 hR0 
          refine ⟨2 + (b2 l0 + b2 l1 + b2 true + b2 l3 + b2 l4 + b2 l5), by simp [b2]; omega, wpOpIn_step rfl (fun K hK => ?_)⟩
          go_simp
          exact hK _ _ (Or.inl ⟨l0, l1, true, l3, l4, l5, s8, s9, (.pointer (some ⟨Bp, 0, none⟩)), s11, s12, s13, rfl, rfl, rfl, h8, h9, (fun _ => rfl), h11, h12, h13, hd5, (fun _ => rfl), hC⟩)
        · obtain rfl : l3 = false := hun
          have hl2 : m2 = true := hall { on := 2, ground := .data } (by cases ho; simp) rfl
          obtain rfl := h10 hl2
          clear ho hall hy0 hR0 
          refine ⟨2 + (b2 l0 + b2 l1 + b2 m2 + b2 true + b2 l4 + b2 l5), by simp [b2]; omega, wpOpIn_step rfl (fun K hK => ?_)⟩
          go_simp
          exact hK _ _ (Or.inl ⟨l0, l1, m2, true, l4, l5, s8, s9, _, (.slice (some ⟨b, off, none⟩) ws.length c), s12, s13, rfl, rfl, rfl, h8, h9, (fun _ => rfl), (fun _ => rfl), h12, h13, (fun h => ⟨rfl, (hd5 h).2⟩), (fun _ => hl2), hC⟩)
        · obtain rfl : l4 = false := hun
          clear ho hall hy0 hR0 
          refine ⟨2 + (b2 l0 + b2 l1 + b2 m2 + b2 l3 + b2 true + b2 l5), by simp [b2]; omega, wpOpIn_step rfl (fun K hK => ?_)⟩
          go_simp
          exact hK _ _ (Or.inl ⟨l0, l1, m2, l3, true, l5, s8, s9, s10, s11, (caseV x.1 x.2), s13, rfl, rfl, rfl, h8, h9, h10, h11, (fun _ => rfl), h13, (fun h => ⟨(hd5 h).1, rfl⟩), hd3, hC⟩)
        · obtain rfl : l5 = false := hun
          have hl3 : l3 = true := hall { on := 3, ground := .data } (by cases ho; simp) rfl
          have hl4 : l4 = true := hall { on := 4, ground := .data } (by cases ho; simp) rfl
          obtain rfl := h11 hl3
          obtain rfl := h12 hl4
          clear ho hall hy0 hR0 
          refine ⟨2 + (b2 l0 + b2 l1 + b2 m2 + b2 l3 + b2 l4 + b2 true), by simp [b2]; omega, wpOpIn_step rfl (fun K hK => ?_)⟩
          go_simp
          refine ⟨trivial, (CallsIn.inRound l2 (callsIn_wide.2 (HSeen.out w hC))).mono ?_⟩
          rintro e w2 ⟨rfl, hb2⟩
          exact hK _ _ (Or.inl ⟨l0, l1, m2, l3, l4, true, s8, s9, _, _, _, (wordV (seenV ws x)), rfl, rfl, rfl, h8, h9, (fun _ => rfl), (fun _ => rfl), (fun _ => rfl), (fun _ => rfl), (fun _ => ⟨hl3, hl4⟩), hd3, (hC.trans (hb2.mono hC.size))⟩)
        · have hl0 : l0 = true := hall { on := 0, ground := .data } (by cases ho; simp) rfl
          have hl1 : l1 = true := hall { on := 1, ground := .data } (by cases ho; simp) rfl
          have hl5 : l5 = true := hall { on := 5, ground := .data } (by cases ho; simp) rfl
          obtain rfl := h8 hl0
          obtain rfl := h9 hl1
          obtain rfl := h13 hl5
          obtain ⟨hl3, hl4⟩ := hd5 hl5
          have hl2 := hd3 hl3
          clear ho hall hun h8 h9 h10 h11 h12 h13 hd5 hd3
          subst hl0 hl1 hl2 hl3 hl4 hl5
          refine ⟨1, by simp [b2], wpOpIn_step rfl (fun K hK => ?_)⟩
          go_simp
          refine (round_any (F := Fence.wide) rfl hR0).mono ?_
          rintro e w3 ⟨r, rfl, hpost⟩
          exact hK _ _ (Or.inr (Or.inl ⟨_, _, _, _, _, _, r, rfl, rfl, rfl, w, hC, hpost⟩))
        · have hl6 : false = true := hall { on := 6, ground := .data } (by cases ho; simp) rfl
          cases hl6
    · refine ⟨fun h0 => absurd h0 (ne_nil_of (by kernel_rfl)), fun i hi => ?_⟩
      obtain ⟨hun, o, ho, hall⟩ := mem_ready.1 hi
      clear hi
      have hi8 : i < 8 := by
        rcases Nat.lt_or_ge i 8 with h | h
        · exact h
        · simp [Array.getD, show ¬ i < 8 by omega] at hun
      rcases (show i = 0 ∨ i = 1 ∨ i = 2 ∨ i = 3 ∨ i = 4 ∨ i = 5 ∨ i = 6 ∨ i = 7 by omega) with rfl | rfl | rfl | rfl | rfl | rfl | rfl | rfl
      iterate 7 (exact absurd hun (by decide))
      clear ho hall hun
      refine ⟨0, rfl, wpOpIn_step rfl (fun K hK => ?_)⟩
      go_simp
      exact hK _ _ (Or.inr (Or.inr ⟨_, _, _, _, _, _, r, rfl, rfl, rfl, hR⟩))
    · refine ⟨fun _ => ?_, fun i hi => ?_⟩
      · obtain ⟨w2, hw2, hR⟩ := hR
        have hw : Below W1.heap.size W1 w2 := ⟨hw2.os, hw2.tape, hw2.output, hw2.size, hw2.block⟩
        have hz : n₀ ≤ W1.heap.size := by have := HBK.out.1.lt; omega
        clear hw2
        rcases hR with ⟨rfl, hj, hkp, hkb⟩ | ⟨rfl, hjx, hkb⟩
        · have HE := Lib.hid (show KeepsFrom W0.heap.size W1 w ∧ KpS n₀ S W1 w ∧ (Blk w Bp (opC (some ⟨b, off, none⟩) ws.length c l0 k) 58 ∧ Blk w W.heap.size #[.func (.yield l) #[] #[]] 88) ∧ Below n₀ W0 w ∧ J (pre ++ [x]) w from by
            have hkk := (kps_call (S := S) hz hw).t hkp
            exact ⟨((kb_call hw).t hkb).from (by have := HZ.out; omega) (by have := HZ.out; omega), hkk, ⟨hkk.2 _ _ _ hS.1 HBK.out.1, hkk.2 _ _ _ hS.2.1 HBK.out.2.1⟩, HJ.out.1.trans hkk.1, hj⟩)
          clear hj hkp hkb hw
          gi_wp2
          exact HE.out
        · have HE := Lib.hid (show KeepsFrom W0.heap.size W1 w ∧ Jx (pre ++ [x]) w from ⟨((kb_call hw).t hkb).from (by have := HZ.out; omega) (by have := HZ.out; omega), hjx⟩)
          clear hjx hkb hw
          gi_wp2
          exact HE.out
      · obtain ⟨hun, -⟩ := mem_ready.1 hi
        have hi8 : i < 8 := by
          rcases Nat.lt_or_ge i 8 with h | h
          · exact h
          · simp [Array.getD, show ¬ i < 8 by omega] at hun
        rcases (show i = 0 ∨ i = 1 ∨ i = 2 ∨ i = 3 ∨ i = 4 ∨ i = 5 ∨ i = 6 ∨ i = 7 by omega) with rfl | rfl | rfl | rfl | rfl | rfl | rfl | rfl <;> exact absurd hun (by decide)
  case done =>
    rintro W1 ⟨_, hB1, hj⟩ hK
    have HE := Lib.hid (hJ.putObj (.deferred none) hj (show W.heap.size ≤ W0.heap.size by omega) hK rfl)
    clear hj hsz
    gi_wp2
    refine ⟨by simp, .inl ⟨_, _, rfl, run_takeDeferred (b := W0.heap.size) (ds := []) hK, ?_⟩⟩
    exact ⟨_, results_none rfl _ _ _, ⟨_, rfl⟩, .inl HE.out⟩
  case stop =>
    rintro pre W1 hpre hj hK
    have HE := Lib.hid (hJx.putObj (.deferred none) hj (show W.heap.size ≤ W0.heap.size by omega) hK rfl)
    clear hj hsz
    gi_wp2
    refine ⟨by simp, .inl ⟨_, _, rfl, run_takeDeferred (b := W0.heap.size) (ds := []) hK, ?_⟩⟩
    exact ⟨_, results_none rfl _ _ _, ⟨_, rfl⟩, .inr ⟨pre, hpre, HE.out⟩⟩
end Go.Proofs.Ytieghjpecoiodaa
