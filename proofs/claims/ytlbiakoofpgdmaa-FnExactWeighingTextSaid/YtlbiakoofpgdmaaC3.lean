/-
  The walk of FindCase, over the iterator of cases.
-/
import Derived.Test.YtlbiakoofpgdmaaC2b
import Derived.Laws.StructEq
import Derived.Laws.Small
import Derived.Laws.Pointers
namespace Go.Proofs.Ytlbiakoofpgdmaa
open Go.RowKit Go.Shelf
set_option maxRecDepth 100000
set_option linter.unusedVariables false

attribute [local go_sem] Oper.semAt_some

theorem cases1_in (F : Fence) (n : Nat) (h6 : F.fn 61) (hro : F.round = none) (hn : 1 ≤ n) (l Bn n₀ : Nat) (m : Nat) (k : Int) (nn gg : Bool) (hm : m ≤ 13) (hk : 0 ≤ k ∧ k ≤ 2) (J Jx : List Cs → World → Prop)
    (hY : ∀ pre (x : Cs) W, J pre W → pre.length < (upC k nn m).length → YieldAt F (n - 1) Try.prog l #[caseV x.1 x.2] W fun e W' =>
      (e = .returned (.bool true) ∧ J (pre ++ [x]) W' ∧ KpB n₀ Bn W W') ∨ (e = .returned (.bool false) ∧ Jx (pre ++ [x]) W'))
    (W : World) (hbk : Blk W Bn #[.int .i8 (m : Int), .int .i8 k, .bool nn, .bool gg] 32) (h0 : J [] W) :
    CallsIn F n Try.prog 61 #[.func (.yield l) #[] #[], .pointer (some ⟨Bn, 0, none⟩)] W fun e W' => (∃ v, e = .returned v) ∧
      ((∃ ys, ys = upC k nn m ∧ J ys W') ∨ (∃ pre, pre <+: upC k nn m ∧ Jx pre W')) := by
  cases nn
  · exact cases1_false F n h6 hro hn l Bn n₀ m k gg hm hk J Jx hY W hbk h0
  · exact cases1_true F n h6 hro hn l Bn n₀ m k gg hm hk J Jx hY W hbk h0
theorem cases_in (F : Fence) (n : Nat) (h5 : F.fn 59) (hro : F.round = none) (c k : Int) (nn gg : Bool) (w : World) :
    CallsIn F n Try.prog 59 #[taskV c k nn gg] w fun e w' => e = .returned (.func (.func 61) #[] #[.pointer (some ⟨w.heap.size, 0, none⟩)]) ∧ w' = w.alloc (.cells #[.int .i8 c, .int .i8 k, .bool nn, .bool gg] 32) := by
  refine callsIn_of_wp Try.func59 rfl h5 ?_ hro
  simp only [Try.ntmps59, List.size_toArray, List.length_cons, List.length_nil, Nat.reduceAdd, Nat.reduceSub, Array.replicate_succ, Array.replicate_zero, List.push_toArray, List.append_toArray, List.nil_append, List.cons_append]
  gi_wp2
  go_ret
  exact ⟨rfl, rfl⟩
theorem cases_stops (F : Fence) (n : Nat) (h6 : F.fn 61) (hro : F.round = none) (hn : 1 ≤ n) (Bn n₀ : Nat) (m : Nat) (k : Int) (nn gg : Bool) (hm : m ≤ 13) (hk : 0 ≤ k ∧ k ≤ 2) (w : World)
    (hc : Blk w Bn #[.int .i8 (m : Int), .int .i8 k, .bool nn, .bool gg] 32) :
    SeqStopsK F n Try.prog 61 #[.pointer (some ⟨Bn, 0, none⟩)] (fun x : Cs => #[caseV x.1 x.2]) (KpB n₀ Bn) (fun ys => ys = upC k nn m) (fun pre => pre <+: upC k nn m) (upC k nn m).length w := fun l J Jx W hW _ _ hY h0 =>
  cases1_in F n h6 hro hn l Bn n₀ m k nn gg hm hk J Jx hY W (hc.below hW hc.lt) h0
theorem blk_own {β : Type} (B : Nat) (t : TypeId) (f : β → Array Value) : Own (fun s W => Blk W B (f s) t) := fun s X Y row hs hg hrow =>
  (hg.block B hs.lt (fun e' => by obtain ⟨o, ho, hc⟩ := hrow B e'.symm; rw [show X.heap[B]? = _ from hs] at ho; cases ho; cases hc)).trans hs
theorem setAt {n : Nat} {a w : World} (h : Below n a w) {b : Nat} (hb : n ≤ b) (o : Nat) (v : Value) : Below n a (w.setCell ⟨b, o, none⟩ v) := h.setCell hb v
theorem pure_own {β : Type} (B : Nat) (p : β → Prop) : OwnFrom B (fun s (_ : World) => p s) := fun _ _ _ _ hs _ _ => hs

theorem eqCs (a : Int) (b : Bool) (a' : Int) (b' : Bool) (w : World) : (Op.equalIn 10000 60 (caseV a b) (caseV a' b')).run Try.prog w = .ok (a == a' && b == b') w := by
  have u3 := Try.underlying22
  have a3 := Try.isAgg22
  have z3 := Try.sizeOf22
  have u4 := Try.underlying4
  have a4 := Try.isAgg4
  have z4 := Try.sizeOf4
  have hS : Try.prog.underlying 60 = some (.struct (Try.prog.fieldsOf 60)) := by kernel_rfl
  have hp : Try.prog.stoodInHeld 60 = false := by kernel_rfl
  rw [show (10000 : Nat) = 9999 + 1 from rfl, run_equalIn_agg w 9999 60 _ _ hS hp]
  simp only [Program.fieldsOf, Try.underlying60]
  go_simp
  by_cases h1 : a = a' <;> by_cases h2 : b = b' <;> simp [h1, h2]
/-- Where a case stands among others, and whether it does. -/
def fcV (L : List Cs) (x : Cs) : Nat := if x ∈ L then L.idxOf x else 0
def fcC (L : List Cs) (x : Cs) : Int := if x ∈ L then 0 else 6
theorem fc_in {L pre : List Cs} {x : Cs} (h : pre ++ [x] <+: L) (hx : x ∉ pre) : fcV L x = pre.length ∧ fcC L x = 0 := by
  obtain ⟨r, rfl⟩ := h
  have hm : x ∈ pre ++ [x] ++ r := by simp
  unfold fcV fcC
  rw [if_pos hm, if_pos hm]
  refine ⟨?_, rfl⟩
  rw [List.append_assoc, List.idxOf_append, if_neg hx]
  simp
theorem fc_out {L : List Cs} {x : Cs} (hx : x ∉ L) : fcV L x = 0 ∧ fcC L x = 6 := by
  unfold fcV fcC
  rw [if_neg hx, if_neg hx]
  exact ⟨rfl, rfl⟩

set_option maxHeartbeats 4000000 in
theorem findCase_in (m : Nat) (k : Int) (nn gg : Bool) (cc : Int) (hh : Bool) (hm : 1 ≤ m ∧ m ≤ 13) (hk : 0 ≤ k ∧ k ≤ 2) (w : World) :
    CallsIn Fence.wide 6 Try.prog 57 #[taskV m k nn gg, caseV cc hh] w fun e W' => e = .returned (.tuple #[.int .i64 (fcV (upC k nn m) (cc, hh) : Nat), .int .i64 (fcC (upC k nn m) (cc, hh))]) ∧ Below w.heap.size w W' := by
  have F0 := ((((FR.start w).box #[.int .i8 (m : Int), .int .i8 k, .bool nn, .bool gg] 32).box #[.int .i8 cc, .bool hh] 60).box #[.int .i64 0] 2).box #[.int .i64 0] 2
  simp only [World.size_alloc] at F0
  have HV := Lib.hid (fun W => (validTask_any (m : Int) k nn gg W (by unfold B8; omega) (by unfold B8; omega)))
  rw [show okT (m : Int) k = true from cb_t ⟨⟨by omega, by omega⟩, hk⟩] at HV
  refine callsIn_of_wp_marks Try.func57 rfl trivial ?_ rfl
  simp only [Try.ntmps57, List.size_toArray, List.length_cons, List.length_nil, Nat.reduceAdd, Nat.reduceSub, Array.replicate_succ, Array.replicate_zero, List.push_toArray, List.append_toArray, List.nil_append, List.cons_append]
  gi_wp2_with (first
    | (refine ⟨trivial, ?_⟩; gi_at_call 41; refine (callsIn_wide.2 (HV.out _)).mono ?_; rintro e w2 ⟨rfl, hb2⟩; have F2 := (F0.next hb2).box #[.int .i64 0] 2; have hz2 := ((F0.next hb2).blk _ List.mem_cons_self).lt; obtain ⟨c0, c1, c2, c3, -⟩ := (F2.blk _ (List.mem_cons_of_mem _ (List.mem_cons_of_mem _ (List.mem_cons_of_mem _ (List.mem_cons_of_mem _ List.mem_cons_self))))).four; clear hb2 F0)
    | (refine ⟨trivial, ?_⟩; gi_at_call 59; refine (cases_in Fence.wide 5 trivial rfl _ _ _ _ _).mono ?_; rintro e w3 ⟨rfl, rfl⟩))
  have F3 := F2.box #[.int .i8 (m : Int), .int .i8 k, .bool nn, .bool gg] 32
  simp only [World.size_alloc] at F3
  have bK := F3.blk _ List.mem_cons_self
  have bI := F3.blk _ (List.mem_cons_of_mem _ List.mem_cons_self)
  have bS := F3.blk _ (List.mem_cons_of_mem _ (List.mem_cons_of_mem _ List.mem_cons_self))
  have bR := F3.blk _ (List.mem_cons_of_mem _ (List.mem_cons_of_mem _ (List.mem_cons_of_mem _ List.mem_cons_self)))
  have bC := F3.blk _ (List.mem_cons_of_mem _ (List.mem_cons_of_mem _ (List.mem_cons_of_mem _ (List.mem_cons_of_mem _ List.mem_cons_self))))
  have hB0 := F3.below
  have hsz : ((w2.alloc (.cells #[.int .i64 0] 2)).alloc (.cells #[.int .i8 (m : Int), .int .i8 k, .bool nn, .bool gg] 32)).heap.size = w2.heap.size + 2 := by simp
  dsimp only at bK bI bS bR bC
  clear c0 c1 c2 c3 F2 F3
  obtain ⟨W0, hW0⟩ : ∃ W0, ((w2.alloc (.cells #[.int .i64 0] 2)).alloc (.cells #[.int .i8 (m : Int), .int .i8 k, .bool nn, .bool gg] 32)) = W0 := ⟨_, rfl⟩
  rw [hW0] at bK bI bS bR bC hB0 hsz ⊢
  clear hW0
  have hE := fun a b a' b' W => eqCs a b a' b' W
  refine wpIn_rangeFunc_ownH rfl (by decide) (gf := 61) (lb := #[.pointer (some ⟨w2.heap.size + 1, 0, none⟩)]) rfl trivial (enters_of Try.func61 (by kernel_rfl) rfl)
    (cases_stops Fence.wide 5 trivial rfl (by decide) (w2.heap.size + 1) w.heap.size m k nn gg hm.2 hk W0 bK) KpB.t (KpB.b (by omega)) (Below.refl _ _) (fun _ => rfl)
    (fun pre W => (Blk W w2.heap.size #[.int .i64 (pre.length : Int)] 2 ∧ Blk W (w2.heap.size + 1) #[.int .i8 (m : Int), .int .i8 k, .bool nn, .bool gg] 32 ∧ Blk W (w.heap.size + 1) #[.int .i8 cc, .bool hh] 60 ∧ Blk W (w.heap.size + 1 + 1) #[.int .i64 0] 2 ∧ Blk W (w.heap.size + 1 + 1 + 1) #[.int .i64 0] 2) ∧ Below w.heap.size w W ∧ (cc, hh) ∉ pre)
    (fun c pre W => c = .ret ∧ ∃ pre', pre = pre' ++ [(cc, hh)] ∧ (cc, hh) ∉ pre' ∧ (Blk W (w.heap.size + 1 + 1) #[.int .i64 (pre'.length : Int)] 2 ∧ Blk W (w.heap.size + 1 + 1 + 1) #[.int .i64 0] 2) ∧ Below w.heap.size w W)
    (OwnFrom.and (OwnFrom.and (Own.from (blk_own _ _ _) _) (OwnFrom.and (Own.from (blk_own _ _ (fun _ => _)) _) (OwnFrom.and (Own.from (blk_own _ _ (fun _ => _)) _) (OwnFrom.and (Own.from (blk_own _ _ (fun _ => _)) _) (Own.from (blk_own _ _ (fun _ => _)) _))))) (OwnFrom.and (ownFrom_below (Nat.le_refl _) (by omega)) (pure_own _ _)))
    (fun c pre X Y row hs hg hr => by
      obtain ⟨hc, pre', h1, h2, ⟨h3, h4⟩, h5⟩ := hs
      exact ⟨hc, pre', h1, h2, ⟨blk_own _ _ (fun (_ : Unit) => _) () X Y row h3 hg (fun r e => (hr r e).2), blk_own _ _ (fun (_ : Unit) => _) () X Y row h4 hg (fun r e => (hr r e).2)⟩, ownFrom_below (β := Unit) (Nat.le_refl _) (by omega) () X Y row h5 hg hr⟩)
    ⟨⟨bI, bK, bC, bR, bS⟩, hB0, by simp⟩
    (fun x a' W => ∃ Bx, w2.heap.size + 1 < Bx ∧ Blk W Bx #[.int .i8 x.1, .bool x.2] 60 ∧ a' = { tmps := #[taskV m k nn gg, caseV cc hh, .pointer (some ⟨w.heap.size, 0, none⟩), .pointer (some ⟨w.heap.size + 1, 0, none⟩), .pointer (some ⟨w.heap.size + 1 + 1, 0, none⟩), .pointer (some ⟨w.heap.size + 1 + 1 + 1, 0, none⟩), .pointer (some ⟨w2.heap.size, 0, none⟩), .pointer (some ⟨Bx, 0, none⟩), taskV m k nn gg, .bool true, .bool false, taskV m k nn gg, .func (.func 61) #[] #[.pointer (some ⟨w2.heap.size + 1, 0, none⟩)], caseV x.1 x.2, undef, undef, undef, undef, undef, undef], defers := [] })
    (fun x a' _ X Y row hs hg hr => by obtain ⟨Bx, h1, h2, h3⟩ := hs; exact ⟨Bx, h1, blk_own _ _ (fun (_ : Unit) => _) () X Y row h2 hg (fun r e => (hr r e).2), h3⟩)
    ?assign ?body ?done ?stop
  case assign =>
    rintro l pre x W K ⟨⟨b1, b2, b3, b4, b5⟩, hB1, hx1⟩ hK
    gi_wp2
    exact hK _ _ ((KeepsOthers.alloc _ _).from _) ⟨(Below.refl _ W).alloc hB1.size _, fun cs t hb => hb.alloc _⟩ ⟨⟨b1.alloc _, b2.alloc _, b3.alloc _, b4.alloc _, b5.alloc _⟩, hB1.alloc hB1.size _, hx1⟩ ⟨W.heap.size, b2.lt, blk_new W _ _, rfl⟩
  case body =>
    rintro l pre x a' W hl ⟨r, hr⟩ ⟨⟨b1, b2, b3, b4, b5⟩, hB1, hx1⟩ ⟨Bx, hBx, bX, rfl⟩ hlt
    have hlen : pre.length ≤ 27 := by have := upC_len k nn m; omega
    obtain ⟨c0, c1, -⟩ := b3.two
    obtain ⟨d0, d1, -⟩ := bX.two
    have e0 : W.cell? ⟨w2.heap.size, 0, none⟩ = some (.int .i64 (pre.length : Int)) := b1.cell 0
    have e1 : W.frozen? ⟨w2.heap.size, 0, none⟩ = false := b1.free 0
    have f0 : W.cell? ⟨w.heap.size + 1 + 1, 0, none⟩ = some (.int .i64 0) := b4.cell 0
    have f1 : W.frozen? ⟨w.heap.size + 1 + 1, 0, none⟩ = false := b4.free 0
    have g0 : W.cell? ⟨w.heap.size + 1 + 1 + 1, 0, none⟩ = some (.int .i64 0) := b5.cell 0
    have g1 : W.frozen? ⟨w.heap.size + 1 + 1 + 1, 0, none⟩ = false := b5.free 0
    by_cases hx : x = (cc, hh)
    · subst hx
      gi_wp2
      exact ⟨((KeepsOthers.setCell _ _ _).trans (KeepsOthers.setCell _ _ _)).from _, rfl, pre, rfl, hx1, ⟨(b4.set 0 _).setOther (by omega) _ _, (b5.setOther (by omega) _ _).set 0 _⟩,
        (hB1.setCell (show w.heap.size ≤ w.heap.size + 1 + 1 by omega) _).setCell (show w.heap.size ≤ w.heap.size + 1 + 1 + 1 by omega) _⟩
    · have hq : (x.1 == cc && x.2 == hh) = false := by
        by_cases h1 : x.1 = cc <;> by_cases h2 : x.2 = hh <;> simp [h1, h2]
        exact hx (Prod.ext h1 h2)
      have hzz : w.heap.size ≤ w2.heap.size := by omega
      gi_wp2
      exact ⟨(KeepsOthers.setCell _ _ _).from _, ⟨(Below.refl _ W).setCell hzz _, fun cs t hb => hb.setOther (by omega) _ _⟩,
        ⟨by rw [List.length_append]; exact b1.set 0 _, b2.setOther (by omega) _ _, b3.setOther (by omega) _ _, b4.setOther (by omega) _ _, b5.setOther (by omega) _ _⟩, hB1.setCell hzz _, by
          rw [List.mem_append, List.mem_singleton]
          exact fun h => h.elim hx1 (fun h => hx h.symm)⟩
  case done =>
    rintro D ys W hD rfl ⟨⟨b1, b2, b3, b4, b5⟩, hB1, hx1⟩ hK
    have HF := Lib.hid (fc_out hx1)
    have f0 : W.cell? ⟨w.heap.size + 1 + 1, 0, none⟩ = some (.int .i64 0) := b4.cell 0
    have f1 : W.frozen? ⟨w.heap.size + 1 + 1, 0, none⟩ = false := b4.free 0
    have g0 : W.cell? ⟨w.heap.size + 1 + 1 + 1, 0, none⟩ = some (.int .i64 0) := b5.cell 0
    have g1 : W.frozen? ⟨w.heap.size + 1 + 1 + 1, 0, none⟩ = false := b5.free 0
    gi_wp2
    have hne4 : w.heap.size + 1 + 1 ≠ D := by omega
    have hne5 : w.heap.size + 1 + 1 + 1 ≠ D := by omega
    have k4 := (b4.set 0 (.int .i64 0)).setOther (show w.heap.size + 1 + 1 ≠ w.heap.size + 1 + 1 + 1 by omega) 0 (.int .i64 6)
    have k5 := (b5.setOther (show w.heap.size + 1 + 1 + 1 ≠ w.heap.size + 1 + 1 by omega) 0 (.int .i64 0)).set 0 (.int .i64 6)
    have hB2 := setAt (setAt hB1 (show w.heap.size ≤ w.heap.size + 1 + 1 by omega) 0 (.int .i64 0)) (show w.heap.size ≤ w.heap.size + 1 + 1 + 1 by omega) 0 (.int .i64 6)
    have hK5 := ((KeepsOthers.setCell W ⟨w.heap.size + 1 + 1, 0, none⟩ (.int .i64 0)).trans (KeepsOthers.setCell _ ⟨w.heap.size + 1 + 1 + 1, 0, none⟩ (.int .i64 6))).same D _ hK rfl
    refine ⟨by simp, .inl ⟨_, _, rfl, run_takeDeferred (b := D) (ds := []) hK5, ?_⟩⟩
    have q4 : Blk _ _ _ _ := (World.putObj_heap_other (o := .deferred none) hne4).trans k4
    have q5 : Blk _ _ _ _ := (World.putObj_heap_other (o := .deferred none) hne5).trans k5
    have r4 := q4.cell 0
    have r5 := q5.cell 0
    exact ⟨.tuple #[.int .i64 0, .int .i64 6], by simp at r4 r5; simp [results, Try.results57, go_sem, r4, r5], by rw [HF.out.1, HF.out.2]; rfl, hB2.trans (belowK_b (w := w) (Nat.le_refl _) _ D _ _ (by omega) hK5 rfl rfl)⟩
  case stop =>
    rintro D c pre W hD hp ⟨rfl, pre', rfl, hx1, ⟨b4, b5⟩, hB1⟩ hK
    have HF := Lib.hid (fc_in hp hx1)
    have hne4 : w.heap.size + 1 + 1 ≠ D := by omega
    have hne5 : w.heap.size + 1 + 1 + 1 ≠ D := by omega
    gi_wp2
    refine ⟨by simp, .inl ⟨_, _, rfl, run_takeDeferred (b := D) (ds := []) hK, ?_⟩⟩
    have q4 : Blk _ _ _ _ := (World.putObj_heap_other (o := .deferred none) hne4).trans b4
    have q5 : Blk _ _ _ _ := (World.putObj_heap_other (o := .deferred none) hne5).trans b5
    have r4 := q4.cell 0
    have r5 := q5.cell 0
    exact ⟨.tuple #[.int .i64 (pre'.length : Int), .int .i64 0], by simp at r4 r5; simp [results, Try.results57, go_sem, r4, r5], by rw [HF.out.1, HF.out.2], hB1.trans (belowK_b (w := w) (Nat.le_refl _) _ D _ _ (by omega) hK rfl rfl)⟩
end Go.Proofs.Ytlbiakoofpgdmaa
