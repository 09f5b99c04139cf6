/-
  The walk of CasesOf: the cases collected.
-/
import Derived.Test.YtgckboaejpgalaaC3
namespace Go.Proofs.Ytgckboaejpgalaa
open Go.RowKit Go.Shelf
set_option maxRecDepth 100000
set_option linter.unusedVariables false

attribute [local go_sem] Oper.semAt_some

/-- The cells of cases, one behind the other. -/
def cvals (cs : List Cs) : List Value := cs.flatMap (fun x => [.int .i8 x.1, .bool x.2])
theorem cvals_snoc (cs : List Cs) (x : Cs) : cvals (cs ++ [x]) = cvals cs ++ [.int .i8 x.1, .bool x.2] := by simp [cvals]
theorem cvals_len (cs : List Cs) : (cvals cs).length = cs.length * 2 := by
  induction cs with
  | nil => rfl
  | cons m ms ih => rw [show cvals (m :: ms) = [.int .i8 m.1, .bool m.2] ++ cvals ms from rfl, List.length_append, ih, List.length_cons]; simp; omega
theorem Try.infoC : (Try.prog.info? 39).map (fun i => (i.zero, i.size, i.bytes)) = some (some (.agg #[.int .i8 0, .bool false]), 2, 2) := by kernel_rfl

set_option maxHeartbeats 4000000 in
theorem appendSeq_in (Bn : Nat) (m : Nat) (k : Int) (nn gg : Bool) (hm : 1 ≤ m ∧ m ≤ 13) (hk : 0 ≤ k ∧ k ≤ 2) (w : World) (hbk : Blk w Bn #[.int .i8 (m : Int), .int .i8 k, .bool nn, .bool gg] 26) :
    CallsIn Fence.wide 6 Try.prog 46 #[.slice none 0 0, .func (.func 47) #[] #[.pointer (some ⟨Bn, 0, none⟩)]] w fun e W' => ∃ v, e = .returned v ∧ W'.ownsRow w.heap.size 39 2 v (upC k nn m).length (cvals (upC k nn m)) ∧ Below w.heap.size w W' := by
  obtain ⟨i0, hi, hz0, hz1, hz2⟩ := info_parts Try.infoC
  have hL : (upC k nn m).length ≤ 27 := by have := upC_len k nn m; omega
  have hBn := hbk.lt
  have bO := Boxed.new w 31 (.slice none 0 0)
  have bK := hbk.alloc (.cells #[.slice none 0 0] 31)
  have hB0 : Below w.heap.size w (w.alloc (.cells #[.slice none 0 0] 31)) := (Below.refl _ w).alloc (Nat.le_refl _) _
  refine callsIn_of_wp_marks Try.func46 rfl trivial ?_ rfl
  simp only [Try.ntmps46, List.size_toArray, List.length_cons, List.length_nil, Nat.reduceAdd, Nat.reduceSub, Array.replicate_succ, Array.replicate_zero, List.push_toArray, List.append_toArray, List.nil_append, List.cons_append]
  gi_wp2
  refine wpIn_rangeFunc_ownH rfl (by decide) (gf := 47) (lb := #[.pointer (some ⟨Bn, 0, none⟩)]) rfl trivial (enters_of Try.func47 (by kernel_rfl) rfl)
    (cases_stops Fence.wide 5 trivial rfl (by decide) Bn w.heap.size m k nn gg hm.2 hk _ bK) KpB.t (KpB.b (by simp)) (Below.refl _ _) (fun _ => rfl)
    (fun pre W => (∃ v, Boxed W w.heap.size 31 v ∧ W.ownsRow w.heap.size 39 2 v pre.length (cvals pre) ∧ (v = .slice none 0 0 ↔ pre = [])) ∧ Below w.heap.size w W)
    (fun _ _ _ => False)
    (OwnFrom.and (Own.from (holdsRow_own w.heap.size w.heap.size 31 39 2 (fun pre => pre.length) (fun pre => cvals pre) (fun pre v => v = .slice none 0 0 ↔ pre = [])) _) (ownFrom_below (Nat.le_refl _) (by simp)))
    (fun _ _ _ _ _ hs _ _ => hs)
    ⟨⟨_, bO, World.ownsRow_nil _ _ _ _, by simp⟩, hB0⟩
    (fun x a' W => ∃ Bx, w.heap.size < Bx ∧ Blk W Bx #[.int .i8 x.1, .bool x.2] 39 ∧ a' = { tmps := #[.slice none 0 0, .func (.func 47) #[] #[.pointer (some ⟨Bn, 0, none⟩)], .pointer (some ⟨w.heap.size, 0, none⟩), undef, .slice none 0 0, .pointer (some ⟨Bx, 0, none⟩), .func (.func 47) #[] #[.pointer (some ⟨Bn, 0, none⟩)], caseV x.1 x.2, undef, undef, undef, undef, undef], defers := [] })
    (fun x a' _ X Y row hs hg hr => by obtain ⟨Bx, h1, h2, h3⟩ := hs; exact ⟨Bx, h1, blk_own _ _ (fun (_ : Unit) => _) () X Y row h2 hg (fun r e => (hr r e).2), h3⟩)
    ?assign ?body ?done ?stop
  case assign =>
    rintro l pre x W K ⟨⟨v, hv, hrow, hnil⟩, hB1⟩ hK
    gi_wp2
    exact hK _ _ ((KeepsOthers.alloc _ _).from _) ⟨(Below.refl _ W).alloc hB1.size _, fun cs t hb => hb.alloc _⟩ ⟨⟨v, hv.alloc _, hrow.alloc _, hnil⟩, hB1.alloc hB1.size _⟩ ⟨W.heap.size, hv.lt, blk_new W _ _, rfl⟩
  case body =>
    rintro l pre x a' W hl ⟨r, hr⟩ ⟨⟨v, hv, hrow, hnil⟩, hB1⟩ ⟨Bx, hBx, bX, rfl⟩ hlt
    obtain ⟨d0, d1, -⟩ := bX.two
    have hc := hv.cell
    gi_wp2_with (gi_at_builtin; refine wpListIn_append_own _ rfl _ _ 31 rfl w.heap.size 39 i0 (.agg #[.int .i8 0, .bool false]) 2 2 Try.underlying31 hi hz0 hz1 hz2 rfl (by decide) _ _ _ rfl (hrow.alloc _) ⟨W.heap.size, 0, none⟩ 1 1 [.int .i8 x.1, .bool x.2] rfl rfl (World.news_of_block (cs := #[.int .i8 x.1, .bool x.2]) (t := 39) (fr := (0, 0)) (heap_alloc_new W _)) (by simp [Value.oneCell']) (by unfold maxLen; omega) (by omega) (by have := hB1.size; simp; omega) ?_; intro v' w1 hown' hgrow _; obtain ⟨g', cap', rfl⟩ := ownsRow_succ hown'; obtain ⟨hv1, hv2, hr2, hk2, hb2⟩ := hv.appended (by decide) hrow hB1.size (Nat.le_refl _) hown' hgrow; have hc1 := hv1.cell; have hf1 := hv1.frozen)
    exact ⟨hk2.from _, ⟨hb2, fun cs t hb => hb.below hb2 hBn⟩, ⟨_, hv2, by rw [List.length_append, cvals_snoc]; exact hr2, by simp⟩, hB1.trans hb2⟩
  case done =>
    rintro D ys W hD rfl ⟨⟨v, hv, hrow, hnil⟩, hB⟩ hK
    have hc := hv.cell
    gi_wp2
    refine ⟨by simp, .inl ⟨_, _, rfl, run_takeDeferred hK, ?_⟩⟩
    exact ⟨_, results_tmp rfl _ _ _, v, rfl, ownsRow_putObj hrow _ hK rfl, hB.trans (belowK_b (w := w) (Nat.le_refl _) W D _ _ (by simp at hD; omega) hK rfl rfl)⟩
  case stop =>
    rintro D c pre W _ _ h _
    exact h.elim
/-- These values lie in block b from off on. -/
def VAt (w : World) (b off : Nat) (vs : List Value) : Prop := ∀ j v, vs[j]? = some v → w.cell? ⟨b, off + j, none⟩ = some v
theorem VAt.below {w w' : World} {b off B : Nat} {vs : List Value} (h : VAt w b off vs) (hb : Below B w w') (hB : b < B) : VAt w' b off vs := fun j v hj => (hb.cell (p := ⟨b, off + j, none⟩) hB).trans (h j v hj)
/-- A slice that a call has made, with room to write; nothing is known of one without elements. -/
def OwnX (lo : Nat) (w : World) (v : Value) (n : Nat) (vs : List Value) : Prop := ∃ a c, v = .slice a n c ∧ (vs = [] ∨ ∃ g, a = some ⟨g, 0, none⟩ ∧ lo ≤ g ∧ g < w.heap.size ∧ VAt w g 0 vs ∧ ∀ j, w.frozen? ⟨g, j, none⟩ = false)
theorem OwnX.ofOwns {B n size : Nat} {w : World} {v : Value} {t : TypeId} {vs : List Value} (h : w.ownsRow B t size v n vs) : OwnX B w v n vs := by
  have hv := h.1
  rcases h.2 with ⟨rfl, rfl⟩ | ⟨g, cap, cur, rfl, hB, hg, hnc, _, hs, htake⟩
  · exact ⟨none, 0, rfl, .inl (List.eq_nil_of_length_eq_zero (by rw [hv, Nat.zero_mul]))⟩
  · refine ⟨some ⟨g, 0, none⟩, cap, rfl, .inr ⟨g, rfl, hB, (Array.getElem?_eq_some_iff.1 hg).1, fun j u hu => ?_, fun j => by simp [World.frozen?, hg]⟩⟩
    have h1 : (cur.toList.take (n * size))[j]? = vs[j]? := by rw [htake]
    have hj : j < n * size := by rw [← hv]; exact (List.getElem?_eq_some_iff.1 hu).1
    rw [List.getElem?_take_of_lt hj, hu] at h1
    have h2 : cur[j]? = some u := by simpa using h1
    simp [World.cell?, hg, h2]
theorem OwnX.below {lo n : Nat} {w w' : World} {v : Value} {vs : List Value} (h : OwnX lo w v n vs) (hb : Below w.heap.size w w') : OwnX lo w' v n vs := by
  obtain ⟨a, c, rfl, h⟩ := h
  refine ⟨a, c, rfl, ?_⟩
  rcases h with h | ⟨g, rfl, h1, h2, h3, h4⟩
  · exact .inl h
  · exact .inr ⟨g, rfl, h1, Nat.lt_of_lt_of_le h2 hb.size, h3.below hb h2, fun j => by rw [hb.frozen (p := ⟨g, j, none⟩) h2]; exact h4 j⟩
theorem OwnX.mono {lo lo' n : Nat} {w : World} {v : Value} {vs : List Value} (h : OwnX lo w v n vs) (hl : lo' ≤ lo) : OwnX lo' w v n vs := by
  obtain ⟨a, c, rfl, h⟩ := h
  refine ⟨a, c, rfl, ?_⟩
  rcases h with h | ⟨g, rfl, h1, h2⟩
  · exact .inl h
  · exact .inr ⟨g, rfl, Nat.le_trans hl h1, h2⟩
theorem OwnX.nil (lo : Nat) (w : World) (a : Option Addr) (n c : Nat) : OwnX lo w (.slice a n c) n [] := ⟨a, c, rfl, .inl rfl⟩

/-- The cases of a task; none of one that is not valid. -/
noncomputable def casL (c k : Int) (n : Bool) : List Cs := if okT c k = true then upC k n c.toNat else []
noncomputable def casC (c k : Int) : Int := if okT c k = true then 0 else 1
theorem cas_t {c k : Int} (n : Bool) (h : okT c k = true) : casL c k n = upC k n c.toNat ∧ casC c k = 0 := by unfold casL casC; rw [if_pos h, if_pos h]; exact ⟨rfl, rfl⟩
theorem cas_f {c k : Int} (n : Bool) (h : okT c k = false) : casL c k n = [] ∧ casC c k = 1 := by unfold casL casC; simp [h]
theorem okT_t {c k : Int} (h : okT c k = true) : (1 ≤ c.toNat ∧ c.toNat ≤ 13) ∧ (0 ≤ k ∧ k ≤ 2) ∧ c = (c.toNat : Int) := by
  obtain ⟨h1, h2⟩ := of_cb h
  exact ⟨by omega, h2, by omega⟩
theorem casL_len (c k : Int) (n : Bool) : (casL c k n).length ≤ 27 := by
  unfold casL
  split
  case isTrue h => have := upC_len k n c.toNat; have := okT_t h; omega
  case isFalse h => simp
theorem collect_any (Bn : Nat) (m : Nat) (k : Int) (nn gg : Bool) (hm : 1 ≤ m ∧ m ≤ 13) (hk : 0 ≤ k ∧ k ≤ 2) (w : World) (hbk : Blk w Bn #[.int .i8 (m : Int), .int .i8 k, .bool nn, .bool gg] 26) :
    Calls Try.prog 34 #[.func (.func 47) #[] #[.pointer (some ⟨Bn, 0, none⟩)]] w fun e W' => ∃ v, e = .returned v ∧ W'.ownsRow w.heap.size 39 2 v (upC k nn m).length (cvals (upC k nn m)) ∧ Below w.heap.size w W' := by
  have HA := Lib.hid (callsIn_wide.1 (appendSeq_in Bn m k nn gg hm hk w hbk))
  go_enter Try.func34, Try.ntmps34
  go_wp2_with fail
  refine HA.out.mono ?_
  rintro e w' ⟨v, rfl, ho, hb⟩
  have HO := Lib.hid ho
  have HB := Lib.hid hb
  clear ho hb
  go_wp2_with fail
  go_ret
  exact ⟨_, rfl, HO.out, HB.out⟩
theorem casesOf_any (c k : Int) (nn gg : Bool) (w : World) (hc : B8 c) (hk : B8 k) :
    Calls Try.prog 15 #[taskV c k nn gg] w fun e W' => ∃ v, e = .returned (.tuple #[v, .int .i64 (casC c k)]) ∧ OwnX w.heap.size W' v (casL c k nn).length (cvals (casL c k nn)) ∧ Below w.heap.size w W' := by
  have F0 := (FR.start w).box #[.int .i8 c, .int .i8 k, .bool nn, .bool gg] 26
  have HV := Lib.hid (fun W => validTask_any c k nn gg W hc hk)
  clear hc hk
  cases hok : okT c k
  · rw [hok] at HV
    rw [(cas_f nn hok).1, (cas_f nn hok).2]
    clear hok
    go_enter Try.func15, Try.ntmps15
    go_wp2_with fail
    refine (HV.out _).mono ?_
    rintro e w2 ⟨rfl, hb⟩
    have F1 := F0.next hb
    clear hb F0
    go_wp2
    go_ret2
    exact ⟨_, rfl, OwnX.nil _ _ _ _ _, F1.below⟩
  · rw [hok] at HV
    obtain ⟨hm, hk, hmc⟩ := okT_t hok
    rw [(cas_t nn hok).1, (cas_t nn hok).2]
    clear hok
    generalize c.toNat = m at *
    subst hmc
    have HC := Lib.hid (fun W Bn (h : Blk W Bn #[.int .i8 (m : Int), .int .i8 k, .bool nn, .bool gg] 26) => collect_any Bn m k nn gg hm hk W h)
    have HQ := Lib.hid (fun W => callsIn_wide.1 (cases_in Fence.wide 5 trivial rfl (m : Int) k nn gg W))
    clear hm hk
    go_enter Try.func15, Try.ntmps15
    go_wp2_with fail
    refine (HV.out _).mono ?_
    rintro e w2 ⟨rfl, hb⟩
    have F1 := F0.next hb
    clear hb F0
    obtain ⟨c0, c1, c2, c3, -⟩ := (F1.blk _ List.mem_cons_self).four
    go_wp2_with fail
    refine (HQ.out _).mono ?_
    rintro e w3 ⟨rfl, rfl⟩
    have F2 := F1.box #[.int .i8 (m : Int), .int .i8 k, .bool nn, .bool gg] 26
    clear c0 c1 c2 c3 F1
    go_wp2_with fail
    refine (HC.out _ _ (F2.blk _ List.mem_cons_self)).mono ?_
    rintro e w4 ⟨v, rfl, ho, hb⟩
    have HO := Lib.hid ((OwnX.ofOwns ho).mono F2.size)
    have HB := Lib.hid (F2.next hb).below
    clear ho hb F2
    go_wp2
    go_ret2
    exact ⟨_, rfl, HO.out, HB.out⟩
/-- Where a case stands among those of a task. -/
noncomputable def fndV (c k : Int) (n : Bool) (x : Cs) : Nat := if okT c k = true then fcV (upC k n c.toNat) x else 0
noncomputable def fndC (c k : Int) (n : Bool) (x : Cs) : Int := if okT c k = true then fcC (upC k n c.toNat) x else 1
theorem findCase_any (c k : Int) (nn gg : Bool) (cc : Int) (hh : Bool) (w : World) (hc : B8 c) (hk : B8 k) :
    Calls Try.prog 21 #[taskV c k nn gg, caseV cc hh] w fun e W' => e = .returned (.tuple #[.int .i64 (fndV c k nn (cc, hh) : Nat), .int .i64 (fndC c k nn (cc, hh))]) ∧ Below w.heap.size w W' := by
  cases hok : okT c k
  · unfold fndV fndC
    rw [hok]
    simp only [Bool.false_eq_true, if_false]
    have F0 := ((((FR.start w).box #[.int .i8 c, .int .i8 k, .bool nn, .bool gg] 26).box #[.int .i8 cc, .bool hh] 39).box #[.int .i64 0] 2).box #[.int .i64 0] 2
    simp only [World.size_alloc] at F0
    have HV := Lib.hid (fun W => validTask_any c k nn gg W hc hk)
    rw [hok] at HV
    clear hc hk hok
    go_enter Try.func21, Try.ntmps21
    go_wp2_with fail
    refine (HV.out _).mono ?_
    rintro e w2 ⟨rfl, hb⟩
    have F1 := F0.next hb
    clear hb F0
    have b2 := F1.blk _ (List.mem_cons_of_mem _ List.mem_cons_self)
    have b1 := F1.blk _ List.mem_cons_self
    dsimp only at b1 b2
    have e0 := b2.cell 0
    have e1 := b1.cell 0
    have e2 := b2.free 0
    have e3 := b1.free 0
    have HF := Lib.hid F1
    clear F1
    go_wp2
    have k2 := (b2.set 0 (.int .i64 0)).setOther (show w.heap.size + 1 + 1 ≠ w.heap.size + 1 + 1 + 1 by omega) 0 (.int .i64 1)
    have k1 := (b1.setOther (show w.heap.size + 1 + 1 + 1 ≠ w.heap.size + 1 + 1 by omega) 0 (.int .i64 0)).set 0 (.int .i64 1)
    have r4 := k2.cell 0
    have r5 := k1.cell 0
    simp at r4 r5
    exact bodyPost_ret (v := .tuple #[.int .i64 0, .int .i64 1]) (by simp [results, Try.results21, go_sem, r4, r5]) rfl ⟨rfl, setAt (setAt HF.out.below (by omega) 0 _) (by omega) 0 _⟩
  · obtain ⟨hm, hk', hmc⟩ := okT_t hok
    unfold fndV fndC
    rw [hok]
    simp only [if_true]
    rw [hmc]
    simp only [Int.toNat_natCast]
    exact callsIn_wide.1 (findCase_in c.toNat k nn gg cc hh hm hk' w)
end Go.Proofs.Ytgckboaejpgalaa
