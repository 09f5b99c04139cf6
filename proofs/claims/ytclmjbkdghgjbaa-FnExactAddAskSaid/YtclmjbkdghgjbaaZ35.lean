/-
  The walk of the model of a further question.
-/
import Derived.Test.YtclmjbkdghgjbaaZ34
import Derived.Test.YtclmjbkdghgjbaaZ33
import Derived.Deep.RegionHeld3
namespace Go.Proofs.Ytclmjbkdghgjbaa
open Go.RowKit
set_option maxRecDepth 100000
set_option linter.unusedVariables false

/-- append onto a row of one's own, at a step of a region that draws its order. -/
theorem step_append_mine {P : Program} (w : World) {ops : Array Oper} {o : Oper} {a : Act} {K : Act → World → Prop} {Q : Exit → Act → World → Prop} {E : Prop} (hgd : o.guard = none) (s x : Operand) (t : TypeId)
    (ho : o.op = .call { callee := .builtin .append, args := #[s, x], argTypes := #[t, t] })
    (base : Nat) (e : TypeId) (i : TypeInfo) (z : Value) (size bytes : Nat) (ht : P.underlying t = some (.slice e)) (hi : P.info? e = some i) (hz : i.zero = some z)
    (hsize : i.size = size) (hby : i.bytes = bytes) (hzs : z.cells.size = size) (hsz : 0 < size)
    (v : Value) (n : Nat) (xs : List Value) (hs : a.eval s = v) (hown : w.ownsRow base e size v n xs)
    (ad : Addr) (m c : Nat) (news : List Value) (hx : a.eval x = .slice (some ad) m c) (hl : news.length = m * size) (hnews : ∀ j u, news[j]? = some u → w.cell? (ad.add j) = some u) (h1 : ∀ u ∈ news, u.oneCell' = true)
    (h63 : n + m ≤ maxLen) (hbytes : (n + m) * bytes ≤ 140737488355328) (hbase : base ≤ w.heap.size)
    (h : ∀ v' w', w'.ownsRow base e size v' (n + m) (xs ++ news) → w.grownBy w' v.ownBlock → K (a.put o.dst v') w') :
    if Region.wanted o (yielded ops a.tmps) = true then Oper.wp P o a w K Q else E := by
  have hw : Region.wanted o (yielded ops a.tmps) = true := by simp [Region.wanted, hgd]
  rw [if_pos hw]
  obtain ⟨v', w', hr, h2, h3, _⟩ := run_append_own (P := P) w base t o.type e i z size bytes ht hi hz hsize hby hzs hsz v n xs hown ad m c news hl hnews h1 h63 hbytes hbase
  unfold Oper.wp execOp
  simp only [ho, resolve, invoke, builtin, Sem.run_bind, Sem.run_pure, Result.andThen_ok, List.map_toArray, List.map_cons, List.map_nil, hs, hx, hr]
  exact h v' w' h2 h3
theorem Blk.grownBlk {w w' : World} {b : Nat} {cs : Array Value} {t : TypeId} {row : Option Nat} (h : Blk w b cs t) (hg : w.grownBy w' row) (hne : (some b == row) = false) : Blk w' b cs t :=
  (hg.block b h.lt (fun e => by rw [e] at hne; simp at hne)).trans h
theorem res_l06With {W : World} {b : Nat} {v0 v1 v2 : Value} (K : Blk W b #[v0, v1, v2] 25) (tmps : Array Value) (h4 : tmps.getD 6 undef = .pointer (some ⟨b, 0, none⟩)) : (results Try.f33 tmps).run Try.prog W = .ok (.agg #[v0, v1, v2]) W := by
  have h4' : tmps[6]?.getD undef = .pointer (some ⟨b, 0, none⟩) := by simpa using h4
  obtain ⟨e0, e1, e2, -⟩ := K.three
  simp [results, Try.results33, go_sem, e0, e1, e2, h4']
theorem own_set3 {w : World} {b gq cq B : Nat} {xs : List Ak} (hne : b < gq) (hlt : gq < w.heap.size) (h : AAt w gq 0 xs) (hf : ∀ j, w.frozen? ⟨gq, j, none⟩ = false) (u0 u1 u2 : Value) (hB : B ≤ b := by exact Nat.le_refl _) :
    OwnA B (((w.setCell ⟨b, 0, none⟩ u0).setCell ⟨b, 1, none⟩ u1).setCell ⟨b, 2, none⟩ u2) (.slice (some ⟨gq, 0, none⟩) xs.length cq) xs := by
  have hn : gq ≠ b := by omega
  have hc : ∀ o, (((w.setCell ⟨b, 0, none⟩ u0).setCell ⟨b, 1, none⟩ u1).setCell ⟨b, 2, none⟩ u2).cell? ⟨gq, o, none⟩ = w.cell? ⟨gq, o, none⟩ := fun o => by
    rw [World.cell?_setCell_other _ _ _ _ (by simp <;> omega), World.cell?_setCell_other _ _ _ _ (by simp <;> omega), World.cell?_setCell_other _ _ _ _ (by simp <;> omega)]
  refine ⟨gq, cq, rfl, by omega, by rw [World.size_setCell, World.size_setCell, World.size_setCell]; exact hlt, fun j hj => ?_, fun j => by rw [World.frozen?_setCell, World.frozen?_setCell, World.frozen?_setCell]; exact hf j⟩
  rw [hc, hc]
  exact h j hj
set_option maxHeartbeats 4000000 in
theorem l06With_any (fb : Nat) (l k : Int) (g c : Nat) (ws : List Ak) (q : Ak) (w : World) (K : Blk w fb #[.int .i8 l, .int .i8 k, .slice (some ⟨g, 0, none⟩) ws.length c] 25) (hg : g < w.heap.size) (hr : AAt w g 0 ws) (hn : ws.length ≤ 60) :
    Calls Try.prog 33 #[.pointer (some ⟨fb, 0, none⟩), .int .u64 q.1, .bool q.2] w fun e w' => ∃ v, e = .returned (.agg #[.int .i8 l, .int .i8 k, v]) ∧ OwnA w.heap.size w' v (ws ++ [q]) ∧ Below w.heap.size w w' := by
  obtain ⟨i0, hi, hz0, hz1, hz2⟩ := ask_parts
  have HK := Lib.hid K
  have F0 := (FR.start w).box #[.int .i8 0, .int .i8 0, .slice none 0 0] 25
  have k0 := F0.blk _ List.mem_cons_self
  have HB0 := Lib.hid F0.below
  have hr1 := hr.below F0.below hg
  have K1 := K.below F0.below K.lt
  have hg1 := Nat.lt_of_lt_of_le hg F0.below.size
  have hz := F0.below.size
  go_enter Try.func33, Try.ntmps33
  go_wp2_with fail
  obtain ⟨w1, hw1⟩ : ∃ w1, w1 = w.alloc (.cells #[.int .i8 0, .int .i8 0, .slice none 0 0] 25) := ⟨_, rfl⟩
  have HN : w1.heap.size = w.heap.size + 1 := by rw [hw1, World.size_alloc]
  simp only [← hw1] at *
  have KR := Lib.hid k0
  obtain ⟨d0, d1, d2, -⟩ := K1.three
  obtain ⟨r0, r1, r2, -⟩ := k0.three
  have hL1 := Lib.hid (show (alist ws).length = ws.length * 2 from alist_len ws)
  have hL2 := Lib.hid (show (alist [q]).length = 1 * 2 from rfl)
  have hm1 := Lib.hid (show 0 + ws.length ≤ maxLen by unfold maxLen; omega)
  have hm2 := Lib.hid (show (0 + ws.length) * 16 ≤ 140737488355328 by omega)
  have hm3 := Lib.hid (show 0 + ws.length + 1 ≤ maxLen by unfold maxLen; omega)
  have hm4 := Lib.hid (show (0 + ws.length + 1) * 16 ≤ 140737488355328 by omega)
  have hln := Lib.hid (show 0 + ws.length + 1 = (ws ++ [q]).length by simp)
  have hO1 := World.ownsRow_made (base := w1.heap.size) (e := 63) (size := 2) w1 #[] 0 (Nat.le_refl _) (by unfold maxLen; omega) (by simp)
  have HOA1 := Lib.hid (show (w1.alloc (.cells #[] 63)).drew.ownsRow w1.heap.size 63 2 (.slice (some ⟨w1.heap.size, 0, none⟩) 0 0) 0 (alist []) from hO1)
  have HOA2 := Lib.hid (show ((w1.alloc (.cells #[] 63)).alloc (.cells #[.int .u64 q.1, .bool q.2] 63)).drew.ownsRow w1.heap.size 63 2 (.slice (some ⟨w1.heap.size, 0, none⟩) 0 0) 0 (alist []) from hO1.alloc _)
  have hO3 := World.ownsRow_made (base := w1.heap.size) (e := 63) (size := 2) (w1.alloc (.cells #[.int .u64 q.1, .bool q.2] 63)) #[] 0 (by simp) (by unfold maxLen; omega) (by simp)
  rw [World.size_alloc] at hO3
  have HOA3 := Lib.hid (show ((w1.alloc (.cells #[.int .u64 q.1, .bool q.2] 63)).alloc (.cells #[] 63)).drew.ownsRow w1.heap.size 63 2 (.slice (some ⟨w1.heap.size + 1, 0, none⟩) 0 0) 0 (alist []) from hO3)
  have hbA := (Below.refl w1.heap.size w1).alloc (Nat.le_refl _) (.cells #[] 63)
  have hbB := (Below.refl w1.heap.size w1).alloc (Nat.le_refl _) (.cells #[.int .u64 q.1, .bool q.2] 63)
  have HBA1 := Lib.hid (show Below w1.heap.size w1 (w1.alloc (.cells #[] 63)).drew from hbA.drew)
  have HBA2 := Lib.hid (show Below w1.heap.size w1 ((w1.alloc (.cells #[] 63)).alloc (.cells #[.int .u64 q.1, .bool q.2] 63)).drew from (hbA.alloc hbA.size _).drew)
  have HBA3 := Lib.hid (show Below w1.heap.size w1 ((w1.alloc (.cells #[.int .u64 q.1, .bool q.2] 63)).alloc (.cells #[] 63)).drew from (hbB.alloc hbB.size _).drew)
  have HA1 := Lib.hid (hr1.below HBA1.out hg1)
  have HA2 := Lib.hid (hr1.below HBA2.out hg1)
  have HA3 := Lib.hid (hr1.below HBA3.out hg1)
  have hB2 := Lib.hid (show Blk ((w1.alloc (.cells #[] 63)).alloc (.cells #[.int .u64 q.1, .bool q.2] 63)).drew (w1.heap.size + 1) #[.int .u64 q.1, .bool q.2] 63 by
    have := blk_new (w1.alloc (.cells #[] 63)) #[.int .u64 q.1, .bool q.2] 63
    rw [World.size_alloc] at this
    exact this)
  have hB3 := Lib.hid (show Blk ((w1.alloc (.cells #[.int .u64 q.1, .bool q.2] 63)).alloc (.cells #[] 63)).drew w1.heap.size #[.int .u64 q.1, .bool q.2] 63 from by
    have h := blk_new w1 #[.int .u64 q.1, .bool q.2] 63
    exact h.below ((Below.refl (w1.heap.size + 1) (w1.alloc (.cells #[.int .u64 q.1, .bool q.2] 63))).alloc (by rw [World.size_alloc]; exact Nat.le_refl _) (.cells #[] 63)).drew (Nat.lt_succ_self _))
  have HN1 := Lib.hid HN
  clear hO1 hO3 hbA hbB K hr hr1 hg F0 k0 HN
  clear hw1
  have kp : ∀ W', Below w1.heap.size w1 W' → (W'.cell? ⟨fb, 0, none⟩ = some (.int .i8 l) ∧ W'.cell? ⟨fb, 1, none⟩ = some (.int .i8 k) ∧ W'.cell? ⟨fb, 2, none⟩ = some (.slice (some ⟨g, 0, none⟩) ws.length c)) := by
    intro W' h
    obtain ⟨d0, d1, d2, -⟩ := (K1.below h K1.lt).three
    exact ⟨d0, d1, d2⟩
  have kq : ∀ W', Below w.heap.size w W' → (W'.cell? ⟨fb, 0, none⟩ = some (.int .i8 l) ∧ W'.cell? ⟨fb, 1, none⟩ = some (.int .i8 k) ∧ W'.cell? ⟨fb, 2, none⟩ = some (.slice (some ⟨g, 0, none⟩) ws.length c)) := by
    intro W' h
    obtain ⟨d0, d1, d2, -⟩ := (HK.out.below h HK.out.lt).three
    exact ⟨d0, d1, d2⟩
  have hB0 : Below w1.heap.size w1 w1.drew := (Below.refl _ _).drew
  have hBA1 := HBA1.out
  have hBA2 := HBA2.out
  have hBA3 := HBA3.out
  have hBB1 : Below w1.heap.size w1 (w1.alloc (.cells #[.int .u64 q.1, .bool q.2] 63)).drew := ((Below.refl w1.heap.size w1).alloc (Nat.le_refl _) (.cells #[.int .u64 q.1, .bool q.2] 63)).drew
  clear K1 d0 d1 d2
  go_region_held3 (fun W' => W'.cell? ⟨fb, 0, none⟩ = some (.int .i8 l) ∧ W'.cell? ⟨fb, 1, none⟩ = some (.int .i8 k) ∧ W'.cell? ⟨fb, 2, none⟩ = some (.slice (some ⟨g, 0, none⟩) ws.length c))
    (first | with_reducible exact kp _ hB0 | with_reducible exact kp _ hBA1 | with_reducible exact kp _ hBA2 | with_reducible exact kp _ hBA3 | with_reducible exact kp _ hBB1 | with_reducible exact kp _ hB4 | with_reducible exact kp _ hB4b | with_reducible exact kp _ hB5 | with_reducible exact kq _ hB6)
    (first
    | (refine step_append_mine (w1.alloc (.cells #[] 63)).drew (by rfl) _ _ _ (by rfl) w1.heap.size 63 i0 (.agg #[.int .u64 0, .bool false]) 2 16 Try.underlying23 hi hz0 hz1 hz2 rfl (by decide) _ 0 (alist []) (by rfl) HOA1.out ⟨g, 0, none⟩ ws.length c (alist ws) (by rfl) hL1.out HA1.out.news (alist_one ws) hm1.out hm2.out HBA1.out.size ?_; intro v1 w4 hown1 hg1; have HB4 := Lib.hid (HBA1.out.grown hg1 HBA1.out.size (fun j hj => (HOA1.out.lt j hj).1)); have hB4 := HB4.out; have HO1 := Lib.hid hown1; have hB4b := hB4.alloc hB4.size (.cells #[.int .u64 q.1, .bool q.2] 63); have HQ1 := Lib.hid (one_of (blk_new w4 #[.int .u64 q.1, .bool q.2] 63)); clear hown1 hg1)
    | (refine step_append_mine ((w1.alloc (.cells #[.int .u64 q.1, .bool q.2] 63)).alloc (.cells #[] 63)).drew (by rfl) _ _ _ (by rfl) w1.heap.size 63 i0 (.agg #[.int .u64 0, .bool false]) 2 16 Try.underlying23 hi hz0 hz1 hz2 rfl (by decide) _ 0 (alist []) (by rfl) HOA3.out ⟨g, 0, none⟩ ws.length c (alist ws) (by rfl) hL1.out HA3.out.news (alist_one ws) hm1.out hm2.out HBA3.out.size ?_; intro v1 w4 hown1 hg1; have HB4 := Lib.hid (HBA3.out.grown hg1 HBA3.out.size (fun j hj => (HOA3.out.lt j hj).1)); have hB4 := HB4.out; have HO1 := Lib.hid hown1; have HQ3 := Lib.hid (one_of (hB3.out.grownBlk hg1 (by simp [Value.ownBlock]))); clear hown1 hg1)
    | (refine step_append_mine _ (by rfl) _ _ _ (by rfl) w1.heap.size 63 i0 (.agg #[.int .u64 0, .bool false]) 2 16 Try.underlying23 hi hz0 hz1 hz2 rfl (by decide) _ _ _ (by rfl) (HO1.out.alloc (.cells #[.int .u64 q.1, .bool q.2] 63)) ⟨w4.heap.size, 0, none⟩ 1 1 (alist [q]) (by rfl) hL2.out (HQ1.out).news (alist_one [q]) hm3.out hm4.out (HB4.out.alloc HB4.out.size (.cells #[.int .u64 q.1, .bool q.2] 63)).size ?_; intro v2 w5 hown2 hg2; have HB5 := Lib.hid ((HB4.out.alloc HB4.out.size (.cells #[.int .u64 q.1, .bool q.2] 63)).grown hg2 (HB4.out.alloc HB4.out.size (.cells #[.int .u64 q.1, .bool q.2] 63)).size (fun j hj => (((HO1.out.alloc (.cells #[.int .u64 q.1, .bool q.2] 63))).lt j hj).1)); have hB5 := HB5.out; obtain ⟨gq, cq, hvq, hq1, hq2, hq3, hq4⟩ := OwnA.ofOwns (B := w1.heap.size) (xs := ws ++ [q]) hln.out (Nat.succ_pos _) (show w5.ownsRow _ _ 2 v2 _ (alist (ws ++ [q])) from by rw [alist_app]; exact hown2); subst hvq; have hB6 : Below w.heap.size w (((w5.setCell ⟨w.heap.size, 0, none⟩ (.int .i8 l)).setCell ⟨w.heap.size, 1, none⟩ (.int .i8 k)).setCell ⟨w.heap.size, 2, none⟩ (.slice (some ⟨gq, 0, none⟩) (ws.length + 1) cq)) := below_set3 (HB0.out.trans (hB5.mono hz)) (Nat.le_refl _) _ _ _; have HQF := Lib.hid (show gq < w5.heap.size ∧ w1.heap.size ≤ gq ∧ AAt w5 gq 0 (ws ++ [q]) ∧ ∀ j, w5.frozen? ⟨gq, j, none⟩ = false from ⟨hq2, hq1, hq3, hq4⟩); obtain ⟨r0, r1, r2, r3⟩ := (KR.out.below HB5.out KR.out.lt).three; clear hown2 hg2 hq1 hq2 hq3 hq4)
    | (refine step_append_mine _ (by rfl) _ _ _ (by rfl) w1.heap.size 63 i0 (.agg #[.int .u64 0, .bool false]) 2 16 Try.underlying23 hi hz0 hz1 hz2 rfl (by decide) _ _ _ (by rfl) HO1.out ⟨w1.heap.size + 1, 0, none⟩ 1 1 (alist [q]) (by rfl) hL2.out (HQ2.out).news (alist_one [q]) hm3.out hm4.out (HB4.out).size ?_; intro v2 w5 hown2 hg2; have HB5 := Lib.hid ((HB4.out).grown hg2 (HB4.out).size (fun j hj => ((HO1.out).lt j hj).1)); have hB5 := HB5.out; obtain ⟨gq, cq, hvq, hq1, hq2, hq3, hq4⟩ := OwnA.ofOwns (B := w1.heap.size) (xs := ws ++ [q]) hln.out (Nat.succ_pos _) (show w5.ownsRow _ _ 2 v2 _ (alist (ws ++ [q])) from by rw [alist_app]; exact hown2); subst hvq; have hB6 : Below w.heap.size w (((w5.setCell ⟨w.heap.size, 0, none⟩ (.int .i8 l)).setCell ⟨w.heap.size, 1, none⟩ (.int .i8 k)).setCell ⟨w.heap.size, 2, none⟩ (.slice (some ⟨gq, 0, none⟩) (ws.length + 1) cq)) := below_set3 (HB0.out.trans (hB5.mono hz)) (Nat.le_refl _) _ _ _; have HQF := Lib.hid (show gq < w5.heap.size ∧ w1.heap.size ≤ gq ∧ AAt w5 gq 0 (ws ++ [q]) ∧ ∀ j, w5.frozen? ⟨gq, j, none⟩ = false from ⟨hq2, hq1, hq3, hq4⟩); obtain ⟨r0, r1, r2, r3⟩ := (KR.out.below HB5.out KR.out.lt).three; clear hown2 hg2 hq1 hq2 hq3 hq4)
    | (refine step_append_mine _ (by rfl) _ _ _ (by rfl) w1.heap.size 63 i0 (.agg #[.int .u64 0, .bool false]) 2 16 Try.underlying23 hi hz0 hz1 hz2 rfl (by decide) _ _ _ (by rfl) HO1.out ⟨w1.heap.size, 0, none⟩ 1 1 (alist [q]) (by rfl) hL2.out (HQ3.out).news (alist_one [q]) hm3.out hm4.out (HB4.out).size ?_; intro v2 w5 hown2 hg2; have HB5 := Lib.hid ((HB4.out).grown hg2 (HB4.out).size (fun j hj => ((HO1.out).lt j hj).1)); have hB5 := HB5.out; obtain ⟨gq, cq, hvq, hq1, hq2, hq3, hq4⟩ := OwnA.ofOwns (B := w1.heap.size) (xs := ws ++ [q]) hln.out (Nat.succ_pos _) (show w5.ownsRow _ _ 2 v2 _ (alist (ws ++ [q])) from by rw [alist_app]; exact hown2); subst hvq; have hB6 : Below w.heap.size w (((w5.setCell ⟨w.heap.size, 0, none⟩ (.int .i8 l)).setCell ⟨w.heap.size, 1, none⟩ (.int .i8 k)).setCell ⟨w.heap.size, 2, none⟩ (.slice (some ⟨gq, 0, none⟩) (ws.length + 1) cq)) := below_set3 (HB0.out.trans (hB5.mono hz)) (Nat.le_refl _) _ _ _; have HQF := Lib.hid (show gq < w5.heap.size ∧ w1.heap.size ≤ gq ∧ AAt w5 gq 0 (ws ++ [q]) ∧ ∀ j, w5.frozen? ⟨gq, j, none⟩ = false from ⟨hq2, hq1, hq3, hq4⟩); obtain ⟨r0, r1, r2, r3⟩ := (KR.out.below HB5.out KR.out.lt).three; clear hown2 hg2 hq1 hq2 hq3 hq4)
    | (refine step_append_mine ((w1.alloc (.cells #[] 63)).alloc (.cells #[.int .u64 q.1, .bool q.2] 63)).drew (by rfl) _ _ _ (by rfl) w1.heap.size 63 i0 (.agg #[.int .u64 0, .bool false]) 2 16 Try.underlying23 hi hz0 hz1 hz2 rfl (by decide) _ 0 (alist []) (by rfl) HOA2.out ⟨g, 0, none⟩ ws.length c (alist ws) (by rfl) hL1.out HA2.out.news (alist_one ws) hm1.out hm2.out HBA2.out.size ?_; intro v1 w4 hown1 hg1; have HB4 := Lib.hid (HBA2.out.grown hg1 HBA2.out.size (fun j hj => (HOA2.out.lt j hj).1)); have hB4 := HB4.out; have HO1 := Lib.hid hown1; have HQ2 := Lib.hid (one_of (hB2.out.grownBlk hg1 (by simp [Value.ownBlock]))); clear hown1 hg1))
  all_goals
    have HR6 := Lib.hid (Blk.set3 (KR.out.below HB5.out KR.out.lt) (.int .i8 l) (.int .i8 k) (.slice (some ⟨gq, 0, none⟩) (ws.length + 1) cq))
    have HB66 := Lib.hid hB6
    have HO6 := Lib.hid (own_set3 (b := w.heap.size) (B := w.heap.size) (cq := cq) (show w.heap.size < gq by have := HQF.out.2.1; have := HN1.out; omega) HQF.out.1 HQF.out.2.2.1 HQF.out.2.2.2 (.int .i8 l) (.int .i8 k) (.slice (some ⟨gq, 0, none⟩) (ws.length + 1) cq))
    rw [show (ws ++ [q]).length = ws.length + 1 by simp] at HO6
    clear kp kq hB0 hBA1 hBA2 hBA3 hBB1 hB4 hB5 hB6
    go_wp2
    exact bodyPost_ret (res_l06With HR6.out _ rfl) rfl ⟨_, rfl, HO6.out, HB66.out⟩
theorem z35_mark : True := trivial
end Go.Proofs.Ytclmjbkdghgjbaa
