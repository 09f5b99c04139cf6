/-
  The contracts of AddWord.
-/
import Derived.Test.YtimdicpjpgdcbaaV1
import Derived.Deep.RegionHeld3
namespace Go.Proofs.Ytimdicpjpgdcbaa
open Go.RowKit
set_option maxRecDepth 100000
set_option linter.unusedVariables false

theorem step_append_mine {P : Program} (w : World) {ops : Array Oper} {o : Oper} {a : Act} {K : Act → World → Prop} {Q : Exit → Act → World → Prop} {E : Prop} (hgd : o.guard = none) (s x : Operand) (t : TypeId)
    (ho : o.op = .call { callee := .builtin .append, args := #[s, x], argTypes := #[t, t] })
    (base : Nat) (e : TypeId) (i : TypeInfo) (z : Value) (size bytes : Nat) (ht : P.underlying t = some (.slice e)) (hi : P.info? e = some i) (hz : i.zero = some z)
    (hsize : i.size = size) (hby : i.bytes = bytes) (hzs : z.cells.size = size) (hsz : 0 < size)
    (v : Value) (n : Nat) (xs : List Value) (hs : a.eval s = v) (hown : w.ownsRow base e size v n xs)
    (ad : Addr) (m c : Nat) (news : List Value) (hx : a.eval x = .slice (some ad) m c) (hl : news.length = m * size) (hnews : ∀ j u, news[j]? = some u → w.cell? (ad.add j) = some u) (h1 : ∀ u ∈ news, u.oneCell' = true)
    (h63 : n + m ≤ maxLen) (hbytes : (n + m) * bytes ≤ 140737488355328) (hbase : base ≤ w.heap.size)
    (h : ∀ v' w', w'.ownsRow base e size v' (n + m) (xs ++ news) → w.grownBy w' v.ownBlock → K (a.put o.dst v') w') :
    if Region.wanted o (yielded ops a.tmps) = true then Oper.wp P o a w K Q else E := by
  have hw : Region.wanted o (yielded ops a.tmps) = true := by simp [Region.wanted, hgd]
  rw [if_pos hw]
  obtain ⟨v', w', hr, h2, h3, _⟩ := run_append_own (P := P) w base t o.type e i z size bytes ht hi hz hsize hby hzs hsz v n xs hown ad m c news hl hnews h1 h63 hbytes hbase
  unfold Oper.wp execOp
  simp only [ho, resolve, invoke, builtin, Sem.run_bind, Sem.run_pure, Result.andThen_ok, List.map_toArray, List.map_cons, List.map_nil, hs, hx, hr]
  exact h v' w' h2 h3
theorem Blk.set3 {w : World} {b : Nat} {v0 v1 v2 : Value} {t : TypeId} (h : Blk w b #[v0, v1, v2] t) (u0 u1 u2 : Value) :
    Blk (((w.setCell ⟨b, 0, none⟩ u0).setCell ⟨b, 1, none⟩ u1).setCell ⟨b, 2, none⟩ u2) b #[u0, u1, u2] t := ((h.set 0 u0).set 1 u1).set 2 u2
theorem below_set3 {n : Nat} {a w : World} (h : Below n a w) {b : Nat} (hb : n ≤ b) (u0 u1 u2 : Value) : Below n a (((w.setCell ⟨b, 0, none⟩ u0).setCell ⟨b, 1, none⟩ u1).setCell ⟨b, 2, none⟩ u2) :=
  ((h.setCell (p := ⟨b, 0, none⟩) hb u0).setCell (p := ⟨b, 1, none⟩) hb u1).setCell (p := ⟨b, 2, none⟩) hb u2
/-- What a block holds is as it was when another one is written. -/
theorem wat_other {w : World} {b g : Nat} {xs : List Wf} (h : WAt w g 0 xs) (hne : g ≠ b) (i : Nat) (v : Value) : WAt (w.setCell ⟨b, i, none⟩ v) g 0 xs := fun j hj i hi => by
  rw [World.cell?_setCell_other _ _ _ _ (by simp <;> omega)]
  exact h j hj i hi
theorem OwnB.set {B b : Nat} {w : World} {q n cq : Nat} {xs : List Wf} (h : OwnB B w (.slice (some ⟨q, 0, none⟩) n cq) xs) (hne : b ≠ q) (i : Nat) (v : Value) : OwnB B (w.setCell ⟨b, i, none⟩ v) (.slice (some ⟨q, 0, none⟩) n cq) xs := by
  obtain ⟨g, c, hv, h1, h2, h3, h4⟩ := h
  obtain ⟨⟨⟩, rfl, rfl⟩ := (by simpa using hv : q = g ∧ n = xs.length ∧ cq = c)
  exact ⟨q, cq, rfl, h1, by rw [World.size_setCell]; exact h2, wat_other h3 (Ne.symm hne) i v, fun j => by rw [World.frozen?_setCell]; exact h4 j⟩
theorem OwnB.set3 {B b : Nat} {w : World} {q n cq : Nat} {xs : List Wf} (h : OwnB B w (.slice (some ⟨q, 0, none⟩) n cq) xs) (hne : b ≠ q) (u0 u1 u2 : Value) :
    OwnB B (((w.setCell ⟨b, 0, none⟩ u0).setCell ⟨b, 1, none⟩ u1).setCell ⟨b, 2, none⟩ u2) (.slice (some ⟨q, 0, none⟩) n cq) xs := ((h.set hne 0 u0).set hne 1 u1).set hne 2 u2
theorem owns_set {w : World} {base n b : Nat} {t : TypeId} {v : Value} {xs : List Value} (h : w.ownsRow base t 4 v n xs) (hb : b < base) (i : Nat) (u : Value) : (w.setCell ⟨b, i, none⟩ u).ownsRow base t 4 v n xs := by
  refine ⟨h.1, ?_⟩
  rcases h.2 with hn | ⟨g, cap, cur, hv, hB, hg, hr⟩
  · exact .inl hn
  · exact .inr ⟨g, cap, cur, hv, hB, (heap_setCell_other w ⟨b, i, none⟩ g u (show g ≠ b by omega)).trans hg, hr⟩
theorem owns_set3 {w : World} {base n b : Nat} {t : TypeId} {v : Value} {xs : List Value} (h : w.ownsRow base t 4 v n xs) (hb : b < base) (u0 u1 u2 : Value) :
    (((w.setCell ⟨b, 0, none⟩ u0).setCell ⟨b, 1, none⟩ u1).setCell ⟨b, 2, none⟩ u2).ownsRow base t 4 v n xs := owns_set (owns_set (owns_set h hb 0 u0) hb 1 u1) hb 2 u2
theorem owns_ne {w : World} {base n b q cq : Nat} {t t' : TypeId} {cs : Array Value} {xs : List Value} (k : Blk w b cs t') (h : w.ownsRow base t 4 (.slice (some ⟨q, 0, none⟩) n cq) n xs) (hne : t ≠ t') : q ≠ b := by
  rintro rfl
  rcases h.2 with ⟨hv, _⟩ | ⟨g, cap, cur, hv, _, hg, _⟩
  · cases hv
  · obtain ⟨rfl, -⟩ := (by simpa using hv : q = g ∧ cq = cap)
    rw [show w.heap[q]? = _ from k] at hg
    simp only [Option.some.injEq, Obj.cells.injEq] at hg
    exact hne hg.2.1.symm
theorem res_l04Copy {W : World} {b : Nat} {v0 v1 v2 : Value} (K : Blk W b #[v0, v1, v2] 30) (tmps : Array Value) (h4 : tmps.getD 2 undef = .pointer (some ⟨b, 0, none⟩)) : (results Try.f18 tmps).run Try.prog W = .ok (.agg #[v0, v1, v2]) W := by
  have h4' : tmps[2]?.getD undef = .pointer (some ⟨b, 0, none⟩) := by simpa using h4
  obtain ⟨e0, e1, e2, -⟩ := K.three
  simp [results, Try.results18, go_sem, e0, e1, e2, h4']
set_option maxHeartbeats 4000000 in
theorem l04Copy_any (fb : Nat) (l k : Int) (g c : Nat) (ws : List Wf) (w : World) (K : Blk w fb #[.int .i8 l, .int .i8 k, .slice (some ⟨g, 0, none⟩) ws.length c] 30) (hr : Src w g 0 ws) (hn1 : 1 ≤ ws.length) (hn : ws.length ≤ 80) :
    Calls Try.prog 18 #[.pointer (some ⟨fb, 0, none⟩)] w fun e w' => ∃ gq cq, e = .returned (.agg #[.int .i8 l, .int .i8 k, .slice (some ⟨gq, 0, none⟩) ws.length cq]) ∧ w'.ownsRow (w.heap.size + 1) 34 4 (.slice (some ⟨gq, 0, none⟩) ws.length cq) ws.length (wlist ws) ∧ Below w.heap.size w w' := by
  obtain ⟨i0, hi, hz0, hz1, hz2⟩ := wd_parts
  have HK := Lib.hid K
  have F0 := (FR.start w).box #[.int .i8 0, .int .i8 0, .slice none 0 0] 30
  have k0 := F0.blk _ List.mem_cons_self
  have HB0 := Lib.hid F0.below
  have hr1 := hr.below F0.below
  have hz := F0.below.size
  go_enter Try.func18, Try.ntmps18
  go_wp2_with fail
  obtain ⟨w1, hw1⟩ : ∃ w1, w1 = w.alloc (.cells #[.int .i8 0, .int .i8 0, .slice none 0 0] 30) := ⟨_, rfl⟩
  have HN : w1.heap.size = w.heap.size + 1 := by rw [hw1, World.size_alloc]
  simp only [← hw1] at *
  have KR := Lib.hid k0
  have hL1 := Lib.hid (wlist_len ws)
  have hu1 := Lib.hid (wlist_one ws)
  have hm1 := Lib.hid (show 0 + ws.length ≤ maxLen by unfold maxLen; omega)
  have hm2 := Lib.hid (show (0 + ws.length) * 4 ≤ 140737488355328 by omega)
  have hO1 := World.ownsRow_made (base := w1.heap.size) (e := 34) (size := 4) w1 #[] 0 (Nat.le_refl _) (by unfold maxLen; omega) (by simp)
  have HOA1 := Lib.hid (show (w1.alloc (.cells #[] 34)).drew.ownsRow w1.heap.size 34 4 (.slice (some ⟨w1.heap.size, 0, none⟩) 0 0) 0 (wlist []) from hO1)
  have hBA1 : Below w1.heap.size w1 (w1.alloc (.cells #[] 34)).drew := ((Below.refl w1.heap.size w1).alloc (Nat.le_refl _) (.cells #[] 34)).drew
  have HBA1 := Lib.hid hBA1
  have HA1 := Lib.hid (hr1.below HBA1.out)
  have HN1 := Lib.hid HN
  have HLE := Lib.hid (show 0 < ws.length from hn1)
  have kq : ∀ W', Below w.heap.size w W' → (W'.cell? ⟨fb, 0, none⟩ = some (.int .i8 l) ∧ W'.cell? ⟨fb, 1, none⟩ = some (.int .i8 k) ∧ W'.cell? ⟨fb, 2, none⟩ = some (.slice (some ⟨g, 0, none⟩) ws.length c)) := by
    intro W' h
    obtain ⟨d0, d1, d2, -⟩ := (HK.out.below h HK.out.lt).three
    exact ⟨d0, d1, d2⟩
  have hC0 : Below w.heap.size w w1.drew := HB0.out.drew
  have hC1 : Below w.heap.size w (w1.alloc (.cells #[] 34)).drew := HB0.out.trans (hBA1.mono hz)
  clear hO1 K hr hr1 F0 k0 HN hw1 hBA1
  go_region_held3 (fun W' => W'.cell? ⟨fb, 0, none⟩ = some (.int .i8 l) ∧ W'.cell? ⟨fb, 1, none⟩ = some (.int .i8 k) ∧ W'.cell? ⟨fb, 2, none⟩ = some (.slice (some ⟨g, 0, none⟩) ws.length c))
    (first | with_reducible exact kq _ hC0 | with_reducible exact kq _ hC1 | with_reducible exact kq _ hC4 | with_reducible exact kq _ hC6)
    (first
    | (refine step_append_mine (w1.alloc (.cells #[] 34)).drew (by rfl) _ _ _ (by rfl) w1.heap.size 34 i0 wz 4 4 Try.underlying28 hi hz0 hz1 hz2 rfl (by decide) _ 0 (wlist []) (by rfl) HOA1.out ⟨g, 0, none⟩ ws.length c (wlist ws) (by rfl) hL1.out HA1.out.news hu1.out hm1.out hm2.out HBA1.out.size ?_; intro v1 w4 hown1 hg1; have HB4 := Lib.hid (HBA1.out.grown hg1 HBA1.out.size (fun j hj => (HOA1.out.lt j hj).1)); have hC4 : Below w.heap.size w w4 := HB0.out.trans (HB4.out.mono hz); have HC4 := Lib.hid hC4; have HO0 : w4.ownsRow w1.heap.size 34 4 v1 ws.length (wlist ws) := (by rw [Nat.zero_add] at hown1; exact hown1); obtain ⟨gq, cq, hvq⟩ := ownsRow_some HLE.out HO0; subst hvq; have hC6 : Below w.heap.size w (((w4.setCell ⟨w.heap.size, 0, none⟩ (.int .i8 l)).setCell ⟨w.heap.size, 1, none⟩ (.int .i8 k)).setCell ⟨w.heap.size, 2, none⟩ (.slice (some ⟨gq, 0, none⟩) ws.length cq)) := below_set3 hC4 (Nat.le_refl _) _ _ _; have HC6 := Lib.hid hC6; have HO1 := Lib.hid HO0; obtain ⟨r0, r1, r2, r3⟩ := (KR.out.below HB4.out KR.out.lt).three; clear hown1 hg1 HO0))
  have HR6 := Lib.hid (Blk.set3 (KR.out.below HB4.out KR.out.lt) (.int .i8 l) (.int .i8 k) (.slice (some ⟨gq, 0, none⟩) ws.length cq))
  have HO6 := Lib.hid (owns_set3 (b := w.heap.size) HO1.out (by have := HN1.out; omega) (.int .i8 l) (.int .i8 k) (.slice (some ⟨gq, 0, none⟩) ws.length cq))
  rw [HN1.out] at HO6
  clear kq hC0 hC1 hC4 hC6
  go_wp2
  exact bodyPost_ret (res_l04Copy HR6.out _ rfl) rfl ⟨gq, cq, rfl, HO6.out, HC6.out⟩
def awB (l k : Int) (ws : List Wf) (x : Wf) : Prop := OkX l k ws ∧ OkD l x ∧ ws.length < 80
noncomputable def awL (l k : Int) (ws : List Wf) (x : Wf) : Int := if cb (awB l k ws x) = true then l else 0
noncomputable def awK (l k : Int) (ws : List Wf) (x : Wf) : Int := if cb (awB l k ws x) = true then k else 0
noncomputable def awX (l k : Int) (ws : List Wf) (x : Wf) : List Wf := if cb (awB l k ws x) = true then ws ++ [x] else []
noncomputable def awC (l k : Int) (ws : List Wf) (x : Wf) : Int := if okX l k ws = true then if okD l x = true then if ws.length < 80 then 0 else 3 else 1 else 1
theorem aw_off {l k : Int} {ws : List Wf} {x : Wf} (h : ¬ awB l k ws x) : awL l k ws x = 0 ∧ awK l k ws x = 0 ∧ awX l k ws x = [] := by
  unfold awL awK awX; rw [cb_f h]; exact ⟨rfl, rfl, rfl⟩
theorem aw_1 {l k : Int} {ws : List Wf} {x : Wf} (h : okX l k ws = false) : awL l k ws x = 0 ∧ awK l k ws x = 0 ∧ awX l k ws x = [] ∧ awC l k ws x = 1 := by
  obtain ⟨a, b, c⟩ := aw_off (l := l) (k := k) (ws := ws) (x := x) (fun h' => by rw [show okX l k ws = true from cb_t h'.1] at h; cases h)
  exact ⟨a, b, c, by unfold awC; rw [h]; rfl⟩
theorem aw_2 {l k : Int} {ws : List Wf} {x : Wf} (h : okX l k ws = true) (h2 : okD l x = false) : awL l k ws x = 0 ∧ awK l k ws x = 0 ∧ awX l k ws x = [] ∧ awC l k ws x = 1 := by
  obtain ⟨a, b, c⟩ := aw_off (l := l) (k := k) (ws := ws) (x := x) (fun h' => by rw [show okD l x = true from cb_t h'.2.1] at h2; cases h2)
  exact ⟨a, b, c, by unfold awC; rw [h, h2]; rfl⟩
theorem aw_3 {l k : Int} {ws : List Wf} {x : Wf} (h : okX l k ws = true) (h2 : okD l x = true) (h3 : ¬ ws.length < 80) : awL l k ws x = 0 ∧ awK l k ws x = 0 ∧ awX l k ws x = [] ∧ awC l k ws x = 3 := by
  obtain ⟨a, b, c⟩ := aw_off (l := l) (k := k) (ws := ws) (x := x) (fun h' => h3 h'.2.2)
  exact ⟨a, b, c, by unfold awC; rw [h, h2, if_pos rfl, if_pos rfl, if_neg h3]⟩
theorem aw_0 {l k : Int} {ws : List Wf} {x : Wf} (h : okX l k ws = true) (h2 : okD l x = true) (h3 : ws.length < 80) : awL l k ws x = l ∧ awK l k ws x = k ∧ awX l k ws x = ws ++ [x] ∧ awC l k ws x = 0 := by
  have e : cb (awB l k ws x) = true := cb_t ⟨of_cb h, of_cb h2, h3⟩
  unfold awL awK awX awC
  rw [e, h, h2, if_pos rfl, if_pos rfl, if_pos rfl, if_pos rfl, if_pos rfl, if_pos h3]
  exact ⟨rfl, rfl, rfl, rfl⟩
theorem awX_len (l k : Int) (ws : List Wf) (x : Wf) : (awX l k ws x).length ≤ 80 := by
  by_cases h : awB l k ws x
  · unfold awX; rw [cb_t h]; have := h.2.2; simp; omega
  · rw [(aw_off h).2.2]; simp
theorem v2_mark : True := trivial
end Go.Proofs.Ytimdicpjpgdcbaa
