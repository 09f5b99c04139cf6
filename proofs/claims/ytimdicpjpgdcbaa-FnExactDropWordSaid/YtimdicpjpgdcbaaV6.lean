/-
  The walk of DropWord's model.
-/
import Derived.Test.YtimdicpjpgdcbaaV5
import Derived.Deep.DeepCutAuto
import Derived.StillTailTactics
import Derived.Laws.AppendOwn
namespace Go.Proofs.Ytimdicpjpgdcbaa
open Go.RowKit
set_option maxRecDepth 100000
set_option linter.unusedVariables false

theorem Blk.grownN {w w' : World} {b : Nat} {cs : Array Value} {t : TypeId} {row : Option Nat} (h : Blk w b cs t) (hg : w.grownBy w' row) (hne : row ≠ some b) : Blk w' b cs t :=
  (hg.block b h.lt (fun e => hne (by rw [e]))).trans h
theorem owns_form {t : TypeId} {B n : Nat} {w : World} {v : Value} {cs : List Value} (h : w.ownsRow B t 4 v n cs) : ∃ a c, v = .slice a n c := by
  rcases h.2 with ⟨hv, h0⟩ | ⟨g, cap, cur, hv, _⟩
  · first
      | exact ⟨none, 0, by rw [hv, h0]⟩
      | exact ⟨none, 0, by rw [hv, h0.1]⟩
  · exact ⟨_, _, hv⟩
theorem owns_neT {t t' : TypeId} {B n b : Nat} {w : World} {v : Value} {cs : List Value} {bs : Array Value} (h : w.ownsRow B t 4 v n cs) (k : Blk w b bs t') (hne : t ≠ t') : v.ownBlock ≠ some b := by
  rcases h.2 with ⟨hv, _⟩ | ⟨g, cap, cur, hv, _, hg, _⟩
  · rw [hv]; intro e; cases e
  · rw [hv]
    intro e
    have e2 : g = b := Option.some.inj e
    rw [e2, show w.heap[b]? = _ from k] at hg
    simp only [Option.some.injEq, Obj.cells.injEq] at hg
    exact hne hg.2.1.symm
theorem owns_setT {t t' : TypeId} {B n b : Nat} {w : World} {v : Value} {cs : List Value} {bs : Array Value} (h : w.ownsRow B t 4 v n cs) (k : Blk w b bs t') (hne : t ≠ t') (i : Nat) (u : Value) : (w.setCell ⟨b, i, none⟩ u).ownsRow B t 4 v n cs := by
  refine ⟨h.1, ?_⟩
  rcases h.2 with hn | ⟨g, cap, cur, hv, hB, hg, hr⟩
  · exact .inl hn
  · refine .inr ⟨g, cap, cur, hv, hB, (heap_setCell_other w ⟨b, i, none⟩ g u (fun e => owns_neT h k hne (by rw [hv]; show some g = some b; rw [show g = b from e]))).trans hg, hr⟩
theorem owns_setT3 {t t' : TypeId} {B n b : Nat} {w : World} {v : Value} {cs : List Value} {v0 v1 v2 : Value} (h : w.ownsRow B t 4 v n cs) (k : Blk w b #[v0, v1, v2] t') (hne : t ≠ t') (u0 u1 u2 : Value) :
    (((w.setCell ⟨b, 0, none⟩ u0).setCell ⟨b, 1, none⟩ u1).setCell ⟨b, 2, none⟩ u2).ownsRow B t 4 v n cs :=
  owns_setT (owns_setT (owns_setT h k hne 0 u0) (k.set 0 u0) hne 1 u1) ((k.set 0 u0).set 1 u1) hne 2 u2
theorem res_specDropWord {W : World} {b : Nat} {v0 v1 v2 : Value} (K : Blk W b #[v0, v1, v2] 30) (c : Value) (tmps : Array Value) (h4 : tmps.getD 4 undef = .pointer (some ⟨b, 0, none⟩)) (h5 : tmps.getD 5 undef = c) : (results Try.f13 tmps).run Try.prog W = .ok (.tuple #[.agg #[v0, v1, v2], c]) W := by
  have h4' : tmps[4]?.getD undef = .pointer (some ⟨b, 0, none⟩) := by simpa using h4
  have h5' : tmps[5]?.getD undef = c := by simpa using h5
  obtain ⟨e0, e1, e2, -⟩ := K.three
  simp [results, Try.results13, go_sem, e0, e1, e2, h4', h5']
set_option maxHeartbeats 4000000 in
theorem specDropWord_any (l k : Int) (g : Nat) (ws : List Wf) (i : Int) (w : World) (hg : g < w.heap.size) (hr : WAt w g 0 ws) (hl : B8 l) (hk : B8 k) (hn : ws.length ≤ 1048576) (hw : Wall ws) (hi64 : -9223372036854775808 ≤ i ∧ i ≤ 9223372036854775807) :
    Calls Try.prog 13 #[fixV l k (some ⟨g, 0, none⟩) ws.length ws.length, .int .i64 i] w fun e w' => ∃ v, e = .returned (.tuple #[.agg #[.int .i8 (dwL l k ws i), .int .i8 (dwK l k ws i), v], .int .i64 (dwC l k ws i)]) ∧ OwnY w.heap.size w' v (dwY l k ws i) ∧ Below w.heap.size w w' := by
  have F0 := ((FR.start w).box #[.int .i8 l, .int .i8 k, .slice (some ⟨g, 0, none⟩) ws.length ws.length] 30).box #[.int .i8 0, .int .i8 0, .slice none 0 0] 30
  simp only [World.size_alloc] at F0
  have hsu : ∀ W, Below w.heap.size w W → Slw W.heap.size W (some ⟨g, 0, none⟩) ws := fun W hb => .inr ⟨g, 0, rfl, Nat.lt_of_lt_of_le hg hb.size, hr.below hb hg⟩
  have HV := Lib.hid (l04Ok_any w.heap.size l k (some ⟨g, 0, none⟩) ws.length ws _ (F0.blk _ (List.mem_cons_of_mem _ List.mem_cons_self)) (hsu _ F0.below) hl hk hn hw)
  have HI := Lib.hid (fun W => l00In_any i 0 ((ws.length : Int) - 1) W)
  cases h : okX l k ws
  · obtain ⟨e1, e2, e3, e4⟩ := dw_1 (i := i) h
    rw [h] at HV
    rw [e1, e2, e3, e4]
    clear e1 e2 e3 e4 h hr hw hsu HI
    generalize ws.length = n at *
    go_enter Try.func13, Try.ntmps13
    go_wp2_with fail
    refine HV.out.mono ?_
    rintro e w2 ⟨rfl, hb⟩
    have F1 := F0.next hb
    clear hb F0
    have k1 := F1.blk _ List.mem_cons_self
    have HR := Lib.hid (Blk.set3 k1 (.int .i8 0) (.int .i8 0) (.slice none 0 0))
    have HB := Lib.hid (below_set3 F1.below (show w.heap.size ≤ w.heap.size + 1 by omega) (.int .i8 0) (.int .i8 0) (.slice none 0 0))
    obtain ⟨d0, d1, d2, d3⟩ := k1.three
    clear F1 k1
    go_wp2
    exact bodyPost_ret (res_specDropWord HR.out _ _ rfl rfl) rfl ⟨_, rfl, .inl ⟨rfl, none, 0, rfl⟩, HB.out⟩
  rw [h] at HV
  have h8 : OkX l k ws := of_cb h
  have h80 := h8.2.2.1
  have hw1 : IntKind.i64.wrap ((ws.length : Int) - 1) = (ws.length : Int) - 1 := IntWalk.i64_in _ (by omega)
  by_cases h2 : 0 ≤ i ∧ i ≤ (ws.length : Int) - 1
  case neg =>
    obtain ⟨e1, e2, e3, e4⟩ := dw_2 h h2
    rw [e1, e2, e3, e4]
    rw [show inB i 0 ((ws.length : Int) - 1) = false from cb_f h2] at HI
    clear e1 e2 e3 e4 h hr hw h8 hsu h2
    generalize ws.length = n at *
    go_enter Try.func13, Try.ntmps13
    go_wp2_with fail
    refine HV.out.mono ?_
    rintro e w2 ⟨rfl, hb⟩
    have F1 := F0.next hb
    clear hb F0
    obtain ⟨c0, c1, c2, c3⟩ := (F1.blk _ (List.mem_cons_of_mem _ List.mem_cons_self)).three
    go_wp2_with fail
    refine (HI.out _).mono ?_
    rintro e w3 ⟨rfl, rfl⟩
    have k1 := F1.blk _ List.mem_cons_self
    have HR := Lib.hid (Blk.set3 k1 (.int .i8 0) (.int .i8 0) (.slice none 0 0))
    have HB := Lib.hid (below_set3 F1.below (show w.heap.size ≤ w.heap.size + 1 by omega) (.int .i8 0) (.int .i8 0) (.slice none 0 0))
    obtain ⟨d0, d1, d2, d3⟩ := k1.three
    clear F1 k1
    go_wp2
    exact bodyPost_ret (res_specDropWord HR.out _ _ rfl rfl) rfl ⟨_, rfl, .inl ⟨rfl, none, 0, rfl⟩, HB.out⟩
  rw [show inB i 0 ((ws.length : Int) - 1) = true from cb_t h2] at HI
  by_cases h3 : ws.length = 1
  · obtain ⟨e1, e2, e3, e4⟩ := dw_4 h h2 h3
    rw [e1, e2, e3, e4]
    clear e1 e2 e3 e4 h hr hw h8 hsu h2 hw1
    generalize ws.length = n at *
    subst h3
    rw [show ((1 : Nat) : Int) - 1 = 0 from rfl] at HI
    go_enter Try.func13, Try.ntmps13
    go_wp2_with fail
    refine HV.out.mono ?_
    rintro e w2 ⟨rfl, hb⟩
    have F1 := F0.next hb
    clear hb F0
    obtain ⟨c0, c1, c2, c3⟩ := (F1.blk _ (List.mem_cons_of_mem _ List.mem_cons_self)).three
    go_wp2_with fail
    refine (HI.out _).mono ?_
    rintro e w3 ⟨rfl, rfl⟩
    have k1 := F1.blk _ List.mem_cons_self
    have HR := Lib.hid (Blk.set3 k1 (.int .i8 0) (.int .i8 0) (.slice none 0 0))
    have HB := Lib.hid (below_set3 F1.below (show w.heap.size ≤ w.heap.size + 1 by omega) (.int .i8 0) (.int .i8 0) (.slice none 0 0))
    obtain ⟨d0, d1, d2, d3⟩ := k1.three
    clear F1 k1
    go_wp2
    exact bodyPost_ret (res_specDropWord HR.out _ _ rfl rfl) rfl ⟨_, rfl, .inl ⟨rfl, none, 0, rfl⟩, HB.out⟩
  obtain ⟨e1, e2, e3, e4⟩ := dw_0 h h2 h3
  rw [e1, e2, e3, e4]
  have h3' : ¬ (ws.length : Int) = 1 := by omega
  obtain ⟨m, rfl⟩ := Int.eq_ofNat_of_zero_le h2.1
  rw [show ((m : Int).toNat) = m from rfl]
  have hm : m < ws.length := by omega
  have hS := src_split (WAt.src hr hg) hm
  have HS := Lib.hid hS
  have HLN := Lib.hid (dwX_len hm)
  have HLT := Lib.hid (show (ws.take m).length = m by rw [List.length_take]; omega)
  have HLD := Lib.hid (show (ws.drop (m + 1)).length = ws.length - (m + 1) by rw [List.length_drop])
  have hn80 : ws.length ≤ 80 := by omega
  have hn2 : 2 ≤ ws.length := by omega
  have HGL := Lib.hid hg
  clear e1 e2 e3 e4 h hr hw h8 hg hsu hS h2
  have HNN := Lib.hid (Eq.refl ws.length)
  generalize ws.length = n at *
  go_enter Try.func13, Try.ntmps13
  go_wp2_with fail
  refine HV.out.mono ?_
  rintro e w2 ⟨rfl, hb⟩
  have F1 := F0.next hb
  clear hb F0
  obtain ⟨c0, c1, c2, c3⟩ := (F1.blk _ (List.mem_cons_of_mem _ List.mem_cons_self)).three
  go_wp2_with fail
  refine (HI.out _).mono ?_
  rintro e w3 ⟨rfl, rfl⟩

  have hmn : (m : Int) ≤ (n : Int) := by omega
  have hm0 : 0 ≤ (m : Int) := by omega
  have hm1' : (m : Int) + 1 ≤ (n : Int) := by omega
  have hm2' : 0 ≤ (m : Int) + 1 := by omega
  have hmt : ((m : Int) + 1).toNat = m + 1 := by omega
  have hmw : IntKind.i64.wrap ((m : Int) + 1) = (m : Int) + 1 := IntWalk.i64_in _ (by omega)
  obtain ⟨i0, hi, hz0, hz1, hz2⟩ := wd_parts
  have hzw2 := F1.below.size
  have hwl2 : w.heap.size + 1 < w2.heap.size := (F1.blk _ List.mem_cons_self).lt
  have hsr := HS.out.1.below F1.below
  have hL1 := Lib.hid (show (wlist (ws.take m)).length = m * 4 by rw [wlist_len, HLT.out])
  have hu1 := Lib.hid (wlist_one (ws.take m))
  have hm1 := Lib.hid (show 0 + m ≤ maxLen by unfold maxLen; omega)
  have hm2 := Lib.hid (show (0 + m) * 4 ≤ 140737488355328 by omega)
  have hO1 := World.ownsRow_made (base := w2.heap.size) (e := 34) (size := 4) w2 #[] 0 (Nat.le_refl _) (by unfold maxLen; omega) (by simp)
  have HOA := Lib.hid (show (w2.alloc (.cells #[] 34)).drew.ownsRow w2.heap.size 34 4 (.slice (some ⟨w2.heap.size, 0, none⟩) 0 0) 0 (wlist []) from hO1)
  have HOB := Lib.hid (show ((w2.alloc (.cells #[] 34)).alloc (.cells #[.int .i8 0, .int .i8 0, .slice none 0 0] 30)).drew.ownsRow w2.heap.size 34 4 (.slice (some ⟨w2.heap.size, 0, none⟩) 0 0) 0 (wlist []) from hO1.alloc _)
  have hO3 := World.ownsRow_made (base := w2.heap.size) (e := 34) (size := 4) (w2.alloc (.cells #[.int .i8 0, .int .i8 0, .slice none 0 0] 30)) #[] 0 (by simp) (by unfold maxLen; omega) (by simp)
  rw [World.size_alloc] at hO3
  have HOC := Lib.hid (show ((w2.alloc (.cells #[.int .i8 0, .int .i8 0, .slice none 0 0] 30)).alloc (.cells #[] 34)).drew.ownsRow w2.heap.size 34 4 (.slice (some ⟨w2.heap.size + 1, 0, none⟩) 0 0) 0 (wlist []) from hO3)
  have hbA := (Below.refl w2.heap.size w2).alloc (Nat.le_refl _) (.cells #[] 34)
  have hbZ := (Below.refl w2.heap.size w2).alloc (Nat.le_refl _) (.cells #[.int .i8 0, .int .i8 0, .slice none 0 0] 30)
  have HBA := Lib.hid (show Below w2.heap.size w2 (w2.alloc (.cells #[] 34)).drew from hbA.drew)
  have HBB := Lib.hid (show Below w2.heap.size w2 ((w2.alloc (.cells #[] 34)).alloc (.cells #[.int .i8 0, .int .i8 0, .slice none 0 0] 30)).drew from (hbA.alloc hbA.size _).drew)
  have HBC := Lib.hid (show Below w2.heap.size w2 ((w2.alloc (.cells #[.int .i8 0, .int .i8 0, .slice none 0 0] 30)).alloc (.cells #[] 34)).drew from (hbZ.alloc hbZ.size _).drew)
  have HSA := Lib.hid (hsr.below HBA.out)
  have HSB := Lib.hid (hsr.below HBB.out)
  have HSC := Lib.hid (hsr.below HBC.out)
  have hZB := Lib.hid (show Blk ((w2.alloc (.cells #[] 34)).alloc (.cells #[.int .i8 0, .int .i8 0, .slice none 0 0] 30)).drew (w2.heap.size + 1) #[.int .i8 0, .int .i8 0, .slice none 0 0] 30 by
    have := blk_new (w2.alloc (.cells #[] 34)) #[.int .i8 0, .int .i8 0, .slice none 0 0] 30
    rw [World.size_alloc] at this
    exact this)
  have hZC := Lib.hid (show Blk ((w2.alloc (.cells #[.int .i8 0, .int .i8 0, .slice none 0 0] 30)).alloc (.cells #[] 34)).drew w2.heap.size #[.int .i8 0, .int .i8 0, .slice none 0 0] 30 from (blk_new w2 #[.int .i8 0, .int .i8 0, .slice none 0 0] 30).alloc _)
  have kp : ∀ W', Below w2.heap.size w2 W' → (W'.cell? ⟨w.heap.size, 0, none⟩ = some (.int .i8 l) ∧ W'.cell? ⟨w.heap.size, 1, none⟩ = some (.int .i8 k) ∧ W'.cell? ⟨w.heap.size, 2, none⟩ = some (.slice (some ⟨g, 0, none⟩) n n)) := fun W' h => by
    obtain ⟨d0, d1, d2, -⟩ := ((F1.next h).blk _ (List.mem_cons_of_mem _ List.mem_cons_self)).three
    exact ⟨d0, d1, d2⟩
  have hB0 : Below w2.heap.size w2 w2.drew := (Below.refl _ _).drew
  have hBA := HBA.out
  have hBB := HBB.out
  have hBC := HBC.out
  have hBZ : Below w2.heap.size w2 (w2.alloc (.cells #[.int .i8 0, .int .i8 0, .slice none 0 0] 30)).drew := hbZ.drew
  clear hO1 hO3 hbA hbZ hsr
  go_upto_region 7 with fail
  clear c0 c1 c2 c3
  go_cut [6] (fun s6 wx => ∃ B6 a6 c6, s6 = .pointer (some ⟨B6, 0, none⟩) ∧ w2.heap.size ≤ B6 ∧ Blk wx B6 #[.int .i8 l, .int .i8 k, .slice a6 m c6] 30 ∧ wx.ownsRow w2.heap.size 34 4 (.slice a6 m c6) m (wlist (ws.take m)) ∧ Below w2.heap.size w2 wx)
  case first =>
    go_region_held3 (fun W' => W'.cell? ⟨w.heap.size, 0, none⟩ = some (.int .i8 l) ∧ W'.cell? ⟨w.heap.size, 1, none⟩ = some (.int .i8 k) ∧ W'.cell? ⟨w.heap.size, 2, none⟩ = some (.slice (some ⟨g, 0, none⟩) n n))
      (first | with_reducible exact kp _ hB0 | with_reducible exact kp _ hBA | with_reducible exact kp _ hBB | with_reducible exact kp _ hBC | with_reducible exact kp _ hBZ | with_reducible exact kp _ hB4 | with_reducible exact kp _ hB4z | with_reducible exact kp _ hB4m | with_reducible exact kp _ hB4y | with_reducible exact kp _ hB6)
      (first
        | (refine step_append_mine (w2.alloc (.cells #[] 34)).drew (by rfl) _ _ _ (by rfl) w2.heap.size 34 i0 wz 4 4 Try.underlying28 hi hz0 hz1 hz2 rfl (by decide) _ 0 (wlist []) (by rfl) HOA.out ⟨g, 0, none⟩ m n (wlist (ws.take m)) (by rfl) hL1.out HSA.out.news hu1.out hm1.out hm2.out HBA.out.size ?_; intro v1 w4 hown1 hg1; have HB4 := Lib.hid (HBA.out.grown hg1 HBA.out.size (fun j hj => (HOA.out.lt j hj).1)); have hB4 := HB4.out; have hown2 : w4.ownsRow w2.heap.size 34 4 v1 m (wlist (ws.take m)) := (by rw [Nat.zero_add] at hown1; exact hown1); obtain ⟨a6, c6, hv6⟩ := owns_form hown2; subst hv6; have HO1 := Lib.hid hown2; have hB4z := hB4.alloc hB4.size (.cells #[.int .i8 0, .int .i8 0, .slice none 0 0] 30); have hB4m := hB4.alloc hB4.size (.cells #[.int .i8 l, .int .i8 k, .slice a6 m c6] 30); have hB4y := below_set3 hB4z hB4.size (.int .i8 l) (.int .i8 k) (.slice a6 m c6); clear hown1 hown2 hg1)
        | (refine step_append_mine ((w2.alloc (.cells #[] 34)).alloc (.cells #[.int .i8 0, .int .i8 0, .slice none 0 0] 30)).drew (by rfl) _ _ _ (by rfl) w2.heap.size 34 i0 wz 4 4 Try.underlying28 hi hz0 hz1 hz2 rfl (by decide) _ 0 (wlist []) (by rfl) HOB.out ⟨g, 0, none⟩ m n (wlist (ws.take m)) (by rfl) hL1.out HSB.out.news hu1.out hm1.out hm2.out HBB.out.size ?_; intro v1 w4 hown1 hg1; have HB4 := Lib.hid (HBB.out.grown hg1 HBB.out.size (fun j hj => (HOB.out.lt j hj).1)); have hB4 := HB4.out; have hown2 : w4.ownsRow w2.heap.size 34 4 v1 m (wlist (ws.take m)) := (by rw [Nat.zero_add] at hown1; exact hown1); obtain ⟨a6, c6, hv6⟩ := owns_form hown2; subst hv6; have HO1 := Lib.hid hown2; have hZ := Lib.hid (hZB.out.grownN hg1 (fun e => by have e2 := Option.some.inj e; dsimp only at e2; omega)); obtain ⟨z0, z1, z2, z3⟩ := hZ.out.three; have hB6 := below_set3 hB4 (show w2.heap.size ≤ w2.heap.size + 1 by omega) (.int .i8 l) (.int .i8 k) (.slice a6 m c6); clear hown1 hown2 hg1)
        | (refine step_append_mine ((w2.alloc (.cells #[.int .i8 0, .int .i8 0, .slice none 0 0] 30)).alloc (.cells #[] 34)).drew (by rfl) _ _ _ (by rfl) w2.heap.size 34 i0 wz 4 4 Try.underlying28 hi hz0 hz1 hz2 rfl (by decide) _ 0 (wlist []) (by rfl) HOC.out ⟨g, 0, none⟩ m n (wlist (ws.take m)) (by rfl) hL1.out HSC.out.news hu1.out hm1.out hm2.out HBC.out.size ?_; intro v1 w4 hown1 hg1; have HB4 := Lib.hid (HBC.out.grown hg1 HBC.out.size (fun j hj => (HOC.out.lt j hj).1)); have hB4 := HB4.out; have hown2 : w4.ownsRow w2.heap.size 34 4 v1 m (wlist (ws.take m)) := (by rw [Nat.zero_add] at hown1; exact hown1); obtain ⟨a6, c6, hv6⟩ := owns_form hown2; subst hv6; have HO1 := Lib.hid hown2; have hZ := Lib.hid (hZC.out.grownN hg1 (fun e => by have e2 := Option.some.inj e; dsimp only at e2; omega)); obtain ⟨z0, z1, z2, z3⟩ := hZ.out.three; have hB6 := below_set3 hB4 (show w2.heap.size ≤ w2.heap.size by omega) (.int .i8 l) (.int .i8 k) (.slice a6 m c6); clear hown1 hown2 hg1))
    all_goals (go_wp2_with fail; go_meet; first
      | exact ⟨_, _, _, rfl, hB4.size, blk_new w4 _ _, HO1.out.alloc _, hB4m⟩
      | exact ⟨_, _, _, rfl, hB4.size, Blk.set3 (blk_new w4 _ _) _ _ _, owns_setT3 (HO1.out.alloc _) (blk_new w4 _ _) (by decide) _ _ _, hB4y⟩
      | exact ⟨_, _, _, rfl, by omega, Blk.set3 hZ.out _ _ _, owns_setT3 HO1.out hZ.out (by decide) _ _ _, hB6⟩)
  case rest =>
    obtain ⟨B6, a6, c6, rfl, hB6, hK6, hOx, hbx0⟩ := hcut
    obtain ⟨wx, ewx, hbx⟩ : ∃ x, _ = x ∧ Below w2.heap.size w2 x := ⟨_, rfl, hbx0⟩
    rw [ewx] at hK6 hOx ⊢
    clear hbx0 ewx
    have FX := F1.next hbx
    clear kp hB0 hBA hBB hBC hBZ HOA HOB HOC HBA HBB HBC HSA HSB HSC hZB hZC
    by_cases he : n = m + 1
    · subst he
      have q1 : (m : Int) ≤ (m : Int) + 1 := by omega
      have q2 : ¬ (m : Int) + 1 < (m : Int) := by omega
      have hto : tailOff m (m + 1) = 0 := by unfold tailOff; rw [if_pos rfl]
      have HS8 := Lib.hid (by have h := HS.out.2.below (F1.below.trans (hbx.mono F1.below.size)).drew; rw [hto] at h; exact h)
      have HOX := Lib.hid (show wx.drew.ownsRow w2.heap.size 34 4 (.slice a6 m c6) m (wlist (ws.take m)) from hOx)
      have hL2 : (wlist (ws.drop (m + 1))).length = 0 * 4 := by rw [wlist_len, HLD.out]; omega
      have HL2 := Lib.hid hL2
      clear hL2 hto
      have HBX := Lib.hid (hbx.drew)
      have HK6 := Lib.hid (show Blk wx.drew B6 #[.int .i8 l, .int .i8 k, .slice a6 m c6] 30 from hK6)
      have HNE := Lib.hid (owns_neT hOx hK6 (by decide))
      have HFX := Lib.hid (F1.next hbx.drew)
      obtain ⟨y0, y1, y2, -⟩ := hK6.three
      obtain ⟨c0, c1, c2, -⟩ := (FX.blk _ (List.mem_cons_of_mem _ List.mem_cons_self)).three
      have hzx : w2.heap.size ≤ wx.heap.size := hbx.size
      clear hOx hK6 FX hbx
      go_upto_region 8 with fail
      go_still_tail 7, (by kernel_rfl)
      change wpList _ _ _ _ _ wx.drew
      clear y0 y1 y2 c0 c1 c2
      generalize wx.drew = wy at *
      go_wp2_with (at_builtin; refine wpList_append_own _ rfl _ _ 28 rfl w2.heap.size 34 i0 wz 4 4 Try.underlying28 hi hz0 hz1 hz2 rfl (by decide) (.slice a6 m c6) m _ rfl HOX.out ⟨g, 0, none⟩ 0 0 (wlist (ws.drop (m + 1))) rfl HL2.out HS8.out.news (wlist_one _) (by unfold maxLen; omega) (by omega) HBX.out.size ?_)
      intro v' w5 hown' hgrow hnil
      obtain ⟨gq, cq, rfl⟩ := ownsRow_some (by omega) hown'
      have hB5 := HBX.out.grown hgrow HBX.out.size (fun j hj => (HOX.out.lt j hj).1)
      have k6 : Blk w5 B6 #[.int .i8 l, .int .i8 k, .slice a6 m c6] 30 := HK6.out.grownN hgrow HNE.out
      have F5 := F1.next hB5
      have k1 := F5.blk _ List.mem_cons_self
      have hne6 := owns_neT hown' k6 (by decide)
      dsimp only at k1
      have hlo1 : w.heap.size + 1 < w2.heap.size := (F1.blk _ List.mem_cons_self).lt
      have hB6g : gq ≠ B6 := fun e => hne6 (by rw [e]; rfl)
      have hgw : w2.heap.size ≤ gq := (hown'.lt gq rfl).1
      have k6' : Blk (w5.setCell ⟨B6, 2, none⟩ (.slice (some ⟨gq, 0, none⟩) (m + 0) cq)) B6 #[.int .i8 l, .int .i8 k, .slice (some ⟨gq, 0, none⟩) (m + 0) cq] 30 := k6.set 2 _
      have k1' : Blk (w5.setCell ⟨B6, 2, none⟩ (.slice (some ⟨gq, 0, none⟩) (m + 0) cq)) (w.heap.size + 1) #[.int .i8 0, .int .i8 0, .slice none 0 0] 30 := k1.setOther (by omega) 2 _
      have HR := Lib.hid (Blk.set3 k1' (.int .i8 l) (.int .i8 k) (.slice (some ⟨gq, 0, none⟩) (m + 0) cq))
      have HB := Lib.hid (below_set3 (F5.below.setCell (p := ⟨B6, 2, none⟩) (show w.heap.size ≤ B6 by omega) (.slice (some ⟨gq, 0, none⟩) (m + 0) cq)) (show w.heap.size ≤ w.heap.size + 1 by omega) (.int .i8 l) (.int .i8 k) (.slice (some ⟨gq, 0, none⟩) (m + 0) cq))
      have hOB : OwnB w.heap.size w5 (.slice (some ⟨gq, 0, none⟩) (m + 0) cq) (ws.take m ++ ws.drop (m + 1)) := by
        have h := OwnB.ofOwns (xs := ws.take m ++ ws.drop (m + 1)) (show m + 0 = (ws.take m ++ ws.drop (m + 1)).length by rw [List.length_append, HLT.out, HLD.out]; omega) (by omega) (show w5.ownsRow _ _ 4 _ _ (wlist (ws.take m ++ ws.drop (m + 1))) by rw [wlist_app]; exact hown')
        obtain ⟨g', c', hv', h1, h2, h3, h4⟩ := h
        exact ⟨g', c', hv', by omega, h2, h3, h4⟩
      have HO := Lib.hid ((hOB.set (b := B6) (fun e => hB6g e.symm) 2 (.slice (some ⟨gq, 0, none⟩) (m + 0) cq)).set3 (b := w.heap.size + 1) (by omega) (.int .i8 l) (.int .i8 k) (.slice (some ⟨gq, 0, none⟩) (m + 0) cq))
      obtain ⟨y0, y1, y2, y3⟩ := k6.three
      obtain ⟨d0, d1, d2, d3⟩ := k1.three
      clear F5 k6 k1 k6' k1' hB5 hown' hgrow hnil hOB
      go_wp2
      exact bodyPost_ret (v := .tuple #[.agg #[.int .i8 l, .int .i8 k, .slice (some ⟨gq, 0, none⟩) (m + 0) cq], .int .i64 0]) (res_specDropWord HR.out _ _ rfl rfl) rfl ⟨_, rfl, .inr HO.out, HB.out⟩
    · have he' : ¬ (n : Int) = (m : Int) + 1 := by omega
      have hto : tailOff m n = ((m + 1) * 4) := by unfold tailOff; rw [if_neg he]
      have HS8 := Lib.hid (by have h := HS.out.2.below (F1.below.trans (hbx.mono F1.below.size)).drew; rw [hto] at h; exact h)
      have HOX := Lib.hid (show wx.drew.ownsRow w2.heap.size 34 4 (.slice a6 m c6) m (wlist (ws.take m)) from hOx)
      have hL2 : (wlist (ws.drop (m + 1))).length = (n - (m + 1)) * 4 := by rw [wlist_len, HLD.out]
      have HL2 := Lib.hid hL2
      clear hL2 hto
      have HBX := Lib.hid (hbx.drew)
      have HK6 := Lib.hid (show Blk wx.drew B6 #[.int .i8 l, .int .i8 k, .slice a6 m c6] 30 from hK6)
      have HNE := Lib.hid (owns_neT hOx hK6 (by decide))
      have HFX := Lib.hid (F1.next hbx.drew)
      obtain ⟨y0, y1, y2, -⟩ := hK6.three
      obtain ⟨c0, c1, c2, -⟩ := (FX.blk _ (List.mem_cons_of_mem _ List.mem_cons_self)).three
      have hzx : w2.heap.size ≤ wx.heap.size := hbx.size
      clear hOx hK6 FX hbx
      go_upto_region 8 with fail
      go_still_tail 7, (by kernel_rfl)
      change wpList _ _ _ _ _ wx.drew
      clear y0 y1 y2 c0 c1 c2
      generalize wx.drew = wy at *
      go_wp2_with (at_builtin; refine wpList_append_own _ rfl _ _ 28 rfl w2.heap.size 34 i0 wz 4 4 Try.underlying28 hi hz0 hz1 hz2 rfl (by decide) (.slice a6 m c6) m _ rfl HOX.out ⟨g, ((m + 1) * 4), none⟩ (n - (m + 1)) (n - (m + 1)) (wlist (ws.drop (m + 1))) rfl HL2.out HS8.out.news (wlist_one _) (by unfold maxLen; omega) (by omega) HBX.out.size ?_)
      intro v' w5 hown' hgrow hnil
      obtain ⟨gq, cq, rfl⟩ := ownsRow_some (by omega) hown'
      have hB5 := HBX.out.grown hgrow HBX.out.size (fun j hj => (HOX.out.lt j hj).1)
      have k6 : Blk w5 B6 #[.int .i8 l, .int .i8 k, .slice a6 m c6] 30 := HK6.out.grownN hgrow HNE.out
      have F5 := F1.next hB5
      have k1 := F5.blk _ List.mem_cons_self
      have hne6 := owns_neT hown' k6 (by decide)
      dsimp only at k1
      have hlo1 : w.heap.size + 1 < w2.heap.size := (F1.blk _ List.mem_cons_self).lt
      have hB6g : gq ≠ B6 := fun e => hne6 (by rw [e]; rfl)
      have hgw : w2.heap.size ≤ gq := (hown'.lt gq rfl).1
      have k6' : Blk (w5.setCell ⟨B6, 2, none⟩ (.slice (some ⟨gq, 0, none⟩) (m + (n - (m + 1))) cq)) B6 #[.int .i8 l, .int .i8 k, .slice (some ⟨gq, 0, none⟩) (m + (n - (m + 1))) cq] 30 := k6.set 2 _
      have k1' : Blk (w5.setCell ⟨B6, 2, none⟩ (.slice (some ⟨gq, 0, none⟩) (m + (n - (m + 1))) cq)) (w.heap.size + 1) #[.int .i8 0, .int .i8 0, .slice none 0 0] 30 := k1.setOther (by omega) 2 _
      have HR := Lib.hid (Blk.set3 k1' (.int .i8 l) (.int .i8 k) (.slice (some ⟨gq, 0, none⟩) (m + (n - (m + 1))) cq))
      have HB := Lib.hid (below_set3 (F5.below.setCell (p := ⟨B6, 2, none⟩) (show w.heap.size ≤ B6 by omega) (.slice (some ⟨gq, 0, none⟩) (m + (n - (m + 1))) cq)) (show w.heap.size ≤ w.heap.size + 1 by omega) (.int .i8 l) (.int .i8 k) (.slice (some ⟨gq, 0, none⟩) (m + (n - (m + 1))) cq))
      have hOB : OwnB w.heap.size w5 (.slice (some ⟨gq, 0, none⟩) (m + (n - (m + 1))) cq) (ws.take m ++ ws.drop (m + 1)) := by
        have h := OwnB.ofOwns (xs := ws.take m ++ ws.drop (m + 1)) (show m + (n - (m + 1)) = (ws.take m ++ ws.drop (m + 1)).length by rw [List.length_append, HLT.out, HLD.out]) (by omega) (show w5.ownsRow _ _ 4 _ _ (wlist (ws.take m ++ ws.drop (m + 1))) by rw [wlist_app]; exact hown')
        obtain ⟨g', c', hv', h1, h2, h3, h4⟩ := h
        exact ⟨g', c', hv', by omega, h2, h3, h4⟩
      have HO := Lib.hid ((hOB.set (b := B6) (fun e => hB6g e.symm) 2 (.slice (some ⟨gq, 0, none⟩) (m + (n - (m + 1))) cq)).set3 (b := w.heap.size + 1) (by omega) (.int .i8 l) (.int .i8 k) (.slice (some ⟨gq, 0, none⟩) (m + (n - (m + 1))) cq))
      obtain ⟨y0, y1, y2, y3⟩ := k6.three
      obtain ⟨d0, d1, d2, d3⟩ := k1.three
      clear F5 k6 k1 k6' k1' hB5 hown' hgrow hnil hOB
      go_wp2
      exact bodyPost_ret (v := .tuple #[.agg #[.int .i8 l, .int .i8 k, .slice (some ⟨gq, 0, none⟩) (m + (n - (m + 1))) cq], .int .i64 0]) (res_specDropWord HR.out _ _ rfl rfl) rfl ⟨_, rfl, .inr HO.out, HB.out⟩
theorem v6_mark : True := trivial
end Go.Proofs.Ytimdicpjpgdcbaa
