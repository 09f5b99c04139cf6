/-
  Words laid one behind the other: slices.Grow and slices.Concat.
-/
import Derived.Test.YtimdicpjpgdcbaaFQw
import Derived.Test.YtimdicpjpgdcbaaE3
import Derived.Lib.AppendZeros
import Derived.Deep.AppendLies
namespace Go.Proofs.Ytimdicpjpgdcbaa
open Go.RowKit
set_option maxRecDepth 100000
set_option linter.unusedVariables false

def wlist (xs : List Wf) : List Value := xs.flatMap fun x => [.int .i8 (x 0), .int .i8 (x 1), .int .i8 (x 2), .int .i8 (x 3)]
theorem wlist_app (xs ys : List Wf) : wlist (xs ++ ys) = wlist xs ++ wlist ys := List.flatMap_append
theorem wlist_cons (x : Wf) (xs : List Wf) : wlist (x :: xs) = .int .i8 (x 0) :: .int .i8 (x 1) :: .int .i8 (x 2) :: .int .i8 (x 3) :: wlist xs := rfl
theorem wlist_len : ∀ xs : List Wf, (wlist xs).length = xs.length * 4
  | [] => rfl
  | q :: xs => by rw [wlist_cons, List.length_cons, List.length_cons, List.length_cons, List.length_cons, wlist_len xs, List.length_cons]; omega
theorem wlist_one : ∀ xs : List Wf, ∀ u ∈ wlist xs, u.oneCell' = true
  | [], u, h => by cases h
  | q :: xs, u, h => by
    rw [wlist_cons] at h
    rcases List.mem_cons.1 h with rfl | h
    · rfl
    rcases List.mem_cons.1 h with rfl | h
    · rfl
    rcases List.mem_cons.1 h with rfl | h
    · rfl
    rcases List.mem_cons.1 h with rfl | h
    · rfl
    · exact wlist_one xs u h
theorem wlist_get : ∀ (xs : List Wf) (j : Nat), j < xs.length → ∀ i, i < 4 → (wlist xs)[j * 4 + i]? = some (.int .i8 (wI xs j i))
  | [], j, h, i, hi => by cases h
  | q :: xs, 0, _, i, hi => by
    rw [wlist_cons]
    match i, hi with
    | 0, _ => rfl
    | 1, _ => rfl
    | 2, _ => rfl
    | 3, _ => rfl
  | q :: xs, j + 1, h, i, hi => by
    have := wlist_get xs j (by simpa using h) i hi
    rw [wlist_cons, show (j + 1) * 4 + i = (j * 4 + i) + 1 + 1 + 1 + 1 by omega]
    simp only [List.getElem?_cons_succ]
    exact this
/-- Words read from block b on. -/
def Src (w : World) (b off : Nat) (xs : List Wf) : Prop := b < w.heap.size ∧ ∀ j u, (wlist xs)[j]? = some u → w.cell? ⟨b, off + j, none⟩ = some u
theorem Src.below {w w' : World} {b off : Nat} {xs : List Wf} (h : Src w b off xs) (hb : Below w.heap.size w w') : Src w' b off xs :=
  ⟨Nat.lt_of_lt_of_le h.1 hb.size, fun j u hu => (hb.cell (p := ⟨b, off + j, none⟩) h.1).trans (h.2 j u hu)⟩
theorem Src.below2 {w w' : World} {b off n : Nat} {xs : List Wf} (h : Src w b off xs) (hb : Below n w w') (hn : b < n) (hs : w.heap.size ≤ w'.heap.size) : Src w' b off xs :=
  ⟨Nat.lt_of_lt_of_le h.1 hs, fun j u hu => (hb.cell (p := ⟨b, off + j, none⟩) hn).trans (h.2 j u hu)⟩
theorem Src.news {w : World} {b off : Nat} {xs : List Wf} (h : Src w b off xs) : ∀ j u, (wlist xs)[j]? = some u → w.cell? ((⟨b, off, none⟩ : Addr).add j) = some u := fun j u hu => by
  rw [Addr.add_lit]; exact h.2 j u hu
theorem Src.nil {w : World} {b off : Nat} (h : b < w.heap.size) : Src w b off [] := ⟨h, fun j u hu => by simp [wlist] at hu⟩
theorem WAt.src {w : World} {b off : Nat} {xs : List Wf} (h : WAt w b off xs) (hb : b < w.heap.size) : Src w b off xs := ⟨hb, fun j u hu => by
  have hl := (List.getElem?_eq_some_iff.1 hu).1
  rw [wlist_len] at hl
  have g0 := wlist_get xs (j / 4) (by omega) (j % 4) (by omega)
  have h0 := h (j / 4) (by omega) (j % 4) (by omega)
  rw [show j / 4 * 4 + j % 4 = j by omega] at g0
  rw [show off + j / 4 * 4 + j % 4 = off + j by omega] at h0
  rw [g0] at hu
  rw [h0, ← hu]⟩
theorem Src.parts {w : World} {b off : Nat} {xs ys : List Wf} (h : Src w b off (xs ++ ys)) : Src w b off xs ∧ Src w b (off + xs.length * 4) ys := by
  refine ⟨⟨h.1, fun j u hu => h.2 j u ?_⟩, ⟨h.1, fun j u hu => ?_⟩⟩
  · rw [wlist_app, List.getElem?_append_left (List.getElem?_eq_some_iff.1 hu).1]; exact hu
  · have := h.2 (xs.length * 4 + j) u (by rw [wlist_app, List.getElem?_append_right (by rw [wlist_len]; omega), wlist_len, show xs.length * 4 + j - xs.length * 4 = j by omega]; exact hu)
    rw [← Nat.add_assoc] at this; exact this
theorem OwnB.below {B C : Nat} {w w' : World} {v : Value} {xs : List Wf} (h : OwnB B w v xs) (hb : Below C w w') (hC : w.heap.size ≤ C) : OwnB B w' v xs := by
  obtain ⟨g, c, rfl, h1, h2, h3, h4⟩ := h
  exact ⟨g, c, rfl, h1, Nat.lt_of_lt_of_le h2 hb.size, h3.below hb (by omega), fun j => by rw [hb.frozen (p := ⟨g, j, none⟩) (by show g < C; omega)]; exact h4 j⟩
theorem OwnB.ofOwns {t : TypeId} {B n : Nat} {w : World} {v : Value} {xs : List Wf} (hn : n = xs.length) (h0 : 0 < n) (h : w.ownsRow B t 4 v n (wlist xs)) : OwnB B w v xs := by
  subst hn
  rcases h.2 with ⟨hv, hx⟩ | ⟨g, cap, cur, hv, hB, hg, hnc, _, hs, htake⟩
  · omega
  · have hlt : g < w.heap.size := by
      obtain ⟨hlt, _⟩ := Array.getElem?_eq_some_iff.1 hg; exact hlt
    have hc : ∀ i u, (wlist xs)[i]? = some u → w.cell? ⟨g, i, none⟩ = some u := fun i u hu => by
      have hl := (List.getElem?_eq_some_iff.1 hu).1
      rw [wlist_len] at hl
      rw [← htake, List.getElem?_take_of_lt hl] at hu
      have h2 : cur[i]? = some u := by simpa using hu
      simp [World.cell?, hg, h2]
    refine ⟨g, cap, hv, hB, hlt, fun j hj i hi => ?_, fun j => by simp [World.frozen?, hg]⟩
    rw [Nat.zero_add]
    exact hc _ _ (wlist_get xs j hj i hi)
theorem ownsRow_some {t : TypeId} {B n : Nat} {w : World} {v : Value} {cs : List Value} (h0 : 0 < n) (h : w.ownsRow B t 4 v n cs) : ∃ g cap, v = .slice (some ⟨g, 0, none⟩) n cap := by
  rcases h.2 with ⟨hv, hx⟩ | ⟨g, cap, cur, hv, _⟩
  · omega
  · exact ⟨g, cap, hv⟩
theorem Try.undInt : Try.prog.underlying 3 = some (.int .i64) := by kernel_rfl
abbrev wz : Value := .agg #[.int .i8 0, .int .i8 0, .int .i8 0, .int .i8 0]
theorem wd_parts : ∃ i, Try.prog.info? 34 = some i ∧ i.zero = some wz ∧ i.size = 4 ∧ i.bytes = 4 := by
  obtain ⟨i, hi, hzz⟩ := Option.map_eq_some_iff.1 Try.info_wd
  simp only [Prod.mk.injEq] at hzz
  exact ⟨i, hi, hzz.1, hzz.2.1, hzz.2.2⟩
theorem grow_owns (w : World) (n : Nat) (hn : n ≤ 1048576) : (w.drew.alloc (.cells (Builtin.zeroCells wz.cells n ++ Builtin.zeroCells wz.cells (grownCap w n 0 34 - n)) 34)).ownsRow w.heap.size 34 4 (.slice (some ⟨w.heap.size, 0, none⟩) 0 (grownCap w n 0 34)) 0 (wlist []) := by
  refine World.ownsRow_made w.drew _ _ (Nat.le_refl _) (grownCap_le_maxLen w n 0 _ (by unfold maxLen; omega)) ?_
  have := grownCap_ge w n 0 34
  rw [Array.size_append, size_zeroCells, size_zeroCells, ← Nat.add_mul, show n + (grownCap w n 0 34 - n) = grownCap w n 0 34 by omega]
  rfl
theorem grow_any (n : Nat) (w : World) (h0 : 0 < n) (hn : n ≤ 1048576) :
    Calls Try.prog 35 #[.slice none 0 0, .int .i64 n] w fun e w' => ∃ v, e = .returned v ∧ w'.ownsRow w.heap.size 34 4 v 0 (wlist []) ∧ Below w.heap.size w w' := by
  obtain ⟨i0, hi, hz0, hz1, hz2⟩ := wd_parts
  have hr := Lib.run_append_nil_zeros (P := Try.prog) w 28 3 28 34 i0 _ .i64 .i64 Try.underlying28 Try.undInt hi hz0 n h0 (by omega) (by omega) (by rw [hz2]; omega)
  have HO := Lib.hid (grow_owns w n hn)
  have HB := Lib.hid (((Below.refl w.heap.size w).drew).alloc (Nat.le_refl _) (.cells (Builtin.zeroCells wz.cells n ++ Builtin.zeroCells wz.cells (grownCap w n 0 34 - n)) 34))
  have HR := Lib.hid hr
  clear hr
  have hc0 := grownCap_ge w n 0 34
  have h1 : 0 < (n : Int) := by omega
  have h2 : ¬ (n : Int) < 0 := by omega
  have h3 : IntKind.i64.wrap (n : Int) = n := IntWalk.i64_in _ (by omega)
  go_enter Try.func35, Try.ntmps35
  go_wp2_with (at_builtin; refine Lib.wpList_append_run _ rfl _ _ _ _ rfl _ _ rfl rfl _ _ HR.out ?_)
  generalize grownCap w n 0 34 = cap at *
  go_wp2
  go_ret
  exact ⟨_, rfl, HO.out, HB.out⟩
theorem one_of {w : World} {g : Nat} {x : Wf} {t : TypeId} (h : Blk w g (wordC x) t) : Src w g 0 [x] := WAt.src (fun j hj i hi => by
  obtain rfl : j = 0 := by simpa using hj
  rw [show 0 + 0 * 4 + i = i by omega]
  exact Blk.word h i hi) h.lt
set_option maxHeartbeats 4000000 in
theorem concat_any (bb g off g2 off2 c c2 c3 : Nat) (us vs : List Wf) (w : World) (h0 : 0 < us.length + vs.length) (hn : us.length ≤ 100000) (hn2 : vs.length ≤ 100000) (K : Blk w bb #[.slice (some ⟨g, off, none⟩) us.length c, .slice (some ⟨g2, off2, none⟩) vs.length c2] 28) (hr : Src w g off us) (hr2 : Src w g2 off2 vs) :
    Calls Try.prog 22 #[.slice (some ⟨bb, 0, none⟩) 2 c3] w fun e w' => ∃ v, e = .returned v ∧ OwnB w.heap.size w' v (us ++ vs) ∧ Below w.heap.size w w' := by
  obtain ⟨i0, hi, hz0, hz1, hz2⟩ := wd_parts
  have HG := Lib.hid (grow_any (us.length + vs.length) w h0 (by omega))
  obtain ⟨d0, d1, -⟩ := K.two
  have HK := Lib.hid K
  have HR := Lib.hid hr
  have HR2 := Lib.hid hr2
  have hl1 := Lib.hid (wlist_len us)
  have hl2 := Lib.hid (wlist_len vs)
  have hln := Lib.hid (show us.length + vs.length = (us ++ vs).length by simp)
  have hm1 := Lib.hid (show 0 + us.length ≤ maxLen by unfold maxLen; omega)
  have hm2 := Lib.hid (show (0 + us.length) * 4 ≤ 140737488355328 by omega)
  have hm3 := Lib.hid (show us.length + vs.length ≤ maxLen by unfold maxLen; omega)
  have hm4 := Lib.hid (show (us.length + vs.length) * 4 ≤ 140737488355328 by omega)
  have H0 := Lib.hid h0
  have hp := Lib.hid (wlist_app us vs)
  have hu1 := Lib.hid (wlist_one us)
  have hu2 := Lib.hid (wlist_one vs)
  have HF0 := Lib.hid (fun (W : World) (v : Value) (h : W.ownsRow w.heap.size 34 4 v (us.length + vs.length) (wlist us ++ wlist vs)) => OwnB.ofOwns (xs := us ++ vs) hln.out H0.out (by rw [hp.out]; exact h))
  generalize us ++ vs = xs at *
  generalize hcu : wlist us = cu at *
  generalize hcv : wlist vs = cv at *
  have h2 : ¬ (us.length : Int) < 0 := by omega
  have h3 : IntKind.i64.wrap (us.length : Int) = us.length := IntWalk.i64_in _ (by omega)
  have h4 : IntKind.i64.wrap ((us.length : Int) + (vs.length : Int)) = us.length + vs.length := IntWalk.i64_in _ (by omega)
  have h5 : ¬ (us.length : Int) + (vs.length : Int) < 0 := by omega
  have hs1 : ∀ W, Src W g off us → ∀ j u, cu[j]? = some u → W.cell? ((⟨g, off, none⟩ : Addr).add j) = some u := fun W h => by rw [← hcu]; exact h.news
  have hs2 : ∀ W, Src W g2 off2 vs → ∀ j u, cv[j]? = some u → W.cell? ((⟨g2, off2, none⟩ : Addr).add j) = some u := fun W h => by rw [← hcv]; exact h.news
  have HS1 := Lib.hid hs1
  have HS2 := Lib.hid hs2
  have HSB1 := Lib.hid (fun (W W' : World) (h : Src W g off us) (hb : Below W.heap.size W W') => h.below hb)
  have HSB2 := Lib.hid (fun (W W' : World) (h : Src W g2 off2 vs) (hb : Below W.heap.size W W') => h.below hb)
  clear K hr hr2 hs1 hs2 hcu hcv hp h0 H0 hln
  generalize us.length = n at *
  generalize vs.length = m at *
  go_enter Try.func22, Try.ntmps22
  go_wp2_with fail
  refine wp_loop_rounds 3 ?_
  rw [rounds_succ]
  go_wp2_with fail
  rw [rounds_succ]
  go_wp2_with fail
  rw [rounds_succ]
  go_wp2_with fail
  refine (HG.out).mono ?_
  rintro e w1 ⟨v, rfl, ho, hb⟩
  have hz := hb.size
  have K1 := HK.out.below hb HK.out.lt
  have HR1 := Lib.hid (HSB1.out _ _ HR.out hb)
  have HO := Lib.hid ho
  have HB := Lib.hid hb
  have HZ := Lib.hid hz
  obtain ⟨d0, d1, -⟩ := K1.two
  clear K1 ho hb hz
  go_wp2_with fail
  refine wp_loop_rounds 3 ?_
  rw [rounds_succ]
  go_wp2_with (at_builtin; refine wpList_append_own _ rfl _ _ 28 rfl w.heap.size 34 i0 wz 4 4 Try.underlying28 hi hz0 hz1 hz2 rfl (by decide) _ _ _ rfl HO.out ⟨g, off, none⟩ n c cu rfl hl1.out (HS1.out _ HR1.out) hu1.out hm1.out hm2.out HZ.out ?_)
  intro v1 w2 hown1 hgrow1 _
  have hb2 := HB.out.grown hgrow1 HZ.out (fun j hj => (HO.out.lt j hj).1)
  have hown1' : w2.ownsRow w.heap.size 34 4 v1 n cu := hown1
  have HO2 := Lib.hid hown1'
  have K2 := HK.out.below hb2 HK.out.lt
  have HR22 := Lib.hid (HSB2.out _ _ HR2.out hb2)
  have HB2 := Lib.hid hb2
  have HZ2 := Lib.hid hb2.size
  obtain ⟨d0, d1, -⟩ := K2.two
  clear K2 hown1 hown1' hgrow1 hb2 HO HB HZ HR1
  go_wp2_with fail
  rw [rounds_succ]
  go_wp2_with (at_builtin; refine wpList_append_own _ rfl _ _ 28 rfl w.heap.size 34 i0 wz 4 4 Try.underlying28 hi hz0 hz1 hz2 rfl (by decide) _ _ _ rfl HO2.out ⟨g2, off2, none⟩ m c2 cv rfl hl2.out (HS2.out _ HR22.out) hu2.out hm3.out hm4.out HZ2.out ?_)
  intro v2 w3 hown2 hgrow2 _
  have HB3 := Lib.hid (HB2.out.grown hgrow2 HZ2.out (fun j hj => (HO2.out.lt j hj).1))
  have HF := Lib.hid (HF0.out _ _ hown2)
  clear hown2 hgrow2
  go_wp2_with fail
  rw [rounds_succ]
  go_wp2
  go_ret
  exact ⟨_, rfl, HF.out, HB3.out⟩
theorem v1_mark : True := trivial
end Go.Proofs.Ytimdicpjpgdcbaa
