/-
  The walks of AddAsk: a row of questions of one's own, slices.Grow and slices.Concat.
-/
import Derived.Test.YtclmjbkdghgjbaaZ10
import Derived.Test.YtclmjbkdghgjbaaFQg
import Derived.Lib.AppendZeros
import Derived.Deep.AppendLies
namespace Go.Proofs.Ytclmjbkdghgjbaa
open Go.RowKit
set_option maxRecDepth 100000
set_option linter.unusedVariables false

def alist (xs : List Ak) : List Value := xs.flatMap fun q => [.int .u64 q.1, .bool q.2]
theorem alist_app (xs ys : List Ak) : alist (xs ++ ys) = alist xs ++ alist ys := List.flatMap_append
theorem alist_cons (q : Ak) (xs : List Ak) : alist (q :: xs) = .int .u64 q.1 :: .bool q.2 :: alist xs := rfl
theorem alist_len : ∀ xs : List Ak, (alist xs).length = xs.length * 2
  | [] => rfl
  | q :: xs => by rw [alist_cons, List.length_cons, List.length_cons, alist_len xs, List.length_cons]; omega
theorem alist_one : ∀ xs : List Ak, ∀ u ∈ alist xs, u.oneCell' = true
  | [], u, h => by cases h
  | q :: xs, u, h => by
    rw [alist_cons] at h
    rcases List.mem_cons.1 h with rfl | h
    · rfl
    rcases List.mem_cons.1 h with rfl | h
    · rfl
    · exact alist_one xs u h
theorem alist_get : ∀ (xs : List Ak) (j : Nat), j < xs.length → (alist xs)[j * 2]? = some (.int .u64 (akI xs j).1) ∧ (alist xs)[j * 2 + 1]? = some (.bool (akI xs j).2)
  | [], j, h => by cases h
  | q :: xs, 0, _ => ⟨rfl, rfl⟩
  | q :: xs, j + 1, h => by
    have := alist_get xs j (by simpa using h)
    rw [alist_cons, show (j + 1) * 2 = j * 2 + 1 + 1 by omega, show j * 2 + 1 + 1 + 1 = (j * 2 + 1) + 1 + 1 by omega]
    simp only [List.getElem?_cons_succ]
    exact this
theorem AAt.news {w : World} {b : Nat} {xs : List Ak} (h : AAt w b 0 xs) : ∀ j u, (alist xs)[j]? = some u → w.cell? ((⟨b, 0, none⟩ : Addr).add j) = some u := by
  intro j u hu
  have hl := (List.getElem?_eq_some_iff.1 hu).1
  rw [alist_len] at hl
  rw [Addr.add_lit]
  obtain ⟨g0, g1⟩ := alist_get xs (j / 2) (by omega)
  obtain ⟨h0, h1⟩ := h (j / 2) (by omega)
  rcases Nat.mod_two_eq_zero_or_one j with e | e
  · rw [show j / 2 * 2 = j by omega] at g0 h0
    rw [g0] at hu
    rw [h0, ← hu]
  · rw [show j / 2 * 2 + 1 = j by omega] at g1
    rw [show 0 + j / 2 * 2 + 1 = j by omega] at h1
    rw [g1] at hu
    rw [show 0 + j = j by omega, h1, ← hu]
/-- Questions in a block that a call has made, perhaps with room behind them. -/
def OwnA (B : Nat) (w : World) (v : Value) (xs : List Ak) : Prop := ∃ g c, v = .slice (some ⟨g, 0, none⟩) xs.length c ∧ B ≤ g ∧ g < w.heap.size ∧ AAt w g 0 xs ∧ ∀ j, w.frozen? ⟨g, j, none⟩ = false
theorem OwnA.below {B C : Nat} {w w' : World} {v : Value} {xs : List Ak} (h : OwnA B w v xs) (hb : Below C w w') (hC : w.heap.size ≤ C) : OwnA B w' v xs := by
  obtain ⟨g, c, rfl, h1, h2, h3, h4⟩ := h
  exact ⟨g, c, rfl, h1, Nat.lt_of_lt_of_le h2 hb.size, h3.below hb (by omega), fun j => by rw [hb.frozen (p := ⟨g, j, none⟩) (by show g < C; omega)]; exact h4 j⟩
theorem OwnA.mono {B B' : Nat} {w : World} {v : Value} {xs : List Ak} (h : OwnA B w v xs) (hB : B' ≤ B) : OwnA B' w v xs := by
  obtain ⟨g, c, h0, h1, h2⟩ := h
  exact ⟨g, c, h0, by omega, h2⟩
theorem OwnA.ofOwns {t : TypeId} {B n : Nat} {w : World} {v : Value} {xs : List Ak} (hn : n = xs.length) (h0 : 0 < n) (h : w.ownsRow B t 2 v n (alist xs)) : OwnA B w v xs := by
  subst hn
  rcases h.2 with ⟨hv, hx⟩ | ⟨g, cap, cur, hv, hB, hg, hnc, _, hs, htake⟩
  · omega
  · have hlt : g < w.heap.size := by
      obtain ⟨hlt, _⟩ := Array.getElem?_eq_some_iff.1 hg; exact hlt
    have hc : ∀ i u, (alist xs)[i]? = some u → w.cell? ⟨g, i, none⟩ = some u := fun i u hu => by
      have hl := (List.getElem?_eq_some_iff.1 hu).1
      rw [alist_len] at hl
      rw [← htake, List.getElem?_take_of_lt hl] at hu
      have h2 : cur[i]? = some u := by simpa using hu
      simp [World.cell?, hg, h2]
    refine ⟨g, cap, hv, hB, hlt, fun j hj => ?_, fun j => by simp [World.frozen?, hg]⟩
    obtain ⟨g0, g1⟩ := alist_get xs j hj
    rw [Nat.zero_add]
    exact ⟨hc _ _ g0, hc _ _ g1⟩
theorem Try.undInt : Try.prog.underlying 3 = some (.int .i64) := by kernel_rfl
theorem ask_parts : ∃ i, Try.prog.info? 63 = some i ∧ i.zero = some (.agg #[.int .u64 0, .bool false]) ∧ i.size = 2 ∧ i.bytes = 16 := by
  obtain ⟨i, hi, hzz⟩ := Option.map_eq_some_iff.1 Try.info_ask
  simp only [Prod.mk.injEq] at hzz
  exact ⟨i, hi, hzz.1, hzz.2.1, hzz.2.2⟩
theorem grow_owns (w : World) (n : Nat) (hn : n ≤ 1048576) : (w.drew.alloc (.cells (Builtin.zeroCells (Value.agg #[.int .u64 0, .bool false]).cells n ++ Builtin.zeroCells (Value.agg #[.int .u64 0, .bool false]).cells (grownCap w n 0 63 - n)) 63)).ownsRow w.heap.size 63 2 (.slice (some ⟨w.heap.size, 0, none⟩) 0 (grownCap w n 0 63)) 0 (alist []) := by
  refine World.ownsRow_made w.drew _ _ (Nat.le_refl _) (grownCap_le_maxLen w n 0 _ (by unfold maxLen; omega)) ?_
  have := grownCap_ge w n 0 63
  rw [Array.size_append, size_zeroCells, size_zeroCells, ← Nat.add_mul, show n + (grownCap w n 0 63 - n) = grownCap w n 0 63 by omega]
  rfl
theorem grow_any (n : Nat) (w : World) (h0 : 0 < n) (hn : n ≤ 1048576) :
    Calls Try.prog 51 #[.slice none 0 0, .int .i64 n] w fun e w' => ∃ v, e = .returned v ∧ w'.ownsRow w.heap.size 63 2 v 0 (alist []) ∧ Below w.heap.size w w' := by
  obtain ⟨i0, hi, hz0, hz1, hz2⟩ := ask_parts
  have hr := Lib.run_append_nil_zeros (P := Try.prog) w 23 3 23 63 i0 _ .i64 .i64 Try.underlying23 Try.undInt hi hz0 n h0 (by omega) (by omega) (by rw [hz2]; omega)
  have HO := Lib.hid (grow_owns w n hn)
  have HB := Lib.hid (((Below.refl w.heap.size w).drew).alloc (Nat.le_refl _) (.cells (Builtin.zeroCells (Value.agg #[.int .u64 0, .bool false]).cells n ++ Builtin.zeroCells (Value.agg #[.int .u64 0, .bool false]).cells (grownCap w n 0 63 - n)) 63))
  have HR := Lib.hid hr
  clear hr
  have hc0 := grownCap_ge w n 0 63
  have h1 : 0 < (n : Int) := by omega
  have h2 : ¬ (n : Int) < 0 := by omega
  have h3 : IntKind.i64.wrap (n : Int) = n := IntWalk.i64_in _ (by omega)
  go_enter Try.func51, Try.ntmps51
  go_wp2_with (at_builtin; refine Lib.wpList_append_run _ rfl _ _ _ _ rfl _ _ rfl rfl _ _ HR.out ?_)
  generalize grownCap w n 0 63 = cap at *
  go_wp2
  go_ret
  exact ⟨_, rfl, HO.out, HB.out⟩
theorem one_of {w : World} {g : Nat} {q : Ak} {t : TypeId} (h : Blk w g #[.int .u64 q.1, .bool q.2] t) : AAt w g 0 [q] := fun j hj => by
  obtain rfl : j = 0 := by simpa using hj
  obtain ⟨a, b, -⟩ := h.two
  exact ⟨a, b⟩
set_option maxHeartbeats 4000000 in
theorem concat_any (bb g g2 c c2 c3 : Nat) (ws : List Ak) (q : Ak) (t2 : TypeId) (w : World) (hn : ws.length ≤ 1000000) (K : Blk w bb #[.slice (some ⟨g, 0, none⟩) ws.length c, .slice (some ⟨g2, 0, none⟩) 1 c2] 23) (hg : g < w.heap.size) (hr : AAt w g 0 ws) (hr2 : Blk w g2 #[.int .u64 q.1, .bool q.2] t2) :
    Calls Try.prog 37 #[.slice (some ⟨bb, 0, none⟩) 2 c3] w fun e w' => ∃ v, e = .returned v ∧ OwnA w.heap.size w' v (ws ++ [q]) ∧ Below w.heap.size w w' := by
  obtain ⟨i0, hi, hz0, hz1, hz2⟩ := ask_parts
  have HG := Lib.hid (grow_any (ws.length + 1) w (by omega) (by omega))
  obtain ⟨d0, d1, -⟩ := K.two
  have HK := Lib.hid K
  have HR := Lib.hid hr
  have HR2 := Lib.hid hr2
  have HS := Lib.hid hg
  have h2 : ¬ (ws.length : Int) < 0 := by omega
  have h3 : IntKind.i64.wrap (ws.length : Int) = ws.length := IntWalk.i64_in _ (by omega)
  have h4 : IntKind.i64.wrap ((ws.length : Int) + 1) = ws.length + 1 := IntWalk.i64_in _ (by omega)
  have h5 : ¬ (ws.length : Int) + 1 < 0 := by omega
  clear K hr hr2 hg
  go_enter Try.func37, Try.ntmps37
  go_wp2_with fail
  refine wp_loop_rounds 3 ?_
  rw [rounds_succ]
  go_wp2_with fail
  rw [rounds_succ]
  go_wp2_with fail
  rw [rounds_succ]
  go_wp2_with fail
  refine (HG.out).mono ?_
  rintro e w1 ⟨v, rfl, ho, hb⟩
  have hz := hb.size
  have K1 := HK.out.below hb HK.out.lt
  have HK1 := Lib.hid K1
  have HR1 := Lib.hid (HR.out.below hb HS.out)
  have hL1 := Lib.hid (show (alist ws).length = ws.length * 2 from alist_len ws)
  have HO := Lib.hid ho
  have HB := Lib.hid hb
  have HZ := Lib.hid hz
  have hm1 := Lib.hid (show 0 + ws.length ≤ maxLen by unfold maxLen; omega)
  have hm2 := Lib.hid (show (0 + ws.length) * 16 ≤ 140737488355328 by omega)
  have hm3 := Lib.hid (show ws.length + 1 ≤ maxLen by unfold maxLen; omega)
  have hm4 := Lib.hid (show (ws.length + 1) * 16 ≤ 140737488355328 by omega)
  obtain ⟨d0, d1, -⟩ := K1.two
  clear K1 ho hb hz
  go_wp2_with fail
  refine wp_loop_rounds 3 ?_
  rw [rounds_succ]
  go_wp2_with (at_builtin; refine wpList_append_own _ rfl _ _ 23 rfl w.heap.size 63 i0 (.agg #[.int .u64 0, .bool false]) 2 16 Try.underlying23 hi hz0 hz1 hz2 rfl (by decide) _ _ _ rfl HO.out ⟨g, 0, none⟩ ws.length c (alist ws) rfl hL1.out HR1.out.news (alist_one ws) hm1.out hm2.out HZ.out ?_)
  intro v1 w2 hown1 hgrow1 _
  have hb2 := HB.out.grown hgrow1 HZ.out (fun j hj => (HO.out.lt j hj).1)
  have HO2 := Lib.hid hown1
  have K2 := HK.out.below hb2 HK.out.lt
  have HR22 := Lib.hid (one_of (HR2.out.below hb2 HR2.out.lt))
  have HB2 := Lib.hid hb2
  have HZ2 := Lib.hid hb2.size
  have hL2 := Lib.hid (show (alist [q]).length = 1 * 2 from rfl)
  obtain ⟨d0, d1, -⟩ := K2.two
  clear K2 hown1 hgrow1 hb2 HO HB HZ HR1 HK1
  go_wp2_with fail
  rw [rounds_succ]
  go_wp2_with (at_builtin; refine wpList_append_own _ rfl _ _ 23 rfl w.heap.size 63 i0 (.agg #[.int .u64 0, .bool false]) 2 16 Try.underlying23 hi hz0 hz1 hz2 rfl (by decide) _ _ _ rfl HO2.out ⟨g2, 0, none⟩ 1 c2 (alist [q]) rfl hL2.out HR22.out.news (alist_one [q]) hm3.out hm4.out HZ2.out ?_)
  intro v2 w3 hown2 hgrow2 _
  have HB3 := Lib.hid (HB2.out.grown hgrow2 HZ2.out (fun j hj => (HO2.out.lt j hj).1))
  have hln : ws.length + 1 = (ws ++ [q]).length := by simp
  have HF := Lib.hid (OwnA.ofOwns (B := w.heap.size) (xs := ws ++ [q]) hln (by omega) (by rw [alist_app]; exact hown2))
  clear hown2 hgrow2 hln
  go_wp2_with fail
  rw [rounds_succ]
  go_wp2
  go_ret
  exact ⟨_, rfl, HF.out, HB3.out⟩
theorem z34a_mark : True := trivial
end Go.Proofs.Ytclmjbkdghgjbaa
