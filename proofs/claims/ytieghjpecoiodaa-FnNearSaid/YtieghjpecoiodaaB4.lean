/-
  The model's cases of a fixed plan.
-/
import Derived.Test.YtieghjpecoiodaaB1
import Derived.Test.YtieghjpecoiodaaE3
namespace Go.Proofs.Ytieghjpecoiodaa
open Go.RowKit
set_option maxRecDepth 100000
set_option linter.unusedVariables false

/-- These values lie in block b from off on. -/
def VAt (w : World) (b off : Nat) (vs : List Value) : Prop := ∀ j v, vs[j]? = some v → w.cell? ⟨b, off + j, none⟩ = some v
theorem VAt.below {w w' : World} {b off B : Nat} {vs : List Value} (h : VAt w b off vs) (hb : Below B w w') (hB : b < B) : VAt w' b off vs := fun j v hj => (hb.cell (p := ⟨b, off + j, none⟩) hB).trans (h j v hj)
/-- A slice that a call has made, with room to write; nothing is known of one without elements. -/
def OwnX (lo : Nat) (w : World) (v : Value) (n : Nat) (vs : List Value) : Prop := ∃ a c, v = .slice a n c ∧ (vs = [] ∨ ∃ g, a = some ⟨g, 0, none⟩ ∧ lo ≤ g ∧ g < w.heap.size ∧ VAt w g 0 vs ∧ ∀ j, w.frozen? ⟨g, j, none⟩ = false)
theorem OwnX.ofOwns {B n size : Nat} {w : World} {v : Value} {t : TypeId} {vs : List Value} (h : w.ownsRow B t size v n vs) : OwnX B w v n vs := by
  have hv := h.1
  rcases h.2 with ⟨rfl, rfl⟩ | ⟨g, cap, cur, rfl, hB, hg, hnc, _, hs, htake⟩
  · exact ⟨none, 0, rfl, .inl (List.eq_nil_of_length_eq_zero (by rw [hv, Nat.zero_mul]))⟩
  · refine ⟨some ⟨g, 0, none⟩, cap, rfl, .inr ⟨g, rfl, hB, (Array.getElem?_eq_some_iff.1 hg).1, fun j u hu => ?_, fun j => by simp [World.frozen?, hg]⟩⟩
    have h1 : (cur.toList.take (n * size))[j]? = vs[j]? := by rw [htake]
    have hj : j < n * size := by rw [← hv]; exact (List.getElem?_eq_some_iff.1 hu).1
    rw [List.getElem?_take_of_lt hj, hu] at h1
    have h2 : cur[j]? = some u := by simpa using h1
    simp [World.cell?, hg, h2]
theorem OwnX.below {lo n : Nat} {w w' : World} {v : Value} {vs : List Value} (h : OwnX lo w v n vs) (hb : Below w.heap.size w w') : OwnX lo w' v n vs := by
  obtain ⟨a, c, rfl, h⟩ := h
  refine ⟨a, c, rfl, ?_⟩
  rcases h with h | ⟨g, rfl, h1, h2, h3, h4⟩
  · exact .inl h
  · exact .inr ⟨g, rfl, h1, Nat.lt_of_lt_of_le h2 hb.size, h3.below hb h2, fun j => by rw [hb.frozen (p := ⟨g, j, none⟩) h2]; exact h4 j⟩
theorem OwnX.mono {lo lo' n : Nat} {w : World} {v : Value} {vs : List Value} (h : OwnX lo w v n vs) (hl : lo' ≤ lo) : OwnX lo' w v n vs := by
  obtain ⟨a, c, rfl, h⟩ := h
  refine ⟨a, c, rfl, ?_⟩
  rcases h with h | ⟨g, rfl, h1, h2⟩
  · exact .inl h
  · exact .inr ⟨g, rfl, Nat.le_trans hl h1, h2⟩
theorem OwnX.nil (lo : Nat) (w : World) (a : Option Addr) (n c : Nat) : OwnX lo w (.slice a n c) n [] := ⟨a, c, rfl, .inl rfl⟩


theorem cvals_get (cs : List Cs) (j : Nat) (hj : j < cs.length) : (cvals cs)[j * 2]? = some (.int .i8 (cs.getD j (0, false)).1) ∧ (cvals cs)[j * 2 + 1]? = some (.bool (cs.getD j (0, false)).2) := by
  induction cs generalizing j with
  | nil => exact absurd hj (by simp)
  | cons m ms ih =>
    rw [show cvals (m :: ms) = .int .i8 m.1 :: .bool m.2 :: cvals ms from rfl]
    cases j with
    | zero => exact ⟨rfl, rfl⟩
    | succ j =>
      have h := ih j (by simpa using hj)
      rw [show (j + 1) * 2 = j * 2 + 2 by omega]
      simpa using h
/-- Cases in block b from off on. -/
def CAt (w : World) (b off : Nat) (cs : List Cs) : Prop := ∀ j, j < cs.length → w.cell? ⟨b, off + j * 2, none⟩ = some (.int .i8 (cs.getD j (0, false)).1) ∧ w.cell? ⟨b, off + j * 2 + 1, none⟩ = some (.bool (cs.getD j (0, false)).2)
theorem VAt.cs {w : World} {b off : Nat} {cs : List Cs} (h : VAt w b off (cvals cs)) : CAt w b off cs := fun j hj =>
  ⟨h _ _ (cvals_get cs j hj).1, by have := h _ _ (cvals_get cs j hj).2; rwa [← Nat.add_assoc] at this⟩
theorem CAt.below {w w' : World} {b off B : Nat} {cs : List Cs} (h : CAt w b off cs) (hb : Below B w w') (hB : b < B) : CAt w' b off cs := fun j hj =>
  ⟨(hb.cell (p := ⟨b, off + j * 2, none⟩) hB).trans (h j hj).1, (hb.cell (p := ⟨b, off + j * 2 + 1, none⟩) hB).trans (h j hj).2⟩
theorem upC_ne (k : Int) (m : Nat) : cvals (upC k true m) ≠ [] := by
  unfold upC
  rw [if_pos rfl]
  simp [cvals]
set_option maxHeartbeats 2000000 in
theorem l04Cases_any (fb b off c : Nat) (l k : Int) (ws : List Wf) (w : World) (K : Blk w fb #[.int .i8 l, .int .i8 k, .slice (some ⟨b, off, none⟩) ws.length c] 27) (hn : ws.length ≤ 80) (hk : 0 ≤ k ∧ k ≤ 2) :
    Calls Try.prog 27 #[.pointer (some ⟨fb, 0, none⟩)] w fun e w' => ∃ g c', e = .returned (.slice (some ⟨g, 0, none⟩) (upC k true ws.length).length c') ∧ w.heap.size ≤ g ∧ g < w'.heap.size ∧ CAt w' g 0 (upC k true ws.length) ∧ (∀ j, w'.frozen? ⟨g, j, none⟩ = false) ∧ Below w.heap.size w w' := by
  obtain ⟨c0, c1, c2, c3⟩ := K.three
  have HL := Lib.hid (fun W => l03Cases80 ws.length k false W hn hk)
  have hn8 : (ws.length : Int) ≤ 80 := by omega
  clear K hn hk
  go_enter Try.func27, Try.ntmps27
  go_upto_region 1 with fail
  refine wp_region_still_tail 11 (by kernel_rfl) (by kernel_rfl) ?_
  simp only [List.take_succ_cons, List.take_zero, List.drop_succ_cons, List.drop_zero]
  iterate 11 still_step
  refine wpStill_nil ?_
  change wpList _ _ _ _ _ w.drew
  have HB := Lib.hid (show Below w.heap.size w w.drew from (Below.refl _ w).drew)
  have hsz : w.heap.size ≤ w.drew.heap.size := Nat.le_refl _
  clear c0 c1 c2 c3
  generalize w.drew = w3 at *
  go_wp2_with fail
  refine (HL.out _).mono ?_
  rintro e w4 ⟨v, rfl, ho, hb4⟩
  obtain ⟨a, c', rfl, hx⟩ := OwnX.ofOwns ho
  have HR := Lib.hid hx
  have HB4 := Lib.hid (HB.out.trans (hb4.mono HB.out.size))
  clear ho hb4 hx
  go_wp2
  go_ret
  rcases HR.out with h | ⟨g, rfl, h1, h2, h3, h4⟩
  · exact absurd h (upC_ne _ _)
  · exact ⟨g, c', rfl, by omega, h2, h3.cs, h4, HB4.out⟩
end Go.Proofs.Ytieghjpecoiodaa
