/-
  The walks of HalfOf and its model.
-/
import Derived.Test.YtkikkpahfplkaaaZ4
namespace Go.Proofs.Ytkikkpahfplkaaa
open Go.RowKit
set_option maxRecDepth 100000
set_option linter.unusedVariables false

/-- No more of each sort are asked about than there are. -/
def InS (x a : Nat → Int) : Prop := ∀ i, i < 4 → 0 ≤ a i ∧ a i ≤ x i
/-- Whether the next odd number is rounded up: 1 or 0. -/
def hU (x : Nat → Int) : Nat → Int
  | 0 => 1
  | i + 1 => if x i % 2 = 1 then 1 - hU x i else hU x i
/-- Half of each sort. -/
def halfX (x : Nat → Int) (i : Nat) : Int := x i / 2 + (if x i % 2 = 1 then hU x i else 0)
/-- The first i numbers are halved, the others not yet. -/
def hP (x : Nat → Int) (i j : Nat) : Int := if j < i then halfX x j else 0
theorem hU_01 (x : Nat → Int) (i : Nat) : hU x i = 0 ∨ hU x i = 1 := by
  induction i with
  | zero => exact .inr rfl
  | succ i ih =>
    show (if x i % 2 = 1 then 1 - hU x i else hU x i) = 0 ∨ (if x i % 2 = 1 then 1 - hU x i else hU x i) = 1
    split
    · rcases ih with h | h <;> rw [h] <;> simp
    · exact ih
theorem sta_set (f g : Nat → Int) (i : Nat) (hi : i < 4) (h : ∀ j, j < 4 → g j = if j = i then g i else f j) : (staC f).setIfInBounds i (.int .i64 (g i)) = staC g := by
  have h0 := h 0 (by decide)
  have h1 := h 1 (by decide)
  have h2 := h 2 (by decide)
  have h3 := h 3 (by decide)
  match i, hi with
  | 0, _ => simp at h1 h2 h3; simp [h1, h2, h3]
  | 1, _ => simp at h0 h2 h3; simp [h0, h2, h3]
  | 2, _ => simp at h0 h1 h3; simp [h0, h1, h3]
  | 3, _ => simp at h0 h1 h2; simp [h0, h1, h2]
theorem hP_next (x : Nat → Int) (i : Nat) (hi : i < 4) : (staC (hP x i)).setIfInBounds i (.int .i64 (halfX x i)) = staC (hP x (i + 1)) := by
  have e : halfX x i = hP x (i + 1) i := by unfold hP; rw [if_pos (by omega)]
  rw [e]
  refine sta_set _ _ i hi (fun j hj => ?_)
  by_cases h : j = i
  · subst h; rw [if_pos rfl]
  · rw [if_neg h]; unfold hP
    by_cases h2 : j < i
    · rw [if_pos h2, if_pos (by omega)]
    · rw [if_neg h2, if_neg (by omega)]
theorem hP_four (x : Nat → Int) : staC (hP x 4) = staC (halfX x) := by simp [hP]
theorem sta_twice (cs : Array Value) (i : Nat) (u v : Value) : (cs.setIfInBounds i u).setIfInBounds i v = cs.setIfInBounds i v := by
  apply Array.ext
  · simp
  · intro j h1 h2
    have h3 : j < cs.size := by simpa using h2
    rw [Array.getElem_setIfInBounds (by simpa using h3), Array.getElem_setIfInBounds (by simpa using h3), Array.getElem_setIfInBounds h3]
    by_cases h : i = j
    · rw [if_pos h, if_pos h]
    · rw [if_neg h, if_neg h, if_neg h]
theorem half_odd {x : Nat → Int} {i : Nat} (h : (x i % 2 == 1) = true) : halfX x i = x i / 2 + hU x i ∧ hU x (i + 1) = 1 - hU x i := by
  have h' : x i % 2 = 1 := by simpa using h
  exact ⟨by unfold halfX; rw [if_pos h'], by show (if x i % 2 = 1 then 1 - hU x i else hU x i) = _; rw [if_pos h']⟩
theorem half_even {x : Nat → Int} {i : Nat} (h : (x i % 2 == 1) = false) : halfX x i = x i / 2 ∧ hU x (i + 1) = hU x i := by
  have h' : ¬ x i % 2 = 1 := by simpa using h
  exact ⟨by unfold halfX; rw [if_neg h']; omega, by show (if x i % 2 = 1 then 1 - hU x i else hU x i) = _; rw [if_neg h']⟩
theorem FR.halfOdd {w wr : World} {b : Nat} {t : TypeId} {L : List (Nat × Array Value × TypeId)} {x : Nat → Int} {i : Nat} (hF : FR w ((b, staC (hP x i), t) :: L) wr) (hi : i < 4) (h : (x i % 2 == 1) = true) :
    FR w ((b, staC (hP x (i + 1)), t) :: L) ((wr.setCell ⟨b, i, none⟩ (.int .i64 (x i / 2))).setCell ⟨b, i, none⟩ (.int .i64 (x i / 2 + hU x i))) := by
  have h1 := (hF.setTop i (.int .i64 (x i / 2))).setTop i (.int .i64 (x i / 2 + hU x i))
  rw [sta_twice, ← (half_odd h).1, hP_next x i hi] at h1
  rwa [← (half_odd h).1]
theorem FR.halfEven {w wr : World} {b : Nat} {t : TypeId} {L : List (Nat × Array Value × TypeId)} {x : Nat → Int} {i : Nat} (hF : FR w ((b, staC (hP x i), t) :: L) wr) (hi : i < 4) (h : (x i % 2 == 1) = false) :
    FR w ((b, staC (hP x (i + 1)), t) :: L) (wr.setCell ⟨b, i, none⟩ (.int .i64 (x i / 2))) := by
  have h1 := hF.setTop i (.int .i64 (x i / 2))
  rw [← (half_even h).1, hP_next x i hi] at h1
  rwa [← (half_even h).1]
/-- Four cells of a block are set. -/
theorem Blk.setAll {w : World} {b : Nat} {v0 v1 v2 v3 : Value} {t : TypeId} (h : Blk w b #[v0, v1, v2, v3] t) (u0 u1 u2 u3 : Value) :
    Blk ((((w.setCell ⟨b, 0, none⟩ u0).setCell ⟨b, 1, none⟩ u1).setCell ⟨b, 2, none⟩ u2).setCell ⟨b, 3, none⟩ u3) b #[u0, u1, u2, u3] t := (((h.set 0 u0).set 1 u1).set 2 u2).set 3 u3
theorem below_setAll {n : Nat} {a w : World} (h : Below n a w) {b : Nat} (hb : n ≤ b) (u0 u1 u2 u3 : Value) : Below n a ((((w.setCell ⟨b, 0, none⟩ u0).setCell ⟨b, 1, none⟩ u1).setCell ⟨b, 2, none⟩ u2).setCell ⟨b, 3, none⟩ u3) :=
  (((h.setCell (p := ⟨b, 0, none⟩) hb u0).setCell (p := ⟨b, 1, none⟩) hb u1).setCell (p := ⟨b, 2, none⟩) hb u2).setCell (p := ⟨b, 3, none⟩) hb u3
def upB (x : Nat → Int) (i : Nat) : Bool := hU x i == 1
theorem upB_odd {x : Nat → Int} {i : Nat} (h : (x i % 2 == 1) = true) : upB x (i + 1) = !upB x i := by
  unfold upB
  rw [(half_odd h).2]
  rcases hU_01 x i with e | e <;> rw [e] <;> rfl
theorem upB_even {x : Nat → Int} {i : Nat} (h : (x i % 2 == 1) = false) : upB x (i + 1) = upB x i := by
  unfold upB
  rw [(half_even h).2]
theorem upB_t {x : Nat → Int} {i : Nat} (h : upB x i = true) : hU x i = 1 := by simpa [upB] using h
theorem upB_f {x : Nat → Int} {i : Nat} (h : upB x i = false) : hU x i = 0 := by
  rcases hU_01 x i with e | e
  · exact e
  · rw [upB, e] at h; cases h
theorem FR.halfOddF {w wr : World} {b : Nat} {t : TypeId} {L : List (Nat × Array Value × TypeId)} {x : Nat → Int} {i : Nat} (hF : FR w ((b, staC (hP x i), t) :: L) wr) (hi : i < 4) (h : (x i % 2 == 1) = true) (hu : upB x i = false) :
    FR w ((b, staC (hP x (i + 1)), t) :: L) (wr.setCell ⟨b, i, none⟩ (.int .i64 (x i / 2))) := by
  have e : halfX x i = x i / 2 := by rw [(half_odd h).1, upB_f hu]; omega
  have h1 := hF.setTop i (.int .i64 (x i / 2))
  rw [← e, hP_next x i hi] at h1
  rwa [← e]
end Go.Proofs.Ytkikkpahfplkaaa
