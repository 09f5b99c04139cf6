/-
  The impl's walk of DropWord.
-/
import Derived.Test.YtimdicpjpgdcbaaV2
namespace Go.Proofs.Ytimdicpjpgdcbaa
open Go.RowKit
set_option maxRecDepth 100000
set_option linter.unusedVariables false

def dwX (ws : List Wf) (m : Nat) : List Wf := ws.take m ++ ws.drop (m + 1)
def dwB (l k : Int) (ws : List Wf) (i : Int) : Prop := OkX l k ws ∧ (0 ≤ i ∧ i ≤ (ws.length : Int) - 1) ∧ ws.length ≠ 1
noncomputable def dwL (l k : Int) (ws : List Wf) (i : Int) : Int := if cb (dwB l k ws i) = true then l else 0
noncomputable def dwK (l k : Int) (ws : List Wf) (i : Int) : Int := if cb (dwB l k ws i) = true then k else 0
noncomputable def dwY (l k : Int) (ws : List Wf) (i : Int) : List Wf := if cb (dwB l k ws i) = true then dwX ws i.toNat else []
noncomputable def dwC (l k : Int) (ws : List Wf) (i : Int) : Int := if okX l k ws = true then if cb (0 ≤ i ∧ i ≤ (ws.length : Int) - 1) = true then if ws.length = 1 then 4 else 0 else 2 else 1
theorem dw_off {l k : Int} {ws : List Wf} {i : Int} (h : ¬ dwB l k ws i) : dwL l k ws i = 0 ∧ dwK l k ws i = 0 ∧ dwY l k ws i = [] := by
  unfold dwL dwK dwY; rw [cb_f h]; exact ⟨rfl, rfl, rfl⟩
theorem dw_1 {l k : Int} {ws : List Wf} {i : Int} (h : okX l k ws = false) : dwL l k ws i = 0 ∧ dwK l k ws i = 0 ∧ dwY l k ws i = [] ∧ dwC l k ws i = 1 := by
  obtain ⟨a, b, c⟩ := dw_off (l := l) (k := k) (ws := ws) (i := i) (fun h' => by rw [show okX l k ws = true from cb_t h'.1] at h; cases h)
  exact ⟨a, b, c, by unfold dwC; rw [h]; rfl⟩
theorem dw_2 {l k : Int} {ws : List Wf} {i : Int} (h : okX l k ws = true) (h2 : ¬ (0 ≤ i ∧ i ≤ (ws.length : Int) - 1)) : dwL l k ws i = 0 ∧ dwK l k ws i = 0 ∧ dwY l k ws i = [] ∧ dwC l k ws i = 2 := by
  obtain ⟨a, b, c⟩ := dw_off (l := l) (k := k) (ws := ws) (i := i) (fun h' => h2 h'.2.1)
  exact ⟨a, b, c, by unfold dwC; rw [h, cb_f h2]; rfl⟩
theorem dw_4 {l k : Int} {ws : List Wf} {i : Int} (h : okX l k ws = true) (h2 : 0 ≤ i ∧ i ≤ (ws.length : Int) - 1) (h3 : ws.length = 1) : dwL l k ws i = 0 ∧ dwK l k ws i = 0 ∧ dwY l k ws i = [] ∧ dwC l k ws i = 4 := by
  obtain ⟨a, b, c⟩ := dw_off (l := l) (k := k) (ws := ws) (i := i) (fun h' => h'.2.2 h3)
  exact ⟨a, b, c, by unfold dwC; rw [h, cb_t h2, if_pos rfl, if_pos rfl, if_pos h3]⟩
theorem dw_0 {l k : Int} {ws : List Wf} {i : Int} (h : okX l k ws = true) (h2 : 0 ≤ i ∧ i ≤ (ws.length : Int) - 1) (h3 : ws.length ≠ 1) : dwL l k ws i = l ∧ dwK l k ws i = k ∧ dwY l k ws i = dwX ws i.toNat ∧ dwC l k ws i = 0 := by
  have e : cb (dwB l k ws i) = true := cb_t ⟨of_cb h, h2, h3⟩
  unfold dwL dwK dwY dwC
  rw [e, h, cb_t h2, if_pos rfl, if_pos rfl, if_pos rfl, if_pos rfl, if_pos rfl, if_neg h3]
  exact ⟨rfl, rfl, rfl, rfl⟩
theorem dwX_len {ws : List Wf} {m : Nat} (h : m < ws.length) : (dwX ws m).length = m + (ws.length - (m + 1)) := by
  unfold dwX; rw [List.length_append, List.length_take, List.length_drop]; omega
theorem dwY_len (l k : Int) (ws : List Wf) (i : Int) : (dwY l k ws i).length ≤ 80 := by
  by_cases h : dwB l k ws i
  · unfold dwY; rw [cb_t h, if_pos rfl, dwX_len (by have := h.2.1; omega)]
    have h2 := h.2.1
    have := h.1.2.2.1
    omega
  · rw [(dw_off h).2.2]; simp
/-- Where the words behind the dropped one begin: at the row's own head if there are none. -/
def tailOff (m n : Nat) : Nat := if n = m + 1 then 0 else (m + 1) * 4
theorem src_split {w : World} {g : Nat} {ws : List Wf} (h : Src w g 0 ws) {m : Nat} (hm : m < ws.length) : Src w g 0 (ws.take m) ∧ Src w g (tailOff m ws.length) (ws.drop (m + 1)) := by
  have e : ws = ws.take m ++ ws.drop m := (List.take_append_drop m ws).symm
  have e2 : ws = ws.take (m + 1) ++ ws.drop (m + 1) := (List.take_append_drop (m + 1) ws).symm
  refine ⟨(Src.parts (by rw [← e]; exact h)).1, ?_⟩
  unfold tailOff
  by_cases hl : ws.length = m + 1
  · rw [if_pos hl, List.drop_eq_nil_of_le (by omega)]
    exact Src.nil h.1
  · rw [if_neg hl]
    have := (Src.parts (w := w) (b := g) (off := 0) (xs := ws.take (m + 1)) (ys := ws.drop (m + 1)) (by rw [← e2]; exact h)).2
    rw [List.length_take, Nat.zero_add, Nat.min_eq_left (by omega)] at this
    exact this
theorem v4_mark : True := trivial
end Go.Proofs.Ytimdicpjpgdcbaa
