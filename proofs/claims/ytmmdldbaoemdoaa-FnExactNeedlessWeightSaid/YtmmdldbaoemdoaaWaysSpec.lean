/-
  The walk of WaysToWeigh in its model.
-/
import Derived.Test.YtmmdldbaoemdoaaWaysFn
import Derived.RegionTactic
import Derived.ChangeAlike
namespace Go.Proofs.Ytmmdldbaoemdoaa
open Go.RowKit Go.Maps

theorem setCell_new (w : World) (c : Array Value) (t : TypeId) (o : Nat) (v : Value) : (w.alloc (.cells c t)).setCell ⟨w.heap.size, o, none⟩ v = w.alloc (.cells (c.setIfInBounds o v) t) := by
  unfold World.setCell World.alloc
  congr 1
  apply Array.ext_getElem?
  intro i
  simp only [Array.getElem?_modify, Array.getElem?_push]
  by_cases h : i = w.heap.size
  · subst h; simp
  · simp [h, Ne.symm h]
def leastOf (both : Bool) : Int := if both then -1 else 0
theorem plOf_getD (both : Bool) (j : Nat) (h : j < (plOf both).length) : (plOf both).getD j 0 = leastOf both + j := by
  cases both
  · match j, h with
    | 0, _ => decide
    | 1, _ => decide
  · match j, h with
    | 0, _ => decide
    | 1, _ => decide
    | 2, _ => decide
theorem plOf_len (both : Bool) : ((plOf both).length : Int) = 2 - leastOf both := by cases both <;> decide
theorem leastOf_bd (both : Bool) : -1 ≤ leastOf both ∧ leastOf both ≤ 0 := by cases both <;> decide
theorem l01Least_any (both : Bool) (w : World) : Calls Try.prog 24 #[.bool both] w fun e w' => e = .returned (.int .i64 (leastOf both)) ∧ w = w' := by
  cases both
  · go_enter Try.func24, Try.ntmps24
    go_wp2
    go_ret
    exact ⟨rfl, rfl⟩
  · go_enter Try.func24, Try.ntmps24
    go_wp2
    go_ret
    exact ⟨rfl, rfl⟩
theorem l01Asked_any (b off c : Nat) (ws : List Int) (m : Int) (w : World) (hn : ws.length ≤ 1048576) (hc : At .i16 w b off ws) (hi : I16 ws) :
    Calls Try.prog 22 #[.slice (some ⟨b, off, none⟩) ws.length c, .int .i64 m] w fun e w' => e = .returned (.int .i64 (askC ws m)) ∧ Dr w w' := by
  have hV := Lib.hid (l01Ok_any b off c ws w hn hc hi)
  unfold askC
  cases hok : okW ws
  · rw [hok] at hV
    clear hok
    simp only [Bool.false_eq_true, if_false]
    go_enter Try.func22, Try.ntmps22
    go_wp2_with fail
    refine hV.out.mono ?_
    rintro e w' ⟨rfl, hd⟩
    go_wp2
    go_ret
    exact ⟨rfl, hd⟩
  rw [hok] at hV
  clear hok
  simp only [if_true]
  by_cases hm : 0 ≤ m ∧ m ≤ 2000
  · rw [cb_t hm]
    simp only [if_true]
    go_enter Try.func22, Try.ntmps22
    go_wp2_with fail
    refine hV.out.mono ?_
    rintro e w1 ⟨rfl, hd⟩
    go_wp2_with fail
    refine (l00In_t _ _ _ _ hm).mono ?_
    rintro e w' ⟨rfl, rfl⟩
    go_wp2
    go_ret
    exact ⟨rfl, hd⟩
  · rw [cb_f hm]
    have H := Lib.hid hm
    clear hm
    simp only [Bool.false_eq_true, if_false]
    go_enter Try.func22, Try.ntmps22
    go_wp2_with fail
    refine hV.out.mono ?_
    rintro e w1 ⟨rfl, hd⟩
    go_wp2_with fail
    refine (l00In_f _ _ _ _ H.out).mono ?_
    rintro e w' ⟨rfl, rfl⟩
    go_wp2
    go_ret
    exact ⟨rfl, hd⟩
theorem Try.info_i64t : (Try.prog.info? 2).map (fun i => (i.zero, i.size, i.bytes)) = some (some (.int .i64 0), 1, 8) := by kernel_rfl
/-- What the first m places have brought to s. -/
def partW (pl : List Int) (f : Int → Int) (wt s : Int) (m : Nat) : Int := ((pl.take m).map (fun x => f (s - x * wt))).sum
theorem partW_step (pl : List Int) (f : Int → Int) (wt s : Int) (m : Nat) (h : m < pl.length) : partW pl f wt s (m + 1) = partW pl f wt s m + f (s - pl.getD m 0 * wt) := by
  unfold partW
  rw [take_getD pl m h, List.map_append, List.sum_append]
  simp
theorem partW_bd (pl : List Int) (f : Int → Int) (wt s M : Int) (m : Nat) (hf : ∀ s, 0 ≤ f s ∧ f s ≤ M) (hl : pl.length ≤ 3) (hM : 0 ≤ M) : 0 ≤ partW pl f wt s m ∧ partW pl f wt s m ≤ 3 * M := by
  have h := sum_bd (pl.take m) (fun x => f (s - x * wt)) M (fun x _ => hf _)
  have h2 : (pl.take m).length ≤ 3 := by rw [List.length_take]; omega
  have h3 : ((pl.take m).length : Int) * M ≤ 3 * M := Int.mul_le_mul_of_nonneg_right (by omega) hM
  unfold partW
  omega
end Go.Proofs.Ytmmdldbaoemdoaa
