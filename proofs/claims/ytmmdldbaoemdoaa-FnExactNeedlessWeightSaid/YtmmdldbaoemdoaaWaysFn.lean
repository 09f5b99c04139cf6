/-
  The walk of WaysToWeigh, in the program.
-/
import Derived.Test.YtmmdldbaoemdoaaWays
namespace Go.Proofs.Ytmmdldbaoemdoaa
open Go.RowKit Go.Maps

noncomputable def askC (ws : List Int) (m : Int) : Int := if okW ws = true then (if cb (0 ≤ m ∧ m ≤ 2000) = true then 0 else 2) else 1
noncomputable def wtwV (ws : List Int) (m : Int) (both : Bool) : Int := if askC ws m = 0 then wayFn (plOf both) ws ws.length m else 0
theorem askC_zero {ws : List Int} {m : Int} (h : askC ws m = 0) : OkW ws ∧ (0 ≤ m ∧ m ≤ 2000) := by
  unfold askC at h
  split at h
  · rename_i h1
    split at h
    · rename_i h2; exact ⟨of_cb h1, of_cb h2⟩
    · omega
  · omega
theorem askC_bd (ws : List Int) (m : Int) : 0 ≤ askC ws m ∧ askC ws m ≤ 2 := by
  unfold askC
  split
  · split <;> omega
  · omega
theorem codeOfWeighing_any (b off c : Nat) (ws : List Int) (m : Int) (w : World) (hn : ws.length ≤ 1048576) (hc : At .i16 w b off ws) (hi : I16 ws) :
    Calls Try.prog 25 #[.slice (some ⟨b, off, none⟩) ws.length c, .int .i64 m] w fun e w' => e = .returned (.int .i64 (askC ws m)) ∧ Dr w w' := by
  have hV := Lib.hid (validWeights_any b off c ws w hn hc hi)
  unfold askC
  cases hok : okW ws
  · rw [hok] at hV
    clear hok
    simp only [Bool.false_eq_true, if_false]
    go_enter Try.func25, Try.ntmps25
    go_wp2_with fail
    refine hV.out.mono ?_
    rintro e w' ⟨rfl, hd⟩
    go_wp2
    go_ret
    exact ⟨rfl, hd⟩
  rw [hok] at hV
  clear hok
  simp only [if_true]
  by_cases hm : 0 ≤ m ∧ m ≤ 2000
  · rw [cb_t hm]
    simp only [if_true]
    go_enter Try.func25, Try.ntmps25
    go_wp2_with fail
    refine hV.out.mono ?_
    rintro e w1 ⟨rfl, hd⟩
    go_wp2_with fail
    refine (within_t _ _ _ _ hm).mono ?_
    rintro e w' ⟨rfl, rfl⟩
    go_wp2
    go_ret
    exact ⟨rfl, hd⟩
  · rw [cb_f hm]
    have H := Lib.hid hm
    clear hm
    simp only [Bool.false_eq_true, if_false]
    go_enter Try.func25, Try.ntmps25
    go_wp2_with fail
    refine hV.out.mono ?_
    rintro e w1 ⟨rfl, hd⟩
    go_wp2_with fail
    refine (within_f _ _ _ _ H.out).mono ?_
    rintro e w' ⟨rfl, rfl⟩
    go_wp2
    go_ret
    exact ⟨rfl, hd⟩
end Go.Proofs.Ytmmdldbaoemdoaa
