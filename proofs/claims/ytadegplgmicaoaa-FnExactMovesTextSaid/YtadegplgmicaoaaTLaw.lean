/-
  The walk of the law of MovesText.
-/
import Derived.Test.YtadegplgmicaoaaTImpl
namespace Go.Proofs.Ytadegplgmicaoaa
open Go.RowKit
set_option maxRecDepth 100000
set_option linter.unusedVariables false

theorem movesText_nil (a : Option Addr) (c : Nat) (w : World) :
    Calls Try.prog 7 #[.slice a 0 c] w fun e w' => e = .returned (.string ⟨#[]⟩) ∧ Below w.heap.size w w' := by
  have hmk : ∀ w, (Instr.makeSlice 35 (.int .i64 0) (.int .i64 0)).run Try.prog w = .ok (.slice (some ⟨w.heap.size, 0, none⟩) 0 0) (w.alloc (.cells #[] 9)) := fun _ => by kernel_rfl
  have HJ := Lib.hid (fun a c W => Try.strings_Join_none a c ⟨#[32]⟩ W)
  have hB := (Below.refl w.heap.size w).alloc (Nat.le_refl _) (.cells #[] 9)
  go_enter Try.func7, Try.ntmps7
  go_wp2
  clear hmk
  refine wp_loop_rounds 1 ?_
  rw [rounds_succ]
  go_wp2_with fail
  refine (HJ.out _ _ _).mono ?_
  rintro e w2 ⟨rfl, rfl⟩
  go_wp2
  go_ret
  exact ⟨rfl, hB⟩
theorem movesText_any (b c : Nat) (ms : List Mv) (w : World) (hb : b < w.heap.size) (hc : MAt w b 0 ms) (hM : Mall ms) :
    Calls Try.prog 7 #[.slice (some ⟨b, 0, none⟩) ms.length c] w fun e w' => e = .returned (.string (mtB ms)) ∧ Below w.heap.size w w' := by
  by_cases hl : ms.length ≤ 200
  · by_cases h0 : 0 < ms.length
    · exact movesText_some b 0 c ms w hl h0 hb hc hM
    · obtain rfl : ms = [] := List.eq_nil_of_length_eq_zero (by omega)
      have e : mtB [] = ⟨#[]⟩ := by
        unfold mtB
        split <;> rfl
      rw [e]
      exact movesText_nil _ c w
  · have e : mtB ms = ⟨#[]⟩ := by
      unfold mtB
      rw [cb_f (fun h => hl h.1)]; rfl
    rw [e]
    exact movesText_long _ _ c w (by omega)
theorem walk_FnExactMovesText (a0 : Option Addr) (c0 : Nat) (ms0 : List Mv) (w : World) (m0 : ms0.length ≤ 9223372036854775807) (s0 : Slm w.heap.size w a0 ms0) (g0 : Mall ms0) :
    Calls Try.prog 3 #[.slice a0 ms0.length c0] w fun e w' => e = .returned (.bool true) ∧ Below w.heap.size w w' := by
  have HS := Lib.hid s0
  have HG := Lib.hid g0
  clear s0 g0
  by_cases l0 : (1048576 : Int) < (ms0.length : Int)
  · have HZ := Lib.hid (szMoveS_any a0 ms0.length c0 1048576 w (by omega) m0)
    simp only [if_pos l0] at HZ
    clear l0
    go_enter Try.func3, Try.ntmps3
    go_wp2_with fail
    refine HZ.out.mono ?_
    rintro e w1 ⟨rfl, rfl⟩
    go_wp2
    go_ret
    exact ⟨rfl, Below.refl _ _⟩
  have hn : ms0.length ≤ 1048576 := by omega
  have hz : (ms0.length : Int) ≤ 1048576 := by omega
  have HZ := Lib.hid (szMoveS_any a0 ms0.length c0 1048576 w (by omega) m0)
  simp only [if_neg l0] at HZ
  clear l0
  go_enter Try.func3, Try.ntmps3
  go_wp2_with fail
  refine HZ.out.mono ?_
  rintro e w1 ⟨rfl, rfl⟩
  go_wp2_with fail
  refine (toMoveS_any w.heap.size a0 c0 ms0 w hn (Nat.le_refl _) HS.out).mono ?_
  rintro e w2 ⟨g, rfl, hg, hk, hb2⟩
  go_wp2_with fail
  refine (specMovesText_any g 0 _ ms0 w2 hn hk.lt hk.moves HG.out).mono ?_
  rintro e w3 ⟨rfl, hb3⟩
  have hB3 := hb2.trans (hb3.mono hb2.size)
  clear hk hb3 hb2
  go_wp2_with fail
  refine (toMoveS_any w.heap.size a0 c0 ms0 w3 hn hB3.size (HS.out.below hB3)).mono ?_
  rintro e w4 ⟨x, rfl, hx, kx, hb4⟩
  have hB4 := hB3.trans (hb4.mono hB3.size)
  clear hb4 hB3
  go_wp2_with fail
  refine (movesText_any x _ ms0 w4 kx.lt kx.moves HG.out).mono ?_
  rintro e w5 ⟨rfl, hb5⟩
  have hB5 := hB4.trans (hb5.mono hB4.size)
  have kx5 := kx.below hb5 kx.lt
  clear hb5 hB4 kx
  go_wp2_with fail
  refine (toMoveS_any w.heap.size a0 c0 ms0 w5 hn hB5.size (HS.out.below hB5)).mono ?_
  rintro e w6 ⟨y, rfl, hy, ky, hb6⟩
  have hB6 := hB5.trans (hb6.mono hB5.size)
  have kx6 := kx5.below hb6 kx5.lt
  clear hb6 hB5 kx5
  go_wp2_with fail
  refine (eqMoveS_same x _ y _ ms0 w6 hn kx6.lt ky.lt kx6.moves ky.moves).mono ?_
  rintro e w7 ⟨rfl, hb7⟩
  have hB7 := hB6.trans (hb7.mono hB6.size)
  go_wp2
  go_ret
  exact ⟨rfl, hB7⟩
end Go.Proofs.Ytadegplgmicaoaa
