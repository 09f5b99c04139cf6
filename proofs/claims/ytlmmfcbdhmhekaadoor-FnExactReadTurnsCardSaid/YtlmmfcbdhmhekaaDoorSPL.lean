/-
  The walks of the exact laws of functions whose answers are slices.
-/
import Derived.Test.YtlmmfcbdhmhekaaDoorSlaw
import Derived.Test.YtlmmfcbdhmhekaaDoorSP3
namespace Go.Proofs.YtlmmfcbdhmhekaaDoor
open Go.RowKit

theorem markByteS_own (b c : Nat) (xs : List Int) (w : World) (hn : xs.length ≤ 1048576) (hc : At .u8 w b 0 xs) (hf : ∀ j, w.frozen? ⟨b, j, none⟩ = false) :
    Calls Tryd.prog 7 #[.slice (some ⟨b, 0, none⟩) xs.length c, .int .i64 1] w fun e w' => e = .returned (.int .i64 (xs.length + 1)) ∧ MarkedAt .u8 w' b xs.length ∧ Only b w w' := by
  go_enter Tryd.func7, Tryd.ntmps7
  go_wp2
  go_loopw [1, 5] (fun n i wr => ∃ k : Nat, k ≤ xs.length ∧ i = .int .i64 k ∧ n = .int .i64 (k + 1) ∧ MarkedAt .u8 wr b k ∧ (∀ j, k ≤ j → j < xs.length → wr.cell? ⟨b, j, none⟩ = some (.int .u8 (xs.getD j 0))) ∧ (∀ j, wr.frozen? ⟨b, j, none⟩ = false) ∧ Only b w wr) (fun _ i _ => xs.length - (intOf i).toNat)
  case atStart => exact ⟨0, Nat.zero_le _, rfl, by simp, fun j h => absurd h (by omega), fun j _ h => by have := hc j h; rwa [Nat.zero_add] at this, hf, Only.refl _ _⟩
  case round =>
    obtain ⟨k, hk, rfl, rfl, hm, hr, hf, hB⟩ := hrel
    by_cases hlt : k < xs.length
    · have h2 := hr k (Nat.le_refl _) hlt
      have h3 := hf k
      have Hs := Lib.hid (show ∀ v : Value, v = .int .u8 (marked .u8 k) → MarkedAt .u8 (wr.setCell ⟨b, k, none⟩ v) b (k + 1) ∧ (∀ j, k + 1 ≤ j → j < xs.length → (wr.setCell ⟨b, k, none⟩ v).cell? ⟨b, j, none⟩ = some (.int .u8 (xs.getD j 0))) ∧ (∀ j, (wr.setCell ⟨b, k, none⟩ v).frozen? ⟨b, j, none⟩ = false) from fun v hv => by
        refine ⟨fun j hj => ?_, fun j h1 h4 => ?_, fun j => (World.frozen?_setCell _ _ _ _).trans (hf j)⟩
        · by_cases e : j = k
          · subst e; rw [hv]; exact World.cell?_setCell_same _ _ _ h2
          · exact (World.cell?_setCell_other _ _ _ _ (by simp)).trans (hm j (by omega))
        · exact (World.cell?_setCell_other _ _ _ _ (by simp)).trans (hr j (by omega) h4))
      clear hr hf hm
      go_wp2
      go_roundw
      case rel =>
        refine ⟨k + 1, by omega, by go_num, by go_num, (Hs.out _ ?_).1, (Hs.out _ ?_).2.1, (Hs.out _ ?_).2.2, hB.setCell _ _⟩ <;> first | rfl | (rw [marked_def]; done) | (rw [marked_def, IntWalk.i64_in _ (by omega)])
      case measure => simp [intOf]; omega
    · have HK := Lib.hid (show k = xs.length by omega)
      go_wp2
      go_ret
      exact ⟨reti (by rw [HK.out]), fun j hj => hm j (by omega), hB⟩
theorem heldByteS_own (b c n : Nat) (w : World) (hn : n ≤ 1048576) (hm : MarkedAt .u8 w b n) :
    Calls Tryd.prog 8 #[.slice (some ⟨b, 0, none⟩) n c, .int .i64 1] w fun e w' => e = .returned (.int .i64 (n + 1)) ∧ w = w' := by
  go_enter Tryd.func8, Tryd.ntmps8
  go_wp2
  go_loop [1, 5] (fun q i => ∃ k : Nat, k ≤ n ∧ i = .int .i64 k ∧ q = .int .i64 (k + 1)) (fun _ i => n - (intOf i).toNat)
  case atStart => exact ⟨0, Nat.zero_le _, rfl, by simp⟩
  case round =>
    obtain ⟨k, hk, rfl, rfl⟩ := hrel
    by_cases hlt : k < n
    · have h2 := hm k hlt
      simp only [marked_def] at h2
      go_wp2
      go_round
      case rel => exact ⟨k + 1, by omega, by go_num, by go_num⟩
      case measure => simp [intOf]; omega
    · go_wp2
      go_ret
      exact ⟨reti (by omega), rfl⟩
def VarM (w : World) : Prop := ∃ m : Int, w.cell? ⟨0, 0, none⟩ = some (.int .i64 m)
theorem VarM.below {w w' : World} {B : Nat} (h : VarM w) (hb : Below B w w') (hB : 0 < B) : VarM w' := by
  obtain ⟨m, hm⟩ := h
  exact ⟨m, (hb.cell (p := ⟨0, 0, none⟩) hB).trans hm⟩
theorem rtV_len (s : ByteArray) : (rtV s).length ≤ 1048576 := by
  by_cases h : s = ⟨#[]⟩
  · rw [(rt_t h).1]; simp
  · rw [(rt_f h).1]; have := rsV_len (wds s); omega
set_option maxRecDepth 100000 in
theorem walk_FnExactReadTurns_full (n0 : ByteArray) (w : World) (hv : VarM w) (hpos : 0 < w.heap.size) (hx : ¬ rtV n0 = []) :
    Calls Tryd.prog 3 #[.string n0] w fun e w' => e = .returned (.bool true) ∧ Below w.heap.size w w' := by
  by_cases l0 : 1048576 < n0.size
  · have d0 : decide ((1048576 : Int) < (n0.size : Int)) = true := by simp; omega
    have e0 : (1048576 : Int) < (n0.size : Int) := by omega
    go_enter Tryd.func3, Tryd.ntmps3
    go_wp2
    go_ret
    exact ⟨rfl, Below.refl _ _⟩
  have hn0 : n0.size ≤ 1048576 := by omega
  have d0 : decide ((1048576 : Int) < (n0.size : Int)) = false := by simp; omega
  clear l0
  have hB0 := Below.refl w.heap.size w
  have HX := Lib.hid hx
  clear hx
  have hm : (rtV n0).length ≤ 1048576 := rtV_len n0
  go_enter Tryd.func3, Tryd.ntmps3
  go_wp2_with fail
  refine (Calls.fullOf (specReadTurns_any n0 _ hn0) HX.out).mono ?_
  rintro e w1 ⟨p0, ccp0, rfl, ⟨op0, ltp0, atp0, fzp0⟩, b1⟩
  have hB1 := hB0.trans (b1.mono hB0.size)
  clear b1
  have no : p0 < w1.heap.size := ltp0
  go_wp2_with fail
  refine (Calls.fullOf (readTurns_any n0 _ hn0 (hv.below ‹Below w.heap.size w _› hpos)) HX.out).mono ?_
  rintro e w2 ⟨p1, ccp1, rfl, ⟨op1, ltp1, atp1, fzp1⟩, b2⟩
  replace atp0 := atp0.below b2 ltp0
  replace fzp0 := frozen_below fzp0 b2 ltp0
  replace ltp0 := Nat.lt_of_lt_of_le ltp0 b2.size
  have hB2 := hB1.trans (b2.mono hB1.size)
  clear b2
  have ne10 : p0 ≠ p1 := by omega
  go_wp2_with fail
  refine (eqByteS_same p1 0 _ p0 0 _ _ _ hm atp1 atp0).mono ?_
  rintro e w3 ⟨rfl, b3⟩
  replace b3 := b3.below
  replace atp0 := atp0.below b3 ltp0
  replace atp1 := atp1.below b3 ltp1
  replace fzp0 := frozen_below fzp0 b3 ltp0
  replace fzp1 := frozen_below fzp1 b3 ltp1
  replace ltp0 := Nat.lt_of_lt_of_le ltp0 b3.size
  replace ltp1 := Nat.lt_of_lt_of_le ltp1 b3.size
  have hB3 := hB2.trans (b3.mono hB2.size)
  clear b3
  go_wp2_with fail
  refine (markByteS_own p1 _ _ _ hm atp1 fzp1).mono ?_
  rintro e w4 ⟨rfl, mk1, o4⟩
  replace atp0 := o4.at atp0 ne10
  clear atp1 fzp1 fzp0
  replace ltp0 := Nat.lt_of_lt_of_le ltp0 (Nat.le_of_eq o4.size.symm)
  replace ltp1 := Nat.lt_of_lt_of_le ltp1 (Nat.le_of_eq o4.size.symm)
  have hB4 := o4.below hB3 (by have := hB1.size; omega)
  clear o4
  go_wp2_with fail
  refine (heldByteS_own p1 _ _ _ hm mk1).mono ?_
  rintro e w' ⟨rfl, rfl⟩
  go_wp2_with fail
  refine (Calls.fullOf (readTurns_any n0 _ hn0 (hv.below ‹Below w.heap.size w _› hpos)) HX.out).mono ?_
  rintro e w5 ⟨p2, ccp2, rfl, ⟨op2, ltp2, atp2, fzp2⟩, b5⟩
  replace atp0 := atp0.below b5 ltp0
  replace mk1 := mk1.below b5 ltp1
  replace ltp0 := Nat.lt_of_lt_of_le ltp0 b5.size
  replace ltp1 := Nat.lt_of_lt_of_le ltp1 b5.size
  have hB5 := hB4.trans (b5.mono hB4.size)
  clear b5
  go_wp2_with fail
  refine (eqByteS_same p2 0 _ p0 0 _ _ _ hm atp2 atp0).mono ?_
  rintro e w6 ⟨rfl, b6⟩
  replace b6 := b6.below
  replace atp0 := atp0.below b6 ltp0
  replace atp2 := atp2.below b6 ltp2
  replace fzp2 := frozen_below fzp2 b6 ltp2
  replace mk1 := mk1.below b6 ltp1
  replace ltp0 := Nat.lt_of_lt_of_le ltp0 b6.size
  replace ltp1 := Nat.lt_of_lt_of_le ltp1 b6.size
  replace ltp2 := Nat.lt_of_lt_of_le ltp2 b6.size
  have hB6 := hB5.trans (b6.mono hB5.size)
  clear b6
  go_wp2_with fail
  refine (heldByteS_own p1 _ _ _ hm mk1).mono ?_
  rintro e w' ⟨rfl, rfl⟩
  go_wp2
  go_ret
  exact ⟨rfl, hB6⟩
set_option maxRecDepth 100000 in
theorem walk_FnExactReadTurns_empty (n0 : ByteArray) (w : World) (hv : VarM w) (hpos : 0 < w.heap.size) (hx : rtV n0 = []) :
    Calls Tryd.prog 3 #[.string n0] w fun e w' => e = .returned (.bool true) ∧ Below w.heap.size w w' := by
  by_cases l0 : 1048576 < n0.size
  · have d0 : decide ((1048576 : Int) < (n0.size : Int)) = true := by simp; omega
    have e0 : (1048576 : Int) < (n0.size : Int) := by omega
    go_enter Tryd.func3, Tryd.ntmps3
    go_wp2
    go_ret
    exact ⟨rfl, Below.refl _ _⟩
  have hn0 : n0.size ≤ 1048576 := by omega
  have d0 : decide ((1048576 : Int) < (n0.size : Int)) = false := by simp; omega
  clear l0
  have hB0 := Below.refl w.heap.size w
  have HX := Lib.hid hx
  clear hx
  go_enter Tryd.func3, Tryd.ntmps3
  go_wp2_with fail
  refine (Calls.emptyOf (specReadTurns_any n0 _ hn0) HX.out).mono ?_
  rintro e w1 ⟨p0, ccp0, rfl, b1⟩
  have hB1 := hB0.trans (b1.mono hB0.size)
  clear b1
  go_wp2_with fail
  refine (Calls.emptyOf (readTurns_any n0 _ hn0 (hv.below ‹Below w.heap.size w _› hpos)) HX.out).mono ?_
  rintro e w2 ⟨p1, ccp1, rfl, b2⟩
  have hB2 := hB1.trans (b2.mono hB1.size)
  clear b2
  go_wp2_with fail
  refine (eqByteS_empty p1 p0 _ _ _).mono ?_
  rintro e w3 ⟨rfl, b3⟩
  replace b3 := b3.below
  have hB3 := hB2.trans (b3.mono hB2.size)
  clear b3
  go_wp2_with fail
  refine (markByteS_nil p1 _ _).mono ?_
  rintro e w' ⟨rfl, rfl⟩
  go_wp2_with fail
  refine (heldByteS_nil p1 _ _).mono ?_
  rintro e w' ⟨rfl, rfl⟩
  go_wp2_with fail
  refine (Calls.emptyOf (readTurns_any n0 _ hn0 (hv.below ‹Below w.heap.size w _› hpos)) HX.out).mono ?_
  rintro e w4 ⟨p2, ccp2, rfl, b4⟩
  have hB4 := hB3.trans (b4.mono hB3.size)
  clear b4
  go_wp2_with fail
  refine (eqByteS_empty p2 p0 _ _ _).mono ?_
  rintro e w5 ⟨rfl, b5⟩
  replace b5 := b5.below
  have hB5 := hB4.trans (b5.mono hB4.size)
  clear b5
  go_wp2_with fail
  refine (heldByteS_nil p1 _ _).mono ?_
  rintro e w' ⟨rfl, rfl⟩
  go_wp2
  go_ret
  exact ⟨rfl, hB5⟩
theorem walk_FnExactReadTurns (n0 : ByteArray) (w : World) (hv : VarM w) (hpos : 0 < w.heap.size) :
    Calls Tryd.prog 3 #[.string n0] w fun e w' => e = .returned (.bool true) ∧ Below w.heap.size w w' := by
  by_cases hx : rtV n0 = []
  · exact walk_FnExactReadTurns_empty n0 w hv hpos hx
  · exact walk_FnExactReadTurns_full n0 w hv hpos hx
end Go.Proofs.YtlmmfcbdhmhekaaDoor
