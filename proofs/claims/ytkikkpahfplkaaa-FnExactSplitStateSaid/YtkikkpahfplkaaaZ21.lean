/-
  Whether no more are asked about than there are.
-/
import Derived.Test.YtkikkpahfplkaaaZ14
namespace Go.Proofs.Ytkikkpahfplkaaa
open Go.RowKit
set_option maxRecDepth 100000
set_option linter.unusedVariables false

noncomputable def insB (x a : Nat → Int) : Bool := cb (InS x a)
def InP (x a : Nat → Int) (k : Nat) : Prop := ∀ i, i < k → 0 ≤ a i ∧ a i ≤ x i
theorem InP.succ {x a : Nat → Int} {k : Nat} (h : InP x a k) (h1 : 0 ≤ a k ∧ a k ≤ x k) : InP x a (k + 1) := fun i hi => by
  by_cases e : i = k
  · subst e; exact h1
  · exact h i (by omega)
set_option maxHeartbeats 2000000 in
theorem l06Within_any (x a : Nat → Int) (w : World) :
    Calls Try.prog 9 #[staV a, staV x] w fun e w' => e = .returned (.bool (insB x a)) ∧ Below w.heap.size w w' := by
  have F0 := ((FR.start w).box (staC a) 23).box (staC x) 23
  simp only [World.size_alloc] at F0
  have HI := Lib.hid (fun n a b W => l00In_any n a b W)
  have HF := Lib.hid F0
  clear F0
  go_enter Try.func9, Try.ntmps9
  go_wp2
  generalize (w.alloc (Obj.cells (staC a) 23)).alloc (Obj.cells (staC x) 23) = w1 at *
  go_loopw [5] (fun iv wr => ∃ i : Nat, iv = .int .i64 (i : Int) ∧ i ≤ 4 ∧ InP x a i ∧ Dr w1 wr) (fun iv _ => 4 - (intOf iv).toNat)
  case atStart => exact ⟨0, rfl, by omega, fun i h => absurd h (by omega), Dr.refl _⟩
  case round =>
    obtain ⟨i, rfl, hi, hp, hd⟩ := hrel
    have HD := Lib.hid hd
    have HP := Lib.hid hp
    by_cases hlt : i < 4
    case neg =>
      obtain rfl : i = 4 := by omega
      have HR := Lib.hid (show insB x a = true from cb_t HP.out)
      clear hp hd
      go_wp2
      go_ret
      exact ⟨retb HR.out.symm, HF.out.below.trans (HD.out.below.mono HF.out.size)⟩
    have hlz : (i : Int) < 4 := by omega
    have a0 := Blk.sta (x := a) (hd.blk (HF.out.blk _ (List.mem_cons_of_mem _ List.mem_cons_self))) i hlt
    have x0 := Blk.sta (x := x) (hd.blk (HF.out.blk _ List.mem_cons_self)) i hlt
    dsimp only at a0 x0
    have HN := Lib.hid (fun h => HP.out.succ (k := i) h)
    have HX := Lib.hid (fun (h : ¬ (0 ≤ a i ∧ a i ≤ x i)) => (show insB x a = false from cb_f (fun h' => h (h' i hlt))))
    generalize a i = ai at *
    generalize x i = xi at *
    have HIi := Lib.hid (fun W => HI.out ai 0 xi W)
    clear hp hd
    by_cases hs : 0 ≤ ai ∧ ai ≤ xi
    · have HNN := Lib.hid (HN.out hs)
      rw [show inB ai 0 xi = true from cb_t hs] at HIi
      clear hs HN HX
      go_wp2
      go_quiet ((go_at_call 14; exact Calls.quiet_same (HIi.out _)))
      go_wp2
      go_roundw
      case rel => exact ⟨i + 1, by go_num, by omega, HNN.out, HD.out.trans (Dr.of _ _)⟩
      case measure => simp [intOf]; omega
    · have HR := Lib.hid (HX.out hs)
      rw [show inB ai 0 xi = false from cb_f hs] at HIi
      clear hs HN HX
      go_wp2
      go_quiet ((go_at_call 14; exact Calls.quiet_same (HIi.out _)))
      go_wp2
      go_ret
      exact ⟨retb HR.out.symm, HF.out.below.trans ((HD.out.trans (Dr.of _ _)).below.mono HF.out.size)⟩
set_option maxHeartbeats 2000000 in
theorem hasAsk_any (x a : Nat → Int) (w : World) :
    Calls Try.prog 12 #[staV x, staV a] w fun e w' => e = .returned (.bool (insB x a)) ∧ Below w.heap.size w w' := by
  have F0 := ((FR.start w).box (staC x) 23).box (staC a) 23
  simp only [World.size_alloc] at F0
  have HI := Lib.hid (fun n a b W => within_any n a b W)
  have HXX := Lib.hid (fun i h W => index_sta a i h W)
  have HF := Lib.hid F0
  obtain ⟨c0, c1, c2, c3, -⟩ := (F0.blk _ List.mem_cons_self).four
  clear F0
  go_enter Try.func12, Try.ntmps12
  go_wp2
  clear c0 c1 c2 c3
  generalize (w.alloc (Obj.cells (staC x) 23)).alloc (Obj.cells (staC a) 23) = w1 at *
  go_loop [8] (fun iv => ∃ i : Nat, iv = .int .i64 (i : Int) ∧ i ≤ 4 ∧ InP x a i) (fun iv => 4 - (intOf iv).toNat)
  case atStart => exact ⟨0, rfl, by omega, fun i h => absurd h (by omega)⟩
  case round =>
    obtain ⟨i, rfl, hi, hp⟩ := hrel
    have HP := Lib.hid hp
    by_cases hlt : i < 4
    case neg =>
      obtain rfl : i = 4 := by omega
      have HR := Lib.hid (show insB x a = true from cb_t HP.out)
      clear hp
      go_wp2
      go_ret
      exact ⟨retb HR.out.symm, HF.out.below⟩
    have hlz : (i : Int) < 4 := by omega
    have ix := fun W => HXX.out i hlt W
    have x0 := Blk.sta (x := x) (HF.out.blk _ (List.mem_cons_of_mem _ List.mem_cons_self)) i hlt
    dsimp only at x0
    have HN := Lib.hid (fun h => HP.out.succ (k := i) h)
    have HX := Lib.hid (fun (h : ¬ (0 ≤ a i ∧ a i ≤ x i)) => (show insB x a = false from cb_f (fun h' => h (h' i hlt))))
    generalize a i = ai at *
    generalize x i = xi at *
    have HIi := Lib.hid (fun W => HI.out ai 0 xi W)
    clear hp
    by_cases hs : 0 ≤ ai ∧ ai ≤ xi
    · have HNN := Lib.hid (HN.out hs)
      rw [show inB ai 0 xi = true from cb_t hs] at HIi
      clear hs HN HX
      go_wp2_with fail
      refine (HIi.out _).mono ?_
      rintro e w2 ⟨rfl, rfl⟩
      go_wp2
      go_round
      case rel => exact ⟨i + 1, by go_num, by omega, HNN.out⟩
      case measure => simp [intOf]; omega
    · have HR := Lib.hid (HX.out hs)
      rw [show inB ai 0 xi = false from cb_f hs] at HIi
      clear hs HN HX
      go_wp2_with fail
      refine (HIi.out _).mono ?_
      rintro e w2 ⟨rfl, rfl⟩
      go_wp2
      go_ret
      exact ⟨retb HR.out.symm, HF.out.below⟩
end Go.Proofs.Ytkikkpahfplkaaa
