/-
  The laws' helpers on lists of cases: marking, and looking whether the marks stand.
-/
import Derived.Test.YtgckboaejpgalaaC6
namespace Go.Proofs.Ytgckboaejpgalaa
open Go.RowKit
set_option maxRecDepth 100000
set_option linter.unusedVariables false

/-- The first n cases of block b are marked, from k0 on. -/
def MkC (w : World) (b : Nat) (k0 : Int) (n : Nat) : Prop := ∀ j, j < n → w.cell? ⟨b, j * 2, none⟩ = some (.int .i8 (IntKind.i8.wrap (k0 + (j : Int) * 2))) ∧ w.cell? ⟨b, j * 2 + 1, none⟩ = some (.bool ((k0 + (j : Int) * 2 + 1) % 3 == 0))
theorem MkC.below {w w' : World} {b n B : Nat} {k0 : Int} (h : MkC w b k0 n) (hb : Below B w w') (hB : b < B) : MkC w' b k0 n := fun j hj =>
  ⟨(hb.cell (p := ⟨b, j * 2, none⟩) hB).trans (h j hj).1, (hb.cell (p := ⟨b, j * 2 + 1, none⟩) hB).trans (h j hj).2⟩
theorem MkC.only {w w' : World} {b b' n : Nat} {k0 : Int} (h : MkC w b k0 n) (ho : Only b' w w') (hne : b ≠ b') : MkC w' b k0 n := fun j hj =>
  ⟨(World.cell?_of_block (w := w) (a := ⟨b, j * 2, none⟩) (ho.block b hne)).trans (h j hj).1, (World.cell?_of_block (w := w) (a := ⟨b, j * 2 + 1, none⟩) (ho.block b hne)).trans (h j hj).2⟩
theorem MkC.step {w : World} {b n : Nat} {k0 : Int} (h : MkC w b k0 n) {o0 o1 : Value} (h0 : w.cell? ⟨b, n * 2, none⟩ = some o0) (h1 : w.cell? ⟨b, n * 2 + 1, none⟩ = some o1) :
    MkC ((w.setCell ⟨b, n * 2, none⟩ (.int .i8 (IntKind.i8.wrap (k0 + (n : Int) * 2)))).setCell ⟨b, n * 2 + 1, none⟩ (.bool ((k0 + (n : Int) * 2 + 1) % 3 == 0))) b k0 (n + 1) := fun j hj => by
  by_cases e : j = n
  · subst e
    refine ⟨?_, ?_⟩
    · rw [World.cell?_setCell_other _ _ _ _ (by simp)]
      exact World.cell?_setCell_same _ _ _ h0
    · exact World.cell?_setCell_same (w := w.setCell ⟨b, j * 2, none⟩ _) _ _ (by rw [World.cell?_setCell_other _ _ _ _ (by simp)]; exact h1)
  · refine ⟨?_, ?_⟩
    · rw [World.cell?_setCell_other _ _ _ _ (by simp <;> omega), World.cell?_setCell_other _ _ _ _ (by simp <;> omega)]
      exact (h j (by omega)).1
    · rw [World.cell?_setCell_other _ _ _ _ (by simp <;> omega), World.cell?_setCell_other _ _ _ _ (by simp <;> omega)]
      exact (h j (by omega)).2
theorem isSome_set {w : World} {b q : Nat} (p : Nat) (v : Value) (h : (w.cell? ⟨b, q, none⟩).isSome = true) : ((w.setCell ⟨b, p, none⟩ v).cell? ⟨b, q, none⟩).isSome = true := by
  by_cases e : q = p
  · subst e
    obtain ⟨u, hu⟩ := Option.isSome_iff_exists.1 h
    rw [World.cell?_setCell_same _ _ _ hu]; rfl
  · rw [World.cell?_setCell_other _ _ _ _ (by simp <;> omega)]; exact h
theorem markCaseS_any (b c n : Nat) (k0 : Int) (w : World) (hn : n ≤ 1048576) (hk0 : 0 ≤ k0 ∧ k0 ≤ 10000000) (hs : ∀ q, q < n * 2 → (w.cell? ⟨b, q, none⟩).isSome = true) (hf : ∀ j, w.frozen? ⟨b, j, none⟩ = false) :
    Calls Try.prog 17 #[.slice (some ⟨b, 0, none⟩) n c, .int .i64 k0] w fun e w' => e = .returned (.int .i64 (k0 + (n : Int) * 2)) ∧ MkC w' b k0 n ∧ Only b w w' := by
  go_enter Try.func17, Try.ntmps17
  go_wp2
  go_loopw [1, 5] (fun v i wr => ∃ k : Nat, k ≤ n ∧ i = .int .i64 k ∧ v = .int .i64 (k0 + (k : Int) * 2) ∧ MkC wr b k0 k ∧ (∀ q, q < n * 2 → (wr.cell? ⟨b, q, none⟩).isSome = true) ∧ (∀ j, wr.frozen? ⟨b, j, none⟩ = false) ∧ Only b w wr) (fun _ i _ => n - (intOf i).toNat)
  case atStart => exact ⟨0, Nat.zero_le _, rfl, by simp, fun q h => absurd h (by omega), hs, hf, Only.refl _ _⟩
  case round =>
    obtain ⟨k, hk, rfl, rfl, hm, hss, hff, hB⟩ := hrel
    by_cases hlt : k < n
    · obtain ⟨o0, e0⟩ := Option.isSome_iff_exists.1 (hss (k * 2) (by omega))
      obtain ⟨o1, e1⟩ := Option.isSome_iff_exists.1 (hss (k * 2 + 1) (by omega))
      have hkl : (k : Int) < (n : Int) := by omega
      have HM := Lib.hid (hm.step e0 e1)
      obtain ⟨m2, hm2⟩ : ∃ m2 : Int, k0 + (k : Int) * 2 = m2 := ⟨_, rfl⟩
      have hb3 : 0 ≤ m2 ∧ m2 ≤ 20000000 := by omega
      have HM3 := Lib.hid hm2
      rw [hm2] at HM
      have HSS := Lib.hid (fun v0 v1 q (hq : q < n * 2) => isSome_set (w := wr.setCell ⟨b, k * 2, none⟩ v0) (k * 2 + 1) v1 (isSome_set (k * 2) v0 (hss q hq)))
      have HFF := Lib.hid hff
      have f0 := hff (k * 2)
      have f1 := hff (k * 2 + 1)
      clear hss hm hff
      rw [hm2]
      clear hm2
      go_wp2
      go_roundw
      case rel =>
        refine ⟨k + 1, by omega, by go_num, ?_, ?_, ?_, fun j => ?_, (hB.setCell _ _).setCell _ _⟩
        · have := HM3.out; go_num
        · exact HM.out
        · exact HSS.out _ _
        · rw [World.frozen?_setCell, World.frozen?_setCell]; exact HFF.out j
      case measure => simp [intOf]; omega
    · have hkn : k = n := by omega
      have HKN := Lib.hid hkn
      have HMD := Lib.hid hm
      have hkl : ¬ (k : Int) < (n : Int) := by omega
      obtain ⟨m2, hm2⟩ : ∃ m2 : Int, k0 + (k : Int) * 2 = m2 := ⟨_, rfl⟩
      have HM3 := Lib.hid hm2
      rw [hm2]
      clear hkn hm hss hff hm2
      go_wp2
      go_ret
      exact ⟨by rw [← HKN.out, HM3.out]; rfl, by rw [← HKN.out]; exact HMD.out, hB⟩
theorem heldCaseS_any (b c n : Nat) (k0 : Int) (w : World) (hn : n ≤ 1048576) (hk0 : 0 ≤ k0 ∧ k0 ≤ 10000000) (hm : MkC w b k0 n) :
    Calls Try.prog 18 #[.slice (some ⟨b, 0, none⟩) n c, .int .i64 k0] w fun e w' => e = .returned (.int .i64 (k0 + (n : Int) * 2)) ∧ w = w' := by
  go_enter Try.func18, Try.ntmps18
  go_wp2
  go_loop [1, 5] (fun v i => ∃ k : Nat, k ≤ n ∧ i = .int .i64 k ∧ v = .int .i64 (k0 + (k : Int) * 2)) (fun _ i => n - (intOf i).toNat)
  case atStart => exact ⟨0, Nat.zero_le _, rfl, by simp⟩
  case round =>
    obtain ⟨k, hk, rfl, rfl⟩ := hrel
    by_cases hlt : k < n
    · obtain ⟨e0, e1⟩ := hm k hlt
      have hkl : (k : Int) < (n : Int) := by omega
      obtain ⟨m2, hm2⟩ : ∃ m2 : Int, k0 + (k : Int) * 2 = m2 := ⟨_, rfl⟩
      have hb3 : 0 ≤ m2 ∧ m2 ≤ 20000000 := by omega
      have HM3 := Lib.hid hm2
      rw [hm2] at e0 e1
      rw [hm2]
      clear hm2
      go_wp2
      go_round
      case rel => exact ⟨k + 1, by omega, by go_num, by have := HM3.out; go_num⟩
      case measure => simp [intOf]; omega
    · have hkn : k = n := by omega
      have HKN := Lib.hid hkn
      have hkl : ¬ (k : Int) < (n : Int) := by omega
      obtain ⟨m2, hm2⟩ : ∃ m2 : Int, k0 + (k : Int) * 2 = m2 := ⟨_, rfl⟩
      have HM3 := Lib.hid hm2
      rw [hm2]
      clear hkn hm2
      go_wp2
      go_ret
      exact ⟨by rw [← HKN.out, HM3.out]; rfl, rfl⟩
theorem markCaseS_nil (a : Option Addr) (c : Nat) (k0 : Int) (w : World) :
    Calls Try.prog 17 #[.slice a 0 c, .int .i64 k0] w fun e w' => e = .returned (.int .i64 k0) ∧ w = w' := by
  go_enter Try.func17, Try.ntmps17
  go_wp2
  refine wp_loop_rounds 1 ?_
  rw [rounds_succ]
  go_wp2
  go_ret
  exact ⟨rfl, rfl⟩
theorem heldCaseS_nil (a : Option Addr) (c : Nat) (k0 : Int) (w : World) :
    Calls Try.prog 18 #[.slice a 0 c, .int .i64 k0] w fun e w' => e = .returned (.int .i64 k0) ∧ w = w' := by
  go_enter Try.func18, Try.ntmps18
  go_wp2
  refine wp_loop_rounds 1 ?_
  rw [rounds_succ]
  go_wp2
  go_ret
  exact ⟨rfl, rfl⟩
theorem eqCaseS_nil (a b : Option Addr) (c c2 : Nat) (w : World) :
    Calls Try.prog 16 #[.slice a 0 c, .slice b 0 c2] w fun e w' => e = .returned (.bool true) ∧ w = w' := by
  go_enter Try.func16, Try.ntmps16
  go_wp2
  refine wp_loop_rounds 1 ?_
  rw [rounds_succ]
  go_wp2
  go_ret
  exact ⟨rfl, rfl⟩
theorem eqCase_same (c : Int) (h : Bool) (w : World) :
    Calls Try.prog 36 #[caseV c h, caseV c h] w fun e w' => e = .returned (.bool true) ∧ Below w.heap.size w w' := by
  have HB := Lib.hid (((FR.start w).box #[.int .i8 c, .bool h] 39).box #[.int .i8 c, .bool h] 39).below
  go_enter Try.func36, Try.ntmps36
  go_wp2
  go_ret
  exact ⟨rfl, HB.out⟩
end Go.Proofs.Ytgckboaejpgalaa
