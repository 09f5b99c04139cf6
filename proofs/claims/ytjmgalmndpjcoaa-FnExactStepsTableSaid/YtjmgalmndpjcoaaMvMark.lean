/-
  Marks on lists of moves.
-/
import Derived.Test.YtjmgalmndpjcoaaSpecMF
namespace Go.Proofs.Ytjmgalmndpjcoaa
open Go.RowKit
set_option maxRecDepth 100000
set_option linter.unusedVariables false

/-- The first n cells of block b are marked, from 1 on. -/
def Mkd (w : World) (b n : Nat) : Prop := ∀ q, q < n → w.cell? ⟨b, q, none⟩ = some (.int .i8 ((q : Int) + 1))
theorem Mkd.below {w w' : World} {b n B : Nat} (h : Mkd w b n) (hb : Below B w w') (hB : b < B) : Mkd w' b n := fun q hq => (hb.cell (p := ⟨b, q, none⟩) hB).trans (h q hq)
theorem Mkd.set {w : World} {b n : Nat} (h : Mkd w b n) {o : Value} (ho : w.cell? ⟨b, n, none⟩ = some o) : Mkd (w.setCell ⟨b, n, none⟩ (.int .i8 ((n : Int) + 1))) b (n + 1) := fun q hq => by
  by_cases e : q = n
  · subst e; exact World.cell?_setCell_same _ _ _ ho
  · rw [World.cell?_setCell_other _ _ _ _ (by simp <;> omega)]; exact h q (by omega)
theorem markMoveS_any (b c n : Nat) (w : World) (hn : n ≤ 28) (hs : ∀ q, q < n * 3 → (w.cell? ⟨b, q, none⟩).isSome = true) (hf : ∀ j, w.frozen? ⟨b, j, none⟩ = false) :
    Calls Try.prog 22 #[.slice (some ⟨b, 0, none⟩) n c, .int .i64 1] w fun e w' => e = .returned (.int .i64 (n * 3 + 1)) ∧ Mkd w' b (n * 3) ∧ Only b w w' := by
  go_enter Try.func22, Try.ntmps22
  go_wp2
  go_loopw [1, 5] (fun v i wr => ∃ k : Nat, k ≤ n ∧ i = .int .i64 k ∧ v = .int .i64 ((k : Int) * 3 + 1) ∧ Mkd wr b (k * 3) ∧ (∀ q, q < n * 3 → (wr.cell? ⟨b, q, none⟩).isSome = true) ∧ (∀ j, wr.frozen? ⟨b, j, none⟩ = false) ∧ Only b w wr) (fun _ i _ => n - (intOf i).toNat)
  case atStart => exact ⟨0, Nat.zero_le _, rfl, by simp, fun q h => absurd h (by omega), hs, hf, Only.refl _ _⟩
  case round =>
    obtain ⟨k, hk, rfl, rfl, hm, hss, hff, hB⟩ := hrel
    by_cases hlt : k < n
    · obtain ⟨o0, e0⟩ := Option.isSome_iff_exists.1 (hss (k * 3) (by omega))
      obtain ⟨o1, e1⟩ := Option.isSome_iff_exists.1 (hss (k * 3 + 1) (by omega))
      obtain ⟨o2, e2⟩ := Option.isSome_iff_exists.1 (hss (k * 3 + 2) (by omega))
      have hkl : (k : Int) < (n : Int) := by omega
      obtain ⟨m3, hm3⟩ : ∃ m3 : Int, (k : Int) * 3 = m3 := ⟨_, rfl⟩
      have hb3 : 0 ≤ m3 ∧ m3 ≤ 81 := by omega
      have HM3 := Lib.hid hm3
      have s0 := hm.set e0
      have c1 : (wr.setCell ⟨b, k * 3, none⟩ (.int .i8 (((k * 3 : Nat) : Int) + 1))).cell? ⟨b, k * 3 + 1, none⟩ = some o1 := by rw [World.cell?_setCell_other _ _ _ _ (by simp)]; exact e1
      have s1 := s0.set c1
      have c2 : ((wr.setCell ⟨b, k * 3, none⟩ (.int .i8 (((k * 3 : Nat) : Int) + 1))).setCell ⟨b, k * 3 + 1, none⟩ (.int .i8 (((k * 3 + 1 : Nat) : Int) + 1))).cell? ⟨b, k * 3 + 1 + 1, none⟩ = some o2 := by rw [World.cell?_setCell_other _ _ _ _ (by simp), World.cell?_setCell_other _ _ _ _ (by simp)]; exact e2
      have s2 := s1.set c2
      rw [show (((k * 3 : Nat) : Int) + 1) = m3 + 1 by omega, show (((k * 3 + 1 : Nat) : Int) + 1) = m3 + 1 + 1 by omega, show (((k * 3 + 1 + 1 : Nat) : Int) + 1) = m3 + 1 + 1 + 1 by omega] at s2
      have HS2 := Lib.hid s2
      have HSS := Lib.hid (show ∀ v0 v1 v2 : Value, ∀ q, q < n * 3 → ((((wr.setCell ⟨b, k * 3, none⟩ v0).setCell ⟨b, k * 3 + 1, none⟩ v1).setCell ⟨b, k * 3 + 1 + 1, none⟩ v2).cell? ⟨b, q, none⟩).isSome = true from fun v0 v1 v2 q hq => by
        have key : ∀ (W : World) (p : Nat) (v : Value), (W.cell? ⟨b, q, none⟩).isSome = true → ((W.setCell ⟨b, p, none⟩ v).cell? ⟨b, q, none⟩).isSome = true := fun W p v h => by
          by_cases e : q = p
          · subst e
            obtain ⟨u, hu⟩ := Option.isSome_iff_exists.1 h
            rw [World.cell?_setCell_same _ _ _ hu]; rfl
          · rw [World.cell?_setCell_other _ _ _ _ (by simp <;> omega)]; exact h
        exact key _ _ _ (key _ _ _ (key _ _ _ (hss q hq))))
      have HFF := Lib.hid hff
      have f0 := hff (k * 3)
      have f1 := hff (k * 3 + 1)
      have f2 := hff (k * 3 + 1 + 1)
      clear hss s0 s1 s2 c1 c2 hm hff
      rw [hm3]
      clear hm3
      go_wp2
      go_roundw
      case rel =>
        refine ⟨k + 1, by omega, by go_num, ?_, ?_, ?_, fun j => ?_, ((hB.setCell _ _).setCell _ _).setCell _ _⟩
        · have := HM3.out; go_num
        · have := HS2.out; rw [show (k + 1) * 3 = k * 3 + 1 + 1 + 1 by omega]; exact this
        · exact HSS.out _ _ _
        · rw [World.frozen?_setCell, World.frozen?_setCell, World.frozen?_setCell]; exact HFF.out j
      case measure => simp [intOf]; omega
    · have hkn : k = n := by omega
      have HKN := Lib.hid hkn
      have HMD := Lib.hid hm
      have hkl : ¬ (k : Int) < (n : Int) := by omega
      clear hkn hm hss hff
      go_wp2
      go_ret
      exact ⟨by rw [← HKN.out]; rfl, by rw [← HKN.out]; exact HMD.out, hB⟩
theorem heldMoveS_any (b c n : Nat) (w : World) (hn : n ≤ 28) (hm : Mkd w b (n * 3)) :
    Calls Try.prog 23 #[.slice (some ⟨b, 0, none⟩) n c, .int .i64 1] w fun e w' => e = .returned (.int .i64 (n * 3 + 1)) ∧ w = w' := by
  go_enter Try.func23, Try.ntmps23
  go_wp2
  go_loop [1, 5] (fun v i => ∃ k : Nat, k ≤ n ∧ i = .int .i64 k ∧ v = .int .i64 ((k : Int) * 3 + 1)) (fun _ i => n - (intOf i).toNat)
  case atStart => exact ⟨0, Nat.zero_le _, rfl, by simp⟩
  case round =>
    obtain ⟨k, hk, rfl, rfl⟩ := hrel
    by_cases hlt : k < n
    · have e0 := hm (k * 3) (by omega)
      have e1 := hm (k * 3 + 1) (by omega)
      have e2 := hm (k * 3 + 1 + 1) (by omega)
      have hkl : (k : Int) < (n : Int) := by omega
      obtain ⟨m3, hm3⟩ : ∃ m3 : Int, (k : Int) * 3 = m3 := ⟨_, rfl⟩
      have hb3 : 0 ≤ m3 ∧ m3 ≤ 81 := by omega
      rw [show (((k * 3 : Nat) : Int) + 1) = m3 + 1 by omega] at e0
      rw [show (((k * 3 + 1 : Nat) : Int) + 1) = m3 + 1 + 1 by omega] at e1
      rw [show (((k * 3 + 1 + 1 : Nat) : Int) + 1) = m3 + 1 + 1 + 1 by omega] at e2
      have HM3 := Lib.hid hm3
      rw [hm3]
      clear hm3
      go_wp2
      go_round
      case rel => exact ⟨k + 1, by omega, by go_num, by have := HM3.out; go_num⟩
      case measure => simp [intOf]; omega
    · have hkn : k = n := by omega
      have HKN := Lib.hid hkn
      have hkl : ¬ (k : Int) < (n : Int) := by omega
      clear hkn
      go_wp2
      go_ret
      exact ⟨by rw [← HKN.out]; rfl, rfl⟩
end Go.Proofs.Ytjmgalmndpjcoaa
