/-
  Lists of numbers that calls have made, and marks: the laws' helpers.
-/
import Derived.Test.YtlkkjjbihgiiiaaE6
namespace Go.Proofs.Ytlkkjjbihgiiiaa
open Go.RowKit
set_option maxRecDepth 100000
set_option linter.unusedVariables false

theorem isSome_set {w : World} {b q : Nat} (p : Nat) (v : Value) (h : (w.cell? ⟨b, q, none⟩).isSome = true) : ((w.setCell ⟨b, p, none⟩ v).cell? ⟨b, q, none⟩).isSome = true := by
  by_cases e : q = p
  · subst e
    obtain ⟨u, hu⟩ := Option.isSome_iff_exists.1 h
    rw [World.cell?_setCell_same _ _ _ hu]; rfl
  · rw [World.cell?_setCell_other _ _ _ _ (by simp <;> omega)]; exact h
/-- Marks in block b from its start on. -/
def MkI (w : World) (b : Nat) (k0 : Int) (n : Nat) : Prop := ∀ j, j < n → w.cell? ⟨b, j, none⟩ = some (.int .i64 (k0 + (j : Int)))
theorem MkI.below {w w' : World} {b n B : Nat} {k0 : Int} (h : MkI w b k0 n) (hb : Below B w w') (hB : b < B) : MkI w' b k0 n := fun j hj => (hb.cell (p := ⟨b, j, none⟩) hB).trans (h j hj)
theorem MkI.only {w w' : World} {b b' n : Nat} {k0 : Int} (h : MkI w b k0 n) (ho : Only b' w w') (hne : b ≠ b') : MkI w' b k0 n := fun j hj => (World.cell?_of_block (w := w) (a := ⟨b, j, none⟩) (ho.block b hne)).trans (h j hj)
theorem MkI.step {w : World} {b n : Nat} {k0 : Int} (h : MkI w b k0 n) {o : Value} (h0 : w.cell? ⟨b, n, none⟩ = some o) : MkI (w.setCell ⟨b, n, none⟩ (.int .i64 (k0 + (n : Int)))) b k0 (n + 1) := fun j hj => by
  by_cases e : j = n
  · subst e; exact World.cell?_setCell_same _ _ _ h0
  · rw [World.cell?_setCell_other _ _ _ _ (by simp <;> omega)]; exact h j (by omega)
theorem markI_any (b c n : Nat) (k0 : Int) (w : World) (hn : n ≤ 1048576) (hk0 : 0 ≤ k0 ∧ k0 ≤ 10000000) (hs : ∀ q, q < n → (w.cell? ⟨b, q, none⟩).isSome = true) (hf : ∀ j, w.frozen? ⟨b, j, none⟩ = false) :
    Calls Try.prog 22 #[.slice (some ⟨b, 0, none⟩) n c, .int .i64 k0] w fun e w' => e = .returned (.int .i64 (k0 + (n : Int))) ∧ MkI w' b k0 n ∧ Only b w w' := by
  go_enter Try.func22, Try.ntmps22
  go_wp2
  go_loopw [1, 5] (fun v i wr => ∃ k : Nat, k ≤ n ∧ i = .int .i64 k ∧ v = .int .i64 (k0 + (k : Int)) ∧ MkI wr b k0 k ∧ (∀ q, q < n → (wr.cell? ⟨b, q, none⟩).isSome = true) ∧ (∀ j, wr.frozen? ⟨b, j, none⟩ = false) ∧ Only b w wr) (fun _ i _ => n - (intOf i).toNat)
  case atStart => exact ⟨0, Nat.zero_le _, rfl, by simp, fun q h => absurd h (by omega), hs, hf, Only.refl _ _⟩
  case round =>
    obtain ⟨k, hk, rfl, rfl, hm, hss, hff, hB⟩ := hrel
    by_cases hlt : k < n
    · obtain ⟨o0, e0⟩ := Option.isSome_iff_exists.1 (hss k hlt)
      have hkl : (k : Int) < (n : Int) := by omega
      have HM := Lib.hid (hm.step e0)
      obtain ⟨m2, hm2⟩ : ∃ m2 : Int, k0 + (k : Int) = m2 := ⟨_, rfl⟩
      have hb3 : 0 ≤ m2 ∧ m2 ≤ 20000000 := by omega
      have HM3 := Lib.hid hm2
      rw [hm2] at HM
      have HSS := Lib.hid (fun v q (hq : q < n) => isSome_set k v (hss q hq))
      have HFF := Lib.hid hff
      have f0 := hff k
      clear hss hm hff
      rw [hm2]
      clear hm2
      go_wp2
      go_roundw
      case rel =>
        refine ⟨k + 1, by omega, by go_num, ?_, ?_, ?_, fun j => ?_, hB.setCell _ _⟩
        · have := HM3.out; go_num
        · exact HM.out
        · exact HSS.out _
        · rw [World.frozen?_setCell]; exact HFF.out j
      case measure => simp [intOf]; omega
    · have hkn : k = n := by omega
      have HKN := Lib.hid hkn
      have HMD := Lib.hid hm
      have hkl : ¬ (k : Int) < (n : Int) := by omega
      obtain ⟨m2, hm2⟩ : ∃ m2 : Int, k0 + (k : Int) = m2 := ⟨_, rfl⟩
      have HM3 := Lib.hid hm2
      rw [hm2]
      clear hkn hm hss hff hm2
      go_wp2
      go_ret
      exact ⟨by rw [← HKN.out, HM3.out]; rfl, by rw [← HKN.out]; exact HMD.out, hB⟩
theorem heldI_any (b c n : Nat) (k0 : Int) (w : World) (hn : n ≤ 1048576) (hk0 : 0 ≤ k0 ∧ k0 ≤ 10000000) (hm : MkI w b k0 n) :
    Calls Try.prog 23 #[.slice (some ⟨b, 0, none⟩) n c, .int .i64 k0] w fun e w' => e = .returned (.int .i64 (k0 + (n : Int))) ∧ w = w' := by
  go_enter Try.func23, Try.ntmps23
  go_wp2
  go_loop [1, 5] (fun v i => ∃ k : Nat, k ≤ n ∧ i = .int .i64 k ∧ v = .int .i64 (k0 + (k : Int))) (fun _ i => n - (intOf i).toNat)
  case atStart => exact ⟨0, Nat.zero_le _, rfl, by simp⟩
  case round =>
    obtain ⟨k, hk, rfl, rfl⟩ := hrel
    by_cases hlt : k < n
    · have e0 := hm k hlt
      have hkl : (k : Int) < (n : Int) := by omega
      obtain ⟨m2, hm2⟩ : ∃ m2 : Int, k0 + (k : Int) = m2 := ⟨_, rfl⟩
      have hb3 : 0 ≤ m2 ∧ m2 ≤ 20000000 := by omega
      have HM3 := Lib.hid hm2
      rw [hm2] at e0
      rw [hm2]
      clear hm2
      go_wp2
      go_round
      case rel => exact ⟨k + 1, by omega, by go_num, by have := HM3.out; go_num⟩
      case measure => simp [intOf]; omega
    · have hkn : k = n := by omega
      have HKN := Lib.hid hkn
      have hkl : ¬ (k : Int) < (n : Int) := by omega
      obtain ⟨m2, hm2⟩ : ∃ m2 : Int, k0 + (k : Int) = m2 := ⟨_, rfl⟩
      have HM3 := Lib.hid hm2
      rw [hm2]
      clear hkn hm2
      go_wp2
      go_ret
      exact ⟨by rw [← HKN.out, HM3.out]; rfl, rfl⟩
theorem markI_nil (a : Option Addr) (c : Nat) (k0 : Int) (w : World) :
    Calls Try.prog 22 #[.slice a 0 c, .int .i64 k0] w fun e w' => e = .returned (.int .i64 k0) ∧ w = w' := by
  go_enter Try.func22, Try.ntmps22
  go_wp2
  refine wp_loop_rounds 1 ?_
  rw [rounds_succ]
  go_wp2
  go_ret
  exact ⟨rfl, rfl⟩
theorem heldI_nil (a : Option Addr) (c : Nat) (k0 : Int) (w : World) :
    Calls Try.prog 23 #[.slice a 0 c, .int .i64 k0] w fun e w' => e = .returned (.int .i64 k0) ∧ w = w' := by
  go_enter Try.func23, Try.ntmps23
  go_wp2
  refine wp_loop_rounds 1 ?_
  rw [rounds_succ]
  go_wp2
  go_ret
  exact ⟨rfl, rfl⟩
/-- A list of numbers in a block of its own, between lo and hi; nothing is known of one without numbers. -/
def IX (lo hi : Nat) (w : World) (a : Option Addr) (xs : List Int) : Prop := xs = [] ∨ ∃ g, a = some ⟨g, 0, none⟩ ∧ lo ≤ g ∧ g < hi ∧ hi ≤ w.heap.size ∧ At .i64 w g 0 xs ∧ ∀ j, w.frozen? ⟨g, j, none⟩ = false
theorem IX.below {lo hi : Nat} {w w' : World} {a : Option Addr} {xs : List Int} (h : IX lo hi w a xs) (hb : Below w.heap.size w w') : IX lo hi w' a xs := by
  rcases h with h | ⟨g, rfl, h1, h2, h3, h4, h5⟩
  · exact .inl h
  · exact .inr ⟨g, rfl, h1, h2, Nat.le_trans h3 hb.size, h4.below hb (by omega), fun j => by rw [hb.frozen (p := ⟨g, j, none⟩) (by show g < w.heap.size; omega)]; exact h5 j⟩
theorem At.only {w w' : World} {b b' off : Nat} {xs : List Int} (h : At .i64 w b off xs) (ho : Only b' w w') (hne : b ≠ b') : At .i64 w' b off xs := fun j hj => (World.cell?_of_block (w := w) (a := ⟨b, off + j, none⟩) (ho.block b hne)).trans (h j hj)
theorem IX.only {lo hi b : Nat} {w w' : World} {a : Option Addr} {xs : List Int} (h : IX lo hi w a xs) (ho : Only b w w') (hb : b < lo ∨ hi ≤ b) : IX lo hi w' a xs := by
  rcases h with h | ⟨g, rfl, h1, h2, h3, h4, h5⟩
  · exact .inl h
  · have hne : g ≠ b := by omega
    exact .inr ⟨g, rfl, h1, h2, by rw [ho.size]; exact h3, h4.only ho hne, fun j => by rw [World.frozen?_of_block (w := w) (a := ⟨g, j, none⟩) (ho.block g hne)]; exact h5 j⟩
/-- A list of numbers that was marked. -/
def HI (lo hi : Nat) (w : World) (a : Option Addr) (k0 : Int) (n : Nat) : Prop := n = 0 ∨ ∃ g, a = some ⟨g, 0, none⟩ ∧ lo ≤ g ∧ g < hi ∧ hi ≤ w.heap.size ∧ MkI w g k0 n
theorem HI.below {lo hi : Nat} {w w' : World} {a : Option Addr} {k0 : Int} {n : Nat} (h : HI lo hi w a k0 n) (hb : Below w.heap.size w w') : HI lo hi w' a k0 n := by
  rcases h with h | ⟨g, rfl, h1, h2, h3, h4⟩
  · exact .inl h
  · exact .inr ⟨g, rfl, h1, h2, Nat.le_trans h3 hb.size, h4.below hb (by omega)⟩
theorem HI.only {lo hi b : Nat} {w w' : World} {a : Option Addr} {k0 : Int} {n : Nat} (h : HI lo hi w a k0 n) (ho : Only b w w') (hb : b < lo ∨ hi ≤ b) : HI lo hi w' a k0 n := by
  rcases h with h | ⟨g, rfl, h1, h2, h3, h4⟩
  · exact .inl h
  · exact .inr ⟨g, rfl, h1, h2, by rw [ho.size]; exact h3, h4.only ho (by omega)⟩
/-- Nothing has changed but a block between lo and hi. -/
def Only2 (lo hi : Nat) (w w' : World) : Prop := w = w' ∨ ∃ b, lo ≤ b ∧ b < hi ∧ Only b w w'
theorem IX.only2 {lo hi lo2 hi2 : Nat} {w w' : World} {a : Option Addr} {xs : List Int} (h : IX lo hi w a xs) (ho : Only2 lo2 hi2 w w') (hb : hi ≤ lo2 ∨ hi2 ≤ lo) : IX lo hi w' a xs := by
  rcases ho with rfl | ⟨b, h1, h2, ho⟩
  · exact h
  · exact h.only ho (by omega)
theorem HI.only2 {lo hi lo2 hi2 : Nat} {w w' : World} {a : Option Addr} {k0 : Int} {n : Nat} (h : HI lo hi w a k0 n) (ho : Only2 lo2 hi2 w w') (hb : hi ≤ lo2 ∨ hi2 ≤ lo) : HI lo hi w' a k0 n := by
  rcases ho with rfl | ⟨b, h1, h2, ho⟩
  · exact h
  · exact h.only ho (by omega)
theorem Blk.only2 {lo hi b : Nat} {w w' : World} {cs : Array Value} {t : TypeId} (h : Blk w b cs t) (ho : Only2 lo hi w w') (hb : b < lo ∨ hi ≤ b) : Blk w' b cs t := by
  rcases ho with rfl | ⟨g, h1, h2, ho⟩
  · exact h
  · exact (ho.block b (by omega)).trans h
theorem Only2.below {lo hi n : Nat} {w0 w w' : World} (h : Below n w0 w) (ho : Only2 lo hi w w') (hn : n ≤ lo) : Below n w0 w' := by
  rcases ho with rfl | ⟨g, h1, h2, ho⟩
  · exact h
  · exact Only.below h ho (by omega)
theorem Only2.size {lo hi : Nat} {w w' : World} (h : Only2 lo hi w w') : w'.heap.size = w.heap.size := by
  rcases h with rfl | ⟨b, _, _, ho⟩
  · rfl
  · exact ho.size
theorem eqI_x {lo hi lo2 hi2 : Nat} {a a2 : Option Addr} {xs : List Int} {W : World} (h1 : IX lo hi W a xs) (h2 : IX lo2 hi2 W a2 xs) (c c2 : Nat) (hn : xs.length ≤ 1048576) :
    Calls Try.prog 20 #[.slice a xs.length c, .slice a2 xs.length c2] W fun e w' => e = .returned (.bool true) ∧ Below W.heap.size W w' := by
  by_cases he : xs = []
  · subst he
    refine (eqInt64S_empty a a2 c c2 W).mono ?_
    rintro e w' ⟨rfl, hd⟩
    exact ⟨rfl, hd.below⟩
  · rcases h1 with h1 | ⟨g, rfl, _, p1, p2, p3, _⟩
    · exact absurd h1 he
    rcases h2 with h2 | ⟨g2, rfl, _, q1, q2, q3, _⟩
    · exact absurd h2 he
    refine (eqInt64S_same g 0 c g2 0 c2 xs W hn p3 q3).mono ?_
    rintro e w' ⟨rfl, hd⟩
    exact ⟨rfl, hd.below⟩
theorem heldI_x {lo hi : Nat} {a : Option Addr} {k0 : Int} {n : Nat} {W : World} (hx : HI lo hi W a k0 n) (c : Nat) (hn : n ≤ 1048576) (hk0 : 0 ≤ k0 ∧ k0 ≤ 10000000) :
    Calls Try.prog 23 #[.slice a n c, .int .i64 k0] W fun e w' => e = .returned (.int .i64 (k0 + (n : Int))) ∧ W = w' := by
  rcases hx with rfl | ⟨g, rfl, _, h1, _, h2⟩
  · refine (heldI_nil a c k0 W).mono ?_
    rintro e w' ⟨rfl, rfl⟩
    exact ⟨by simp, rfl⟩
  · exact heldI_any g c n k0 W hn hk0 h2
theorem markI_x {lo hi : Nat} {a : Option Addr} {xs : List Int} {W : World} (h : IX lo hi W a xs) (c : Nat) (k0 : Int) (hn : xs.length ≤ 1048576) (hk0 : 0 ≤ k0 ∧ k0 ≤ 10000000) :
    Calls Try.prog 22 #[.slice a xs.length c, .int .i64 k0] W fun e w' => e = .returned (.int .i64 (k0 + (xs.length : Int))) ∧ HI lo hi w' a k0 xs.length ∧ Only2 lo hi W w' := by
  rcases h with he | ⟨g, rfl, p0, p1, p2, p3, p4⟩
  · subst he
    refine (markI_nil a c k0 W).mono ?_
    rintro e w' ⟨rfl, rfl⟩
    exact ⟨by simp, .inl rfl, .inl rfl⟩
  · refine (markI_any g c xs.length k0 W hn hk0 (fun q hq => by have := p3 q hq; rw [Nat.zero_add] at this; rw [this]; rfl) p4).mono ?_
    rintro e w' ⟨rfl, hk, ho⟩
    exact ⟨rfl, .inr ⟨g, rfl, p0, p1, by rw [ho.size]; exact p2, hk⟩, .inr ⟨g, p0, p1, ho⟩⟩
set_option maxHeartbeats 2000000 in
theorem markWordS_any (b c n : Nat) (w : World) (hn : n ≤ 1048576) (hs : ∀ q, q < n * 4 → (w.cell? ⟨b, q, none⟩).isSome = true) (hf : ∀ j, w.frozen? ⟨b, j, none⟩ = false) :
    Calls Try.prog 44 #[.slice (some ⟨b, 0, none⟩) n c, .int .i64 1] w fun e w' => (∃ q : Int, e = .returned (.int .i64 q) ∧ 0 ≤ q) ∧ Only b w w' := by
  go_enter Try.func44, Try.ntmps44
  go_wp2
  go_loopw [1, 5] (fun v i wr => ∃ (k : Nat) (m : Int), k ≤ n ∧ i = .int .i64 k ∧ v = .int .i64 m ∧ 0 ≤ m ∧ m ≤ 1 + 4 * (k : Int) ∧ (∀ q, q < n * 4 → (wr.cell? ⟨b, q, none⟩).isSome = true) ∧ (∀ j, wr.frozen? ⟨b, j, none⟩ = false) ∧ Only b w wr) (fun _ i _ => n - (intOf i).toNat)
  case atStart => exact ⟨0, 1, Nat.zero_le _, rfl, rfl, by omega, by omega, hs, hf, Only.refl _ _⟩
  case round =>
    obtain ⟨k, m, hk, rfl, rfl, hm0, hm1, hss, hff, hB⟩ := hrel
    by_cases hlt : k < n
    · obtain ⟨o0, e0⟩ := Option.isSome_iff_exists.1 (hss (k * 4) (by omega))
      obtain ⟨o1, e1⟩ := Option.isSome_iff_exists.1 (hss (k * 4 + 1) (by omega))
      obtain ⟨o2, e2⟩ := Option.isSome_iff_exists.1 (hss (k * 4 + 2) (by omega))
      obtain ⟨o3, e3⟩ := Option.isSome_iff_exists.1 (hss (k * 4 + 3) (by omega))
      have hkl : (k : Int) < (n : Int) := by omega
      have HSS := Lib.hid (fun v0 v1 v2 v3 q (hq : q < n * 4) => isSome_set (k * 4 + 3) v3 (isSome_set (k * 4 + 2) v2 (isSome_set (k * 4 + 1) v1 (isSome_set (k * 4) v0 (hss q hq)))))
      have HFF := Lib.hid hff
      have f0 := hff (k * 4)
      have f1 := hff (k * 4 + 1)
      have f2 := hff (k * 4 + 2)
      have f3 := hff (k * 4 + 3)
      clear hss hff
      go_wp2
      refine wp_loop_rounds 5 ?_
      iterate 5 (rw [rounds_succ]; go_wp2)
      go_roundw
      case rel =>
        refine ⟨k + 1, m + 4, by omega, by go_num, by go_num, by omega, by omega, HSS.out _ _ _ _, fun j => ?_, (((hB.setCell _ _).setCell _ _).setCell _ _).setCell _ _⟩
        rw [World.frozen?_setCell, World.frozen?_setCell, World.frozen?_setCell, World.frozen?_setCell]
        exact HFF.out j
      case measure => simp [intOf]; omega
    · clear hss hff
      go_wp2
      go_ret
      exact ⟨⟨m, rfl, hm0⟩, hB⟩
theorem markFixed_any (g c : Nat) (l k : Int) (ws : List Wf) (w : World) (hn : ws.length ≤ 1048576) (K : Blk w g (wcells ws) 47) :
    Calls Try.prog 21 #[fixV l k (some ⟨g, 0, none⟩) ws.length c, .int .i64 1] w fun e w' => (∃ q : Int, e = .returned (.int .i64 q) ∧ 0 ≤ q) ∧ ∃ w1, Below w.heap.size w w1 ∧ Only g w1 w' := by
  have F0 := (FR.start w).box #[.int .i8 l, .int .i8 k, .slice (some ⟨g, 0, none⟩) ws.length c] 30
  have K1 := K.below F0.below K.lt
  have HM := Lib.hid (markWordS_any g c ws.length _ hn (fun q hq => by rw [K1.cell, wcells_get ws q hq]; rfl) K1.free)
  have HB := Lib.hid F0.below
  clear K K1
  obtain ⟨c0, c1, c2, -⟩ := (F0.blk _ List.mem_cons_self).three
  clear F0
  go_enter Try.func21, Try.ntmps21
  go_wp2_with fail
  refine HM.out.mono ?_
  rintro e w2 ⟨⟨q, rfl, hq⟩, ho⟩
  have HO := Lib.hid ho
  clear ho HM
  go_wp2
  go_ret
  exact ⟨⟨q, rfl, hq⟩, _, HB.out, HO.out⟩
end Go.Proofs.Ytlkkjjbihgiiiaa
