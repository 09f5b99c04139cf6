/-
  What a law over fixed plans keeps in memory between two calls: its own blocks, the words that its helpers have made, marks of words, answers that are fixed plans.
-/
import Derived.Test.YtieghjpecoiodaaFWr
import Derived.Test.YtieghjpecoiodaaSlaw
import Derived.Deep.RegionHeld3
import Derived.Deep.MidRow
import Derived.Deep.DeepCutAuto
namespace Go.Proofs.Ytieghjpecoiodaa
open Go.RowKit
set_option maxRecDepth 100000
set_option linter.unusedVariables false

theorem isSome_set {w : World} {b q : Nat} (p : Nat) (v : Value) (h : (w.cell? ⟨b, q, none⟩).isSome = true) : ((w.setCell ⟨b, p, none⟩ v).cell? ⟨b, q, none⟩).isSome = true := by
  by_cases e : q = p
  · subst e
    obtain ⟨u, hu⟩ := Option.isSome_iff_exists.1 h
    rw [World.cell?_setCell_same _ _ _ hu]; rfl
  · rw [World.cell?_setCell_other _ _ _ _ (by simp <;> omega)]; exact h
/-- The first n words of block b are marked, from k0 on. -/
def MkW (w : World) (b : Nat) (k0 : Int) (n : Nat) : Prop := ∀ j, j < n → w.cell? ⟨b, j * 4, none⟩ = some (.int .i8 (IntKind.i8.wrap (k0 + (j : Int) * 4))) ∧ w.cell? ⟨b, j * 4 + 1, none⟩ = some (.int .i8 (IntKind.i8.wrap (k0 + (j : Int) * 4 + 1))) ∧ w.cell? ⟨b, j * 4 + 2, none⟩ = some (.int .i8 (IntKind.i8.wrap (k0 + (j : Int) * 4 + 2))) ∧ w.cell? ⟨b, j * 4 + 3, none⟩ = some (.int .i8 (IntKind.i8.wrap (k0 + (j : Int) * 4 + 3)))
theorem MkW.below {w w' : World} {b n B : Nat} {k0 : Int} (h : MkW w b k0 n) (hb : Below B w w') (hB : b < B) : MkW w' b k0 n := fun j hj =>
  ⟨(hb.cell (p := ⟨b, j * 4, none⟩) hB).trans (h j hj).1, (hb.cell (p := ⟨b, j * 4 + 1, none⟩) hB).trans (h j hj).2.1, (hb.cell (p := ⟨b, j * 4 + 2, none⟩) hB).trans (h j hj).2.2.1, (hb.cell (p := ⟨b, j * 4 + 3, none⟩) hB).trans (h j hj).2.2.2⟩
theorem MkW.step {w : World} {b n : Nat} {k0 : Int} (h : MkW w b k0 n) (hs : ∀ i, i < 4 → (w.cell? ⟨b, n * 4 + i, none⟩).isSome = true) :
    MkW ((((w.setCell ⟨b, n * 4, none⟩ (.int .i8 (IntKind.i8.wrap (k0 + (n : Int) * 4)))).setCell ⟨b, n * 4 + 1, none⟩ (.int .i8 (IntKind.i8.wrap (k0 + (n : Int) * 4 + 1)))).setCell ⟨b, n * 4 + 2, none⟩ (.int .i8 (IntKind.i8.wrap (k0 + (n : Int) * 4 + 2)))).setCell ⟨b, n * 4 + 3, none⟩ (.int .i8 (IntKind.i8.wrap (k0 + (n : Int) * 4 + 3)))) b k0 (n + 1) := fun j hj => by
  have same : ∀ (W : World) (o : Nat) (v : Value), (W.cell? ⟨b, o, none⟩).isSome = true → (W.setCell ⟨b, o, none⟩ v).cell? ⟨b, o, none⟩ = some v := fun W o v hW => by
    obtain ⟨u, hu⟩ := Option.isSome_iff_exists.1 hW
    exact World.cell?_setCell_same _ _ _ hu
  have oth : ∀ (W : World) (o p : Nat) (v : Value), o ≠ p → (W.setCell ⟨b, p, none⟩ v).cell? ⟨b, o, none⟩ = W.cell? ⟨b, o, none⟩ := fun W o p v hne => World.cell?_setCell_other _ _ _ _ (by simp <;> omega)
  by_cases e : j = n
  · subst e
    have h0 := hs 0 (by omega)
    have h1 := hs 1 (by omega)
    have h2 := hs 2 (by omega)
    have h3 := hs 3 (by omega)
    rw [Nat.add_zero] at h0
    refine ⟨?_, ?_, ?_, ?_⟩
    · rw [oth _ _ _ _ (by omega), oth _ _ _ _ (by omega), oth _ _ _ _ (by omega)]; exact same _ _ _ h0
    · rw [oth _ _ _ _ (by omega), oth _ _ _ _ (by omega)]; exact same _ _ _ (isSome_set _ _ h1)
    · rw [oth _ _ _ _ (by omega)]; exact same _ _ _ (isSome_set _ _ (isSome_set _ _ h2))
    · exact same _ _ _ (isSome_set _ _ (isSome_set _ _ (isSome_set _ _ h3)))
  · obtain ⟨a0, a1, a2, a3⟩ := h j (by omega)
    refine ⟨?_, ?_, ?_, ?_⟩ <;> rw [oth _ _ _ _ (by omega), oth _ _ _ _ (by omega), oth _ _ _ _ (by omega), oth _ _ _ _ (by omega)]
    · exact a0
    · exact a1
    · exact a2
    · exact a3
set_option maxHeartbeats 4000000 in
theorem markWordS_any (b c n : Nat) (k0 : Int) (w : World) (hn : n ≤ 1048576) (hk0 : 0 ≤ k0 ∧ k0 ≤ 10000000) (hs : ∀ q, q < n * 4 → (w.cell? ⟨b, q, none⟩).isSome = true) (hf : ∀ j, w.frozen? ⟨b, j, none⟩ = false) :
    Calls Try.prog 45 #[.slice (some ⟨b, 0, none⟩) n c, .int .i64 k0] w fun e w' => e = .returned (.int .i64 (k0 + (n : Int) * 4)) ∧ MkW w' b k0 n ∧ Only b w w' := by
  go_enter Try.func45, Try.ntmps45
  go_wp2
  go_loopw [1, 5] (fun v i wr => ∃ k : Nat, k ≤ n ∧ i = .int .i64 k ∧ v = .int .i64 (k0 + (k : Int) * 4) ∧ MkW wr b k0 k ∧ (∀ q, q < n * 4 → (wr.cell? ⟨b, q, none⟩).isSome = true) ∧ (∀ j, wr.frozen? ⟨b, j, none⟩ = false) ∧ Only b w wr) (fun _ i _ => n - (intOf i).toNat)
  case atStart => exact ⟨0, Nat.zero_le _, rfl, by simp, fun q h => absurd h (by omega), hs, hf, Only.refl _ _⟩
  case round =>
    obtain ⟨k, hk, rfl, rfl, hm, hss, hff, hB⟩ := hrel
    by_cases hlt : k < n
    · obtain ⟨o0, e0⟩ := Option.isSome_iff_exists.1 (hss (k * 4) (by omega))
      obtain ⟨o1, e1⟩ := Option.isSome_iff_exists.1 (hss (k * 4 + 1) (by omega))
      obtain ⟨o2, e2⟩ := Option.isSome_iff_exists.1 (hss (k * 4 + 2) (by omega))
      obtain ⟨o3, e3⟩ := Option.isSome_iff_exists.1 (hss (k * 4 + 3) (by omega))
      have hkl : (k : Int) < (n : Int) := by omega
      have HM := Lib.hid (hm.step (fun i hi => hss (k * 4 + i) (by omega)))
      obtain ⟨m2, hm2⟩ : ∃ m2 : Int, k0 + (k : Int) * 4 = m2 := ⟨_, rfl⟩
      have hb3 : 0 ≤ m2 ∧ m2 ≤ 20000000 := by omega
      have HM3 := Lib.hid hm2
      rw [hm2] at HM
      have HSS := Lib.hid (fun v0 v1 v2 v3 q (hq : q < n * 4) => isSome_set (k * 4 + 3) v3 (isSome_set (k * 4 + 2) v2 (isSome_set (k * 4 + 1) v1 (isSome_set (k * 4) v0 (hss q hq)))))
      have HFF := Lib.hid hff
      have f0 := hff (k * 4)
      have f1 := hff (k * 4 + 1)
      have f2 := hff (k * 4 + 2)
      have f3 := hff (k * 4 + 3)
      clear hss hm hff
      rw [hm2]
      clear hm2
      go_wp2
      refine wp_loop_rounds 5 ?_
      iterate 5 (rw [rounds_succ]; go_wp2)
      go_roundw
      case rel =>
        refine ⟨k + 1, by omega, by go_num, ?_, ?_, ?_, fun j => ?_, (((hB.setCell _ _).setCell _ _).setCell _ _).setCell _ _⟩
        · have := HM3.out; go_num
        · first | exact HM.out | (have hh := HM.out; simp only [Int.add_assoc] at hh ⊢; exact hh)
        · exact HSS.out _ _ _ _
        · rw [World.frozen?_setCell, World.frozen?_setCell, World.frozen?_setCell, World.frozen?_setCell]; exact HFF.out j
      case measure => simp [intOf]; omega
    · have hkn : k = n := by omega
      have HKN := Lib.hid hkn
      have HMD := Lib.hid hm
      have hkl : ¬ (k : Int) < (n : Int) := by omega
      obtain ⟨m2, hm2⟩ : ∃ m2 : Int, k0 + (k : Int) * 4 = m2 := ⟨_, rfl⟩
      have HM3 := Lib.hid hm2
      rw [hm2]
      clear hkn hm hss hff hm2
      go_wp2
      go_ret
      exact ⟨by rw [← HKN.out, HM3.out]; rfl, by rw [← HKN.out]; exact HMD.out, hB⟩
set_option maxHeartbeats 4000000 in
theorem heldWordS_any (b c n : Nat) (k0 : Int) (w : World) (hn : n ≤ 1048576) (hk0 : 0 ≤ k0 ∧ k0 ≤ 10000000) (hm : MkW w b k0 n) :
    Calls Try.prog 46 #[.slice (some ⟨b, 0, none⟩) n c, .int .i64 k0] w fun e w' => e = .returned (.int .i64 (k0 + (n : Int) * 4)) ∧ w = w' := by
  go_enter Try.func46, Try.ntmps46
  go_wp2
  go_loop [1, 5] (fun v i => ∃ k : Nat, k ≤ n ∧ i = .int .i64 k ∧ v = .int .i64 (k0 + (k : Int) * 4)) (fun _ i => n - (intOf i).toNat)
  case atStart => exact ⟨0, Nat.zero_le _, rfl, by simp⟩
  case round =>
    obtain ⟨k, hk, rfl, rfl⟩ := hrel
    by_cases hlt : k < n
    · obtain ⟨e0, e1, e2, e3⟩ := hm k hlt
      have hkl : (k : Int) < (n : Int) := by omega
      obtain ⟨m2, hm2⟩ : ∃ m2 : Int, k0 + (k : Int) * 4 = m2 := ⟨_, rfl⟩
      have hb3 : 0 ≤ m2 ∧ m2 ≤ 20000000 := by omega
      have HM3 := Lib.hid hm2
      rw [hm2] at e0 e1 e2 e3
      rw [hm2]
      rw [show m2 + 2 = m2 + 1 + 1 by omega] at e2
      rw [show m2 + 3 = m2 + 1 + 1 + 1 by omega] at e3
      clear hm2
      go_wp2
      refine wp_loop_rounds 5 ?_
      iterate 5 (rw [rounds_succ]; go_wp2)
      go_round
      case rel => exact ⟨k + 1, by omega, by go_num, by have := HM3.out; go_num⟩
      case measure => simp [intOf]; omega
    · have hkn : k = n := by omega
      have HKN := Lib.hid hkn
      have hkl : ¬ (k : Int) < (n : Int) := by omega
      obtain ⟨m2, hm2⟩ : ∃ m2 : Int, k0 + (k : Int) * 4 = m2 := ⟨_, rfl⟩
      have HM3 := Lib.hid hm2
      rw [hm2]
      clear hkn hm2
      go_wp2
      go_ret
      exact ⟨by rw [← HKN.out, HM3.out]; rfl, rfl⟩
set_option maxRecDepth 100000 in
theorem markWordS_nil (a : Option Addr) (c : Nat) (k0 : Int) (w : World) :
    Calls Try.prog 45 #[.slice a 0 c, .int .i64 k0] w fun e w' => e = .returned (.int .i64 k0) ∧ w = w' := by
  go_enter Try.func45, Try.ntmps45
  go_wp2
  refine wp_loop_rounds 1 ?_
  rw [rounds_succ]
  go_wp2
  go_ret
  exact ⟨rfl, rfl⟩
set_option maxRecDepth 100000 in
theorem heldWordS_nil (a : Option Addr) (c : Nat) (k0 : Int) (w : World) :
    Calls Try.prog 46 #[.slice a 0 c, .int .i64 k0] w fun e w' => e = .returned (.int .i64 k0) ∧ w = w' := by
  go_enter Try.func46, Try.ntmps46
  go_wp2
  refine wp_loop_rounds 1 ?_
  rw [rounds_succ]
  go_wp2
  go_ret
  exact ⟨rfl, rfl⟩
def Stab (Q : World → Prop) : Prop := ∀ W W', Q W → Below W.heap.size W W' → Q W'
structure FQ (w0 : World) (L : List (Nat × Array Value × TypeId)) (R : List (Nat × List Wf)) (Q : World → Prop) (w : World) : Prop where
  fr : FW w0 L R w
  q : Q w
  st : Stab Q
theorem FW.fq {w0 w : World} {L : List (Nat × Array Value × TypeId)} {R : List (Nat × List Wf)} (h : FW w0 L R w) {Q : World → Prop} (hq : Q w) (hs : Stab Q) : FQ w0 L R Q w := ⟨h, hq, hs⟩
theorem stab_true : Stab (fun _ => True) := fun _ _ _ _ => trivial
theorem Stab.and {Q Q' : World → Prop} (h : Stab Q) (h' : Stab Q') : Stab (fun W => Q W ∧ Q' W) := fun _ _ ⟨a, b⟩ hb => ⟨h _ _ a hb, h' _ _ b hb⟩
section
variable {w0 w W : World} {L : List (Nat × Array Value × TypeId)} {R : List (Nat × List Wf)} {Q : World → Prop}
theorem FQ.next {w' : World} (h : FQ w0 L R Q w) (hb : Below w.heap.size w w') : FQ w0 L R Q w' := ⟨h.fr.next hb, h.st _ _ h.q hb, h.st⟩
theorem FQ.drew (h : FQ w0 L R Q w) : FQ w0 L R Q w.drew := h.next (Below.refl _ _).drew
theorem FQ.box (h : FQ w0 L R Q w) (cs : Array Value) (t : TypeId) : FQ w0 ((w.heap.size, cs, t) :: L) R Q (w.alloc (.cells cs t)) :=
  ⟨h.fr.box cs t, h.st _ _ h.q ((Below.refl w.heap.size w).alloc (Nat.le_refl _) (.cells cs t)), h.st⟩
theorem FQ.re {Q' : World → Prop} {R' : List (Nat × List Wf)} (h : FQ w0 L R Q w) (hR : ∀ p ∈ R', p ∈ R) (hq : Q' w) (hs : Stab Q') : FQ w0 L R' Q' w := ⟨⟨h.fr.below, h.fr.blk, fun p hp => h.fr.row p (hR p hp), h.fr.top⟩, hq, hs⟩
theorem eqFixed_fq {g g2 : Nat} {ws : List Wf} (h : FQ w0 L R Q W) (h1 : (g, ws) ∈ R) (h2 : (g2, ws) ∈ R) (l k : Int) (c c2 : Nat) (hn : ws.length ≤ 1048576) :
    Calls Try.prog 16 #[fixV l k (some ⟨g, 0, none⟩) ws.length c, fixV l k (some ⟨g2, 0, none⟩) ws.length c2] W fun e w' => e = .returned (.bool true) ∧ FQ w0 L R Q w' := by
  refine (eqFixed_any l k _ _ c c2 ws W hn (.inr ⟨g, 0, g2, 0, rfl, rfl, (h.fr.row _ h1).lt, (h.fr.row _ h2).lt, (h.fr.row _ h1).words, (h.fr.row _ h2).words⟩)).mono ?_
  rintro e w' ⟨rfl, hb⟩
  exact ⟨rfl, h.next hb⟩
theorem FQ.only {Q' : World → Prop} {b : Nat} {w' : World} (h : FQ w0 L R Q w) (ho : Only b w w') (hb : w0.heap.size ≤ b) (hL : ∀ p ∈ L, p.1 ≠ b) (hq : Q' w') (hs : Stab Q') : FQ w0 L [] Q' w' :=
  ⟨⟨Only.below h.fr.below ho hb, fun p hp => (ho.block _ (hL p hp)).trans (h.fr.blk p hp), (fun p hp => by cases hp), h.fr.top⟩, hq, hs⟩
theorem markFixed_any (l k : Int) (g c : Nat) (ws : List Wf) (w : World) (hn : ws.length ≤ 1048576) (hr : Blk w g (wcells ws) 40) :
    Calls Try.prog 17 #[fixV l k (some ⟨g, 0, none⟩) ws.length c, .int .i64 1] w fun e w' => e = .returned (.int .i64 (1 + (ws.length : Int) * 4)) ∧ ∃ w1, Below w.heap.size w w1 ∧ Only g w1 w' := by
  have F0 := (FR.start w).box #[.int .i8 l, .int .i8 k, .slice (some ⟨g, 0, none⟩) ws.length c] 27
  have hr2 := hr.below F0.below hr.lt
  have HM := Lib.hid (markWordS_any g c ws.length 1 _ hn (by omega) (fun q hq => by rw [hr2.cell, wcells_get _ _ hq]; rfl) hr2.free)
  have HB := Lib.hid F0.below
  obtain ⟨c0, c1, c2, -⟩ := (F0.blk _ List.mem_cons_self).three
  obtain ⟨r, hr3⟩ : ∃ r : Int, 1 + (ws.length : Int) * 4 = r := ⟨_, rfl⟩
  rw [hr3] at HM ⊢
  clear hr hr2 F0 hr3
  go_enter Try.func17, Try.ntmps17
  go_wp2_with fail
  refine HM.out.mono ?_
  rintro e w2 ⟨rfl, _, ho⟩
  have HO := Lib.hid ho
  clear ho
  go_wp2
  go_ret
  exact ⟨rfl, _, HB.out, HO.out⟩
end
/-- Words in a block that a call has made, perhaps with room behind them. -/
def OwnB (B : Nat) (w : World) (v : Value) (xs : List Wf) : Prop := ∃ g c, v = .slice (some ⟨g, 0, none⟩) xs.length c ∧ B ≤ g ∧ g < w.heap.size ∧ WAt w g 0 xs ∧ ∀ j, w.frozen? ⟨g, j, none⟩ = false
/-- A slice that may be empty, or lies in a block that the call has made. -/
def OwnY (B : Nat) (w : World) (v : Value) (xs : List Wf) : Prop := (xs = [] ∧ ∃ a c, v = .slice a 0 c) ∨ OwnB B w v xs
/-- Words in a block between lo and hi; nothing is known of none. -/
def IXW (lo hi : Nat) (w : World) (a : Option Addr) (xs : List Wf) : Prop := xs = [] ∨ ∃ g, a = some ⟨g, 0, none⟩ ∧ lo ≤ g ∧ g < hi ∧ hi ≤ w.heap.size ∧ WAt w g 0 xs ∧ ∀ j, w.frozen? ⟨g, j, none⟩ = false
theorem IXW.below {lo hi : Nat} {w w' : World} {a : Option Addr} {xs : List Wf} (h : IXW lo hi w a xs) (hb : Below w.heap.size w w') : IXW lo hi w' a xs := by
  rcases h with h | ⟨g, rfl, h1, h2, h3, h4, h5⟩
  · exact .inl h
  · exact .inr ⟨g, rfl, h1, h2, Nat.le_trans h3 hb.size, h4.below hb (by omega), fun j => by rw [hb.frozen (p := ⟨g, j, none⟩) (by show g < w.heap.size; omega)]; exact h5 j⟩
theorem wat_only {b g off : Nat} {w w' : World} {xs : List Wf} (ho : Only b w w') (h : WAt w g off xs) (hne : g ≠ b) : WAt w' g off xs := fun j hj i hi =>
  (World.cell?_of_block (w := w) (a := ⟨g, off + j * 4 + i, none⟩) (ho.block g hne)).trans (h j hj i hi)
theorem IXW.only {lo hi b : Nat} {w w' : World} {a : Option Addr} {xs : List Wf} (h : IXW lo hi w a xs) (ho : Only b w w') (hb : b < lo ∨ hi ≤ b) : IXW lo hi w' a xs := by
  rcases h with h | ⟨g, rfl, h1, h2, h3, h4, h5⟩
  · exact .inl h
  · have hne : g ≠ b := by omega
    exact .inr ⟨g, rfl, h1, h2, by rw [ho.size]; exact h3, wat_only ho h4 hne, fun j => by rw [World.frozen?_of_block (w := w) (a := ⟨g, j, none⟩) (ho.block g hne)]; exact h5 j⟩
/-- Words that were marked. -/
def HXW (w : World) (a : Option Addr) (xs : List Wf) : Prop := xs = [] ∨ ∃ g, a = some ⟨g, 0, none⟩ ∧ g < w.heap.size ∧ MkW w g 1 xs.length
theorem HXW.below {w w' : World} {a : Option Addr} {xs : List Wf} (h : HXW w a xs) (hb : Below w.heap.size w w') : HXW w' a xs := by
  rcases h with h | ⟨g, rfl, h1, h2⟩
  · exact .inl h
  · exact .inr ⟨g, rfl, Nat.lt_of_lt_of_le h1 hb.size, h2.below hb h1⟩
theorem stab_ixw (lo hi : Nat) (a : Option Addr) (xs : List Wf) : Stab (fun W => IXW lo hi W a xs) := fun _ _ h hb => h.below hb
theorem stab_hxw (a : Option Addr) (xs : List Wf) : Stab (fun W => HXW W a xs) := fun _ _ h hb => h.below hb
section
variable {w0 W : World} {L : List (Nat × Array Value × TypeId)} {R : List (Nat × List Wf)} {Q : World → Prop}
/-- A call whose answer is a fixed plan of its own. -/
theorem Calls.frW {P : Program} {f : FuncId} {args : Array Value} {A B C : Int} {xs : List Wf} {g : Nat} {ws : List Wf} {p : Nat × Array Value × TypeId} (h : FQ w0 L R Q W) (hp : p ∈ L) (hm : (g, ws) ∈ R)
    (hc : g < W.heap.size → WAt W g 0 ws → Calls P f args W fun e w' => ∃ v, e = .returned (.tuple #[.agg #[.int .i8 A, .int .i8 B, v], .int .i64 C]) ∧ OwnY W.heap.size w' v xs ∧ Below W.heap.size W w') :
    Calls P f args W fun e w' => ∃ a c, e = .returned (.tuple #[fixV A B a xs.length c, .int .i64 C]) ∧ IXW (p.1 + 1) w'.heap.size w' a xs ∧ FQ w0 L R Q w' := by
  refine (hc (h.fr.row _ hm).lt (h.fr.row _ hm).words).mono ?_
  rintro e w' ⟨v, rfl, ho, hb⟩
  have hlt := (h.fr.blk _ hp).lt
  rcases ho with ⟨rfl, a, c, rfl⟩ | ⟨q, c, rfl, h1, h2, h3, h4⟩
  · exact ⟨a, c, rfl, .inl rfl, h.next hb⟩
  · exact ⟨_, c, rfl, .inr ⟨q, rfl, by omega, h2, Nat.le_refl _, h3, h4⟩, h.next hb⟩
theorem eqFixX_fq {lo hi lo2 hi2 : Nat} {a a2 : Option Addr} {xs : List Wf} (h : FQ w0 L R Q W) (h1 : IXW lo hi W a xs) (h2 : IXW lo2 hi2 W a2 xs) (A B : Int) (c c2 : Nat) (hn : xs.length ≤ 1048576) :
    Calls Try.prog 16 #[fixV A B a xs.length c, fixV A B a2 xs.length c2] W fun e w' => e = .returned (.bool true) ∧ FQ w0 L R Q w' := by
  refine (eqFixed_any A B a a2 c c2 xs W hn ?_).mono ?_
  · rcases h1 with h1 | ⟨g, rfl, _, p1, p2, p3, _⟩
    · exact .inl h1
    rcases h2 with h2 | ⟨g2, rfl, _, q1, q2, q3, _⟩
    · exact .inl h2
    exact .inr ⟨g, 0, g2, 0, rfl, rfl, by omega, by omega, p3, q3⟩
  · rintro e w' ⟨rfl, hb⟩
    exact ⟨rfl, h.next hb⟩
theorem wat_some {w : World} {g : Nat} {xs : List Wf} (h : WAt w g 0 xs) : ∀ q, q < xs.length * 4 → (w.cell? ⟨g, q, none⟩).isSome = true := fun q hq => by
  have h0 := h (q / 4) (by omega) (q % 4) (by omega)
  rw [show 0 + q / 4 * 4 + q % 4 = q by omega] at h0; rw [h0]; rfl
theorem markRowV_fq {lo hi lo2 hi2 : Nat} {a a2 : Option Addr} {xs : List Wf} (h : FQ w0 L R (fun W => IXW lo2 hi2 W a2 xs ∧ IXW lo hi W a xs) W) (c : Nat) (hn : xs.length ≤ 1048576) (h0 : w0.heap.size ≤ lo) (h1 : hi2 ≤ lo) (hL : ∀ p ∈ L, p.1 < lo ∨ hi ≤ p.1) :
    Calls Try.prog 45 #[.slice a xs.length c, .int .i64 1] W fun e w' => e = .returned (.int .i64 (1 + (xs.length : Int) * 4)) ∧ FQ w0 L [] (fun W => IXW lo2 hi2 W a2 xs ∧ HXW W a xs) w' := by
  obtain ⟨hm2, hm⟩ := h.q
  rcases hm with he | ⟨g, rfl, p0, p1, p2, p3, p4⟩
  · subst he
    refine (markWordS_nil a c 1 W).mono ?_
    rintro e w' ⟨rfl, rfl⟩
    exact ⟨rfl, h.re (fun p hp => by cases hp) ⟨hm2, .inl rfl⟩ ((stab_ixw _ _ _ _).and (stab_hxw _ _))⟩
  · refine (markWordS_any g c xs.length 1 W hn (by omega) (wat_some p3) p4).mono ?_
    rintro e w' ⟨rfl, hk, ho⟩
    refine ⟨rfl, h.only ho (by omega) (fun p hp => by have := hL p hp; omega) ⟨hm2.only ho (.inr (by omega)), .inr ⟨g, rfl, by rw [ho.size]; omega, hk⟩⟩ ((stab_ixw _ _ _ _).and (stab_hxw _ _))⟩
theorem markFixX_fq {lo hi lo2 hi2 : Nat} {a a2 : Option Addr} {xs : List Wf} (h : FQ w0 L R (fun W => IXW lo2 hi2 W a2 xs ∧ IXW lo hi W a xs) W) (A B : Int) (c : Nat) (hn : xs.length ≤ 1048576) (h0 : w0.heap.size ≤ lo) (h1 : hi2 ≤ lo) (hL : ∀ p ∈ L, p.1 < lo ∨ hi ≤ p.1) :
    Calls Try.prog 17 #[fixV A B a xs.length c, .int .i64 1] W fun e w' => e = .returned (.int .i64 (1 + (xs.length : Int) * 4)) ∧ FQ w0 L [] (fun W => IXW lo2 hi2 W a2 xs ∧ HXW W a xs) w' := by
  have HM := Lib.hid (markRowV_fq (h.next ((Below.refl _ _).alloc (Nat.le_refl _) (.cells #[.int .i8 A, .int .i8 B, .slice a xs.length c] 27))) c hn h0 h1 hL)
  obtain ⟨c0, c1, c2, -⟩ := (blk_new W #[.int .i8 A, .int .i8 B, .slice a xs.length c] 27).three
  clear h
  generalize 1 + (xs.length : Int) * 4 = m at *
  generalize xs.length = n at *
  go_enter Try.func17, Try.ntmps17
  go_wp2_with fail
  refine HM.out.mono ?_
  rintro e w2 ⟨rfl, hq⟩
  have HQ := Lib.hid hq
  clear hq
  go_wp2
  go_ret
  exact ⟨rfl, HQ.out⟩
theorem heldRowV_fq {a : Option Addr} {xs : List Wf} (h : FQ w0 L R Q W) (hx : HXW W a xs) (c : Nat) (hn : xs.length ≤ 1048576) :
    Calls Try.prog 46 #[.slice a xs.length c, .int .i64 1] W fun e w' => e = .returned (.int .i64 (1 + (xs.length : Int) * 4)) ∧ FQ w0 L R Q w' := by
  rcases hx with rfl | ⟨g, rfl, h1, h2⟩
  · refine (heldWordS_nil a c 1 W).mono ?_
    rintro e w' ⟨rfl, rfl⟩
    exact ⟨rfl, h⟩
  · refine (heldWordS_any g c xs.length 1 W hn (by omega) h2).mono ?_
    rintro e w' ⟨rfl, rfl⟩
    exact ⟨rfl, h⟩
theorem heldFixX_fq {a : Option Addr} {xs : List Wf} (h : FQ w0 L R Q W) (hx : HXW W a xs) (A B : Int) (c : Nat) (hn : xs.length ≤ 1048576) :
    Calls Try.prog 18 #[fixV A B a xs.length c, .int .i64 1] W fun e w' => e = .returned (.int .i64 (1 + (xs.length : Int) * 4)) ∧ FQ w0 L R Q w' := by
  have hb := (Below.refl W.heap.size W).alloc (Nat.le_refl _) (.cells #[.int .i8 A, .int .i8 B, .slice a xs.length c] 27)
  have HM := Lib.hid (heldRowV_fq (h.next hb) (hx.below hb) c hn)
  obtain ⟨c0, c1, c2, -⟩ := (blk_new W #[.int .i8 A, .int .i8 B, .slice a xs.length c] 27).three
  clear h hx hb
  have hm0 : ¬ 1 + (xs.length : Int) * 4 < 0 := by omega
  generalize 1 + (xs.length : Int) * 4 = m at *
  generalize xs.length = n at *
  go_enter Try.func18, Try.ntmps18
  go_wp2_with fail
  refine HM.out.mono ?_
  rintro e w2 ⟨rfl, hq⟩
  have HQ := Lib.hid hq
  clear hq
  go_wp2
  go_ret
  exact ⟨rfl, HQ.out⟩
theorem markFixedW_fq {lo hi lo2 hi2 g : Nat} {a a2 : Option Addr} {xs : List Wf} {ws : List Wf} (h : FQ w0 L R (fun W => IXW lo2 hi2 W a2 xs ∧ IXW lo hi W a xs) W) (hm : (g, ws) ∈ R) (l k : Int) (c : Nat) (hn : ws.length ≤ 1048576) (h0 : w0.heap.size ≤ g) (h1 : hi2 ≤ g) (h2 : g < lo) (hL : ∀ p ∈ L, p.1 ≠ g) :
    Calls Try.prog 17 #[fixV l k (some ⟨g, 0, none⟩) ws.length c, .int .i64 1] W fun e w' => e = .returned (.int .i64 (1 + (ws.length : Int) * 4)) ∧ FQ w0 L [] (fun W => IXW lo2 hi2 W a2 xs ∧ IXW lo hi W a xs) w' := by
  refine (markFixed_any l k g c ws W hn (h.fr.row _ hm)).mono ?_
  rintro e w' ⟨rfl, w1, hb, ho⟩
  have k := h.next hb
  exact ⟨rfl, k.only ho h0 hL ⟨k.q.1.only ho (.inr h1), k.q.2.only ho (.inl h2)⟩ k.st⟩
end
end Go.Proofs.Ytieghjpecoiodaa
