/-
  What a law over games keeps in memory between two calls: its own blocks, the questions that its helpers have made, and answers that are slices of numbers.
-/
import Derived.Test.YtclmjbkdghgjbaaZ3
import Derived.Test.YtclmjbkdghgjbaaSlaw
import Derived.Deep.RegionHeld3
import Derived.Deep.MidRow
import Derived.Deep.DeepCutAuto
namespace Go.Proofs.Ytclmjbkdghgjbaa
open Go.RowKit
set_option linter.unusedVariables false

/-- Questions in a block of their own. -/
abbrev RowW (w : World) (g : Nat) (xs : List Ak) : Prop := Blk w g (acells xs) 63
/-- The blocks of L and the rows of R stand; what was there at the beginning is as it was. -/
structure FW (w0 : World) (L : List (Nat × Array Value × TypeId)) (R : List (Nat × List Ak)) (w : World) : Prop where
  below : Below w0.heap.size w0 w
  blk : ∀ p ∈ L, Blk w p.1 p.2.1 p.2.2
  row : ∀ p ∈ R, RowW w p.1 p.2
  top : ∀ p L', L = p :: L' → w0.heap.size ≤ p.1 ∧ ∀ q ∈ L', q.1 < p.1
theorem FW.start (w : World) : FW w [] [] w := ⟨Below.refl _ _, (fun p h => by cases h), (fun p h => by cases h), fun p L' h => by cases h⟩
theorem FW.next {w0 w w' : World} {L : List (Nat × Array Value × TypeId)} {R : List (Nat × List Ak)} (h : FW w0 L R w) (hb : Below w.heap.size w w') : FW w0 L R w' :=
  ⟨h.below.trans (hb.mono h.below.size), fun p hp => (h.blk p hp).below hb (h.blk p hp).lt, fun p hp => (h.row p hp).below hb (h.row p hp).lt, h.top⟩
theorem FW.drew {w0 w : World} {L : List (Nat × Array Value × TypeId)} {R : List (Nat × List Ak)} (h : FW w0 L R w) : FW w0 L R w.drew := h.next (Below.refl _ _).drew
theorem FW.box {w0 w : World} {L : List (Nat × Array Value × TypeId)} {R : List (Nat × List Ak)} (h : FW w0 L R w) (cs : Array Value) (t : TypeId) : FW w0 ((w.heap.size, cs, t) :: L) R (w.alloc (.cells cs t)) := by
  have h1 := h.next ((Below.refl w.heap.size w).alloc (Nat.le_refl _) (.cells cs t))
  refine ⟨h1.below, fun p hp => ?_, h1.row, fun p L' e => ?_⟩
  · rcases List.mem_cons.1 hp with rfl | hp
    · exact blk_new w cs t
    · exact h1.blk p hp
  · cases e
    exact ⟨h.below.size, fun q hq => (h.blk q hq).lt⟩
theorem FW.add {w0 w : World} {L : List (Nat × Array Value × TypeId)} {R : List (Nat × List Ak)} (h : FW w0 L R w) {g : Nat} {xs : List Ak} (hr : RowW w g xs) : FW w0 L ((g, xs) :: R) w :=
  ⟨h.below, h.blk, fun p hp => by
    rcases List.mem_cons.1 hp with rfl | hp
    · exact hr
    · exact h.row p hp, h.top⟩
theorem FW.size {w0 w : World} {L : List (Nat × Array Value × TypeId)} {R : List (Nat × List Ak)} (h : FW w0 L R w) : w0.heap.size ≤ w.heap.size := h.below.size
theorem FW.b1 {w0 w : World} {p : Nat × Array Value × TypeId} {L : List (Nat × Array Value × TypeId)} {R : List (Nat × List Ak)} (h : FW w0 (p :: L) R w) : Blk w p.1 p.2.1 p.2.2 := h.blk p (by simp)
theorem FW.b2 {w0 w : World} {q p : Nat × Array Value × TypeId} {L : List (Nat × Array Value × TypeId)} {R : List (Nat × List Ak)} (h : FW w0 (q :: p :: L) R w) : Blk w p.1 p.2.1 p.2.2 := h.blk p (by simp)
theorem FW.b3 {w0 w : World} {q q' p : Nat × Array Value × TypeId} {L : List (Nat × Array Value × TypeId)} {R : List (Nat × List Ak)} (h : FW w0 (q :: q' :: p :: L) R w) : Blk w p.1 p.2.1 p.2.2 := h.blk p (by simp)
theorem FW.r1 {w0 w : World} {g : Nat} {xs : List Ak} {L : List (Nat × Array Value × TypeId)} {R : List (Nat × List Ak)} (h : FW w0 L ((g, xs) :: R) w) : RowW w g xs := h.row (g, xs) (by simp)
theorem FW.r2 {w0 w : World} {q : Nat × List Ak} {g : Nat} {xs : List Ak} {L : List (Nat × Array Value × TypeId)} {R : List (Nat × List Ak)} (h : FW w0 L (q :: (g, xs) :: R) w) : RowW w g xs := h.row (g, xs) (by simp)
/-- A store into the newest block of a frame. -/
theorem FW.setTop {w0 w : World} {b : Nat} {cs : Array Value} {t : TypeId} {L : List (Nat × Array Value × TypeId)} {R : List (Nat × List Ak)} (h : FW w0 ((b, cs, t) :: L) R w) (i : Nat) (v : Value) :
    FW w0 ((b, cs.setIfInBounds i v, t) :: L) [] (w.setCell ⟨b, i, none⟩ v) := by
  have hb : Below b w (w.setCell ⟨b, i, none⟩ v) := (Below.refl b w).setCell (show b ≤ (⟨b, i, none⟩ : Addr).block from Nat.le_refl _) v
  obtain ⟨h0, hL⟩ := h.top _ _ rfl
  refine ⟨h.below.trans (hb.mono h0), fun p hp => ?_, (fun p hp => by cases hp), (fun p L' e => by cases e; exact ⟨h0, hL⟩)⟩
  rcases List.mem_cons.1 hp with rfl | hp
  · exact (h.blk (b, cs, t) List.mem_cons_self).set i v
  · exact (h.blk p (List.mem_cons_of_mem _ hp)).below hb (hL p hp)
theorem FW.setTop2 {w0 w : World} {b : Nat} {z0 z1 v0 v1 : Value} {t : TypeId} {L : List (Nat × Array Value × TypeId)} {R : List (Nat × List Ak)} (h : FW w0 ((b, #[z0, z1], t) :: L) R w) :
    FW w0 ((b, #[v0, v1], t) :: L) [] ((w.setCell ⟨b, 0, none⟩ v0).setCell ⟨b, 1, none⟩ v1) := (h.setTop 0 v0).setTop 1 v1
theorem FW.setTopR {w0 w : World} {b : Nat} {cs : Array Value} {t : TypeId} {L : List (Nat × Array Value × TypeId)} {R R' : List (Nat × List Ak)} (h : FW w0 ((b, cs, t) :: L) R w) (hR : ∀ p ∈ R', p ∈ R ∧ ∃ q ∈ L, p.1 < q.1) (i : Nat) (v : Value) :
    FW w0 ((b, cs.setIfInBounds i v, t) :: L) R' (w.setCell ⟨b, i, none⟩ v) := by
  have hb : Below b w (w.setCell ⟨b, i, none⟩ v) := (Below.refl b w).setCell (show b ≤ (⟨b, i, none⟩ : Addr).block from Nat.le_refl _) v
  refine ⟨(h.setTop i v).below, (h.setTop i v).blk, fun p hp => ?_, (h.setTop i v).top⟩
  obtain ⟨h1, q, hq, hlt⟩ := hR p hp
  exact (h.row p h1).below hb (Nat.lt_trans hlt ((h.top _ _ rfl).2 q hq))
theorem FW.setTop2R {w0 w : World} {b : Nat} {z0 z1 v0 v1 : Value} {t : TypeId} {L : List (Nat × Array Value × TypeId)} {R R' : List (Nat × List Ak)} (h : FW w0 ((b, #[z0, z1], t) :: L) R w) (hR : ∀ p ∈ R', p ∈ R ∧ ∃ q ∈ L, p.1 < q.1) :
    FW w0 ((b, #[v0, v1], t) :: L) R' ((w.setCell ⟨b, 0, none⟩ v0).setCell ⟨b, 1, none⟩ v1) :=
  have hR2 : ∀ p ∈ R', p ∈ R' ∧ ∃ q ∈ L, p.1 < q.1 := fun p hp => ⟨hp, (hR p hp).2⟩
  (h.setTopR hR 0 v0).setTopR hR2 1 v1
/-- Fewer rows. -/
theorem FW.none {w0 w : World} {L : List (Nat × Array Value × TypeId)} {R : List (Nat × List Ak)} (h : FW w0 L R w) : FW w0 L [] w := ⟨h.below, h.blk, (fun p hp => by cases hp), h.top⟩
/-- A contract of a function that reads rows and makes memory, in a frame. -/
theorem Calls.fw {P : Program} {f : FuncId} {args : Array Value} {w0 W : World} {v : Ending} {L : List (Nat × Array Value × TypeId)} {R : List (Nat × List Ak)} (h : FW w0 L R W)
    (hc : Calls P f args W fun e w' => e = v ∧ Below W.heap.size W w') : Calls P f args W fun e w' => e = v ∧ FW w0 L R w' :=
  hc.mono fun _ _ ⟨a, b⟩ => ⟨a, h.next b⟩
/-- A contract over questions that were copied, in a frame. -/
theorem Calls.fwrow {P : Program} {f : FuncId} {args : Array Value} {w0 W : World} {v : Ending} {L : List (Nat × Array Value × TypeId)} {R : List (Nat × List Ak)} {g : Nat} {xs : List Ak} (h : FW w0 L R W) (hm : (g, xs) ∈ R)
    (hc : Sla W.heap.size W (some ⟨g, 0, none⟩) xs → Calls P f args W fun e w' => e = v ∧ Below W.heap.size W w') : Calls P f args W fun e w' => e = v ∧ FW w0 L R w' :=
  Calls.fw h (hc (Sla.own (h.row _ hm)))
/-- The first n questions of block b are marked, from k0 on. -/
def MkA (w : World) (b : Nat) (k0 : Int) (n : Nat) : Prop := ∀ j, j < n → w.cell? ⟨b, j * 2, none⟩ = some (.int .u64 (k0 + (j : Int) * 2)) ∧ w.cell? ⟨b, j * 2 + 1, none⟩ = some (.bool ((k0 + (j : Int) * 2 + 1) % 3 == 0))
theorem MkA.below {w w' : World} {b n B : Nat} {k0 : Int} (h : MkA w b k0 n) (hb : Below B w w') (hB : b < B) : MkA w' b k0 n := fun j hj =>
  ⟨(hb.cell (p := ⟨b, j * 2, none⟩) hB).trans (h j hj).1, (hb.cell (p := ⟨b, j * 2 + 1, none⟩) hB).trans (h j hj).2⟩
theorem MkA.only {w w' : World} {b b' n : Nat} {k0 : Int} (h : MkA w b k0 n) (ho : Only b' w w') (hne : b ≠ b') : MkA w' b k0 n := fun j hj =>
  ⟨(World.cell?_of_block (w := w) (a := ⟨b, j * 2, none⟩) (ho.block b hne)).trans (h j hj).1, (World.cell?_of_block (w := w) (a := ⟨b, j * 2 + 1, none⟩) (ho.block b hne)).trans (h j hj).2⟩
theorem MkA.step {w : World} {b n : Nat} {k0 : Int} (h : MkA w b k0 n) {o0 o1 : Value} (h0 : w.cell? ⟨b, n * 2, none⟩ = some o0) (h1 : w.cell? ⟨b, n * 2 + 1, none⟩ = some o1) :
    MkA ((w.setCell ⟨b, n * 2, none⟩ (.int .u64 (k0 + (n : Int) * 2))).setCell ⟨b, n * 2 + 1, none⟩ (.bool ((k0 + (n : Int) * 2 + 1) % 3 == 0))) b k0 (n + 1) := fun j hj => by
  by_cases e : j = n
  · subst e
    refine ⟨?_, ?_⟩
    · rw [World.cell?_setCell_other _ _ _ _ (by simp)]
      exact World.cell?_setCell_same _ _ _ h0
    · exact World.cell?_setCell_same (w := w.setCell ⟨b, j * 2, none⟩ _) _ _ (by rw [World.cell?_setCell_other _ _ _ _ (by simp)]; exact h1)
  · refine ⟨?_, ?_⟩
    · rw [World.cell?_setCell_other _ _ _ _ (by simp <;> omega), World.cell?_setCell_other _ _ _ _ (by simp <;> omega)]
      exact (h j (by omega)).1
    · rw [World.cell?_setCell_other _ _ _ _ (by simp <;> omega), World.cell?_setCell_other _ _ _ _ (by simp <;> omega)]
      exact (h j (by omega)).2
theorem isSome_set {w : World} {b q : Nat} (p : Nat) (v : Value) (h : (w.cell? ⟨b, q, none⟩).isSome = true) : ((w.setCell ⟨b, p, none⟩ v).cell? ⟨b, q, none⟩).isSome = true := by
  by_cases e : q = p
  · subst e
    obtain ⟨u, hu⟩ := Option.isSome_iff_exists.1 h
    rw [World.cell?_setCell_same _ _ _ hu]; rfl
  · rw [World.cell?_setCell_other _ _ _ _ (by simp <;> omega)]; exact h
set_option maxRecDepth 100000 in
theorem markAskS_any (b c n : Nat) (k0 : Int) (w : World) (hn : n ≤ 1048576) (hk0 : 0 ≤ k0 ∧ k0 ≤ 10000000) (hs : ∀ q, q < n * 2 → (w.cell? ⟨b, q, none⟩).isSome = true) (hf : ∀ j, w.frozen? ⟨b, j, none⟩ = false) :
    Calls Try.prog 28 #[.slice (some ⟨b, 0, none⟩) n c, .int .i64 k0] w fun e w' => e = .returned (.int .i64 (k0 + (n : Int) * 2)) ∧ MkA w' b k0 n ∧ Only b w w' := by
  go_enter Try.func28, Try.ntmps28
  go_wp2
  go_loopw [1, 5] (fun v i wr => ∃ k : Nat, k ≤ n ∧ i = .int .i64 k ∧ v = .int .i64 (k0 + (k : Int) * 2) ∧ MkA wr b k0 k ∧ (∀ q, q < n * 2 → (wr.cell? ⟨b, q, none⟩).isSome = true) ∧ (∀ j, wr.frozen? ⟨b, j, none⟩ = false) ∧ Only b w wr) (fun _ i _ => n - (intOf i).toNat)
  case atStart => exact ⟨0, Nat.zero_le _, rfl, by simp, fun q h => absurd h (by omega), hs, hf, Only.refl _ _⟩
  case round =>
    obtain ⟨k, hk, rfl, rfl, hm, hss, hff, hB⟩ := hrel
    by_cases hlt : k < n
    · obtain ⟨o0, e0⟩ := Option.isSome_iff_exists.1 (hss (k * 2) (by omega))
      obtain ⟨o1, e1⟩ := Option.isSome_iff_exists.1 (hss (k * 2 + 1) (by omega))
      have hkl : (k : Int) < (n : Int) := by omega
      have HM := Lib.hid (hm.step e0 e1)
      obtain ⟨m2, hm2⟩ : ∃ m2 : Int, k0 + (k : Int) * 2 = m2 := ⟨_, rfl⟩
      have hb3 : 0 ≤ m2 ∧ m2 ≤ 20000000 := by omega
      have HM3 := Lib.hid hm2
      rw [hm2] at HM
      have HSS := Lib.hid (fun v0 v1 q (hq : q < n * 2) => isSome_set (w := wr.setCell ⟨b, k * 2, none⟩ v0) (k * 2 + 1) v1 (isSome_set (k * 2) v0 (hss q hq)))
      have HFF := Lib.hid hff
      have f0 := hff (k * 2)
      have f1 := hff (k * 2 + 1)
      clear hss hm hff
      rw [hm2]
      clear hm2
      go_wp2
      go_roundw
      case rel =>
        refine ⟨k + 1, by omega, by go_num, ?_, ?_, ?_, fun j => ?_, (hB.setCell _ _).setCell _ _⟩
        · have := HM3.out; go_num
        · exact HM.out
        · exact HSS.out _ _
        · rw [World.frozen?_setCell, World.frozen?_setCell]; exact HFF.out j
      case measure => simp [intOf]; omega
    · have hkn : k = n := by omega
      have HKN := Lib.hid hkn
      have HMD := Lib.hid hm
      have hkl : ¬ (k : Int) < (n : Int) := by omega
      obtain ⟨m2, hm2⟩ : ∃ m2 : Int, k0 + (k : Int) * 2 = m2 := ⟨_, rfl⟩
      have HM3 := Lib.hid hm2
      rw [hm2]
      clear hkn hm hss hff hm2
      go_wp2
      go_ret
      exact ⟨by rw [← HKN.out, HM3.out]; rfl, by rw [← HKN.out]; exact HMD.out, hB⟩
set_option maxRecDepth 100000 in
theorem heldAskS_any (b c n : Nat) (k0 : Int) (w : World) (hn : n ≤ 1048576) (hk0 : 0 ≤ k0 ∧ k0 ≤ 10000000) (hm : MkA w b k0 n) :
    Calls Try.prog 29 #[.slice (some ⟨b, 0, none⟩) n c, .int .i64 k0] w fun e w' => e = .returned (.int .i64 (k0 + (n : Int) * 2)) ∧ w = w' := by
  go_enter Try.func29, Try.ntmps29
  go_wp2
  go_loop [1, 5] (fun v i => ∃ k : Nat, k ≤ n ∧ i = .int .i64 k ∧ v = .int .i64 (k0 + (k : Int) * 2)) (fun _ i => n - (intOf i).toNat)
  case atStart => exact ⟨0, Nat.zero_le _, rfl, by simp⟩
  case round =>
    obtain ⟨k, hk, rfl, rfl⟩ := hrel
    by_cases hlt : k < n
    · obtain ⟨e0, e1⟩ := hm k hlt
      have hkl : (k : Int) < (n : Int) := by omega
      obtain ⟨m2, hm2⟩ : ∃ m2 : Int, k0 + (k : Int) * 2 = m2 := ⟨_, rfl⟩
      have hb3 : 0 ≤ m2 ∧ m2 ≤ 20000000 := by omega
      have HM3 := Lib.hid hm2
      rw [hm2] at e0 e1
      rw [hm2]
      clear hm2
      go_wp2
      go_round
      case rel => exact ⟨k + 1, by omega, by go_num, by have := HM3.out; go_num⟩
      case measure => simp [intOf]; omega
    · have hkn : k = n := by omega
      have HKN := Lib.hid hkn
      have hkl : ¬ (k : Int) < (n : Int) := by omega
      obtain ⟨m2, hm2⟩ : ∃ m2 : Int, k0 + (k : Int) * 2 = m2 := ⟨_, rfl⟩
      have HM3 := Lib.hid hm2
      rw [hm2]
      clear hkn hm2
      go_wp2
      go_ret
      exact ⟨by rw [← HKN.out, HM3.out]; rfl, rfl⟩
set_option maxRecDepth 100000 in
theorem markAskS_nil (a : Option Addr) (c : Nat) (k0 : Int) (w : World) :
    Calls Try.prog 28 #[.slice a 0 c, .int .i64 k0] w fun e w' => e = .returned (.int .i64 k0) ∧ w = w' := by
  go_enter Try.func28, Try.ntmps28
  go_wp2
  refine wp_loop_rounds 1 ?_
  rw [rounds_succ]
  go_wp2
  go_ret
  exact ⟨rfl, rfl⟩
set_option maxRecDepth 100000 in
theorem heldAskS_nil (a : Option Addr) (c : Nat) (k0 : Int) (w : World) :
    Calls Try.prog 29 #[.slice a 0 c, .int .i64 k0] w fun e w' => e = .returned (.int .i64 k0) ∧ w = w' := by
  go_enter Try.func29, Try.ntmps29
  go_wp2
  refine wp_loop_rounds 1 ?_
  rw [rounds_succ]
  go_wp2
  go_ret
  exact ⟨rfl, rfl⟩
/-- A slice in a block of its own, between lo and hi; nothing is known of an empty one. -/
def IX (k : IntKind) (lo hi : Nat) (w : World) (a : Option Addr) (xs : List Int) : Prop := xs = [] ∨ ∃ g, a = some ⟨g, 0, none⟩ ∧ lo ≤ g ∧ g < hi ∧ hi ≤ w.heap.size ∧ At k w g 0 xs ∧ ∀ j, w.frozen? ⟨g, j, none⟩ = false
theorem IX.below {k : IntKind} {lo hi : Nat} {w w' : World} {a : Option Addr} {xs : List Int} (h : IX k lo hi w a xs) (hb : Below w.heap.size w w') : IX k lo hi w' a xs := by
  rcases h with h | ⟨g, rfl, h1, h2, h3, h4, h5⟩
  · exact .inl h
  · exact .inr ⟨g, rfl, h1, h2, Nat.le_trans h3 hb.size, h4.below hb (by omega), fun j => by rw [hb.frozen (p := ⟨g, j, none⟩) (by show g < w.heap.size; omega)]; exact h5 j⟩
theorem IX.only {k : IntKind} {lo hi b : Nat} {w w' : World} {a : Option Addr} {xs : List Int} (h : IX k lo hi w a xs) (ho : Only b w w') (hb : b < lo ∨ hi ≤ b) : IX k lo hi w' a xs := by
  rcases h with h | ⟨g, rfl, h1, h2, h3, h4, h5⟩
  · exact .inl h
  · have hne : g ≠ b := by omega
    exact .inr ⟨g, rfl, h1, h2, by rw [ho.size]; exact h3, ho.at h4 hne, fun j => by rw [World.frozen?_of_block (w := w) (a := ⟨g, j, none⟩) (ho.block g hne)]; exact h5 j⟩
/-- A slice that was marked. -/
def HX (k : IntKind) (w : World) (a : Option Addr) (xs : List Int) : Prop := xs = [] ∨ ∃ g, a = some ⟨g, 0, none⟩ ∧ g < w.heap.size ∧ MarkedAt k w g xs.length
theorem HX.below {k : IntKind} {w w' : World} {a : Option Addr} {xs : List Int} (h : HX k w a xs) (hb : Below w.heap.size w w') : HX k w' a xs := by
  rcases h with h | ⟨g, rfl, h1, h2⟩
  · exact .inl h
  · exact .inr ⟨g, rfl, Nat.lt_of_lt_of_le h1 hb.size, h2.below hb h1⟩
def Stab (Q : World → Prop) : Prop := ∀ W W', Q W → Below W.heap.size W W' → Q W'
structure FQ (w0 : World) (L : List (Nat × Array Value × TypeId)) (R : List (Nat × List Ak)) (Q : World → Prop) (w : World) : Prop where
  fr : FW w0 L R w
  q : Q w
  st : Stab Q
theorem FW.fq {w0 w : World} {L : List (Nat × Array Value × TypeId)} {R : List (Nat × List Ak)} (h : FW w0 L R w) {Q : World → Prop} (hq : Q w) (hs : Stab Q) : FQ w0 L R Q w := ⟨h, hq, hs⟩
theorem stab_true : Stab (fun _ => True) := fun _ _ _ _ => trivial
theorem stab_ix (k : IntKind) (lo hi : Nat) (a : Option Addr) (xs : List Int) : Stab (fun W => IX k lo hi W a xs) := fun _ _ h hb => h.below hb
theorem stab_hx (k : IntKind) (a : Option Addr) (xs : List Int) : Stab (fun W => HX k W a xs) := fun _ _ h hb => h.below hb
theorem Stab.and {Q Q' : World → Prop} (h : Stab Q) (h' : Stab Q') : Stab (fun W => Q W ∧ Q' W) := fun _ _ ⟨a, b⟩ hb => ⟨h _ _ a hb, h' _ _ b hb⟩
section
variable {w0 w W : World} {L : List (Nat × Array Value × TypeId)} {R : List (Nat × List Ak)} {Q : World → Prop}
theorem FQ.next {w' : World} (h : FQ w0 L R Q w) (hb : Below w.heap.size w w') : FQ w0 L R Q w' := ⟨h.fr.next hb, h.st _ _ h.q hb, h.st⟩
theorem FQ.drew (h : FQ w0 L R Q w) : FQ w0 L R Q w.drew := h.next (Below.refl _ _).drew
theorem FQ.box (h : FQ w0 L R Q w) (cs : Array Value) (t : TypeId) : FQ w0 ((w.heap.size, cs, t) :: L) R Q (w.alloc (.cells cs t)) :=
  ⟨h.fr.box cs t, h.st _ _ h.q ((Below.refl w.heap.size w).alloc (Nat.le_refl _) (.cells cs t)), h.st⟩
theorem FQ.re {Q' : World → Prop} {R' : List (Nat × List Ak)} (h : FQ w0 L R Q w) (hR : ∀ p ∈ R', p ∈ R) (hq : Q' w) (hs : Stab Q') : FQ w0 L R' Q' w := ⟨⟨h.fr.below, h.fr.blk, fun p hp => h.fr.row p (hR p hp), h.fr.top⟩, hq, hs⟩
theorem szGame_fq (h : FQ w0 L R Q W) (l k : Int) (a : Option Addr) (n c : Nat) (hn : n ≤ 9223372036854775807) :
    Calls Try.prog 13 #[gamV l k a n c, .int .i64 1048576] W fun e w' => e = .returned (.int .i64 (if (1048576 : Int) < n then -1 else 1048576 - (n : Int))) ∧ FQ w0 L R Q w' := by
  refine (szGame_any l k a n c 1048576 W (by omega) hn).mono ?_
  rintro e w' ⟨rfl, hb⟩
  exact ⟨rfl, h.next hb⟩
theorem toGame_fq (h : FQ w0 L R Q W) (l k : Int) (a : Option Addr) (c : Nat) (ws : List Ak) (hn : ws.length ≤ 1048576) (hs : Sla w0.heap.size w0 a ws) :
    Calls Try.prog 15 #[gamV l k a ws.length c] W fun e w' => ∃ g, e = .returned (gamV l k (some ⟨g, 0, none⟩) ws.length ws.length) ∧ W.heap.size ≤ g ∧ FQ w0 L ((g, ws) :: R) Q w' := by
  refine (toGame_any w0.heap.size l k a c ws W hn h.fr.size (hs.below h.fr.below)).mono ?_
  rintro e w' ⟨g, rfl, hg, hr, hb⟩
  exact ⟨g, rfl, hg, (h.fr.next hb).add hr, h.st _ _ h.q hb, h.st⟩
theorem eqGame_fq {g g2 : Nat} {ws : List Ak} (h : FQ w0 L R Q W) (h1 : (g, ws) ∈ R) (h2 : (g2, ws) ∈ R) (l k : Int) (c c2 : Nat) (hn : ws.length ≤ 1048576) :
    Calls Try.prog 10 #[gamV l k (some ⟨g, 0, none⟩) ws.length c, gamV l k (some ⟨g2, 0, none⟩) ws.length c2] W fun e w' => e = .returned (.bool true) ∧ FQ w0 L R Q w' := by
  refine (eqGame_any l k _ _ c c2 ws W hn (.inr ⟨g, 0, g2, 0, rfl, rfl, (h.fr.row _ h1).lt, (h.fr.row _ h2).lt, (h.fr.row _ h1).asks, (h.fr.row _ h2).asks⟩)).mono ?_
  rintro e w' ⟨rfl, hb⟩
  exact ⟨rfl, h.next hb⟩
/-- A call whose answer is a slice of its own. -/
theorem Calls.frq {P : Program} {f : FuncId} {args : Array Value} {kd : IntKind} {C : Int} {xs : List Int} {g : Nat} {ws : List Ak} {p : Nat × Array Value × TypeId} (h : FQ w0 L R Q W) (hp : p ∈ L) (hm : (g, ws) ∈ R)
    (hc : Sla W.heap.size W (some ⟨g, 0, none⟩) ws → Calls P f args W fun e w' => ∃ v, e = .returned (.tuple #[v, .int .i64 C]) ∧ OwnV kd W.heap.size w' v xs ∧ Below W.heap.size W w') :
    Calls P f args W fun e w' => ∃ a c, e = .returned (.tuple #[.slice a xs.length c, .int .i64 C]) ∧ IX kd (p.1 + 1) w'.heap.size w' a xs ∧ FQ w0 L R Q w' := by
  refine (hc (Sla.own (h.fr.row _ hm))).mono ?_
  rintro e w' ⟨v, rfl, ho, hb⟩
  have hlt := (h.fr.blk _ hp).lt
  rcases ho with ⟨rfl, a, c, rfl⟩ | ⟨q, c, rfl, h1, h2, h3, h4⟩
  · exact ⟨a, c, rfl, .inl rfl, h.next hb⟩
  · exact ⟨_, c, rfl, .inr ⟨q, rfl, by omega, h2, Nat.le_refl _, h3, h4⟩, h.next hb⟩
theorem FQ.only {Q' : World → Prop} {b : Nat} {w' : World} (h : FQ w0 L R Q w) (ho : Only b w w') (hb : w0.heap.size ≤ b) (hL : ∀ p ∈ L, p.1 ≠ b) (hq : Q' w') (hs : Stab Q') : FQ w0 L [] Q' w' :=
  ⟨⟨Only.below h.fr.below ho hb, fun p hp => (ho.block _ (hL p hp)).trans (h.fr.blk p hp), (fun p hp => by cases hp), h.fr.top⟩, hq, hs⟩
theorem markGame_any (l k : Int) (g c : Nat) (ws : List Ak) (w : World) (hn : ws.length ≤ 1048576) (hr : Blk w g (acells ws) 63) :
    Calls Try.prog 11 #[gamV l k (some ⟨g, 0, none⟩) ws.length c, .int .i64 1] w fun e w' => e = .returned (.int .i64 (1 + (ws.length : Int) * 2)) ∧ ∃ w1, Below w.heap.size w w1 ∧ Only g w1 w' := by
  have F0 := (FR.start w).box #[.int .i8 l, .int .i8 k, .slice (some ⟨g, 0, none⟩) ws.length c] 25
  have hr2 := hr.below F0.below hr.lt
  have HM := Lib.hid (markAskS_any g c ws.length 1 _ hn (by omega) (fun q hq => by rw [hr2.cell, acells_get _ _ hq]; rfl) hr2.free)
  have HB := Lib.hid F0.below
  obtain ⟨c0, c1, c2, -⟩ := (F0.blk _ List.mem_cons_self).three
  obtain ⟨r, hr3⟩ : ∃ r : Int, 1 + (ws.length : Int) * 2 = r := ⟨_, rfl⟩
  rw [hr3] at HM ⊢
  clear hr hr2 F0 hr3
  go_enter Try.func11, Try.ntmps11
  go_wp2_with fail
  refine HM.out.mono ?_
  rintro e w2 ⟨rfl, _, ho⟩
  have HO := Lib.hid ho
  clear ho
  go_wp2
  go_ret
  exact ⟨rfl, _, HB.out, HO.out⟩
theorem markGame_fq {kd : IntKind} {lo hi lo2 hi2 g : Nat} {a a2 : Option Addr} {xs : List Int} {ws : List Ak} (h : FQ w0 L R (fun W => IX kd lo2 hi2 W a2 xs ∧ IX kd lo hi W a xs) W) (hm : (g, ws) ∈ R) (l k : Int) (c : Nat) (hn : ws.length ≤ 1048576) (h0 : w0.heap.size ≤ g) (h1 : hi2 ≤ g) (h2 : g < lo) (hL : ∀ p ∈ L, p.1 ≠ g) :
    Calls Try.prog 11 #[gamV l k (some ⟨g, 0, none⟩) ws.length c, .int .i64 1] W fun e w' => e = .returned (.int .i64 (1 + (ws.length : Int) * 2)) ∧ FQ w0 L [] (fun W => IX kd lo2 hi2 W a2 xs ∧ IX kd lo hi W a xs) w' := by
  refine (markGame_any l k g c ws W hn (h.fr.row _ hm)).mono ?_
  rintro e w' ⟨rfl, w1, hb, ho⟩
  have k := h.next hb
  exact ⟨rfl, k.only ho h0 hL ⟨k.q.1.only ho (.inr h1), k.q.2.only ho (.inl h2)⟩ k.st⟩
theorem fqg_mark : True := trivial
end
end Go.Proofs.Ytclmjbkdghgjbaa
