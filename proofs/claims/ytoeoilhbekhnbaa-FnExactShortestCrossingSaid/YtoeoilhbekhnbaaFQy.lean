/-
  Answers that are slices of numbers, kept beside a frame of a law over ferries.
-/
import Derived.Test.YtoeoilhbekhnbaaFWy
import Derived.Test.YtoeoilhbekhnbaaSlaw
import Derived.Deep.DeepCutAuto
namespace Go.Proofs.Ytoeoilhbekhnbaa
open Go.RowKit
set_option linter.unusedVariables false

theorem markUint16S_own (b c : Nat) (xs : List Int) (w : World) (hn : xs.length ≤ 1048576) (hc : At .u16 w b 0 xs) (hf : ∀ j, w.frozen? ⟨b, j, none⟩ = false) :
    Calls Try.prog 21 #[.slice (some ⟨b, 0, none⟩) xs.length c, .int .i64 1] w fun e w' => e = .returned (.int .i64 (xs.length + 1)) ∧ MarkedAt .u16 w' b xs.length ∧ Only b w w' := by
  go_enter Try.func21, Try.ntmps21
  go_wp2
  go_loopw [1, 5] (fun n i wr => ∃ k : Nat, k ≤ xs.length ∧ i = .int .i64 k ∧ n = .int .i64 (k + 1) ∧ MarkedAt .u16 wr b k ∧ (∀ j, k ≤ j → j < xs.length → wr.cell? ⟨b, j, none⟩ = some (.int .u16 (xs.getD j 0))) ∧ (∀ j, wr.frozen? ⟨b, j, none⟩ = false) ∧ Only b w wr) (fun _ i _ => xs.length - (intOf i).toNat)
  case atStart => exact ⟨0, Nat.zero_le _, rfl, by simp, fun j h => absurd h (by omega), fun j _ h => by have := hc j h; rwa [Nat.zero_add] at this, hf, Only.refl _ _⟩
  case round =>
    obtain ⟨k, hk, rfl, rfl, hm, hr, hf, hB⟩ := hrel
    by_cases hlt : k < xs.length
    · have h2 := hr k (Nat.le_refl _) hlt
      have h3 := hf k
      have Hs := Lib.hid (show ∀ v : Value, v = .int .u16 (marked .u16 k) → MarkedAt .u16 (wr.setCell ⟨b, k, none⟩ v) b (k + 1) ∧ (∀ j, k + 1 ≤ j → j < xs.length → (wr.setCell ⟨b, k, none⟩ v).cell? ⟨b, j, none⟩ = some (.int .u16 (xs.getD j 0))) ∧ (∀ j, (wr.setCell ⟨b, k, none⟩ v).frozen? ⟨b, j, none⟩ = false) from fun v hv => by
        refine ⟨fun j hj => ?_, fun j h1 h4 => ?_, fun j => (World.frozen?_setCell _ _ _ _).trans (hf j)⟩
        · by_cases e : j = k
          · subst e; rw [hv]; exact World.cell?_setCell_same _ _ _ h2
          · exact (World.cell?_setCell_other _ _ _ _ (by simp)).trans (hm j (by omega))
        · exact (World.cell?_setCell_other _ _ _ _ (by simp)).trans (hr j (by omega) h4))
      clear hr hf hm
      go_wp2
      go_roundw
      case rel =>
        refine ⟨k + 1, by omega, by go_num, by go_num, (Hs.out _ ?_).1, (Hs.out _ ?_).2.1, (Hs.out _ ?_).2.2, hB.setCell _ _⟩ <;> first | rfl | (rw [marked_def]; done) | (rw [marked_def, IntWalk.i64_in _ (by omega)])
      case measure => simp [intOf]; omega
    · have HK := Lib.hid (show k = xs.length by omega)
      go_wp2
      go_ret
      exact ⟨reti (by rw [HK.out]), fun j hj => hm j (by omega), hB⟩

theorem heldUint16S_own (b c n : Nat) (w : World) (hn : n ≤ 1048576) (hm : MarkedAt .u16 w b n) :
    Calls Try.prog 22 #[.slice (some ⟨b, 0, none⟩) n c, .int .i64 1] w fun e w' => e = .returned (.int .i64 (n + 1)) ∧ w = w' := by
  go_enter Try.func22, Try.ntmps22
  go_wp2
  go_loop [1, 5] (fun q i => ∃ k : Nat, k ≤ n ∧ i = .int .i64 k ∧ q = .int .i64 (k + 1)) (fun _ i => n - (intOf i).toNat)
  case atStart => exact ⟨0, Nat.zero_le _, rfl, by simp⟩
  case round =>
    obtain ⟨k, hk, rfl, rfl⟩ := hrel
    by_cases hlt : k < n
    · have h2 := hm k hlt
      simp only [marked_def] at h2
      go_wp2
      go_round
      case rel => exact ⟨k + 1, by omega, by go_num, by go_num⟩
      case measure => simp [intOf]; omega
    · go_wp2
      go_ret
      exact ⟨reti (by omega), rfl⟩
theorem markInt16S_own (b c : Nat) (xs : List Int) (w : World) (hn : xs.length ≤ 1048576) (hc : At .i16 w b 0 xs) (hf : ∀ j, w.frozen? ⟨b, j, none⟩ = false) :
    Calls Try.prog 16 #[.slice (some ⟨b, 0, none⟩) xs.length c, .int .i64 1] w fun e w' => e = .returned (.int .i64 (xs.length + 1)) ∧ MarkedAt .i16 w' b xs.length ∧ Only b w w' := by
  go_enter Try.func16, Try.ntmps16
  go_wp2
  go_loopw [1, 5] (fun n i wr => ∃ k : Nat, k ≤ xs.length ∧ i = .int .i64 k ∧ n = .int .i64 (k + 1) ∧ MarkedAt .i16 wr b k ∧ (∀ j, k ≤ j → j < xs.length → wr.cell? ⟨b, j, none⟩ = some (.int .i16 (xs.getD j 0))) ∧ (∀ j, wr.frozen? ⟨b, j, none⟩ = false) ∧ Only b w wr) (fun _ i _ => xs.length - (intOf i).toNat)
  case atStart => exact ⟨0, Nat.zero_le _, rfl, by simp, fun j h => absurd h (by omega), fun j _ h => by have := hc j h; rwa [Nat.zero_add] at this, hf, Only.refl _ _⟩
  case round =>
    obtain ⟨k, hk, rfl, rfl, hm, hr, hf, hB⟩ := hrel
    by_cases hlt : k < xs.length
    · have h2 := hr k (Nat.le_refl _) hlt
      have h3 := hf k
      have Hs := Lib.hid (show ∀ v : Value, v = .int .i16 (marked .i16 k) → MarkedAt .i16 (wr.setCell ⟨b, k, none⟩ v) b (k + 1) ∧ (∀ j, k + 1 ≤ j → j < xs.length → (wr.setCell ⟨b, k, none⟩ v).cell? ⟨b, j, none⟩ = some (.int .i16 (xs.getD j 0))) ∧ (∀ j, (wr.setCell ⟨b, k, none⟩ v).frozen? ⟨b, j, none⟩ = false) from fun v hv => by
        refine ⟨fun j hj => ?_, fun j h1 h4 => ?_, fun j => (World.frozen?_setCell _ _ _ _).trans (hf j)⟩
        · by_cases e : j = k
          · subst e; rw [hv]; exact World.cell?_setCell_same _ _ _ h2
          · exact (World.cell?_setCell_other _ _ _ _ (by simp)).trans (hm j (by omega))
        · exact (World.cell?_setCell_other _ _ _ _ (by simp)).trans (hr j (by omega) h4))
      clear hr hf hm
      go_wp2
      go_roundw
      case rel =>
        refine ⟨k + 1, by omega, by go_num, by go_num, (Hs.out _ ?_).1, (Hs.out _ ?_).2.1, (Hs.out _ ?_).2.2, hB.setCell _ _⟩ <;> first | rfl | (rw [marked_def]; done) | (rw [marked_def, IntWalk.i64_in _ (by omega)])
      case measure => simp [intOf]; omega
    · have HK := Lib.hid (show k = xs.length by omega)
      go_wp2
      go_ret
      exact ⟨reti (by rw [HK.out]), fun j hj => hm j (by omega), hB⟩

theorem heldInt16S_own (b c n : Nat) (w : World) (hn : n ≤ 1048576) (hm : MarkedAt .i16 w b n) :
    Calls Try.prog 17 #[.slice (some ⟨b, 0, none⟩) n c, .int .i64 1] w fun e w' => e = .returned (.int .i64 (n + 1)) ∧ w = w' := by
  go_enter Try.func17, Try.ntmps17
  go_wp2
  go_loop [1, 5] (fun q i => ∃ k : Nat, k ≤ n ∧ i = .int .i64 k ∧ q = .int .i64 (k + 1)) (fun _ i => n - (intOf i).toNat)
  case atStart => exact ⟨0, Nat.zero_le _, rfl, by simp⟩
  case round =>
    obtain ⟨k, hk, rfl, rfl⟩ := hrel
    by_cases hlt : k < n
    · have h2 := hm k hlt
      simp only [marked_def] at h2
      go_wp2
      go_round
      case rel => exact ⟨k + 1, by omega, by go_num, by go_num⟩
      case measure => simp [intOf]; omega
    · go_wp2
      go_ret
      exact ⟨reti (by omega), rfl⟩
/-- A slice in a block of its own, between lo and hi; nothing is known of an empty one. -/
def IX (k : IntKind) (lo hi : Nat) (w : World) (a : Option Addr) (xs : List Int) : Prop := xs = [] ∨ ∃ g, a = some ⟨g, 0, none⟩ ∧ lo ≤ g ∧ g < hi ∧ hi ≤ w.heap.size ∧ At k w g 0 xs ∧ ∀ j, w.frozen? ⟨g, j, none⟩ = false
theorem IX.below {k : IntKind} {lo hi : Nat} {w w' : World} {a : Option Addr} {xs : List Int} (h : IX k lo hi w a xs) (hb : Below w.heap.size w w') : IX k lo hi w' a xs := by
  rcases h with h | ⟨g, rfl, h1, h2, h3, h4, h5⟩
  · exact .inl h
  · exact .inr ⟨g, rfl, h1, h2, Nat.le_trans h3 hb.size, h4.below hb (by omega), fun j => by rw [hb.frozen (p := ⟨g, j, none⟩) (by show g < w.heap.size; omega)]; exact h5 j⟩
theorem IX.only {k : IntKind} {lo hi b : Nat} {w w' : World} {a : Option Addr} {xs : List Int} (h : IX k lo hi w a xs) (ho : Only b w w') (hb : b < lo ∨ hi ≤ b) : IX k lo hi w' a xs := by
  rcases h with h | ⟨g, rfl, h1, h2, h3, h4, h5⟩
  · exact .inl h
  · have hne : g ≠ b := by omega
    exact .inr ⟨g, rfl, h1, h2, by rw [ho.size]; exact h3, ho.at h4 hne, fun j => by rw [World.frozen?_of_block (w := w) (a := ⟨g, j, none⟩) (ho.block g hne)]; exact h5 j⟩
/-- A slice that was marked. -/
def HX (k : IntKind) (w : World) (a : Option Addr) (xs : List Int) : Prop := xs = [] ∨ ∃ g, a = some ⟨g, 0, none⟩ ∧ g < w.heap.size ∧ MarkedAt k w g xs.length
theorem HX.below {k : IntKind} {w w' : World} {a : Option Addr} {xs : List Int} (h : HX k w a xs) (hb : Below w.heap.size w w') : HX k w' a xs := by
  rcases h with h | ⟨g, rfl, h1, h2⟩
  · exact .inl h
  · exact .inr ⟨g, rfl, Nat.lt_of_lt_of_le h1 hb.size, h2.below hb h1⟩
def Stab (Q : World → Prop) : Prop := ∀ W W', Q W → Below W.heap.size W W' → Q W'
structure FQ (w0 : World) (L : List (Nat × Array Value × TypeId)) (R : List (Nat × List Int)) (Q : World → Prop) (w : World) : Prop where
  fr : FW w0 L R w
  q : Q w
  st : Stab Q
theorem FW.fq {w0 w : World} {L : List (Nat × Array Value × TypeId)} {R : List (Nat × List Int)} (h : FW w0 L R w) {Q : World → Prop} (hq : Q w) (hs : Stab Q) : FQ w0 L R Q w := ⟨h, hq, hs⟩
theorem stab_true : Stab (fun _ => True) := fun _ _ _ _ => trivial
theorem stab_ix (k : IntKind) (lo hi : Nat) (a : Option Addr) (xs : List Int) : Stab (fun W => IX k lo hi W a xs) := fun _ _ h hb => h.below hb
theorem stab_hx (k : IntKind) (a : Option Addr) (xs : List Int) : Stab (fun W => HX k W a xs) := fun _ _ h hb => h.below hb
theorem Stab.and {Q Q' : World → Prop} (h : Stab Q) (h' : Stab Q') : Stab (fun W => Q W ∧ Q' W) := fun _ _ ⟨a, b⟩ hb => ⟨h _ _ a hb, h' _ _ b hb⟩
section
variable {w0 w W : World} {L : List (Nat × Array Value × TypeId)} {R : List (Nat × List Int)} {Q : World → Prop}
theorem FQ.next {w' : World} (h : FQ w0 L R Q w) (hb : Below w.heap.size w w') : FQ w0 L R Q w' := ⟨h.fr.next hb, h.st _ _ h.q hb, h.st⟩
theorem FQ.drew (h : FQ w0 L R Q w) : FQ w0 L R Q w.drew := h.next (Below.refl _ _).drew
theorem FQ.box (h : FQ w0 L R Q w) (cs : Array Value) (t : TypeId) : FQ w0 ((w.heap.size, cs, t) :: L) R Q (w.alloc (.cells cs t)) :=
  ⟨h.fr.box cs t, h.st _ _ h.q ((Below.refl w.heap.size w).alloc (Nat.le_refl _) (.cells cs t)), h.st⟩
theorem FQ.re {Q' : World → Prop} {R' : List (Nat × List Int)} (h : FQ w0 L R Q w) (hR : ∀ p ∈ R', p ∈ R) (hq : Q' w) (hs : Stab Q') : FQ w0 L R' Q' w := ⟨⟨h.fr.below, h.fr.blk, fun p hp => h.fr.row p (hR p hp), h.fr.top⟩, hq, hs⟩
theorem szFerry_fq (h : FQ w0 L R Q W) (l k : Int) (a : Option Addr) (n c : Nat) (hn : n ≤ 9223372036854775807) :
    Calls Try.prog 9 #[ferV l k a n c, .int .i64 1048576] W fun e w' => e = .returned (.int .i64 (if (1048576 : Int) < n then -1 else 1048576 - (n : Int))) ∧ FQ w0 L R Q w' := by
  refine (szFerry_any l k a n c 1048576 W (by omega) hn).mono ?_
  rintro e w' ⟨rfl, hb⟩
  exact ⟨rfl, h.next hb⟩
theorem toFerry_fq (h : FQ w0 L R Q W) (l k : Int) (a : Option Addr) (c : Nat) (ws : List Int) (hn : ws.length ≤ 1048576) (hs : Sl .u16 w0.heap.size w0 a ws) :
    Calls Try.prog 11 #[ferV l k a ws.length c] W fun e w' => ∃ g, e = .returned (ferV l k (some ⟨g, 0, none⟩) ws.length ws.length) ∧ W.heap.size ≤ g ∧ FQ w0 L ((g, ws) :: R) Q w' := by
  refine (toFerry_any w0.heap.size l k a c ws W hn h.fr.size (hs.below h.fr.below)).mono ?_
  rintro e w' ⟨g, rfl, hg, hr, hb⟩
  exact ⟨g, rfl, hg, (h.fr.next hb).add hr, h.st _ _ h.q hb, h.st⟩
theorem eqFerry_fq {g g2 : Nat} {ws : List Int} (h : FQ w0 L R Q W) (h1 : (g, ws) ∈ R) (h2 : (g2, ws) ∈ R) (l k : Int) (c c2 : Nat) (hn : ws.length ≤ 1048576) :
    Calls Try.prog 14 #[ferV l k (some ⟨g, 0, none⟩) ws.length c, ferV l k (some ⟨g2, 0, none⟩) ws.length c2] W fun e w' => e = .returned (.bool true) ∧ FQ w0 L R Q w' := by
  refine (eqFerry_any l k _ _ c c2 ws W hn (.inr ⟨g, 0, g2, 0, rfl, rfl, (h.fr.row _ h1).lt, (h.fr.row _ h2).lt, (h.fr.row _ h1).u16, (h.fr.row _ h2).u16⟩)).mono ?_
  rintro e w' ⟨rfl, hb⟩
  exact ⟨rfl, h.next hb⟩
/-- A call whose answer is a slice of its own. -/
theorem Calls.frq {P : Program} {f : FuncId} {args : Array Value} {kd : IntKind} {C : Int} {xs : List Int} {g : Nat} {ws : List Int} {p : Nat × Array Value × TypeId} (h : FQ w0 L R Q W) (hp : p ∈ L) (hm : (g, ws) ∈ R)
    (hc : Sl .u16 W.heap.size W (some ⟨g, 0, none⟩) ws → Calls P f args W fun e w' => ∃ v, e = .returned (.tuple #[v, .int .i64 C]) ∧ OwnV kd W.heap.size w' v xs ∧ Below W.heap.size W w') :
    Calls P f args W fun e w' => ∃ a c, e = .returned (.tuple #[.slice a xs.length c, .int .i64 C]) ∧ IX kd (p.1 + 1) w'.heap.size w' a xs ∧ FQ w0 L R Q w' := by
  refine (hc (Sl.own (h.fr.row _ hm))).mono ?_
  rintro e w' ⟨v, rfl, ho, hb⟩
  have hlt := (h.fr.blk _ hp).lt
  rcases ho with ⟨rfl, a, c, rfl⟩ | ⟨q, c, rfl, h1, h2, h3, h4⟩
  · exact ⟨a, c, rfl, .inl rfl, h.next hb⟩
  · exact ⟨_, c, rfl, .inr ⟨q, rfl, by omega, h2, Nat.le_refl _, h3, h4⟩, h.next hb⟩
theorem FQ.only {Q' : World → Prop} {b : Nat} {w' : World} (h : FQ w0 L R Q w) (ho : Only b w w') (hb : w0.heap.size ≤ b) (hL : ∀ p ∈ L, p.1 ≠ b) (hq : Q' w') (hs : Stab Q') : FQ w0 L [] Q' w' :=
  ⟨⟨Only.below h.fr.below ho hb, fun p hp => (ho.block _ (hL p hp)).trans (h.fr.blk p hp), (fun p hp => by cases hp), h.fr.top⟩, hq, hs⟩
theorem markFerry_any (l k : Int) (g c : Nat) (ws : List Int) (w : World) (hn : ws.length ≤ 1048576) (hr : Blk w g (ucells ws) 62) :
    Calls Try.prog 15 #[ferV l k (some ⟨g, 0, none⟩) ws.length c, .int .i64 1] w fun e w' => e = .returned (.int .i64 (ws.length + 1)) ∧ ∃ w1, Below w.heap.size w w1 ∧ Only g w1 w' := by
  have F0 := (FR.start w).box #[.int .i8 l, .int .i8 k, .slice (some ⟨g, 0, none⟩) ws.length c] 30
  have HR := Lib.hid (rowu_of_blk (hr.below F0.below hr.lt))
  have HB := Lib.hid F0.below
  obtain ⟨c0, c1, c2, -⟩ := (F0.blk _ List.mem_cons_self).three
  clear hr F0
  go_enter Try.func15, Try.ntmps15
  go_wp2_with fail
  refine (markUint16S_row g c ws _ hn HR.out).mono ?_
  rintro e w2 ⟨rfl, _, ho⟩
  have HO := Lib.hid ho
  clear ho
  go_wp2
  go_ret
  exact ⟨rfl, _, HB.out, HO.out⟩
theorem markFerry_fq {kd : IntKind} {lo hi lo2 hi2 g : Nat} {a a2 : Option Addr} {xs : List Int} {ws : List Int} (h : FQ w0 L R (fun W => IX kd lo2 hi2 W a2 xs ∧ IX kd lo hi W a xs) W) (hm : (g, ws) ∈ R) (l k : Int) (c : Nat) (hn : ws.length ≤ 1048576) (h0 : w0.heap.size ≤ g) (h1 : hi2 ≤ g) (h2 : g < lo) (hL : ∀ p ∈ L, p.1 ≠ g) :
    Calls Try.prog 15 #[ferV l k (some ⟨g, 0, none⟩) ws.length c, .int .i64 1] W fun e w' => e = .returned (.int .i64 (ws.length + 1)) ∧ FQ w0 L [] (fun W => IX kd lo2 hi2 W a2 xs ∧ IX kd lo hi W a xs) w' := by
  refine (markFerry_any l k g c ws W hn (h.fr.row _ hm)).mono ?_
  rintro e w' ⟨rfl, w1, hb, ho⟩
  have k := h.next hb
  exact ⟨rfl, k.only ho h0 hL ⟨k.q.1.only ho (.inr h1), k.q.2.only ho (.inl h2)⟩ k.st⟩
theorem eqUint16S_fq {lo hi lo2 hi2 : Nat} {a a2 : Option Addr} {xs : List Int} (h : FQ w0 L R Q W) (h1 : IX .u16 lo hi W a xs) (h2 : IX .u16 lo2 hi2 W a2 xs) (c c2 : Nat) (hn : xs.length ≤ 1048576) :
    Calls Try.prog 20 #[.slice a xs.length c, .slice a2 xs.length c2] W fun e w' => e = .returned (.bool true) ∧ FQ w0 L R Q w' := by
  by_cases he : xs = []
  · subst he
    refine (eqUint16S_empty a a2 c c2 W).mono ?_
    rintro e w' ⟨rfl, hd⟩
    exact ⟨rfl, h.next hd.below⟩
  · rcases h1 with h1 | ⟨g, rfl, _, p1, p2, p3, _⟩
    · exact absurd h1 he
    rcases h2 with h2 | ⟨g2, rfl, _, q1, q2, q3, _⟩
    · exact absurd h2 he
    refine (eqUint16S_same g 0 c g2 0 c2 xs W hn p3 q3).mono ?_
    rintro e w' ⟨rfl, hd⟩
    exact ⟨rfl, h.next hd.below⟩
theorem heldUint16S_fq {a : Option Addr} {xs : List Int} (h : FQ w0 L R Q W) (hx : HX .u16 W a xs) (c : Nat) (hn : xs.length ≤ 1048576) :
    Calls Try.prog 22 #[.slice a xs.length c, .int .i64 1] W fun e w' => e = .returned (.int .i64 (xs.length + 1)) ∧ FQ w0 L R Q w' := by
  rcases hx with rfl | ⟨g, rfl, h1, h2⟩
  · refine (heldUint16S_nil a c W).mono ?_
    rintro e w' ⟨rfl, rfl⟩
    exact ⟨rfl, h⟩
  · refine (heldUint16S_own g c xs.length W hn h2).mono ?_
    rintro e w' ⟨rfl, rfl⟩
    exact ⟨rfl, h⟩
theorem markUint16S_fq {lo hi lo2 hi2 : Nat} {a a2 : Option Addr} {xs : List Int} (h : FQ w0 L R (fun W => IX .u16 lo2 hi2 W a2 xs ∧ IX .u16 lo hi W a xs) W) (c : Nat) (hn : xs.length ≤ 1048576) (h0 : w0.heap.size ≤ lo) (h1 : hi2 ≤ lo) (hL : ∀ p ∈ L, p.1 < lo) :
    Calls Try.prog 21 #[.slice a xs.length c, .int .i64 1] W fun e w' => e = .returned (.int .i64 (xs.length + 1)) ∧ FQ w0 L [] (fun W => IX .u16 lo2 hi2 W a2 xs ∧ HX .u16 W a xs) w' := by
  obtain ⟨hm2, hm⟩ := h.q
  rcases hm with he | ⟨g, rfl, p0, p1, p2, p3, p4⟩
  · subst he
    refine (markUint16S_nil a c W).mono ?_
    rintro e w' ⟨rfl, rfl⟩
    exact ⟨rfl, h.re (fun p hp => by cases hp) ⟨hm2, .inl rfl⟩ ((stab_ix _ _ _ _ _).and (stab_hx _ _ _))⟩
  · refine (markUint16S_own g c xs W hn p3 p4).mono ?_
    rintro e w' ⟨rfl, hk, ho⟩
    refine ⟨rfl, h.only ho (by omega) (fun p hp => by have := hL p hp; omega) ⟨hm2.only ho (.inr (by omega)), .inr ⟨g, rfl, by rw [ho.size]; omega, hk⟩⟩ ((stab_ix _ _ _ _ _).and (stab_hx _ _ _))⟩
theorem eqInt16S_fq {lo hi lo2 hi2 : Nat} {a a2 : Option Addr} {xs : List Int} (h : FQ w0 L R Q W) (h1 : IX .i16 lo hi W a xs) (h2 : IX .i16 lo2 hi2 W a2 xs) (c c2 : Nat) (hn : xs.length ≤ 1048576) :
    Calls Try.prog 13 #[.slice a xs.length c, .slice a2 xs.length c2] W fun e w' => e = .returned (.bool true) ∧ FQ w0 L R Q w' := by
  by_cases he : xs = []
  · subst he
    refine (eqInt16S_empty a a2 c c2 W).mono ?_
    rintro e w' ⟨rfl, hd⟩
    exact ⟨rfl, h.next hd.below⟩
  · rcases h1 with h1 | ⟨g, rfl, _, p1, p2, p3, _⟩
    · exact absurd h1 he
    rcases h2 with h2 | ⟨g2, rfl, _, q1, q2, q3, _⟩
    · exact absurd h2 he
    refine (eqInt16S_same g 0 c g2 0 c2 xs W hn p3 q3).mono ?_
    rintro e w' ⟨rfl, hd⟩
    exact ⟨rfl, h.next hd.below⟩
theorem heldInt16S_fq {a : Option Addr} {xs : List Int} (h : FQ w0 L R Q W) (hx : HX .i16 W a xs) (c : Nat) (hn : xs.length ≤ 1048576) :
    Calls Try.prog 17 #[.slice a xs.length c, .int .i64 1] W fun e w' => e = .returned (.int .i64 (xs.length + 1)) ∧ FQ w0 L R Q w' := by
  rcases hx with rfl | ⟨g, rfl, h1, h2⟩
  · refine (heldInt16S_nil a c W).mono ?_
    rintro e w' ⟨rfl, rfl⟩
    exact ⟨rfl, h⟩
  · refine (heldInt16S_own g c xs.length W hn h2).mono ?_
    rintro e w' ⟨rfl, rfl⟩
    exact ⟨rfl, h⟩
theorem markInt16S_fq {lo hi lo2 hi2 : Nat} {a a2 : Option Addr} {xs : List Int} (h : FQ w0 L R (fun W => IX .i16 lo2 hi2 W a2 xs ∧ IX .i16 lo hi W a xs) W) (c : Nat) (hn : xs.length ≤ 1048576) (h0 : w0.heap.size ≤ lo) (h1 : hi2 ≤ lo) (hL : ∀ p ∈ L, p.1 < lo) :
    Calls Try.prog 16 #[.slice a xs.length c, .int .i64 1] W fun e w' => e = .returned (.int .i64 (xs.length + 1)) ∧ FQ w0 L [] (fun W => IX .i16 lo2 hi2 W a2 xs ∧ HX .i16 W a xs) w' := by
  obtain ⟨hm2, hm⟩ := h.q
  rcases hm with he | ⟨g, rfl, p0, p1, p2, p3, p4⟩
  · subst he
    refine (markInt16S_nil a c W).mono ?_
    rintro e w' ⟨rfl, rfl⟩
    exact ⟨rfl, h.re (fun p hp => by cases hp) ⟨hm2, .inl rfl⟩ ((stab_ix _ _ _ _ _).and (stab_hx _ _ _))⟩
  · refine (markInt16S_own g c xs W hn p3 p4).mono ?_
    rintro e w' ⟨rfl, hk, ho⟩
    refine ⟨rfl, h.only ho (by omega) (fun p hp => by have := hL p hp; omega) ⟨hm2.only ho (.inr (by omega)), .inr ⟨g, rfl, by rw [ho.size]; omega, hk⟩⟩ ((stab_ix _ _ _ _ _).and (stab_hx _ _ _))⟩
theorem fqy_mark : True := trivial
end
end Go.Proofs.Ytoeoilhbekhnbaa
