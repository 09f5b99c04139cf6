/-
  The walk of the law of AddWord.
-/
import Derived.Test.YtogmkdelbiohaaaV3
import Derived.Deep.DeepCutAuto
import Derived.Deep.RegionHeld3
namespace Go.Proofs.Ytogmkdelbiohaaa
open Go.RowKit
set_option linter.unusedVariables false

theorem IXW.wide {lo hi : Nat} {w : World} {a : Option Addr} {xs : List Wf} (h : IXW lo hi w a xs) : IXW lo w.heap.size w a xs := by
  rcases h with h | ⟨g, rfl, h1, h2, h3, h4, h5⟩
  · exact .inl h
  · exact .inr ⟨g, rfl, h1, by omega, Nat.le_refl _, h4, h5⟩
theorem HXW.only {b : Nat} {v1 v2 : Value} {t : TypeId} {w w' : World} {a : Option Addr} {xs : List Wf} (h : HXW w a xs) (hb : Blk w b #[.int .i8 0, v1, v2] t) (ho : Only b w w') : HXW w' a xs := by
  rcases h with h | ⟨g, rfl, h1, h2⟩
  · exact .inl h
  by_cases hx : xs = []
  · exact .inl hx
  have hne : g ≠ b := by
    rintro rfl
    have h0 := (h2 0 (List.length_pos_iff.2 hx)).1
    rw [Nat.zero_mul, hb.three.1] at h0
    simp only [Option.some.injEq, Value.int.injEq, true_and] at h0
    exact absurd h0 (by decide)
  refine .inr ⟨g, rfl, by rw [ho.size]; exact h1, fun j hj => ?_⟩
  have hc : ∀ o, w'.cell? ⟨g, o, none⟩ = w.cell? ⟨g, o, none⟩ := fun o => World.cell?_of_block (w := w) (a := ⟨g, o, none⟩) (ho.block g hne)
  rw [hc, hc, hc, hc]
  exact h2 j hj
section
variable {w w0 W : World} {L : List (Nat × Array Value × TypeId)} {R : List (Nat × List Wf)} {Q : World → Prop}
theorem FQ.put3T {b : Nat} {z0 z1 z2 v0 v1 v2 : Value} {t : TypeId} (h : FQ w0 ((b, #[z0, z1, z2], t) :: L) R Q W) :
    FQ w0 ((b, #[v0, v1, v2], t) :: L) [] (fun _ => True) (((W.setCell ⟨b, 0, none⟩ v0).setCell ⟨b, 1, none⟩ v1).setCell ⟨b, 2, none⟩ v2) :=
  ⟨((h.fr.setTop 0 v0).setTop 1 v1).setTop 2 v2, trivial, stab_true⟩
theorem toWord_fq (h : FQ w0 L R Q W) (x : Wf) : Calls Try.prog 8 #[wordV x] W fun e w' => e = .returned (wordV x) ∧ FQ w0 L R Q w' := by
  refine (toWord_any x W).mono ?_
  rintro e w' ⟨rfl, hb⟩
  exact ⟨rfl, h.next hb⟩
theorem Calls.frW2 {P : Program} {f : FuncId} {args : Array Value} {A B C : Int} {xs : List Wf} {g : Nat} {ws : List Wf} (h : FQ w0 L R Q W) (hm : (g, ws) ∈ R)
    (hc : g < W.heap.size → WAt W g 0 ws → Calls P f args W fun e w' => ∃ v, e = .returned (.tuple #[.agg #[.int .i8 A, .int .i8 B, v], .int .i64 C]) ∧ OwnY W.heap.size w' v xs ∧ Below W.heap.size W w') :
    Calls P f args W fun e w' => ∃ a c, e = .returned (.tuple #[fixV A B a xs.length c, .int .i64 C]) ∧ (∃ lo', (∀ p ∈ L, p.1 < lo') ∧ IXW lo' w'.heap.size w' a xs) ∧ FQ w0 L R Q w' := by
  refine (hc (h.fr.row _ hm).lt (h.fr.row _ hm).words).mono ?_
  rintro e w' ⟨v, rfl, ho, hb⟩
  have hL : ∀ p ∈ L, p.1 < W.heap.size := fun p hp => (h.fr.blk p hp).lt
  rcases ho with ⟨rfl, a, c, rfl⟩ | ⟨q, c, rfl, h1, h2, h3, h4⟩
  · exact ⟨a, c, rfl, ⟨_, hL, .inl rfl⟩, h.next hb⟩
  · exact ⟨_, c, rfl, ⟨_, hL, .inr ⟨q, rfl, h1, h2, Nat.le_refl _, h3, h4⟩⟩, h.next hb⟩
end
/-- A fixed plan that was answered lies in block Bq. -/
structure AW (w : World) (lo : Nat) (base : List (Nat × Array Value × TypeId)) (R : List (Nat × List Wf)) (Q : World → Prop) (A B : Int) (X : List Wf) (Bq : Nat) (aq : Option Addr) (cq : Nat) (wx : World) : Prop where
  lt : lo < Bq
  sl : ∃ lo' hi', lo < lo' ∧ (Bq < lo' ∨ hi' ≤ Bq) ∧ IXW lo' hi' wx aq X
  fr : FQ w ((Bq, #[.int .i8 A, .int .i8 B, .slice aq X.length cq], 30) :: base) R Q wx
theorem AW.a {w w' : World} {lo Bq cq : Nat} {z1 z2 : Value} {c : Array Value} {t : TypeId} {tl : List (Nat × Array Value × TypeId)} {R R' : List (Nat × List Wf)} {Q Q' : World → Prop} {A B : Int} {X : List Wf} {aq : Option Addr}
    (F : FQ w ((Bq, #[.int .i8 0, z1, z2], 30) :: (lo, c, t) :: tl) R' Q w') (M : ∃ lo', (∀ p ∈ (Bq, #[.int .i8 0, z1, z2], 30) :: (lo, c, t) :: tl, p.1 < lo') ∧ IXW lo' w'.heap.size w' aq X)
    (hR : ∀ p ∈ R, p ∈ R' ∧ ∃ q ∈ (lo, c, t) :: tl, p.1 < q.1) (hQ : ∀ W', lo < Bq → Blk w' Bq #[.int .i8 0, z1, z2] 30 → Only Bq w' W' → Q w' → Q' W') (hs : Stab Q') :
    AW w lo ((lo, c, t) :: tl) R Q' A B X Bq aq cq (((w'.setCell ⟨Bq, 0, none⟩ (.int .i8 A)).setCell ⟨Bq, 1, none⟩ (.int .i8 B)).setCell ⟨Bq, 2, none⟩ (.slice aq X.length cq)) := by
  obtain ⟨lo', hL, M⟩ := M
  have hlt : lo < Bq := (F.fr.top _ _ rfl).2 _ List.mem_cons_self
  have ho : Only Bq w' (((w'.setCell ⟨Bq, 0, none⟩ (.int .i8 A)).setCell ⟨Bq, 1, none⟩ (.int .i8 B)).setCell ⟨Bq, 2, none⟩ (.slice aq X.length cq)) := (((Only.refl Bq w').setCell _ _).setCell _ _).setCell _ _
  have hR2 : ∀ p ∈ R, p ∈ R ∧ ∃ q ∈ (lo, c, t) :: tl, p.1 < q.1 := fun p hp => ⟨hp, (hR p hp).2⟩
  exact ⟨hlt, ⟨lo', _, hL _ (List.mem_cons_of_mem _ List.mem_cons_self), .inl (hL _ List.mem_cons_self), M.only ho (.inl (hL _ List.mem_cons_self))⟩,
    ⟨((F.fr.setTopR hR 0 _).setTopR hR2 1 _).setTopR hR2 2 _, hQ _ hlt (F.fr.blk _ List.mem_cons_self) ho F.q, hs⟩⟩
theorem AW.b {w w' : World} {lo cq : Nat} {c : Array Value} {t : TypeId} {tl : List (Nat × Array Value × TypeId)} {R R' : List (Nat × List Wf)} {Q Q' : World → Prop} {A B : Int} {X : List Wf} {aq : Option Addr}
    (F : FQ w ((lo, c, t) :: tl) R' Q w') (M : ∃ lo', (∀ p ∈ (lo, c, t) :: tl, p.1 < lo') ∧ IXW lo' w'.heap.size w' aq X)
    (hR : ∀ p ∈ R, p ∈ R') (hQ : Q w' → Q' w') (hs : Stab Q') :
    AW w lo ((lo, c, t) :: tl) R Q' A B X w'.heap.size aq cq (w'.alloc (.cells #[.int .i8 A, .int .i8 B, .slice aq X.length cq] 30)) := by
  obtain ⟨lo', hL, M⟩ := M
  exact ⟨(F.fr.blk _ List.mem_cons_self).lt, ⟨lo', w'.heap.size, hL _ List.mem_cons_self, .inr (Nat.le_refl _), M.below ((Below.refl _ _).alloc (Nat.le_refl _) _)⟩, (F.re hR (hQ F.q) hs).box _ _⟩
theorem AW.sz {w wx : World} {lo Bq cq : Nat} {base : List (Nat × Array Value × TypeId)} {R : List (Nat × List Wf)} {Q : World → Prop} {A B : Int} {X : List Wf} {aq : Option Addr} (_ : AW w lo base R Q A B X Bq aq cq wx) : ∃ h, h = wx.heap.size := ⟨_, rfl⟩
set_option maxRecDepth 100000 in
set_option maxHeartbeats 40000000 in
theorem walk_FnExactAddWord (l0 k0 : Int) (a0 : Option Addr) (c0 : Nat) (ws0 : List Wf) (x1 : Nat → Int) (w : World) (p0 : B8 l0) (q0 : B8 k0) (m0 : ws0.length ≤ 9223372036854775807) (s0 : Slw w.heap.size w a0 ws0) (r0 : Wall ws0) (p1 : W4 x1) :
    Calls Try.prog 3 #[fixV l0 k0 a0 ws0.length c0, wordV x1] w fun e w' => e = .returned (.bool true) ∧ Below w.heap.size w w' := by
  have F0 := ((FW.start w).box #[.int .i8 l0, .int .i8 k0, .slice a0 ws0.length c0] 25).box (wordC x1) 26
  simp only [World.size_alloc] at F0
  have HS0 := Lib.hid s0
  clear s0
  have HZ := Lib.hid (szFixed_fq (F0.fq (Q := fun _ => True) trivial stab_true) l0 k0 a0 ws0.length c0 m0)
  obtain ⟨c_0, c_1, c_2, -⟩ := (F0.blk _ (List.mem_cons_of_mem _ List.mem_cons_self)).three
  by_cases z0' : (1048576 : Int) < ws0.length
  · simp only [if_pos z0'] at HZ
    clear F0 z0'
    go_enter Try.func3, Try.ntmps3
    go_wp2_with fail
    refine HZ.out.mono ?_
    rintro e w1 ⟨rfl, F1⟩
    go_wp2
    go_ret
    exact ⟨rfl, F1.fr.below⟩
  have hn0 : ws0.length ≤ 1048576 := by omega
  have hz0 : (ws0.length : Int) ≤ 1048576 := by omega
  have HSp := Lib.hid (fun (W : World) (g' c' : Nat) (h : g' < W.heap.size) (h' : WAt W g' 0 ws0) => specAddWord_any l0 k0 g' c' ws0 x1 W h h' p0 q0 hn0 r0 p1)
  have HIm := Lib.hid (fun (W : World) (g' c' : Nat) (h : g' < W.heap.size) (h' : WAt W g' 0 ws0) => addWord_any l0 k0 g' c' ws0 x1 W h h' p0 q0 hn0 r0 p1)
  have hmm0 := awX_len l0 k0 ws0 x1
  have hmm : (awX l0 k0 ws0 x1).length ≤ 1048576 := by omega
  clear hmm0
  generalize awX l0 k0 ws0 x1 = X at *
  generalize awL l0 k0 ws0 x1 = A at *
  generalize awK l0 k0 ws0 x1 = B at *
  generalize awC l0 k0 ws0 x1 = C at *
  simp only [if_neg z0'] at HZ
  clear F0 z0'
  go_enter Try.func3, Try.ntmps3
  go_wp2_with fail
  refine HZ.out.mono ?_
  rintro e w1 ⟨rfl, G1⟩
  clear HZ c_0 c_1 c_2
  go_upto_region 5 with fail
  have keepS : ∀ L R Q W', FQ w L R Q W' → (∀ q ∈ ([(w.heap.size + 1, wordC x1, 26), (w.heap.size, #[.int .i8 l0, .int .i8 k0, .slice a0 ws0.length c0], 25)] : List (Nat × Array Value × TypeId)), q ∈ L) → (W'.cell? ⟨w.heap.size, 0, none⟩ = some (.int .i8 l0) ∧ W'.cell? ⟨w.heap.size, 1, none⟩ = some (.int .i8 k0) ∧ W'.cell? ⟨w.heap.size, 2, none⟩ = some (.slice a0 ws0.length c0) ∧ W'.cell? ⟨w.heap.size + 1, 0, none⟩ = some (.int .i8 (x1 0)) ∧ W'.cell? ⟨w.heap.size + 1, 1, none⟩ = some (.int .i8 (x1 1)) ∧ W'.cell? ⟨w.heap.size + 1, 2, none⟩ = some (.int .i8 (x1 2)) ∧ W'.cell? ⟨w.heap.size + 1, 3, none⟩ = some (.int .i8 (x1 3))) := by
    intro L R Q W' h hs
    exact ⟨(h.fr.blk _ (hs _ (List.mem_cons_of_mem _ List.mem_cons_self))).cell 0, (h.fr.blk _ (hs _ (List.mem_cons_of_mem _ List.mem_cons_self))).cell 1, (h.fr.blk _ (hs _ (List.mem_cons_of_mem _ List.mem_cons_self))).cell 2, (h.fr.blk _ (hs _ List.mem_cons_self)).cell 0, (h.fr.blk _ (hs _ List.mem_cons_self)).cell 1, (h.fr.blk _ (hs _ List.mem_cons_self)).cell 2, (h.fr.blk _ (hs _ List.mem_cons_self)).cell 3⟩
  go_cut [6, 7] (fun s1 s2 wx => ∃ (Bq : Nat) (aq : Option Addr) (cq : Nat), s1 = .pointer (some ⟨Bq, 0, none⟩) ∧ s2 = .int .i64 C ∧ AW w (w.heap.size + 1) [(w.heap.size + 1, wordC x1, 26), (w.heap.size, #[.int .i8 l0, .int .i8 k0, .slice a0 ws0.length c0], 25)] [] (fun _ => True) A B X Bq aq cq wx)
  case first =>
    go_region_held3 (fun W' => W'.cell? ⟨w.heap.size, 0, none⟩ = some (.int .i8 l0) ∧ W'.cell? ⟨w.heap.size, 1, none⟩ = some (.int .i8 k0) ∧ W'.cell? ⟨w.heap.size, 2, none⟩ = some (.slice a0 ws0.length c0) ∧ W'.cell? ⟨w.heap.size + 1, 0, none⟩ = some (.int .i8 (x1 0)) ∧ W'.cell? ⟨w.heap.size + 1, 1, none⟩ = some (.int .i8 (x1 1)) ∧ W'.cell? ⟨w.heap.size + 1, 2, none⟩ = some (.int .i8 (x1 2)) ∧ W'.cell? ⟨w.heap.size + 1, 3, none⟩ = some (.int .i8 (x1 3)))
      (exact keepS _ _ _ _ (by first | assumption | exact FQ.drew (by assumption) | exact FQ.drew (FQ.box (by assumption) _ _) | exact FQ.box (by assumption) _ _ | exact FQ.put3T (by assumption) | exact FQ.drew (FQ.put3T (by assumption))) (by first | exact fun _ h => h | exact fun _ h => List.mem_cons_of_mem _ h))
      (first
        | (go_at_call 7; with_reducible refine (toFixed_fq (by first | assumption | exact FQ.drew (by assumption) | exact FQ.drew (FQ.box (by assumption) _ _) | exact FQ.box (by assumption) _ _ | exact FQ.put3T (by assumption) | exact FQ.drew (FQ.put3T (by assumption))) l0 k0 a0 c0 ws0 hn0 HS0.out).mono ?_; rintro e w' ⟨r0q, rfl, -, Fa⟩)
        | (go_at_call 8; with_reducible refine (toWord_fq (by first | assumption | exact FQ.drew (by assumption) | exact FQ.drew (FQ.box (by assumption) _ _) | exact FQ.box (by assumption) _ _ | exact FQ.put3T (by assumption) | exact FQ.drew (FQ.put3T (by assumption))) x1).mono ?_; rintro e w' ⟨rfl, Fb⟩)
        | (go_at_call 6; with_reducible refine (Calls.frW2 (by first | assumption | exact FQ.drew (by assumption) | exact FQ.drew (FQ.box (by assumption) _ _) | exact FQ.box (by assumption) _ _ | exact FQ.put3T (by assumption) | exact FQ.drew (FQ.put3T (by assumption))) List.mem_cons_self (fun h2 h3 => HSp.out _ _ _ h2 h3)).mono ?_; rintro e w' ⟨aq1, cq1, rfl, MQ, Fq⟩; try (obtain ⟨zz0, zz1, zz2, zz3⟩ := (Fq.fr.blk _ List.mem_cons_self).three)))
    all_goals (go_wp2_with fail; go_meet; first
      | exact ⟨_, _, _, rfl, rfl, AW.a (by assumption) (by assumption) (fun p hp => by cases hp) (fun _ _ _ _ _ => trivial) stab_true⟩
      | exact ⟨_, _, _, rfl, rfl, AW.b (by assumption) (by assumption) (fun p hp => by cases hp) (fun _ => trivial) stab_true⟩)
  case rest =>
  obtain ⟨B6, a6, c6, rfl, rfl, T6⟩ := hcut
  clear keepS
  clear G1 HSp
  obtain ⟨h6, hqh6⟩ := T6.sz
  have hb6 := (T6.fr.fr.blk _ List.mem_cons_self).lt
  have hlt6 := T6.lt
  obtain ⟨lo6, _, _, _, M6'⟩ := T6.sl
  have M6 := M6'.wide
  rw [← hqh6] at M6 hb6
  have G2 := T6.fr.re (R' := []) (Q' := fun W => IXW lo6 h6 W a6 X) (fun p hp => by cases hp) M6 (stab_ixw _ _ _ _)
  clear M6' M6 T6
  obtain ⟨c_0, c_1, c_2, -⟩ := (G2.fr.blk _ (List.mem_cons_of_mem _ (List.mem_cons_of_mem _ List.mem_cons_self))).three
  go_wp2_with fail
  refine (toFixed_fq G2 l0 k0 a0 c0 ws0 hn0 HS0.out).mono ?_
  rintro e w3 ⟨z0, rfl, hz6, G3⟩
  have hzb := (G3.fr.row _ List.mem_cons_self).lt
  rw [← hqh6] at hz6
  have HZZ := Lib.hid (show w.heap.size + 1 < B6 ∧ B6 < h6 ∧ h6 ≤ z0 ∧ z0 < w3.heap.size from ⟨hlt6, hb6, hz6, hzb⟩)
  have G4 := G3.box #[.int .i8 l0, .int .i8 k0, .slice (some ⟨z0, 0, none⟩) ws0.length ws0.length] 30
  replace G4 : FQ w _ [(z0, ws0)] _ _ := G4
  clear c_0 c_1 c_2 G2 G3 hz6 hzb hb6 hqh6 hlt6
  go_upto_region 7 with fail
  generalize hgg : w3.alloc (.cells #[.int .i8 l0, .int .i8 k0, .slice (some ⟨z0, 0, none⟩) ws0.length ws0.length] 30) = w4 at *
  clear hgg
  have hR7 : ∀ p ∈ [(z0, ws0)], p ∈ [(z0, ws0)] ∧ ∃ q ∈ ([(w3.heap.size, #[.int .i8 l0, .int .i8 k0, .slice (some ⟨z0, 0, none⟩) ws0.length ws0.length], 30), (B6, #[.int .i8 A, .int .i8 B, .slice a6 X.length c6], 30), (w.heap.size + 1, wordC x1, 26), (w.heap.size, #[.int .i8 l0, .int .i8 k0, .slice a0 ws0.length c0], 25)] : List (Nat × Array Value × TypeId)), p.1 < q.1 := fun p hp => ⟨hp, _, List.mem_cons_self, by obtain rfl : p = (z0, ws0) := (by simpa using hp); exact HZZ.out.2.2.2⟩
  have hQ7 : ∀ (w' W' : World) (Bq : Nat), w3.heap.size < Bq → Only Bq w' W' → IXW lo6 h6 w' a6 X → IXW lo6 h6 W' a6 X := fun w' W' Bq h1 ho h => h.only ho (.inr (by have := HZZ.out; omega))
  have keepS : ∀ L R Q W', FQ w L R Q W' → (∀ q ∈ ([(w3.heap.size, #[.int .i8 l0, .int .i8 k0, .slice (some ⟨z0, 0, none⟩) ws0.length ws0.length], 30), (B6, #[.int .i8 A, .int .i8 B, .slice a6 X.length c6], 30), (w.heap.size + 1, wordC x1, 26), (w.heap.size, #[.int .i8 l0, .int .i8 k0, .slice a0 ws0.length c0], 25)] : List (Nat × Array Value × TypeId)), q ∈ L) → (W'.cell? ⟨w3.heap.size, 0, none⟩ = some (.int .i8 l0) ∧ W'.cell? ⟨w3.heap.size, 1, none⟩ = some (.int .i8 k0) ∧ W'.cell? ⟨w3.heap.size, 2, none⟩ = some (.slice (some ⟨z0, 0, none⟩) ws0.length ws0.length) ∧ W'.cell? ⟨w.heap.size + 1, 0, none⟩ = some (.int .i8 (x1 0)) ∧ W'.cell? ⟨w.heap.size + 1, 1, none⟩ = some (.int .i8 (x1 1)) ∧ W'.cell? ⟨w.heap.size + 1, 2, none⟩ = some (.int .i8 (x1 2)) ∧ W'.cell? ⟨w.heap.size + 1, 3, none⟩ = some (.int .i8 (x1 3))) := by
    intro L R Q W' h hs
    exact ⟨(h.fr.blk _ (hs _ List.mem_cons_self)).cell 0, (h.fr.blk _ (hs _ List.mem_cons_self)).cell 1, (h.fr.blk _ (hs _ List.mem_cons_self)).cell 2, (h.fr.blk _ (hs _ (List.mem_cons_of_mem _ (List.mem_cons_of_mem _ List.mem_cons_self)))).cell 0, (h.fr.blk _ (hs _ (List.mem_cons_of_mem _ (List.mem_cons_of_mem _ List.mem_cons_self)))).cell 1, (h.fr.blk _ (hs _ (List.mem_cons_of_mem _ (List.mem_cons_of_mem _ List.mem_cons_self)))).cell 2, (h.fr.blk _ (hs _ (List.mem_cons_of_mem _ (List.mem_cons_of_mem _ List.mem_cons_self)))).cell 3⟩
  go_cut [9, 10] (fun s1 s2 wx => ∃ (Bq : Nat) (aq : Option Addr) (cq : Nat), s1 = .pointer (some ⟨Bq, 0, none⟩) ∧ s2 = .int .i64 C ∧ AW w (w3.heap.size) [(w3.heap.size, #[.int .i8 l0, .int .i8 k0, .slice (some ⟨z0, 0, none⟩) ws0.length ws0.length], 30), (B6, #[.int .i8 A, .int .i8 B, .slice a6 X.length c6], 30), (w.heap.size + 1, wordC x1, 26), (w.heap.size, #[.int .i8 l0, .int .i8 k0, .slice a0 ws0.length c0], 25)] [(z0, ws0)] (fun W => IXW lo6 h6 W a6 X) A B X Bq aq cq wx)
  case first =>
    go_region_held3 (fun W' => W'.cell? ⟨w3.heap.size, 0, none⟩ = some (.int .i8 l0) ∧ W'.cell? ⟨w3.heap.size, 1, none⟩ = some (.int .i8 k0) ∧ W'.cell? ⟨w3.heap.size, 2, none⟩ = some (.slice (some ⟨z0, 0, none⟩) ws0.length ws0.length) ∧ W'.cell? ⟨w.heap.size + 1, 0, none⟩ = some (.int .i8 (x1 0)) ∧ W'.cell? ⟨w.heap.size + 1, 1, none⟩ = some (.int .i8 (x1 1)) ∧ W'.cell? ⟨w.heap.size + 1, 2, none⟩ = some (.int .i8 (x1 2)) ∧ W'.cell? ⟨w.heap.size + 1, 3, none⟩ = some (.int .i8 (x1 3)))
      (exact keepS _ _ _ _ (by first | assumption | exact FQ.drew (by assumption) | exact FQ.drew (FQ.box (by assumption) _ _) | exact FQ.box (by assumption) _ _ | exact FQ.put3T (by assumption) | exact FQ.drew (FQ.put3T (by assumption))) (by first | exact fun _ h => h | exact fun _ h => List.mem_cons_of_mem _ h))
      (first
        | (go_at_call 8; with_reducible refine (toWord_fq (by first | assumption | exact FQ.drew (by assumption) | exact FQ.drew (FQ.box (by assumption) _ _) | exact FQ.box (by assumption) _ _ | exact FQ.put3T (by assumption) | exact FQ.drew (FQ.put3T (by assumption))) x1).mono ?_; rintro e w' ⟨rfl, Fb⟩)
        | (go_at_call 9; with_reducible refine (Calls.frW2 (by first | assumption | exact FQ.drew (by assumption) | exact FQ.drew (FQ.box (by assumption) _ _) | exact FQ.box (by assumption) _ _ | exact FQ.put3T (by assumption) | exact FQ.drew (FQ.put3T (by assumption))) List.mem_cons_self (fun h2 h3 => HIm.out _ _ _ h2 h3)).mono ?_; rintro e w' ⟨aq1, cq1, rfl, MQ, Fq⟩; try (obtain ⟨zz0, zz1, zz2, zz3⟩ := (Fq.fr.blk _ List.mem_cons_self).three)))
    all_goals (go_wp2_with fail; go_meet; first
      | exact ⟨_, _, _, rfl, rfl, AW.a (by assumption) (by assumption) hR7 (fun W' h1 _ ho h => hQ7 _ W' _ h1 ho h) (stab_ixw _ _ _ _)⟩
      | exact ⟨_, _, _, rfl, rfl, AW.b (by assumption) (by assumption) (fun p hp => hp) (fun h => h) (stab_ixw _ _ _ _)⟩)
  case rest =>
  obtain ⟨B9, a9, c9, rfl, rfl, T9⟩ := hcut
  clear keepS
  clear G4 hR7 hQ7
  have hlt9 := T9.lt
  obtain ⟨lo9, hi9, hlo9, hB9, M9⟩ := T9.sl
  have G5 := T9.fr.re (R' := [(z0, ws0)]) (Q' := fun W => IXW lo6 h6 W a6 X ∧ IXW lo9 hi9 W a9 X) (fun p hp => hp) ⟨T9.fr.q, M9⟩ ((stab_ixw _ _ _ _).and (stab_ixw _ _ _ _))
  have HZ9 := Lib.hid (show w3.heap.size < B9 ∧ w3.heap.size < lo9 ∧ (B9 < lo9 ∨ hi9 ≤ B9) from ⟨hlt9, hlo9, hB9⟩)
  clear T9 M9 hlt9 hlo9 hB9
  obtain ⟨x_0, x_1, x_2, -⟩ := (G5.fr.blk _ List.mem_cons_self).three
  obtain ⟨y_0, y_1, y_2, -⟩ := (G5.fr.blk _ (List.mem_cons_of_mem _ (List.mem_cons_of_mem _ List.mem_cons_self))).three
  go_wp2_with fail
  refine (eqFixX_fq G5 G5.q.2 G5.q.1 A B _ _ hmm).mono ?_
  rintro e w6 ⟨rfl, G6⟩
  clear x_0 x_1 x_2 y_0 y_1 y_2 G5
  have HL1 := Lib.hid (show ∀ p ∈ ([(B9, #[.int .i8 A, .int .i8 B, .slice a9 X.length c9], 30), (w3.heap.size, #[.int .i8 l0, .int .i8 k0, .slice (some ⟨z0, 0, none⟩) ws0.length ws0.length], 30), (B6, #[.int .i8 A, .int .i8 B, .slice a6 X.length c6], 30), (w.heap.size + 1, wordC x1, 26), (w.heap.size, #[.int .i8 l0, .int .i8 k0, .slice a0 ws0.length c0], 25)] : List (Nat × Array Value × TypeId)), p.1 ≠ z0 from fun p hp => by
    have := HZZ.out
    have := HZ9.out
    simp only [List.mem_cons, List.not_mem_nil, or_false] at hp
    rcases hp with rfl | rfl | rfl | rfl | rfl <;> simp only <;> omega)
  have HL2 := Lib.hid (show ∀ p ∈ ([(B9, #[.int .i8 A, .int .i8 B, .slice a9 X.length c9], 30), (w3.heap.size, #[.int .i8 l0, .int .i8 k0, .slice (some ⟨z0, 0, none⟩) ws0.length ws0.length], 30), (B6, #[.int .i8 A, .int .i8 B, .slice a6 X.length c6], 30), (w.heap.size + 1, wordC x1, 26), (w.heap.size, #[.int .i8 l0, .int .i8 k0, .slice a0 ws0.length c0], 25)] : List (Nat × Array Value × TypeId)), p.1 < lo9 ∨ hi9 ≤ p.1 from fun p hp => by
    have := HZZ.out
    have := HZ9.out
    simp only [List.mem_cons, List.not_mem_nil, or_false] at hp
    rcases hp with rfl | rfl | rfl | rfl | rfl <;> simp only <;> omega)
  have HO := Lib.hid (show w.heap.size ≤ z0 ∧ h6 ≤ z0 ∧ z0 < lo9 ∧ w.heap.size ≤ lo9 ∧ h6 ≤ lo9 from by have := HZZ.out; have := HZ9.out; omega)
  go_wp2_with fail
  have G7 := G6.drew
  have keepT : ∀ R Q W', FQ w [(B9, #[.int .i8 A, .int .i8 B, .slice a9 X.length c9], 30), (w3.heap.size, #[.int .i8 l0, .int .i8 k0, .slice (some ⟨z0, 0, none⟩) ws0.length ws0.length], 30), (B6, #[.int .i8 A, .int .i8 B, .slice a6 X.length c6], 30), (w.heap.size + 1, wordC x1, 26), (w.heap.size, #[.int .i8 l0, .int .i8 k0, .slice a0 ws0.length c0], 25)] R Q W' → (W'.cell? ⟨w3.heap.size, 0, none⟩ = some (.int .i8 l0) ∧ W'.cell? ⟨w3.heap.size, 1, none⟩ = some (.int .i8 k0) ∧ W'.cell? ⟨w3.heap.size, 2, none⟩ = some (.slice (some ⟨z0, 0, none⟩) ws0.length ws0.length) ∧ W'.cell? ⟨w.heap.size, 0, none⟩ = some (.int .i8 l0) ∧ W'.cell? ⟨w.heap.size, 1, none⟩ = some (.int .i8 k0) ∧ W'.cell? ⟨w.heap.size, 2, none⟩ = some (.slice a0 ws0.length c0)) := fun R Q W' h =>
    ⟨(h.fr.blk _ (List.mem_cons_of_mem _ List.mem_cons_self)).cell 0, (h.fr.blk _ (List.mem_cons_of_mem _ List.mem_cons_self)).cell 1, (h.fr.blk _ (List.mem_cons_of_mem _ List.mem_cons_self)).cell 2, (h.fr.blk _ (List.mem_cons_of_mem _ (List.mem_cons_of_mem _ (List.mem_cons_of_mem _ (List.mem_cons_of_mem _ List.mem_cons_self))))).cell 0, (h.fr.blk _ (List.mem_cons_of_mem _ (List.mem_cons_of_mem _ (List.mem_cons_of_mem _ (List.mem_cons_of_mem _ List.mem_cons_self))))).cell 1, (h.fr.blk _ (List.mem_cons_of_mem _ (List.mem_cons_of_mem _ (List.mem_cons_of_mem _ (List.mem_cons_of_mem _ List.mem_cons_self))))).cell 2⟩
  go_region_held3 (fun W' => W'.cell? ⟨w3.heap.size, 0, none⟩ = some (.int .i8 l0) ∧ W'.cell? ⟨w3.heap.size, 1, none⟩ = some (.int .i8 k0) ∧ W'.cell? ⟨w3.heap.size, 2, none⟩ = some (.slice (some ⟨z0, 0, none⟩) ws0.length ws0.length) ∧ W'.cell? ⟨w.heap.size, 0, none⟩ = some (.int .i8 l0) ∧ W'.cell? ⟨w.heap.size, 1, none⟩ = some (.int .i8 k0) ∧ W'.cell? ⟨w.heap.size, 2, none⟩ = some (.slice a0 ws0.length c0))
    (first | exact keepT _ _ _ G9 | exact keepT _ _ _ G8 | exact keepT _ _ _ G7)
    (first
      | (go_at_call 7; with_reducible refine (toFixed_fq G7 l0 k0 a0 c0 ws0 hn0 HS0.out).mono ?_; rintro e w8 ⟨y0, rfl, -, G8⟩)
      | (go_at_call 10; with_reducible refine (eqFixed_fq G8 (List.mem_cons_of_mem _ List.mem_cons_self) List.mem_cons_self _ _ _ _ hn0).mono ?_; rintro e w9 ⟨rfl, G9⟩))
  clear G6 keepT
  clear G7
  clear G8
  obtain ⟨x_0, x_1, x_2, -⟩ := (G9.fr.blk _ (List.mem_cons_of_mem _ List.mem_cons_self)).three
  go_wp2_with fail
  refine (markFixedW_fq G9 (List.mem_cons_of_mem _ List.mem_cons_self) l0 k0 _ hn0 HO.out.1 HO.out.2.1 HO.out.2.2.1 HL1.out).mono ?_
  rintro e w10 ⟨rfl, G10⟩
  clear x_0 x_1 x_2 G9 HL1
  obtain ⟨x_0, x_1, x_2, -⟩ := (G10.fr.blk _ List.mem_cons_self).three
  obtain ⟨y_0, y_1, y_2, -⟩ := (G10.fr.blk _ (List.mem_cons_of_mem _ (List.mem_cons_of_mem _ List.mem_cons_self))).three
  go_wp2_with fail
  refine (eqFixX_fq G10 G10.q.2 G10.q.1 A B _ _ hmm).mono ?_
  rintro e w11 ⟨rfl, G11⟩
  clear x_0 x_1 x_2 y_0 y_1 y_2 G10
  obtain ⟨x_0, x_1, x_2, -⟩ := (G11.fr.blk _ List.mem_cons_self).three
  go_wp2_with fail
  refine (markFixX_fq G11 A B _ hmm HO.out.2.2.2.1 HO.out.2.2.2.2 HL2.out).mono ?_
  rintro e w12 ⟨rfl, G12⟩
  clear x_0 x_1 x_2 G11 HL2 HO
  obtain ⟨x_0, x_1, x_2, -⟩ := (G12.fr.blk _ List.mem_cons_self).three
  go_wp2_with fail
  refine (heldFixX_fq G12 G12.q.2 A B _ hmm).mono ?_
  rintro e w13 ⟨rfl, G13⟩
  clear x_0 x_1 x_2 G12
  go_upto_region 24 with fail
  have hQ8 : ∀ (w' W' : World) (Bq : Nat) (z1 z2 : Value), B9 < Bq → Blk w' Bq #[.int .i8 0, z1, z2] 30 → Only Bq w' W' → (IXW lo6 h6 w' a6 X ∧ HXW w' a9 X) → (IXW lo6 h6 W' a6 X ∧ HXW W' a9 X) := fun w' W' Bq z1 z2 h1 hk ho h => ⟨h.1.only ho (.inr (by have := HZZ.out; have := HZ9.out; omega)), h.2.only hk ho⟩
  have keepS : ∀ L R Q W', FQ w L R Q W' → (∀ q ∈ ([(B9, #[.int .i8 A, .int .i8 B, .slice a9 X.length c9], 30), (w3.heap.size, #[.int .i8 l0, .int .i8 k0, .slice (some ⟨z0, 0, none⟩) ws0.length ws0.length], 30), (B6, #[.int .i8 A, .int .i8 B, .slice a6 X.length c6], 30), (w.heap.size + 1, wordC x1, 26), (w.heap.size, #[.int .i8 l0, .int .i8 k0, .slice a0 ws0.length c0], 25)] : List (Nat × Array Value × TypeId)), q ∈ L) → (W'.cell? ⟨w.heap.size, 0, none⟩ = some (.int .i8 l0) ∧ W'.cell? ⟨w.heap.size, 1, none⟩ = some (.int .i8 k0) ∧ W'.cell? ⟨w.heap.size, 2, none⟩ = some (.slice a0 ws0.length c0) ∧ W'.cell? ⟨w.heap.size + 1, 0, none⟩ = some (.int .i8 (x1 0)) ∧ W'.cell? ⟨w.heap.size + 1, 1, none⟩ = some (.int .i8 (x1 1)) ∧ W'.cell? ⟨w.heap.size + 1, 2, none⟩ = some (.int .i8 (x1 2)) ∧ W'.cell? ⟨w.heap.size + 1, 3, none⟩ = some (.int .i8 (x1 3))) := by
    intro L R Q W' h hs
    exact ⟨(h.fr.blk _ (hs _ (List.mem_cons_of_mem _ (List.mem_cons_of_mem _ (List.mem_cons_of_mem _ (List.mem_cons_of_mem _ List.mem_cons_self)))))).cell 0, (h.fr.blk _ (hs _ (List.mem_cons_of_mem _ (List.mem_cons_of_mem _ (List.mem_cons_of_mem _ (List.mem_cons_of_mem _ List.mem_cons_self)))))).cell 1, (h.fr.blk _ (hs _ (List.mem_cons_of_mem _ (List.mem_cons_of_mem _ (List.mem_cons_of_mem _ (List.mem_cons_of_mem _ List.mem_cons_self)))))).cell 2, (h.fr.blk _ (hs _ (List.mem_cons_of_mem _ (List.mem_cons_of_mem _ (List.mem_cons_of_mem _ List.mem_cons_self))))).cell 0, (h.fr.blk _ (hs _ (List.mem_cons_of_mem _ (List.mem_cons_of_mem _ (List.mem_cons_of_mem _ List.mem_cons_self))))).cell 1, (h.fr.blk _ (hs _ (List.mem_cons_of_mem _ (List.mem_cons_of_mem _ (List.mem_cons_of_mem _ List.mem_cons_self))))).cell 2, (h.fr.blk _ (hs _ (List.mem_cons_of_mem _ (List.mem_cons_of_mem _ (List.mem_cons_of_mem _ List.mem_cons_self))))).cell 3⟩
  go_cut [14, 15] (fun s1 s2 wx => ∃ (Bq : Nat) (aq : Option Addr) (cq : Nat), s1 = .pointer (some ⟨Bq, 0, none⟩) ∧ s2 = .int .i64 C ∧ AW w (B9) [(B9, #[.int .i8 A, .int .i8 B, .slice a9 X.length c9], 30), (w3.heap.size, #[.int .i8 l0, .int .i8 k0, .slice (some ⟨z0, 0, none⟩) ws0.length ws0.length], 30), (B6, #[.int .i8 A, .int .i8 B, .slice a6 X.length c6], 30), (w.heap.size + 1, wordC x1, 26), (w.heap.size, #[.int .i8 l0, .int .i8 k0, .slice a0 ws0.length c0], 25)] [] (fun W => IXW lo6 h6 W a6 X ∧ HXW W a9 X) A B X Bq aq cq wx)
  case first =>
    go_region_held3 (fun W' => W'.cell? ⟨w.heap.size, 0, none⟩ = some (.int .i8 l0) ∧ W'.cell? ⟨w.heap.size, 1, none⟩ = some (.int .i8 k0) ∧ W'.cell? ⟨w.heap.size, 2, none⟩ = some (.slice a0 ws0.length c0) ∧ W'.cell? ⟨w.heap.size + 1, 0, none⟩ = some (.int .i8 (x1 0)) ∧ W'.cell? ⟨w.heap.size + 1, 1, none⟩ = some (.int .i8 (x1 1)) ∧ W'.cell? ⟨w.heap.size + 1, 2, none⟩ = some (.int .i8 (x1 2)) ∧ W'.cell? ⟨w.heap.size + 1, 3, none⟩ = some (.int .i8 (x1 3)))
      (exact keepS _ _ _ _ (by first | assumption | exact FQ.drew (by assumption) | exact FQ.drew (FQ.box (by assumption) _ _) | exact FQ.box (by assumption) _ _ | exact FQ.put3T (by assumption) | exact FQ.drew (FQ.put3T (by assumption))) (by first | exact fun _ h => h | exact fun _ h => List.mem_cons_of_mem _ h))
      (first
        | (go_at_call 7; with_reducible refine (toFixed_fq (by first | assumption | exact FQ.drew (by assumption) | exact FQ.drew (FQ.box (by assumption) _ _) | exact FQ.box (by assumption) _ _ | exact FQ.put3T (by assumption) | exact FQ.drew (FQ.put3T (by assumption))) l0 k0 a0 c0 ws0 hn0 HS0.out).mono ?_; rintro e w' ⟨r1q, rfl, -, Fa⟩)
        | (go_at_call 8; with_reducible refine (toWord_fq (by first | assumption | exact FQ.drew (by assumption) | exact FQ.drew (FQ.box (by assumption) _ _) | exact FQ.box (by assumption) _ _ | exact FQ.put3T (by assumption) | exact FQ.drew (FQ.put3T (by assumption))) x1).mono ?_; rintro e w' ⟨rfl, Fb⟩)
        | (go_at_call 9; with_reducible refine (Calls.frW2 (by first | assumption | exact FQ.drew (by assumption) | exact FQ.drew (FQ.box (by assumption) _ _) | exact FQ.box (by assumption) _ _ | exact FQ.put3T (by assumption) | exact FQ.drew (FQ.put3T (by assumption))) List.mem_cons_self (fun h2 h3 => HIm.out _ _ _ h2 h3)).mono ?_; rintro e w' ⟨aq1, cq1, rfl, MQ, Fq⟩; try (obtain ⟨zz0, zz1, zz2, zz3⟩ := (Fq.fr.blk _ List.mem_cons_self).three)))
    all_goals (go_wp2_with fail; go_meet; first
      | exact ⟨_, _, _, rfl, rfl, AW.a (by assumption) (by assumption) (fun p hp => by cases hp) (fun W' h1 hk ho h => hQ8 _ W' _ _ _ h1 hk ho h) ((stab_ixw _ _ _ _).and (stab_hxw _ _))⟩
      | exact ⟨_, _, _, rfl, rfl, AW.b (by assumption) (by assumption) (fun p hp => by cases hp) (fun h => h) ((stab_ixw _ _ _ _).and (stab_hxw _ _))⟩)
  case rest =>
  obtain ⟨B14, a14, c14, rfl, rfl, T14⟩ := hcut
  clear keepS
  clear G13 hQ8
  obtain ⟨lo14, hi14, _, _, M14⟩ := T14.sl
  have G15 := T14.fr
  clear T14
  obtain ⟨x_0, x_1, x_2, -⟩ := (G15.fr.blk _ List.mem_cons_self).three
  obtain ⟨y_0, y_1, y_2, -⟩ := (G15.fr.blk _ (List.mem_cons_of_mem _ (List.mem_cons_of_mem _ (List.mem_cons_of_mem _ List.mem_cons_self)))).three
  go_wp2_with fail
  refine (eqFixX_fq G15 M14 G15.q.1 A B _ _ hmm).mono ?_
  rintro e w15 ⟨rfl, G16⟩
  clear x_0 x_1 x_2 y_0 y_1 y_2 G15 M14
  obtain ⟨x_0, x_1, x_2, -⟩ := (G16.fr.blk _ (List.mem_cons_of_mem _ List.mem_cons_self)).three
  go_wp2_with fail
  refine (heldFixX_fq G16 G16.q.2 A B _ hmm).mono ?_
  rintro e w16 ⟨rfl, G17⟩
  have HB := Lib.hid G17.fr.below
  clear x_0 x_1 x_2 G16 G17
  go_wp2
  go_ret
  exact ⟨rfl, HB.out⟩
end Go.Proofs.Ytogmkdelbiohaaa
