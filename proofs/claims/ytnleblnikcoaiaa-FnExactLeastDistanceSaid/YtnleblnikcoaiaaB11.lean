/-
  The program's Decode.
-/
import Derived.Test.YtnleblnikcoaiaaB10
import Derived.Test.YtnleblnikcoaiaaB3
import Derived.Deep.DeepCutAuto
namespace Go.Proofs.Ytnleblnikcoaiaa
open Go.RowKit Go.Shelf Go.Maps Go.MapKept Go.ChangeMaps
set_option maxRecDepth 100000
set_option linter.unusedVariables false

/-- What Decode hands back. -/
noncomputable def deV (l k : Int) (ws : List Wf) (x : Nat → Int) : Cs := if okX l k ws = true ∧ okD l x = true then (fcQ ws (upC k true ws.length) (wordV x)).getD (0, false) else (0, false)
noncomputable def deC (l k : Int) (ws : List Wf) (x : Nat → Int) : Int := if okX l k ws = true ∧ okD l x = true then (if (fcQ ws (upC k true ws.length) (wordV x)).isSome then 0 else 6) else 1
theorem de_no {l k : Int} {ws : List Wf} {x : Nat → Int} (h : okX l k ws = false ∨ okD l x = false) : deV l k ws x = (0, false) ∧ deC l k ws x = 1 := by
  have hn : ¬ (okX l k ws = true ∧ okD l x = true) := fun e => by rcases h with h | h <;> simp [h] at e
  exact ⟨if_neg hn, if_neg hn⟩
theorem de_none {l k : Int} {ws : List Wf} {x : Nat → Int} (h : okX l k ws = true) (h2 : okD l x = true) (h3 : fcQ ws (upC k true ws.length) (wordV x) = none) : deV l k ws x = (0, false) ∧ deC l k ws x = 6 := by
  unfold deV deC; rw [if_pos ⟨h, h2⟩, if_pos ⟨h, h2⟩, h3]; exact ⟨rfl, rfl⟩
theorem de_some {l k : Int} {ws : List Wf} {x : Nat → Int} {q : Cs} (h : okX l k ws = true) (h2 : okD l x = true) (h3 : fcQ ws (upC k true ws.length) (wordV x) = some q) : deV l k ws x = q ∧ deC l k ws x = 0 := by
  unfold deV deC; rw [if_pos ⟨h, h2⟩, if_pos ⟨h, h2⟩, h3]; exact ⟨rfl, rfl⟩
set_option maxHeartbeats 4000000 in
theorem decode_no (l k : Int) (a : Option Addr) (c : Nat) (ws : List Wf) (x : Nat → Int) (w : World) (hs : Slw w.heap.size w a ws) (hl : B8 l) (hk : B8 k) (hn : ws.length ≤ 1048576) (hw : Wall ws) (hx : W4 x) (hok : okX l k ws = false ∨ okD l x = false) :
    Calls Try.prog 18 #[fixV l k a ws.length c, wordV x] w fun e w' => e = .returned (.tuple #[caseV 0 false, .int .i64 1]) ∧ Below w.heap.size w w' := by
  have F0 := (((FR.start w).box #[.int .i8 l, .int .i8 k, .slice a ws.length c] 35).box (wordC x) 30).box #[.int .i8 0, .bool false] 37
  have HO := Lib.hid (show Calls Try.prog 38 #[fixV l k a ws.length c, wordV x] _ fun e w' => e = .returned (.tuple #[.agg nopC, .int .i64 1]) ∧ Below _ _ w' from by
    have hs1 := slw_up hs F0.below
    cases h1 : okX l k ws
    · exact openSeen_f l k a c ws x _ hs1 hl hk hn hw hx h1
    · rcases hok with h2 | h2
      · rw [h1] at h2; cases h2
      · exact openSeen_d l k a c ws x _ hs1 hl hk hn hw hx h1 h2)
  simp only [World.size_alloc] at F0
  clear hok hw hs hn hl hk hx
  generalize ws.length = n at *
  obtain ⟨c0, c1, c2, c3⟩ := (F0.blk _ (List.mem_cons_of_mem _ (List.mem_cons_of_mem _ List.mem_cons_self))).three
  obtain ⟨x0, x1, x2, x3, x4⟩ := (F0.blk _ (List.mem_cons_of_mem _ List.mem_cons_self)).four
  go_enter Try.func18, Try.ntmps18
  go_wp2_with fail
  refine HO.out.mono ?_
  rintro e w2 ⟨rfl, hb⟩
  have F1 := (F0.next hb).box nopC 66
  clear hb c0 c1 c2 c3 x0 x1 x2 x3 x4 HO F0
  obtain ⟨f0, f1, f2⟩ := (F1.blk _ (List.mem_cons_of_mem _ List.mem_cons_self)).two
  dsimp only at f0 f1 f2
  have HB := Lib.hid F1.below
  clear F1
  go_wp2
  exact bodyPost_ret (v := .tuple #[caseV 0 false, .int .i64 1]) (by simp [results, Try.results18, go_sem, f0, f1]) rfl ⟨rfl, by repeat (first | exact HB.out | refine Below.setCell ?_ (by simp <;> omega) _)⟩
theorem ten6 {a0 a1 a2 a3 a4 a5 b0 b1 b2 b3 : Value} {w : World} {p q : Nat} {t u : TypeId} (h : Blk w p #[a0, a1, a2, a3, a4, a5] t) (h2 : Blk w q #[b0, b1, b2, b3] u) :
    w.cell? ⟨p, 0, none⟩ = some a0 ∧ w.cell? ⟨p, 1, none⟩ = some a1 ∧ w.cell? ⟨p, 2, none⟩ = some a2 ∧ w.cell? ⟨p, 3, none⟩ = some a3 ∧ w.cell? ⟨p, 4, none⟩ = some a4 ∧ w.cell? ⟨p, 5, none⟩ = some a5 ∧ w.cell? ⟨q, 0, none⟩ = some b0 ∧ w.cell? ⟨q, 1, none⟩ = some b1 ∧ w.cell? ⟨q, 2, none⟩ = some b2 ∧ w.cell? ⟨q, 3, none⟩ = some b3 :=
  ⟨h.cell 0, h.cell 1, h.cell 2, h.cell 3, h.cell 4, h.cell 5, h2.cell 0, h2.cell 1, h2.cell 2, h2.cell 3⟩
theorem FR.st2 {w0 w : World} {b : Nat} {z0 z1 v0 v1 : Value} {t : TypeId} {L : List (Nat × Array Value × TypeId)} (h : FR w0 ((b, #[z0, z1], t) :: L) w) :
    FR w0 ((b, #[v0, v1], t) :: L) ((w.setCell ⟨b, 0, none⟩ v0).setCell ⟨b, 1, none⟩ v1) :=
  (h.setTop 0 v0).setTop 1 v1
theorem firstCases_fr {w0 W : World} {L : List (Nat × Array Value × TypeId)} (h : FR w0 L W) {a : Option Addr} {m c : Nat} {l k : Int} {G : Value → Option Value}
    (hc : ∀ W, Below w0.heap.size w0 W → Calls Try.prog 39 #[opV a m c l k] W fun e w' => ∃ mb n, e = .returned (.map (some mb)) ∧ W.heap.size ≤ mb ∧ n ≤ 161 ∧ MapAt Try.prog 30 w' mb n G ∧ Below W.heap.size W w') :
    Calls Try.prog 39 #[opV a m c l k] W fun e w' => ∃ mb n, e = .returned (.map (some mb)) ∧ MapAt Try.prog 30 w' mb n G ∧ FR w0 L w' :=
  (hc W h.below).mono fun _ _ ⟨mb, n, h1, _, _, h4, h5⟩ => ⟨mb, n, h1, h4, h.next h5⟩
set_option maxHeartbeats 8000000 in
theorem decode_in (l k : Int) (b off c : Nat) (ws : List Wf) (x : Nat → Int) (w : World) (hb1 : b < w.heap.size) (hc1 : WAt w b off ws) (hl : B8 l) (hk : B8 k) (hw : Wall ws) (hx : W4 x) (hok : okX l k ws = true) (hd : okD l x = true) :
    Calls Try.prog 18 #[fixV l k (some ⟨b, off, none⟩) ws.length c, wordV x] w fun e w' => e = .returned (.tuple #[caseV (deV l k ws x).1 (deV l k ws x).2, .int .i64 (deC l k ws x)]) ∧ Below w.heap.size w w' := by
  have F0 := (((FR.start w).box #[.int .i8 l, .int .i8 k, .slice (some ⟨b, off, none⟩) ws.length c] 35).box (wordC x) 30).box #[.int .i8 0, .bool false] 37
  have hx2 := okX_t hok
  have h80 : ws.length ≤ 80 := by have := hx2.2.2.1.2; omega
  have HO := Lib.hid (openSeen_t l k (some ⟨b, off, none⟩) c ws x _ (slw_up (.inr ⟨b, off, rfl, hb1, hc1⟩) F0.below) hl hk (by omega) hw hx hok hd)
  have HC := Lib.hid (fun W (h : Below w.heap.size w W) => callsIn_wide.1 (firstCases_in b off c l k ws W (Nat.lt_of_lt_of_le hb1 h.size) (hc1.below h hb1) hw h80 hx2.1 hx2.2.1))
  obtain ⟨kl, hkl⟩ := keyD_mk x hx
  simp only [World.size_alloc] at F0
  unfold B8 at hl hk
  cases hq : fcQ ws (upC k true ws.length) (wordV x) with
  | none =>
    obtain ⟨e1, e2⟩ := de_none hok hd hq
    rw [e1, e2]
    have HL := Lib.hid (fun W mb n (h : MapAt Try.prog 30 W mb n (fcF ws (upC k true ws.length))) => (show (Instr.lookup 77 (.map (some mb)) (wordV x) true).run Try.prog W = .ok (.tuple #[caseV 0 false, .bool false]) W from by
      rw [h.look_ok keyD Try.underlying77 (zeroCs W) hkl]; unfold fcF; rw [hq]; rfl))
    clear e1 e2 hok hd hw hc1 hx hx2 hkl hq
    obtain ⟨c0, c1, c2, c3⟩ := (F0.blk _ (List.mem_cons_of_mem _ (List.mem_cons_of_mem _ List.mem_cons_self))).three
    obtain ⟨x0, x1, x2, x3, x4⟩ := (F0.blk _ (List.mem_cons_of_mem _ List.mem_cons_self)).four
    generalize ws.length = m at *
    go_enter Try.func18, Try.ntmps18
    go_wp2_with fail
    refine HO.out.mono ?_
    rintro e w2 ⟨rfl, hb⟩
    have F1 := (F0.next hb).box (opC (some ⟨b, off, none⟩) m c l k) 66
    clear hb c0 c1 c2 c3 x0 x1 x2 x3 x4 HO F0
    go_upto_region 4 with fail
    generalize hgg : w2.alloc (.cells (opC (some ⟨b, off, none⟩) m c l k) 66) = w4 at *
    clear hgg
    have keepS : ∀ L W', FR w L W' → (∀ q ∈ ([(w2.heap.size, opC (some ⟨b, off, none⟩) m c l k, 66), (w.heap.size + 1 + 1, #[.int .i8 0, .bool false], 37), (w.heap.size + 1, wordC x, 30), (w.heap.size, #[.int .i8 l, .int .i8 k, .slice (some ⟨b, off, none⟩) m c], 35)] : List (Nat × Array Value × TypeId)), q ∈ L) → (W'.cell? ⟨w2.heap.size, 0, none⟩ = some (.slice (some ⟨b, off, none⟩) m c) ∧ W'.cell? ⟨w2.heap.size, 1, none⟩ = some (.int .i64 l) ∧ W'.cell? ⟨w2.heap.size, 2, none⟩ = some (.int .i8 (m : Int)) ∧ W'.cell? ⟨w2.heap.size, 3, none⟩ = some (.int .i8 k) ∧ W'.cell? ⟨w2.heap.size, 4, none⟩ = some (.bool true) ∧ W'.cell? ⟨w2.heap.size, 5, none⟩ = some (.bool false) ∧ W'.cell? ⟨w.heap.size + 1, 0, none⟩ = some (.int .i8 (x 0)) ∧ W'.cell? ⟨w.heap.size + 1, 1, none⟩ = some (.int .i8 (x 1)) ∧ W'.cell? ⟨w.heap.size + 1, 2, none⟩ = some (.int .i8 (x 2)) ∧ W'.cell? ⟨w.heap.size + 1, 3, none⟩ = some (.int .i8 (x 3))) := by
      intro L W' h hs
      exact ten6 (h.blk _ (hs _ List.mem_cons_self)) (h.blk _ (hs _ (List.mem_cons_of_mem _ (List.mem_cons_of_mem _ List.mem_cons_self))))
    go_cut [8, 9] (fun s1 s2 wx => ∃ Bq, s1 = .pointer (some ⟨Bq, 0, none⟩) ∧ s2 = .bool false ∧ FR w ((Bq, #[.int .i8 0, .bool false], 37) :: [(w2.heap.size, opC (some ⟨b, off, none⟩) m c l k, 66), (w.heap.size + 1 + 1, #[.int .i8 0, .bool false], 37), (w.heap.size + 1, wordC x, 30), (w.heap.size, #[.int .i8 l, .int .i8 k, .slice (some ⟨b, off, none⟩) m c], 35)]) wx)
    case first =>
      go_region_held3 (fun W' => W'.cell? ⟨w2.heap.size, 0, none⟩ = some (.slice (some ⟨b, off, none⟩) m c) ∧ W'.cell? ⟨w2.heap.size, 1, none⟩ = some (.int .i64 l) ∧ W'.cell? ⟨w2.heap.size, 2, none⟩ = some (.int .i8 (m : Int)) ∧ W'.cell? ⟨w2.heap.size, 3, none⟩ = some (.int .i8 k) ∧ W'.cell? ⟨w2.heap.size, 4, none⟩ = some (.bool true) ∧ W'.cell? ⟨w2.heap.size, 5, none⟩ = some (.bool false) ∧ W'.cell? ⟨w.heap.size + 1, 0, none⟩ = some (.int .i8 (x 0)) ∧ W'.cell? ⟨w.heap.size + 1, 1, none⟩ = some (.int .i8 (x 1)) ∧ W'.cell? ⟨w.heap.size + 1, 2, none⟩ = some (.int .i8 (x 2)) ∧ W'.cell? ⟨w.heap.size + 1, 3, none⟩ = some (.int .i8 (x 3)))
        (exact keepS _ _ (by first | assumption | exact FR.drew (by assumption) | exact FR.drew (FR.box (by assumption) _ _) | exact FR.drew (FR.st2 (by assumption)) | exact FR.box (by first | assumption | exact FR.drew (by assumption)) _ _ | exact FR.st2 (by assumption)) (by first | exact fun _ h => h | exact fun _ h => List.mem_cons_of_mem _ h))
        (first
          | (go_at_call 39; with_reducible refine (firstCases_fr (by first | assumption | exact FR.drew (by assumption) | exact FR.drew (FR.box (by assumption) _ _) | exact FR.drew (FR.st2 (by assumption)) | exact FR.box (by first | assumption | exact FR.drew (by assumption)) _ _ | exact FR.st2 (by assumption)) HC.out).mono ?_; rintro e w' ⟨mb, n, rfl, hM, F2⟩; have lk1 := HL.out _ mb n hM; have lk2 := HL.out _ mb n (hM.alloc (.cells #[.int .i8 0, .bool false] 37)); try (obtain ⟨zz0, zz1, zz2⟩ := (F2.blk _ List.mem_cons_self).two)))
      all_goals (go_wp2_with fail; go_meet; exact ⟨_, rfl, rfl, (by first | assumption | exact FR.drew (by assumption) | exact FR.drew (FR.box (by assumption) _ _) | exact FR.drew (FR.st2 (by assumption)) | exact FR.box (by first | assumption | exact FR.drew (by assumption)) _ _ | exact FR.st2 (by assumption))⟩)
    case rest =>
    obtain ⟨Bq, rfl, rfl, F3⟩ := hcut
    clear keepS F1
    obtain ⟨f0, f1, f2⟩ := (F3.blk _ (List.mem_cons_of_mem _ (List.mem_cons_of_mem _ List.mem_cons_self))).two
    dsimp only at f0 f1 f2
    have HB := Lib.hid F3.below
    clear F3
    go_wp2
    exact bodyPost_ret (v := .tuple #[caseV 0 false, .int .i64 6]) (by simp [results, Try.results18, go_sem, f0, f1]) rfl ⟨rfl, by repeat (first | exact HB.out | refine Below.setCell ?_ (by simp <;> omega) _)⟩
  | some q =>
    obtain ⟨e1, e2⟩ := de_some hok hd hq
    rw [e1, e2]
    have HL := Lib.hid (fun W mb n (h : MapAt Try.prog 30 W mb n (fcF ws (upC k true ws.length))) => (show (Instr.lookup 77 (.map (some mb)) (wordV x) true).run Try.prog W = .ok (.tuple #[caseV q.1 q.2, .bool true]) W from by
      rw [h.look_ok keyD Try.underlying77 (zeroCs W) hkl]; unfold fcF; rw [hq]; rfl))
    clear e1 e2 hok hd hw hc1 hx hx2 hkl hq
    obtain ⟨c0, c1, c2, c3⟩ := (F0.blk _ (List.mem_cons_of_mem _ (List.mem_cons_of_mem _ List.mem_cons_self))).three
    obtain ⟨x0, x1, x2, x3, x4⟩ := (F0.blk _ (List.mem_cons_of_mem _ List.mem_cons_self)).four
    generalize ws.length = m at *
    go_enter Try.func18, Try.ntmps18
    go_wp2_with fail
    refine HO.out.mono ?_
    rintro e w2 ⟨rfl, hb⟩
    have F1 := (F0.next hb).box (opC (some ⟨b, off, none⟩) m c l k) 66
    clear hb c0 c1 c2 c3 x0 x1 x2 x3 x4 HO F0
    go_upto_region 4 with fail
    generalize hgg : w2.alloc (.cells (opC (some ⟨b, off, none⟩) m c l k) 66) = w4 at *
    clear hgg
    have keepS : ∀ L W', FR w L W' → (∀ q ∈ ([(w2.heap.size, opC (some ⟨b, off, none⟩) m c l k, 66), (w.heap.size + 1 + 1, #[.int .i8 0, .bool false], 37), (w.heap.size + 1, wordC x, 30), (w.heap.size, #[.int .i8 l, .int .i8 k, .slice (some ⟨b, off, none⟩) m c], 35)] : List (Nat × Array Value × TypeId)), q ∈ L) → (W'.cell? ⟨w2.heap.size, 0, none⟩ = some (.slice (some ⟨b, off, none⟩) m c) ∧ W'.cell? ⟨w2.heap.size, 1, none⟩ = some (.int .i64 l) ∧ W'.cell? ⟨w2.heap.size, 2, none⟩ = some (.int .i8 (m : Int)) ∧ W'.cell? ⟨w2.heap.size, 3, none⟩ = some (.int .i8 k) ∧ W'.cell? ⟨w2.heap.size, 4, none⟩ = some (.bool true) ∧ W'.cell? ⟨w2.heap.size, 5, none⟩ = some (.bool false) ∧ W'.cell? ⟨w.heap.size + 1, 0, none⟩ = some (.int .i8 (x 0)) ∧ W'.cell? ⟨w.heap.size + 1, 1, none⟩ = some (.int .i8 (x 1)) ∧ W'.cell? ⟨w.heap.size + 1, 2, none⟩ = some (.int .i8 (x 2)) ∧ W'.cell? ⟨w.heap.size + 1, 3, none⟩ = some (.int .i8 (x 3))) := by
      intro L W' h hs
      exact ten6 (h.blk _ (hs _ List.mem_cons_self)) (h.blk _ (hs _ (List.mem_cons_of_mem _ (List.mem_cons_of_mem _ List.mem_cons_self))))
    go_cut [8, 9] (fun s1 s2 wx => ∃ Bq, s1 = .pointer (some ⟨Bq, 0, none⟩) ∧ s2 = .bool true ∧ FR w ((Bq, #[.int .i8 q.1, .bool q.2], 37) :: [(w2.heap.size, opC (some ⟨b, off, none⟩) m c l k, 66), (w.heap.size + 1 + 1, #[.int .i8 0, .bool false], 37), (w.heap.size + 1, wordC x, 30), (w.heap.size, #[.int .i8 l, .int .i8 k, .slice (some ⟨b, off, none⟩) m c], 35)]) wx)
    case first =>
      go_region_held3 (fun W' => W'.cell? ⟨w2.heap.size, 0, none⟩ = some (.slice (some ⟨b, off, none⟩) m c) ∧ W'.cell? ⟨w2.heap.size, 1, none⟩ = some (.int .i64 l) ∧ W'.cell? ⟨w2.heap.size, 2, none⟩ = some (.int .i8 (m : Int)) ∧ W'.cell? ⟨w2.heap.size, 3, none⟩ = some (.int .i8 k) ∧ W'.cell? ⟨w2.heap.size, 4, none⟩ = some (.bool true) ∧ W'.cell? ⟨w2.heap.size, 5, none⟩ = some (.bool false) ∧ W'.cell? ⟨w.heap.size + 1, 0, none⟩ = some (.int .i8 (x 0)) ∧ W'.cell? ⟨w.heap.size + 1, 1, none⟩ = some (.int .i8 (x 1)) ∧ W'.cell? ⟨w.heap.size + 1, 2, none⟩ = some (.int .i8 (x 2)) ∧ W'.cell? ⟨w.heap.size + 1, 3, none⟩ = some (.int .i8 (x 3)))
        (exact keepS _ _ (by first | assumption | exact FR.drew (by assumption) | exact FR.drew (FR.box (by assumption) _ _) | exact FR.drew (FR.st2 (by assumption)) | exact FR.box (by first | assumption | exact FR.drew (by assumption)) _ _ | exact FR.st2 (by assumption)) (by first | exact fun _ h => h | exact fun _ h => List.mem_cons_of_mem _ h))
        (first
          | (go_at_call 39; with_reducible refine (firstCases_fr (by first | assumption | exact FR.drew (by assumption) | exact FR.drew (FR.box (by assumption) _ _) | exact FR.drew (FR.st2 (by assumption)) | exact FR.box (by first | assumption | exact FR.drew (by assumption)) _ _ | exact FR.st2 (by assumption)) HC.out).mono ?_; rintro e w' ⟨mb, n, rfl, hM, F2⟩; have lk1 := HL.out _ mb n hM; have lk2 := HL.out _ mb n (hM.alloc (.cells #[.int .i8 0, .bool false] 37)); try (obtain ⟨zz0, zz1, zz2⟩ := (F2.blk _ List.mem_cons_self).two)))
      all_goals (go_wp2_with fail; go_meet; exact ⟨_, rfl, rfl, (by first | assumption | exact FR.drew (by assumption) | exact FR.drew (FR.box (by assumption) _ _) | exact FR.drew (FR.st2 (by assumption)) | exact FR.box (by first | assumption | exact FR.drew (by assumption)) _ _ | exact FR.st2 (by assumption))⟩)
    case rest =>
    obtain ⟨Bq, rfl, rfl, F3⟩ := hcut
    clear keepS F1
    obtain ⟨f0, f1, f2⟩ := (F3.blk _ (List.mem_cons_of_mem _ (List.mem_cons_of_mem _ List.mem_cons_self))).two
    obtain ⟨g0, g1, g2⟩ := (F3.blk _ List.mem_cons_self).two
    have hlt : w.heap.size + 1 + 1 < Bq := (F3.top _ _ rfl).2 (w.heap.size + 1 + 1, #[.int .i8 0, .bool false], 37) (by simp)
    dsimp only at f0 f1 f2 g0 g1 g2
    have HB := Lib.hid F3.below
    clear F3
    go_wp2
    exact bodyPost_ret (v := .tuple #[caseV q.1 q.2, .int .i64 0]) (by simp [results, Try.results18, go_sem, f0, f1]) rfl ⟨rfl, by repeat (first | exact HB.out | refine Below.setCell ?_ (by simp <;> omega) _)⟩
theorem decode_any (l k : Int) (a : Option Addr) (c : Nat) (ws : List Wf) (x : Nat → Int) (w : World) (hs : Slw w.heap.size w a ws) (hl : B8 l) (hk : B8 k) (hn : ws.length ≤ 1048576) (hw : Wall ws) (hx : W4 x) :
    Calls Try.prog 18 #[fixV l k a ws.length c, wordV x] w fun e w' => e = .returned (.tuple #[caseV (deV l k ws x).1 (deV l k ws x).2, .int .i64 (deC l k ws x)]) ∧ Below w.heap.size w w' := by
  cases hok : okX l k ws
  · rw [(de_no (.inl hok)).1, (de_no (.inl hok)).2]
    exact decode_no l k a c ws x w hs hl hk hn hw hx (.inl hok)
  cases hd : okD l x
  · rw [(de_no (.inr hd)).1, (de_no (.inr hd)).2]
    exact decode_no l k a c ws x w hs hl hk hn hw hx (.inr hd)
  obtain ⟨b, off, rfl, hb1, hc1⟩ := own_of hs (Below.refl _ _) (okX_t hok).2.2.1.1
  exact decode_in l k b off c ws x w hb1 hc1 hl hk hw hx hok hd
end Go.Proofs.Ytnleblnikcoaiaa
