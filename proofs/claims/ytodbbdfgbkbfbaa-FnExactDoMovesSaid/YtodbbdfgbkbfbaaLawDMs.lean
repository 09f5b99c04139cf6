/-
  The walk of the law of DoMove.
-/
import Derived.Test.YtodbbdfgbkbfbaaMvLaw
import Derived.Test.YtodbbdfgbkbfbaaDoMoves
import Derived.Deep.DeepCutAuto
namespace Go.Proofs.Ytodbbdfgbkbfbaa
open Go.RowKit

/-- A contract over a puzzle that was copied, in a frame. -/
theorem toMoveS_frx {w0 W : World} {L : List (Nat × Array Value × TypeId)} {R : List (Nat × List Int)} (h : FR w0 L R W) (a : Option Addr) (ms : List Mv) (c : Nat) (hn : ms.length ≤ 1048576) (hs : Slm w0.heap.size w0 a ms) :
    Calls Try.prog 16 #[.slice a ms.length c] W fun e w' => ∃ g, e = .returned (.slice (some ⟨g, 0, none⟩) ms.length ms.length) ∧ FR w0 L R w' ∧ Blk w' g (mcells ms) 38 := by
  refine (toMoveS_any w0.heap.size a c ms W hn h.size (hs.below h.below)).mono ?_
  rintro e w' ⟨g, rfl, hg, hk, hb⟩
  exact ⟨g, rfl, h.next hb, hk⟩
theorem szMoveS_fr {w0 W : World} {L : List (Nat × Array Value × TypeId)} {R : List (Nat × List Int)} (h : FR w0 L R W) (a : Option Addr) (n c : Nat) (l : Int) (hl : 0 ≤ l ∧ l ≤ 1048576) (hn : n ≤ 9223372036854775807) :
    Calls Try.prog 14 #[.slice a n c, .int .i64 l] W fun e w' => e = .returned (.int .i64 (if l < n then -1 else l - (n : Int))) ∧ FR w0 L R w' := by
  refine (szMoveS_any a n c l W hl hn).mono ?_
  rintro e w' ⟨rfl, rfl⟩
  exact ⟨rfl, h⟩
theorem Calls.frow2 {P : Program} {f : FuncId} {args : Array Value} {w0 W : World} {v : Ending} {L : List (Nat × Array Value × TypeId)} {R : List (Nat × List Int)} {g g2 : Nat} {xs : List Int} {ms : List Mv} (h : FR w0 L R W) (hm : (g, xs) ∈ R) (hk : Blk W g2 (mcells ms) 38)
    (hc : g < W.heap.size → At .i16 W g 0 xs → g2 < W.heap.size → MAt W g2 0 ms → Calls P f args W fun e w' => e = v ∧ Below W.heap.size W w') : Calls P f args W fun e w' => e = v ∧ FR w0 L R w' :=
  Calls.fr h (hc (h.row _ hm).lt (h.row _ hm).at hk.lt hk.moves)
theorem Calls.frow3 {P : Program} {f : FuncId} {args : Array Value} {w0 W : World} {v : Ending} {L : List (Nat × Array Value × TypeId)} {R : List (Nat × List Int)} {g g2 : Nat} {xs : List Int} {ms : List Mv} (h : FR w0 L R W) (hm : (g, xs) ∈ R) (hk : (g2, mcells ms, 38) ∈ L)
    (hc : g < W.heap.size → At .i16 W g 0 xs → g2 < W.heap.size → MAt W g2 0 ms → Calls P f args W fun e w' => e = v ∧ Below W.heap.size W w') : Calls P f args W fun e w' => e = v ∧ FR w0 L R w' :=
  Calls.fr h (hc (h.row _ hm).lt (h.row _ hm).at (h.blk _ hk).lt (h.blk _ hk).moves)
theorem Calls.frow {P : Program} {f : FuncId} {args : Array Value} {w0 W : World} {v : Ending} {L : List (Nat × Array Value × TypeId)} {R : List (Nat × List Int)} {g : Nat} {xs : List Int} (h : FR w0 L R W) (hm : (g, xs) ∈ R)
    (hc : g < W.heap.size → At .i16 W g 0 xs → Calls P f args W fun e w' => e = v ∧ Below W.heap.size W w') : Calls P f args W fun e w' => e = v ∧ FR w0 L R w' :=
  Calls.fr h (hc (h.row _ hm).lt (h.row _ hm).at)
set_option maxRecDepth 100000 in
set_option maxHeartbeats 40000000 in
theorem walk_FnExactDoMoves (a0 : Option Addr) (c0 : Nat) (xs0 : List Int) (x0 : Nat → Int) (t0 : Bool) (x1 : Nat → Int) (a2 : Option Addr) (c2 : Nat) (ms2 : List Mv) (w : World) (m0 : xs0.length ≤ 9223372036854775807) (s0 : Sl .i16 w.heap.size w a0 xs0) (g0 : I16 xs0) (m2 : ms2.length ≤ 9223372036854775807) (s2 : Slm w.heap.size w a2 ms2) (g2 : Mall ms2) :
    Calls Try.prog 4 #[puzV a0 xs0.length c0 x0 t0, watV x1, .slice a2 ms2.length c2] w fun e w' => e = .returned (.bool true) ∧ Below w.heap.size w w' := by
  have F0 := ((FR.start w).box #[.slice a0 xs0.length c0, .int .i16 (x0 0), .int .i16 (x0 1), .int .i16 (x0 2), .int .i16 (x0 3), .bool t0] 26).box #[.int .i16 (x1 0), .int .i16 (x1 1), .int .i16 (x1 2), .int .i16 (x1 3)] 24
  simp only [World.size_alloc] at F0
  have HS0 := Lib.hid s0
  have HS2 := Lib.hid s2
  clear s0 s2
  by_cases l0 : 1048576 < xs0.length
  · have HZ := Lib.hid (szPuzzle_fr F0 a0 xs0.length c0 x0 t0 m0)
    simp only [if_pos l0] at HZ
    clear F0 l0
    go_enter Try.func4, Try.ntmps4
    go_wp2_with fail
    refine HZ.out.mono ?_
    rintro e w1 ⟨rfl, F1⟩
    go_wp2
    go_ret
    exact ⟨rfl, F1.below⟩
  have hn0 : xs0.length ≤ 1048576 := by omega
  have hz0 : (xs0.length : Int) ≤ 1048576 := by omega
  have HZ := Lib.hid (szPuzzle_fr F0 a0 xs0.length c0 x0 t0 m0)
  simp only [if_neg l0] at HZ
  clear F0 l0
  go_enter Try.func4, Try.ntmps4
  have hlx : 0 ≤ 1048576 - (xs0.length : Int) ∧ 1048576 - (xs0.length : Int) ≤ 1048576 := by omega
  go_wp2_with fail
  refine HZ.out.mono ?_
  rintro e w1 ⟨rfl, F1⟩
  clear HZ
  by_cases l2 : 1048576 - (xs0.length : Int) < (ms2.length : Int)
  · have HZ2 := Lib.hid (szMoveS_fr F1 a2 ms2.length c2 _ hlx m2)
    simp only [if_pos l2] at HZ2
    clear F1 l2
    go_wp2_with fail
    refine HZ2.out.mono ?_
    rintro e w1b ⟨rfl, F2⟩
    go_wp2
    go_ret
    exact ⟨rfl, F2.below⟩
  have hn2 : ms2.length ≤ 1048576 := by omega
  have hz2 : 0 ≤ 1048576 - (xs0.length : Int) - (ms2.length : Int) := by omega
  have HZ2 := Lib.hid (szMoveS_fr F1 a2 ms2.length c2 _ hlx m2)
  simp only [if_neg l2] at HZ2
  clear F1 l2
  go_wp2_with fail
  refine HZ2.out.mono ?_
  rintro e w2 ⟨rfl, F1⟩
  clear HZ2
  go_upto_region 8 with fail
  have keepS : ∀ L R W', FR w L R W' → (∀ q ∈ ([(w.heap.size + 1, #[.int .i16 (x1 0), .int .i16 (x1 1), .int .i16 (x1 2), .int .i16 (x1 3)], 24), (w.heap.size, #[.slice a0 xs0.length c0, .int .i16 (x0 0), .int .i16 (x0 1), .int .i16 (x0 2), .int .i16 (x0 3), .bool t0], 26)] : List (Nat × Array Value × TypeId)), q ∈ L) → (W'.cell? ⟨w.heap.size, 0, none⟩ = some (.slice a0 xs0.length c0) ∧ W'.cell? ⟨w.heap.size, 1, none⟩ = some (.int .i16 (x0 0)) ∧ W'.cell? ⟨w.heap.size, 2, none⟩ = some (.int .i16 (x0 1)) ∧ W'.cell? ⟨w.heap.size, 3, none⟩ = some (.int .i16 (x0 2)) ∧ W'.cell? ⟨w.heap.size, 4, none⟩ = some (.int .i16 (x0 3)) ∧ W'.cell? ⟨w.heap.size, 5, none⟩ = some (.bool t0) ∧ W'.cell? ⟨w.heap.size + 1, 0, none⟩ = some (.int .i16 (x1 0)) ∧ W'.cell? ⟨w.heap.size + 1, 1, none⟩ = some (.int .i16 (x1 1)) ∧ W'.cell? ⟨w.heap.size + 1, 2, none⟩ = some (.int .i16 (x1 2)) ∧ W'.cell? ⟨w.heap.size + 1, 3, none⟩ = some (.int .i16 (x1 3))) := by
    intro L R W' h hs
    exact ⟨(h.blk _ (hs _ (List.mem_cons_of_mem _ (List.mem_cons_self)))).cell 0, (h.blk _ (hs _ (List.mem_cons_of_mem _ (List.mem_cons_self)))).cell 1, (h.blk _ (hs _ (List.mem_cons_of_mem _ (List.mem_cons_self)))).cell 2, (h.blk _ (hs _ (List.mem_cons_of_mem _ (List.mem_cons_self)))).cell 3, (h.blk _ (hs _ (List.mem_cons_of_mem _ (List.mem_cons_self)))).cell 4, (h.blk _ (hs _ (List.mem_cons_of_mem _ (List.mem_cons_self)))).cell 5, (h.blk _ (hs _ (List.mem_cons_self))).cell 0, (h.blk _ (hs _ (List.mem_cons_self))).cell 1, (h.blk _ (hs _ (List.mem_cons_self))).cell 2, (h.blk _ (hs _ (List.mem_cons_self))).cell 3⟩
  go_cut [8, 9] (fun s1 s2 wx => ∃ Bq, s1 = .pointer (some ⟨Bq, 0, none⟩) ∧ s2 = .int .i64 ((dsR xs0 x0 x1 t0 ms2).2) ∧ FR w ((Bq, #[.int .i16 ((dsR xs0 x0 x1 t0 ms2).1 0), .int .i16 ((dsR xs0 x0 x1 t0 ms2).1 1), .int .i16 ((dsR xs0 x0 x1 t0 ms2).1 2), .int .i16 ((dsR xs0 x0 x1 t0 ms2).1 3)], 31) :: [(w.heap.size + 1, #[.int .i16 (x1 0), .int .i16 (x1 1), .int .i16 (x1 2), .int .i16 (x1 3)], 24), (w.heap.size, #[.slice a0 xs0.length c0, .int .i16 (x0 0), .int .i16 (x0 1), .int .i16 (x0 2), .int .i16 (x0 3), .bool t0], 26)]) [] wx)
  case first =>
    go_region_held3 (fun W' => W'.cell? ⟨w.heap.size, 0, none⟩ = some (.slice a0 xs0.length c0) ∧ W'.cell? ⟨w.heap.size, 1, none⟩ = some (.int .i16 (x0 0)) ∧ W'.cell? ⟨w.heap.size, 2, none⟩ = some (.int .i16 (x0 1)) ∧ W'.cell? ⟨w.heap.size, 3, none⟩ = some (.int .i16 (x0 2)) ∧ W'.cell? ⟨w.heap.size, 4, none⟩ = some (.int .i16 (x0 3)) ∧ W'.cell? ⟨w.heap.size, 5, none⟩ = some (.bool t0) ∧ W'.cell? ⟨w.heap.size + 1, 0, none⟩ = some (.int .i16 (x1 0)) ∧ W'.cell? ⟨w.heap.size + 1, 1, none⟩ = some (.int .i16 (x1 1)) ∧ W'.cell? ⟨w.heap.size + 1, 2, none⟩ = some (.int .i16 (x1 2)) ∧ W'.cell? ⟨w.heap.size + 1, 3, none⟩ = some (.int .i16 (x1 3)))
      (exact keepS _ _ _ (by first | assumption | exact FR.drew (by assumption) | exact FR.drew (FR.box (by assumption) _ _) | exact FR.drew (FR.setTop4 (by assumption)) | exact FR.box (by first | assumption | exact FR.drew (by assumption)) _ _ | exact FR.setTop4 (by assumption)) (by first | exact fun _ h => h | exact fun _ h => List.mem_cons_of_mem _ h))
      (first
        | (go_at_call 8; with_reducible refine (toPuzzle_fr (by first | assumption | exact FR.drew (by assumption) | exact FR.drew (FR.box (by assumption) _ _) | exact FR.drew (FR.setTop4 (by assumption)) | exact FR.box (by first | assumption | exact FR.drew (by assumption)) _ _ | exact FR.setTop4 (by assumption)) a0 xs0 c0 x0 t0 hn0 HS0.out).mono ?_; rintro e w' ⟨r0, rfl, F2⟩)
        | (go_at_call 9; with_reducible refine (toWater_fr (by first | assumption | exact FR.drew (by assumption) | exact FR.drew (FR.box (by assumption) _ _) | exact FR.drew (FR.setTop4 (by assumption)) | exact FR.box (by first | assumption | exact FR.drew (by assumption)) _ _ | exact FR.setTop4 (by assumption)) x1).mono ?_; rintro e w' ⟨rfl, F3⟩)
        | (go_at_call 16; with_reducible refine (toMoveS_frx (by first | assumption | exact FR.drew (by assumption) | exact FR.drew (FR.box (by assumption) _ _) | exact FR.drew (FR.setTop4 (by assumption)) | exact FR.box (by first | assumption | exact FR.drew (by assumption)) _ _ | exact FR.setTop4 (by assumption)) a2 ms2 c2 hn2 HS2.out).mono ?_; rintro e w' ⟨gm, rfl, F4, K4⟩)
        | (go_at_call 15; with_reducible refine (Calls.frow2 (by first | assumption | exact FR.drew (by assumption) | exact FR.drew (FR.box (by assumption) _ _) | exact FR.drew (FR.setTop4 (by assumption)) | exact FR.box (by first | assumption | exact FR.drew (by assumption)) _ _ | exact FR.setTop4 (by assumption)) List.mem_cons_self (by first | assumption | exact Blk.alloc (by assumption) _) (fun h1 h2 h3 h4 => specDoMoves_any _ 0 _ xs0 x0 x1 t0 _ 0 _ ms2 _ hn0 h1 h2 hn2 h3 h4 g2)).mono ?_; rintro e w' ⟨rfl, F5⟩; try (obtain ⟨zz0, zz1, zz2, zz3, zz4⟩ := (F5.blk _ List.mem_cons_self).four)))
    all_goals (go_wp2_with fail; go_meet; exact ⟨_, rfl, rfl, FR.none (by first | assumption | exact FR.drew (by assumption) | exact FR.drew (FR.box (by assumption) _ _) | exact FR.drew (FR.setTop4 (by assumption)) | exact FR.box (by first | assumption | exact FR.drew (by assumption)) _ _ | exact FR.setTop4 (by assumption))⟩)
  case rest =>
  obtain ⟨B, rfl, rfl, F2⟩ := hcut
  clear F1 keepS
  obtain ⟨y0_0, y0_1, y0_2, y0_3, y0_4, y0_5, -⟩ := (F2.blk _ (List.mem_cons_of_mem _ (List.mem_cons_of_mem _ (List.mem_cons_self)))).six
  go_wp2_with fail
  refine (toPuzzle_fr F2 a0 xs0 c0 x0 t0 hn0 HS0.out).mono ?_
  rintro e w3 ⟨z0, rfl, F3⟩
  clear y0_0 y0_1 y0_2 y0_3 y0_4 y0_5 F2
  have hz3 := (F3.row _ List.mem_cons_self).lt
  have F4 := F3.box #[.slice (some ⟨z0, 0, none⟩) xs0.length xs0.length, .int .i16 (x0 0), .int .i16 (x0 1), .int .i16 (x0 2), .int .i16 (x0 3), .bool t0] 35
  clear F3
  go_wp2_with fail
  refine (toMoveS_fr F4 a2 ms2 c2 hn2 HS2.out).mono ?_
  rintro e w4 ⟨gx, rfl, F5⟩
  clear F4
  have hz7 : ∀ p ∈ [(z0, xs0)], p ∈ [(z0, xs0)] ∧ ∃ q ∈ ([(gx, mcells ms2, 38), (w3.heap.size, #[.slice (some ⟨z0, 0, none⟩) xs0.length xs0.length, .int .i16 (x0 0), .int .i16 (x0 1), .int .i16 (x0 2), .int .i16 (x0 3), .bool t0], 35), (B, #[.int .i16 ((dsR xs0 x0 x1 t0 ms2).1 0), .int .i16 ((dsR xs0 x0 x1 t0 ms2).1 1), .int .i16 ((dsR xs0 x0 x1 t0 ms2).1 2), .int .i16 ((dsR xs0 x0 x1 t0 ms2).1 3)], 31), (w.heap.size + 1, #[.int .i16 (x1 0), .int .i16 (x1 1), .int .i16 (x1 2), .int .i16 (x1 3)], 24), (w.heap.size, #[.slice a0 xs0.length c0, .int .i16 (x0 0), .int .i16 (x0 1), .int .i16 (x0 2), .int .i16 (x0 3), .bool t0], 26)] : List (Nat × Array Value × TypeId)), p.1 < q.1 := fun p hp => ⟨hp, _, List.mem_cons_of_mem _ List.mem_cons_self, by cases hp with | head => exact hz3 | tail _ h => cases h⟩
  go_upto_region 11 with fail
  have keepS : ∀ L R W', FR w L R W' → (∀ q ∈ ([(gx, mcells ms2, 38), (w3.heap.size, #[.slice (some ⟨z0, 0, none⟩) xs0.length xs0.length, .int .i16 (x0 0), .int .i16 (x0 1), .int .i16 (x0 2), .int .i16 (x0 3), .bool t0], 35), (B, #[.int .i16 ((dsR xs0 x0 x1 t0 ms2).1 0), .int .i16 ((dsR xs0 x0 x1 t0 ms2).1 1), .int .i16 ((dsR xs0 x0 x1 t0 ms2).1 2), .int .i16 ((dsR xs0 x0 x1 t0 ms2).1 3)], 31), (w.heap.size + 1, #[.int .i16 (x1 0), .int .i16 (x1 1), .int .i16 (x1 2), .int .i16 (x1 3)], 24), (w.heap.size, #[.slice a0 xs0.length c0, .int .i16 (x0 0), .int .i16 (x0 1), .int .i16 (x0 2), .int .i16 (x0 3), .bool t0], 26)] : List (Nat × Array Value × TypeId)), q ∈ L) → (W'.cell? ⟨w3.heap.size, 0, none⟩ = some (.slice (some ⟨z0, 0, none⟩) xs0.length xs0.length) ∧ W'.cell? ⟨w3.heap.size, 1, none⟩ = some (.int .i16 (x0 0)) ∧ W'.cell? ⟨w3.heap.size, 2, none⟩ = some (.int .i16 (x0 1)) ∧ W'.cell? ⟨w3.heap.size, 3, none⟩ = some (.int .i16 (x0 2)) ∧ W'.cell? ⟨w3.heap.size, 4, none⟩ = some (.int .i16 (x0 3)) ∧ W'.cell? ⟨w3.heap.size, 5, none⟩ = some (.bool t0) ∧ W'.cell? ⟨w.heap.size + 1, 0, none⟩ = some (.int .i16 (x1 0)) ∧ W'.cell? ⟨w.heap.size + 1, 1, none⟩ = some (.int .i16 (x1 1)) ∧ W'.cell? ⟨w.heap.size + 1, 2, none⟩ = some (.int .i16 (x1 2)) ∧ W'.cell? ⟨w.heap.size + 1, 3, none⟩ = some (.int .i16 (x1 3))) := by
    intro L R W' h hs
    exact ⟨(h.blk _ (hs _ (List.mem_cons_of_mem _ (List.mem_cons_self)))).cell 0, (h.blk _ (hs _ (List.mem_cons_of_mem _ (List.mem_cons_self)))).cell 1, (h.blk _ (hs _ (List.mem_cons_of_mem _ (List.mem_cons_self)))).cell 2, (h.blk _ (hs _ (List.mem_cons_of_mem _ (List.mem_cons_self)))).cell 3, (h.blk _ (hs _ (List.mem_cons_of_mem _ (List.mem_cons_self)))).cell 4, (h.blk _ (hs _ (List.mem_cons_of_mem _ (List.mem_cons_self)))).cell 5, (h.blk _ (hs _ (List.mem_cons_of_mem _ (List.mem_cons_of_mem _ (List.mem_cons_of_mem _ (List.mem_cons_self)))))).cell 0, (h.blk _ (hs _ (List.mem_cons_of_mem _ (List.mem_cons_of_mem _ (List.mem_cons_of_mem _ (List.mem_cons_self)))))).cell 1, (h.blk _ (hs _ (List.mem_cons_of_mem _ (List.mem_cons_of_mem _ (List.mem_cons_of_mem _ (List.mem_cons_self)))))).cell 2, (h.blk _ (hs _ (List.mem_cons_of_mem _ (List.mem_cons_of_mem _ (List.mem_cons_of_mem _ (List.mem_cons_self)))))).cell 3⟩
  go_cut [12, 13] (fun s1 s2 wx => ∃ Bq, s1 = .pointer (some ⟨Bq, 0, none⟩) ∧ s2 = .int .i64 ((dsR xs0 x0 x1 t0 ms2).2) ∧ FR w ((Bq, #[.int .i16 ((dsR xs0 x0 x1 t0 ms2).1 0), .int .i16 ((dsR xs0 x0 x1 t0 ms2).1 1), .int .i16 ((dsR xs0 x0 x1 t0 ms2).1 2), .int .i16 ((dsR xs0 x0 x1 t0 ms2).1 3)], 31) :: [(gx, mcells ms2, 38), (w3.heap.size, #[.slice (some ⟨z0, 0, none⟩) xs0.length xs0.length, .int .i16 (x0 0), .int .i16 (x0 1), .int .i16 (x0 2), .int .i16 (x0 3), .bool t0], 35), (B, #[.int .i16 ((dsR xs0 x0 x1 t0 ms2).1 0), .int .i16 ((dsR xs0 x0 x1 t0 ms2).1 1), .int .i16 ((dsR xs0 x0 x1 t0 ms2).1 2), .int .i16 ((dsR xs0 x0 x1 t0 ms2).1 3)], 31), (w.heap.size + 1, #[.int .i16 (x1 0), .int .i16 (x1 1), .int .i16 (x1 2), .int .i16 (x1 3)], 24), (w.heap.size, #[.slice a0 xs0.length c0, .int .i16 (x0 0), .int .i16 (x0 1), .int .i16 (x0 2), .int .i16 (x0 3), .bool t0], 26)]) [(z0, xs0)] wx)
  case first =>
    go_region_held3 (fun W' => W'.cell? ⟨w3.heap.size, 0, none⟩ = some (.slice (some ⟨z0, 0, none⟩) xs0.length xs0.length) ∧ W'.cell? ⟨w3.heap.size, 1, none⟩ = some (.int .i16 (x0 0)) ∧ W'.cell? ⟨w3.heap.size, 2, none⟩ = some (.int .i16 (x0 1)) ∧ W'.cell? ⟨w3.heap.size, 3, none⟩ = some (.int .i16 (x0 2)) ∧ W'.cell? ⟨w3.heap.size, 4, none⟩ = some (.int .i16 (x0 3)) ∧ W'.cell? ⟨w3.heap.size, 5, none⟩ = some (.bool t0) ∧ W'.cell? ⟨w.heap.size + 1, 0, none⟩ = some (.int .i16 (x1 0)) ∧ W'.cell? ⟨w.heap.size + 1, 1, none⟩ = some (.int .i16 (x1 1)) ∧ W'.cell? ⟨w.heap.size + 1, 2, none⟩ = some (.int .i16 (x1 2)) ∧ W'.cell? ⟨w.heap.size + 1, 3, none⟩ = some (.int .i16 (x1 3)))
      (exact keepS _ _ _ (by first | assumption | exact FR.drew (by assumption) | exact FR.drew (FR.box (by assumption) _ _) | exact FR.drew (FR.setTop4 (by assumption)) | exact FR.box (by first | assumption | exact FR.drew (by assumption)) _ _ | exact FR.setTop4 (by assumption)) (by first | exact fun _ h => h | exact fun _ h => List.mem_cons_of_mem _ h))
      (first
        | (go_at_call 9; with_reducible refine (toWater_fr (by first | assumption | exact FR.drew (by assumption) | exact FR.drew (FR.box (by assumption) _ _) | exact FR.drew (FR.setTop4 (by assumption)) | exact FR.box (by first | assumption | exact FR.drew (by assumption)) _ _ | exact FR.setTop4 (by assumption)) x1).mono ?_; rintro e w' ⟨rfl, F6⟩)
        | (go_at_call 17; with_reducible refine (Calls.frow3 (by first | assumption | exact FR.drew (by assumption) | exact FR.drew (FR.box (by assumption) _ _) | exact FR.drew (FR.setTop4 (by assumption)) | exact FR.box (by first | assumption | exact FR.drew (by assumption)) _ _ | exact FR.setTop4 (by assumption)) List.mem_cons_self (by first | exact List.mem_cons_self | exact List.mem_cons_of_mem _ List.mem_cons_self) (fun h1 h2 h3 h4 => doMoves_any _ 0 _ xs0 x0 x1 t0 _ 0 _ ms2 _ hn0 h1 h2 g0 hn2 h3 h4 g2)).mono ?_; rintro e w' ⟨rfl, F7⟩; try (obtain ⟨zz0, zz1, zz2, zz3, zz4⟩ := (F7.blk _ List.mem_cons_self).four)))
    all_goals (go_wp2_with fail; go_meet; exact ⟨_, rfl, rfl, (by first | assumption | exact FR.drew (by assumption) | exact FR.drew (FR.box (by assumption) _ _) | exact FR.drew (FR.setTop4R (by assumption) hz7) | exact FR.box (by first | assumption | exact FR.drew (by assumption)) _ _ | exact FR.setTop4R (by assumption) hz7)⟩)
  case rest =>
  obtain ⟨B2, rfl, rfl, F6⟩ := hcut
  clear F5 keepS hz7
  obtain ⟨a0_, a1_, a2_, a3_, -⟩ := (F6.blk _ (List.mem_cons_self)).four
  obtain ⟨b0_, b1_, b2_, b3_, -⟩ := (F6.blk _ (List.mem_cons_of_mem _ (List.mem_cons_of_mem _ (List.mem_cons_of_mem _ (List.mem_cons_self))))).four
  go_wp2_with fail
  refine (eqWater_fr F6 ((dsR xs0 x0 x1 t0 ms2).1)).mono ?_
  rintro e w6 ⟨rfl, F6b⟩
  clear a0_ a1_ a2_ a3_ b0_ b1_ b2_ b3_ F6
  go_wp2_with fail
  have F7 := F6b.drew
  go_region_held3 (fun W' => W'.cell? ⟨w3.heap.size, 0, none⟩ = some (.slice (some ⟨z0, 0, none⟩) xs0.length xs0.length) ∧ W'.cell? ⟨w3.heap.size, 1, none⟩ = some (.int .i16 (x0 0)) ∧ W'.cell? ⟨w3.heap.size, 2, none⟩ = some (.int .i16 (x0 1)) ∧ W'.cell? ⟨w3.heap.size, 3, none⟩ = some (.int .i16 (x0 2)) ∧ W'.cell? ⟨w3.heap.size, 4, none⟩ = some (.int .i16 (x0 3)) ∧ W'.cell? ⟨w3.heap.size, 5, none⟩ = some (.bool t0) ∧ W'.cell? ⟨w.heap.size, 0, none⟩ = some (.slice a0 xs0.length c0) ∧ W'.cell? ⟨w.heap.size, 1, none⟩ = some (.int .i16 (x0 0)) ∧ W'.cell? ⟨w.heap.size, 2, none⟩ = some (.int .i16 (x0 1)) ∧ W'.cell? ⟨w.heap.size, 3, none⟩ = some (.int .i16 (x0 2)) ∧ W'.cell? ⟨w.heap.size, 4, none⟩ = some (.int .i16 (x0 3)) ∧ W'.cell? ⟨w.heap.size, 5, none⟩ = some (.bool t0))
    (first | exact ⟨(F9.blk _ (List.mem_cons_of_mem _ (List.mem_cons_of_mem _ (List.mem_cons_self)))).cell 0, (F9.blk _ (List.mem_cons_of_mem _ (List.mem_cons_of_mem _ (List.mem_cons_self)))).cell 1, (F9.blk _ (List.mem_cons_of_mem _ (List.mem_cons_of_mem _ (List.mem_cons_self)))).cell 2, (F9.blk _ (List.mem_cons_of_mem _ (List.mem_cons_of_mem _ (List.mem_cons_self)))).cell 3, (F9.blk _ (List.mem_cons_of_mem _ (List.mem_cons_of_mem _ (List.mem_cons_self)))).cell 4, (F9.blk _ (List.mem_cons_of_mem _ (List.mem_cons_of_mem _ (List.mem_cons_self)))).cell 5, (F9.blk _ (List.mem_cons_of_mem _ (List.mem_cons_of_mem _ (List.mem_cons_of_mem _ (List.mem_cons_of_mem _ (List.mem_cons_of_mem _ (List.mem_cons_self))))))).cell 0, (F9.blk _ (List.mem_cons_of_mem _ (List.mem_cons_of_mem _ (List.mem_cons_of_mem _ (List.mem_cons_of_mem _ (List.mem_cons_of_mem _ (List.mem_cons_self))))))).cell 1, (F9.blk _ (List.mem_cons_of_mem _ (List.mem_cons_of_mem _ (List.mem_cons_of_mem _ (List.mem_cons_of_mem _ (List.mem_cons_of_mem _ (List.mem_cons_self))))))).cell 2, (F9.blk _ (List.mem_cons_of_mem _ (List.mem_cons_of_mem _ (List.mem_cons_of_mem _ (List.mem_cons_of_mem _ (List.mem_cons_of_mem _ (List.mem_cons_self))))))).cell 3, (F9.blk _ (List.mem_cons_of_mem _ (List.mem_cons_of_mem _ (List.mem_cons_of_mem _ (List.mem_cons_of_mem _ (List.mem_cons_of_mem _ (List.mem_cons_self))))))).cell 4, (F9.blk _ (List.mem_cons_of_mem _ (List.mem_cons_of_mem _ (List.mem_cons_of_mem _ (List.mem_cons_of_mem _ (List.mem_cons_of_mem _ (List.mem_cons_self))))))).cell 5⟩ | exact ⟨(F8.blk _ (List.mem_cons_of_mem _ (List.mem_cons_of_mem _ (List.mem_cons_self)))).cell 0, (F8.blk _ (List.mem_cons_of_mem _ (List.mem_cons_of_mem _ (List.mem_cons_self)))).cell 1, (F8.blk _ (List.mem_cons_of_mem _ (List.mem_cons_of_mem _ (List.mem_cons_self)))).cell 2, (F8.blk _ (List.mem_cons_of_mem _ (List.mem_cons_of_mem _ (List.mem_cons_self)))).cell 3, (F8.blk _ (List.mem_cons_of_mem _ (List.mem_cons_of_mem _ (List.mem_cons_self)))).cell 4, (F8.blk _ (List.mem_cons_of_mem _ (List.mem_cons_of_mem _ (List.mem_cons_self)))).cell 5, (F8.blk _ (List.mem_cons_of_mem _ (List.mem_cons_of_mem _ (List.mem_cons_of_mem _ (List.mem_cons_of_mem _ (List.mem_cons_of_mem _ (List.mem_cons_self))))))).cell 0, (F8.blk _ (List.mem_cons_of_mem _ (List.mem_cons_of_mem _ (List.mem_cons_of_mem _ (List.mem_cons_of_mem _ (List.mem_cons_of_mem _ (List.mem_cons_self))))))).cell 1, (F8.blk _ (List.mem_cons_of_mem _ (List.mem_cons_of_mem _ (List.mem_cons_of_mem _ (List.mem_cons_of_mem _ (List.mem_cons_of_mem _ (List.mem_cons_self))))))).cell 2, (F8.blk _ (List.mem_cons_of_mem _ (List.mem_cons_of_mem _ (List.mem_cons_of_mem _ (List.mem_cons_of_mem _ (List.mem_cons_of_mem _ (List.mem_cons_self))))))).cell 3, (F8.blk _ (List.mem_cons_of_mem _ (List.mem_cons_of_mem _ (List.mem_cons_of_mem _ (List.mem_cons_of_mem _ (List.mem_cons_of_mem _ (List.mem_cons_self))))))).cell 4, (F8.blk _ (List.mem_cons_of_mem _ (List.mem_cons_of_mem _ (List.mem_cons_of_mem _ (List.mem_cons_of_mem _ (List.mem_cons_of_mem _ (List.mem_cons_self))))))).cell 5⟩ | exact ⟨(F7.blk _ (List.mem_cons_of_mem _ (List.mem_cons_of_mem _ (List.mem_cons_self)))).cell 0, (F7.blk _ (List.mem_cons_of_mem _ (List.mem_cons_of_mem _ (List.mem_cons_self)))).cell 1, (F7.blk _ (List.mem_cons_of_mem _ (List.mem_cons_of_mem _ (List.mem_cons_self)))).cell 2, (F7.blk _ (List.mem_cons_of_mem _ (List.mem_cons_of_mem _ (List.mem_cons_self)))).cell 3, (F7.blk _ (List.mem_cons_of_mem _ (List.mem_cons_of_mem _ (List.mem_cons_self)))).cell 4, (F7.blk _ (List.mem_cons_of_mem _ (List.mem_cons_of_mem _ (List.mem_cons_self)))).cell 5, (F7.blk _ (List.mem_cons_of_mem _ (List.mem_cons_of_mem _ (List.mem_cons_of_mem _ (List.mem_cons_of_mem _ (List.mem_cons_of_mem _ (List.mem_cons_self))))))).cell 0, (F7.blk _ (List.mem_cons_of_mem _ (List.mem_cons_of_mem _ (List.mem_cons_of_mem _ (List.mem_cons_of_mem _ (List.mem_cons_of_mem _ (List.mem_cons_self))))))).cell 1, (F7.blk _ (List.mem_cons_of_mem _ (List.mem_cons_of_mem _ (List.mem_cons_of_mem _ (List.mem_cons_of_mem _ (List.mem_cons_of_mem _ (List.mem_cons_self))))))).cell 2, (F7.blk _ (List.mem_cons_of_mem _ (List.mem_cons_of_mem _ (List.mem_cons_of_mem _ (List.mem_cons_of_mem _ (List.mem_cons_of_mem _ (List.mem_cons_self))))))).cell 3, (F7.blk _ (List.mem_cons_of_mem _ (List.mem_cons_of_mem _ (List.mem_cons_of_mem _ (List.mem_cons_of_mem _ (List.mem_cons_of_mem _ (List.mem_cons_self))))))).cell 4, (F7.blk _ (List.mem_cons_of_mem _ (List.mem_cons_of_mem _ (List.mem_cons_of_mem _ (List.mem_cons_of_mem _ (List.mem_cons_of_mem _ (List.mem_cons_self))))))).cell 5⟩)
    (first
      | (go_at_call 8; with_reducible refine (toPuzzle_fr F7 a0 xs0 c0 x0 t0 hn0 HS0.out).mono ?_; rintro e w8 ⟨y0, rfl, F8⟩)
      | (go_at_call 13; with_reducible refine (eqPuzzle_fr F8 (List.mem_cons_of_mem _ (List.mem_cons_self)) (List.mem_cons_self) _ _ _ _ hn0).mono ?_; rintro e w9 ⟨rfl, F9⟩))
  clear F7 F6b
  clear F8
  go_wp2_with fail
  refine (toMoveS_fr F9 a2 ms2 c2 hn2 HS2.out).mono ?_
  rintro e w10 ⟨gy, rfl, F10⟩
  clear F9
  go_wp2_with fail
  refine (eqMoveS_fr F10 (List.mem_cons_of_mem _ (List.mem_cons_of_mem _ (List.mem_cons_self))) (List.mem_cons_self) _ _ hn2).mono ?_
  rintro e w11 ⟨rfl, F11⟩
  go_wp2
  go_ret
  exact ⟨rfl, F11.below⟩
end Go.Proofs.Ytodbbdfgbkbfbaa
