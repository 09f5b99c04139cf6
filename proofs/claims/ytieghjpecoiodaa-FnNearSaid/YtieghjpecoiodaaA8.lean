/-
  The model's SeenOf.
-/
import Derived.Test.YtieghjpecoiodaaA6
namespace Go.Proofs.Ytieghjpecoiodaa
open Go.RowKit
set_option maxRecDepth 100000
set_option linter.unusedVariables false

theorem upC_mem (k : Int) (m : Nat) (x : Cs) : x ∈ upC k true m ↔ x = (-1, false) ∨ ∃ j : Nat, j < m ∧ (x = ((j : Int), true) ∧ k ≠ 1 ∨ x = ((j : Int), false) ∧ k ≠ 0) := by
  unfold upC
  rw [if_pos rfl, List.mem_append, List.mem_singleton]
  refine or_congr Iff.rfl ?_
  rw [List.mem_flatMap]
  refine exists_congr fun j => ?_
  rw [List.mem_range]
  refine and_congr Iff.rfl ?_
  unfold cOf
  rw [List.mem_append]
  refine or_congr ?_ ?_
  · split
    · next h => simp [h]
    · next h => simp [h]
  · split
    · next h => simp [h]
    · next h => simp [h]
theorem so_t {l k : Int} {ws : List Wf} {x : Cs} (hok : okX l k ws = true) (h : x ∈ upC k true ws.length) : soW l k ws x = seenV ws x ∧ soC l k ws x = 0 :=
  ⟨if_pos ⟨hok, h⟩, by rw [soC, if_pos hok, if_pos h]⟩
theorem so_f {l k : Int} {ws : List Wf} {x : Cs} (hok : okX l k ws = true) (h : x ∉ upC k true ws.length) : soW l k ws x = (fun _ => 0) ∧ soC l k ws x = 2 :=
  ⟨if_neg (fun e => h e.2), by rw [soC, if_pos hok, if_neg h]⟩
theorem so_no {l k : Int} {ws : List Wf} {x : Cs} (hok : okX l k ws = false) : soW l k ws x = (fun _ => 0) ∧ soC l k ws x = 1 :=
  ⟨if_neg (fun e => by rw [hok] at e; cases e.1), by rw [soC, if_neg (by rw [hok]; decide)]⟩
set_option maxHeartbeats 2000000 in
theorem l04SeenN_any (fb : Nat) (hh : Bool) (w : World) :
    Calls Try.prog 30 #[.pointer (some ⟨fb, 0, none⟩), caseV (-1) hh] w fun e w' => e = .returned (wordV fun _ => 0) ∧ Below w.heap.size w w' := by
  have F0 := ((FR.start w).box #[.int .i8 (-1), .bool hh] 37)
  obtain ⟨c0, c1, -⟩ := (F0.blk _ List.mem_cons_self).two
  clear F0
  go_enter Try.func30, Try.ntmps30
  go_wp2
  exact bodyPost_ret (v := wordV fun _ => 0) (by simp [results, Try.results30, go_sem]) rfl ⟨rfl, by repeat (first | exact Below.refl _ _ | refine Below.setCell ?_ (by simp <;> omega) _ | refine Below.alloc ?_ (by simp <;> omega) _)⟩
set_option maxHeartbeats 2000000 in
theorem l04SeenH_any (fb b off c j : Nat) (v0 v1 : Value) (ws : List Wf) (w : World) (K : Blk w fb #[v0, v1, .slice (some ⟨b, off, none⟩) ws.length c] 27) (hj : j < ws.length) (hn : ws.length ≤ 80) (hb : b < w.heap.size) (hc : WAt w b off ws) (hw : W4 (wI ws j)) :
    Calls Try.prog 30 #[.pointer (some ⟨fb, 0, none⟩), caseV (j : Int) true] w fun e w' => e = .returned (wordV (wI ws j)) ∧ Below w.heap.size w w' := by
  have F0 := ((FR.start w).box #[.int .i8 (j : Int), .bool true] 37).box #[.int .i8 0, .int .i8 0, .int .i8 0, .int .i8 0] 40
  simp only [World.size_alloc] at F0
  obtain ⟨c0, c1, c2⟩ := (F0.blk _ (List.mem_cons_of_mem _ List.mem_cons_self)).two
  obtain ⟨f0, f1, f2, f3, f4⟩ := (F0.blk _ List.mem_cons_self).four
  obtain ⟨d0, d1, d2, d3⟩ := (hc.below F0.below hb).four j hj
  obtain ⟨-, -, k2, k3⟩ := (K.below F0.below K.lt).three
  have hjn : (j : Int) < (ws.length : Int) := by omega
  have hj0 : ¬ ((j : Int) < 0) := by omega
  have hne : fb ≠ w.heap.size := by have := K.lt; omega
  generalize wI ws j = x at *
  dsimp only at c0 c1 c2 f0 f1 f2 f3 f4
  have HF := Lib.hid F0.drew
  have HF0 := Lib.hid F0.below
  clear F0 hc K
  go_enter Try.func30, Try.ntmps30
  go_upto_region 4 with fail
  generalize hw3 : (w.alloc (.cells #[.int .i8 (j : Int), .bool true] 37)).alloc (.cells #[.int .i8 0, .int .i8 0, .int .i8 0, .int .i8 0] 40) = w9 at *
  clear hw3
  refine wp_region_still_tail 8 (by kernel_rfl) (by kernel_rfl) ?_
  simp only [List.take_succ_cons, List.take_zero, List.drop_succ_cons, List.drop_zero]
  iterate 8 still_step
  refine wpStill_nil ?_
  change wpList _ _ _ _ _ w9.drew
  go_wp2
  exact bodyPost_ret (v := wordV x) (by simp [results, Try.results30, go_sem, f0, f1, f2, f3]) rfl ⟨rfl, by repeat (first | exact HF0.out | refine Below.drew ?_ | refine Below.setCell ?_ (by simp <;> omega) _)⟩
set_option maxHeartbeats 2000000 in
theorem l04SeenL_any (fb b off c j : Nat) (v0 v1 : Value) (ws : List Wf) (w : World) (K : Blk w fb #[v0, v1, .slice (some ⟨b, off, none⟩) ws.length c] 27) (hj : j < ws.length) (hn : ws.length ≤ 80) (hb : b < w.heap.size) (hc : WAt w b off ws) (hw : W4 (wI ws j)) :
    Calls Try.prog 30 #[.pointer (some ⟨fb, 0, none⟩), caseV (j : Int) false] w fun e w' => e = .returned (wordV (opD (wI ws j))) ∧ Below w.heap.size w w' := by
  have F0 := ((FR.start w).box #[.int .i8 (j : Int), .bool false] 37).box #[.int .i8 0, .int .i8 0, .int .i8 0, .int .i8 0] 40
  simp only [World.size_alloc] at F0
  obtain ⟨c0, c1, c2⟩ := (F0.blk _ (List.mem_cons_of_mem _ List.mem_cons_self)).two
  obtain ⟨f0, f1, f2, f3, f4⟩ := (F0.blk _ List.mem_cons_self).four
  obtain ⟨d0, d1, d2, d3⟩ := (hc.below F0.below hb).four j hj
  obtain ⟨-, -, k2, k3⟩ := (K.below F0.below K.lt).three
  have HO := Lib.hid (fun W => l04Opposite_any (wI ws j) W hw)
  have hjn : (j : Int) < (ws.length : Int) := by omega
  have hj0 : ¬ ((j : Int) < 0) := by omega
  have hne : fb ≠ w.heap.size := by have := K.lt; omega
  generalize wI ws j = x at *
  dsimp only at c0 c1 c2 f0 f1 f2 f3 f4
  have HF := Lib.hid F0.drew
  have HF0 := Lib.hid F0.below
  clear F0 hc K
  go_enter Try.func30, Try.ntmps30
  go_upto_region 5 with fail
  generalize hw3 : (w.alloc (.cells #[.int .i8 (j : Int), .bool false] 37)).alloc (.cells #[.int .i8 0, .int .i8 0, .int .i8 0, .int .i8 0] 40) = w9 at *
  clear hw3
  refine wp_region_still_tail 8 (by kernel_rfl) (by kernel_rfl) ?_
  simp only [List.take_succ_cons, List.take_zero, List.drop_succ_cons, List.drop_zero]
  iterate 8 still_step
  refine wpStill_nil ?_
  change wpList _ _ _ _ _ w9.drew
  clear c0 c1 c2 f0 f1 f2 f3 f4 d0 d1 d2 d3 k2 k3
  generalize w9.drew = w3 at *
  go_wp2_with fail
  refine (HO.out _).mono ?_
  rintro e w4 ⟨rfl, hb4⟩
  have F4 := HF.out.next hb4
  have HB := Lib.hid F4.below
  obtain ⟨f0, f1, f2, f3, f4⟩ := (F4.blk _ List.mem_cons_self).four
  dsimp only at f0 f1 f2 f3 f4
  clear F4 hb4
  go_wp2
  exact bodyPost_ret (v := wordV (opD x)) (by simp [results, Try.results30, go_sem, f0, f1, f2, f3]) rfl ⟨rfl, by repeat (first | exact HB.out | refine Below.setCell ?_ (by simp <;> omega) _)⟩
set_option maxHeartbeats 4000000 in
theorem specSeen_no (l k : Int) (a : Option Addr) (c : Nat) (ws : List Wf) (cc : Int) (hh : Bool) (w : World) (hs : Slw w.heap.size w a ws) (hl : B8 l) (hk : B8 k) (hn : ws.length ≤ 1048576) (hw : Wall ws) (hok : okX l k ws = false) :
    Calls Try.prog 11 #[fixV l k a ws.length c, caseV cc hh] w fun e w' => e = .returned (.tuple #[wordV (soW l k ws (cc, hh)), .int .i64 (soC l k ws (cc, hh))]) ∧ Below w.heap.size w w' := by
  have F0 := (((FR.start w).box #[.int .i8 l, .int .i8 k, .slice a ws.length c] 27).box #[.int .i8 cc, .bool hh] 37).box #[.int .i8 0, .int .i8 0, .int .i8 0, .int .i8 0] 40
  have HO := Lib.hid (l04Ok_any w.heap.size l k a c ws _ (F0.blk _ (List.mem_cons_of_mem _ (List.mem_cons_of_mem _ List.mem_cons_self))) (slw_up hs F0.below) hl hk hn hw)
  simp only [World.size_alloc] at F0
  have HR := Lib.hid (so_no (x := (cc, hh)) hok)
  rw [hok] at HO
  clear hok hs hw hl hk
  go_enter Try.func11, Try.ntmps11
  go_wp2_with fail
  refine HO.out.mono ?_
  rintro e w2 ⟨rfl, hb⟩
  have F1 := F0.next hb
  clear hb F0 HO
  obtain ⟨c0, c1, c2, c3⟩ := (F1.blk _ (List.mem_cons_of_mem _ (List.mem_cons_of_mem _ List.mem_cons_self))).three
  obtain ⟨d0, d1, d2⟩ := (F1.blk _ (List.mem_cons_of_mem _ List.mem_cons_self)).two
  obtain ⟨f0, f1, f2, f3, f4⟩ := (F1.blk _ List.mem_cons_self).four
  dsimp only at c0 c1 c2 c3 d0 d1 d2 f0 f1 f2 f3 f4
  have HB := Lib.hid F1.below
  have HFR := Lib.hid F1
  clear F1
  go_wp2
  exact bodyPost_ret (v := .tuple #[wordV (fun _ => 0), .int .i64 1]) (by simp [results, Try.results11, go_sem, f0, f1, f2, f3]) rfl ⟨by rw [HR.out.1, HR.out.2], by repeat (first | exact HB.out | refine Below.setCell ?_ (by simp <;> omega) _)⟩
set_option maxHeartbeats 4000000 in
theorem specSeen_out_lo (l k : Int) (a : Option Addr) (c : Nat) (ws : List Wf) (cc : Int) (hh : Bool) (w : World) (hs : Slw w.heap.size w a ws) (hl : B8 l) (hk : B8 k) (hn : ws.length ≤ 1048576) (hw : Wall ws) (hok : okX l k ws = true) (hcc : B8 cc) (hr : ¬ (-1 ≤ cc ∧ cc ≤ (ws.length : Int) - 1)) (hs0 : cc < 0) :
    Calls Try.prog 11 #[fixV l k a ws.length c, caseV cc hh] w fun e w' => e = .returned (.tuple #[wordV (soW l k ws (cc, hh)), .int .i64 (soC l k ws (cc, hh))]) ∧ Below w.heap.size w w' := by
  have F0 := (((FR.start w).box #[.int .i8 l, .int .i8 k, .slice a ws.length c] 27).box #[.int .i8 cc, .bool hh] 37).box #[.int .i8 0, .int .i8 0, .int .i8 0, .int .i8 0] 40
  have HO := Lib.hid (l04Ok_any w.heap.size l k a c ws _ (F0.blk _ (List.mem_cons_of_mem _ (List.mem_cons_of_mem _ List.mem_cons_self))) (slw_up hs F0.below) hl hk hn hw)
  simp only [World.size_alloc] at F0
  have hx := okX_t hok
  have h80 := hx.2.2.1
  rw [hok] at HO
  unfold B8 at hcc
  have HR := Lib.hid (so_f (x := (cc, hh)) hok (fun h => by
    rcases (upC_mem _ _ _).1 h with h | ⟨j, hj, ⟨h, -⟩ | ⟨h, -⟩⟩
    · cases h; omega
    · cases h; omega
    · cases h; omega))
  have HI := Lib.hid (fun W => l00In_any cc (-1) ((ws.length : Int) - 1) W)
  rw [show inB cc (-1) ((ws.length : Int) - 1) = false from cb_f hr] at HI
  clear hx hr
  clear hok hs hw hl hk
  go_enter Try.func11, Try.ntmps11
  go_wp2_with fail
  refine HO.out.mono ?_
  rintro e w2 ⟨rfl, hb⟩
  have F1 := F0.next hb
  clear hb F0 HO
  obtain ⟨c0, c1, c2, c3⟩ := (F1.blk _ (List.mem_cons_of_mem _ (List.mem_cons_of_mem _ List.mem_cons_self))).three
  obtain ⟨d0, d1, d2⟩ := (F1.blk _ (List.mem_cons_of_mem _ List.mem_cons_self)).two
  obtain ⟨f0, f1, f2, f3, f4⟩ := (F1.blk _ List.mem_cons_self).four
  dsimp only at c0 c1 c2 c3 d0 d1 d2 f0 f1 f2 f3 f4
  have HB := Lib.hid F1.below
  have HFR := Lib.hid F1
  clear F1
  go_wp2_with fail
  refine (HI.out _).mono ?_
  rintro e w3 ⟨rfl, rfl⟩
  go_wp2
  exact bodyPost_ret (v := .tuple #[wordV (fun _ => 0), .int .i64 2]) (by simp [results, Try.results11, go_sem, f0, f1, f2, f3]) rfl ⟨by rw [HR.out.1, HR.out.2], by repeat (first | exact HB.out | refine Below.setCell ?_ (by simp <;> omega) _)⟩
set_option maxHeartbeats 4000000 in
theorem specSeen_out_hi (l k : Int) (a : Option Addr) (c : Nat) (ws : List Wf) (cc : Int) (hh : Bool) (w : World) (hs : Slw w.heap.size w a ws) (hl : B8 l) (hk : B8 k) (hn : ws.length ≤ 1048576) (hw : Wall ws) (hok : okX l k ws = true) (hcc : B8 cc) (hr : ¬ (-1 ≤ cc ∧ cc ≤ (ws.length : Int) - 1)) (hs0 : ¬ cc < 0) :
    Calls Try.prog 11 #[fixV l k a ws.length c, caseV cc hh] w fun e w' => e = .returned (.tuple #[wordV (soW l k ws (cc, hh)), .int .i64 (soC l k ws (cc, hh))]) ∧ Below w.heap.size w w' := by
  have F0 := (((FR.start w).box #[.int .i8 l, .int .i8 k, .slice a ws.length c] 27).box #[.int .i8 cc, .bool hh] 37).box #[.int .i8 0, .int .i8 0, .int .i8 0, .int .i8 0] 40
  have HO := Lib.hid (l04Ok_any w.heap.size l k a c ws _ (F0.blk _ (List.mem_cons_of_mem _ (List.mem_cons_of_mem _ List.mem_cons_self))) (slw_up hs F0.below) hl hk hn hw)
  simp only [World.size_alloc] at F0
  have hx := okX_t hok
  have h80 := hx.2.2.1
  rw [hok] at HO
  unfold B8 at hcc
  have HR := Lib.hid (so_f (x := (cc, hh)) hok (fun h => by
    rcases (upC_mem _ _ _).1 h with h | ⟨j, hj, ⟨h, -⟩ | ⟨h, -⟩⟩
    · cases h; omega
    · cases h; omega
    · cases h; omega))
  have HI := Lib.hid (fun W => l00In_any cc (-1) ((ws.length : Int) - 1) W)
  rw [show inB cc (-1) ((ws.length : Int) - 1) = false from cb_f hr] at HI
  clear hx hr
  clear hok hs hw hl hk
  go_enter Try.func11, Try.ntmps11
  go_wp2_with fail
  refine HO.out.mono ?_
  rintro e w2 ⟨rfl, hb⟩
  have F1 := F0.next hb
  clear hb F0 HO
  obtain ⟨c0, c1, c2, c3⟩ := (F1.blk _ (List.mem_cons_of_mem _ (List.mem_cons_of_mem _ List.mem_cons_self))).three
  obtain ⟨d0, d1, d2⟩ := (F1.blk _ (List.mem_cons_of_mem _ List.mem_cons_self)).two
  obtain ⟨f0, f1, f2, f3, f4⟩ := (F1.blk _ List.mem_cons_self).four
  dsimp only at c0 c1 c2 c3 d0 d1 d2 f0 f1 f2 f3 f4
  have HB := Lib.hid F1.below
  have HFR := Lib.hid F1
  clear F1
  go_wp2_with fail
  refine (HI.out _).mono ?_
  rintro e w3 ⟨rfl, rfl⟩
  go_wp2
  exact bodyPost_ret (v := .tuple #[wordV (fun _ => 0), .int .i64 2]) (by simp [results, Try.results11, go_sem, f0, f1, f2, f3]) rfl ⟨by rw [HR.out.1, HR.out.2], by repeat (first | exact HB.out | refine Below.setCell ?_ (by simp <;> omega) _)⟩
set_option maxHeartbeats 4000000 in
theorem specSeen_none_t (l k : Int) (a : Option Addr) (c : Nat) (ws : List Wf) (q : Unit) (w : World) (hs : Slw w.heap.size w a ws) (hl : B8 l) (hk : B8 k) (hn : ws.length ≤ 1048576) (hw : Wall ws) (hok : okX l k ws = true) :
    Calls Try.prog 11 #[fixV l k a ws.length c, caseV (-1) true] w fun e w' => e = .returned (.tuple #[wordV (soW l k ws ((-1), true)), .int .i64 (soC l k ws ((-1), true))]) ∧ Below w.heap.size w w' := by
  have F0 := (((FR.start w).box #[.int .i8 l, .int .i8 k, .slice a ws.length c] 27).box #[.int .i8 (-1), .bool true] 37).box #[.int .i8 0, .int .i8 0, .int .i8 0, .int .i8 0] 40
  have HO := Lib.hid (l04Ok_any w.heap.size l k a c ws _ (F0.blk _ (List.mem_cons_of_mem _ (List.mem_cons_of_mem _ List.mem_cons_self))) (slw_up hs F0.below) hl hk hn hw)
  simp only [World.size_alloc] at F0
  have hx := okX_t hok
  have h80 := hx.2.2.1
  rw [hok] at HO
  have HR := Lib.hid (so_f (x := ((-1 : Int), true)) hok (fun h => by
    rcases (upC_mem _ _ _).1 h with h | ⟨j, hj, ⟨h, -⟩ | ⟨h, -⟩⟩
    · cases h
    · have h1 := congrArg Prod.fst h; dsimp only at h1; omega
    · cases h))
  have HI := Lib.hid (fun W => l00In_any (-1) (-1) ((ws.length : Int) - 1) W)
  rw [show inB (-1) (-1) ((ws.length : Int) - 1) = true from cb_t (by constructor <;> omega)] at HI
  clear hx
  clear hok hs hw hl hk
  go_enter Try.func11, Try.ntmps11
  go_wp2_with fail
  refine HO.out.mono ?_
  rintro e w2 ⟨rfl, hb⟩
  have F1 := F0.next hb
  clear hb F0 HO
  obtain ⟨c0, c1, c2, c3⟩ := (F1.blk _ (List.mem_cons_of_mem _ (List.mem_cons_of_mem _ List.mem_cons_self))).three
  obtain ⟨d0, d1, d2⟩ := (F1.blk _ (List.mem_cons_of_mem _ List.mem_cons_self)).two
  obtain ⟨f0, f1, f2, f3, f4⟩ := (F1.blk _ List.mem_cons_self).four
  dsimp only at c0 c1 c2 c3 d0 d1 d2 f0 f1 f2 f3 f4
  have HB := Lib.hid F1.below
  have HFR := Lib.hid F1
  clear F1
  go_wp2_with fail
  refine (HI.out _).mono ?_
  rintro e w3 ⟨rfl, rfl⟩
  go_wp2
  exact bodyPost_ret (v := .tuple #[wordV (fun _ => 0), .int .i64 2]) (by simp [results, Try.results11, go_sem, f0, f1, f2, f3]) rfl ⟨by rw [HR.out.1, HR.out.2], by repeat (first | exact HB.out | refine Below.setCell ?_ (by simp <;> omega) _)⟩
set_option maxHeartbeats 4000000 in
theorem specSeen_none_f (l k : Int) (a : Option Addr) (c : Nat) (ws : List Wf) (q : Unit) (w : World) (hs : Slw w.heap.size w a ws) (hl : B8 l) (hk : B8 k) (hn : ws.length ≤ 1048576) (hw : Wall ws) (hok : okX l k ws = true) :
    Calls Try.prog 11 #[fixV l k a ws.length c, caseV (-1) false] w fun e w' => e = .returned (.tuple #[wordV (soW l k ws ((-1), false)), .int .i64 (soC l k ws ((-1), false))]) ∧ Below w.heap.size w w' := by
  have F0 := (((FR.start w).box #[.int .i8 l, .int .i8 k, .slice a ws.length c] 27).box #[.int .i8 (-1), .bool false] 37).box #[.int .i8 0, .int .i8 0, .int .i8 0, .int .i8 0] 40
  have HO := Lib.hid (l04Ok_any w.heap.size l k a c ws _ (F0.blk _ (List.mem_cons_of_mem _ (List.mem_cons_of_mem _ List.mem_cons_self))) (slw_up hs F0.below) hl hk hn hw)
  simp only [World.size_alloc] at F0
  have hx := okX_t hok
  have h80 := hx.2.2.1
  rw [hok] at HO
  have HR := Lib.hid (so_t (x := ((-1 : Int), false)) hok ((upC_mem _ _ _).2 (.inl rfl)))
  rw [seen_none ws false (by decide)] at HR
  have HS := Lib.hid (fun W => l04SeenN_any w.heap.size false W)
  have HI := Lib.hid (fun W => l00In_any (-1) (-1) ((ws.length : Int) - 1) W)
  rw [show inB (-1) (-1) ((ws.length : Int) - 1) = true from cb_t (by constructor <;> omega)] at HI
  clear hx
  clear hok hs hw hl hk
  go_enter Try.func11, Try.ntmps11
  go_wp2_with fail
  refine HO.out.mono ?_
  rintro e w2 ⟨rfl, hb⟩
  have F1 := F0.next hb
  clear hb F0 HO
  obtain ⟨c0, c1, c2, c3⟩ := (F1.blk _ (List.mem_cons_of_mem _ (List.mem_cons_of_mem _ List.mem_cons_self))).three
  obtain ⟨d0, d1, d2⟩ := (F1.blk _ (List.mem_cons_of_mem _ List.mem_cons_self)).two
  obtain ⟨f0, f1, f2, f3, f4⟩ := (F1.blk _ List.mem_cons_self).four
  dsimp only at c0 c1 c2 c3 d0 d1 d2 f0 f1 f2 f3 f4
  have HB := Lib.hid F1.below
  have HFR := Lib.hid F1
  clear F1
  go_wp2_with fail
  refine (HI.out _).mono ?_
  rintro e w3 ⟨rfl, rfl⟩
  go_wp2_with fail
  refine (HS.out _).mono ?_
  rintro e w4 ⟨rfl, hb4⟩
  have F4 := HFR.out.next hb4
  have HB4 := Lib.hid F4.below
  clear c0 c1 c2 c3 d0 d1 d2 f0 f1 f2 f3 f4 HB HFR hb4 HS
  obtain ⟨f0, f1, f2, f3, f4⟩ := (F4.blk _ List.mem_cons_self).four
  dsimp only at f0 f1 f2 f3 f4
  have HB := Lib.hid F4.below
  clear F4
  go_wp2
  exact bodyPost_ret (v := .tuple #[wordV (fun _ => 0), .int .i64 0]) (by simp [results, Try.results11, go_sem, f0, f1, f2, f3]) rfl ⟨by rw [HR.out.1, HR.out.2], by repeat (first | exact HB.out | refine Below.setCell ?_ (by simp <;> omega) _)⟩
set_option maxHeartbeats 4000000 in
theorem specSeen_t0 (l k : Int) (a : Option Addr) (c : Nat) (ws : List Wf) (j : Nat) (w : World) (hs : Slw w.heap.size w a ws) (hl : B8 l) (hk : B8 k) (hn : ws.length ≤ 1048576) (hw : Wall ws) (hok : okX l k ws = true) (hj : j < ws.length) (hk0 : k = 0) :
    Calls Try.prog 11 #[fixV l k a ws.length c, caseV (j : Int) true] w fun e w' => e = .returned (.tuple #[wordV (soW l k ws ((j : Int), true)), .int .i64 (soC l k ws ((j : Int), true))]) ∧ Below w.heap.size w w' := by
  have F0 := (((FR.start w).box #[.int .i8 l, .int .i8 k, .slice a ws.length c] 27).box #[.int .i8 (j : Int), .bool true] 37).box #[.int .i8 0, .int .i8 0, .int .i8 0, .int .i8 0] 40
  have HO := Lib.hid (l04Ok_any w.heap.size l k a c ws _ (F0.blk _ (List.mem_cons_of_mem _ (List.mem_cons_of_mem _ List.mem_cons_self))) (slw_up hs F0.below) hl hk hn hw)
  simp only [World.size_alloc] at F0
  have hx := okX_t hok
  have h80 := hx.2.2.1
  rw [hok] at HO
  subst hk0
  have HR := Lib.hid (so_t (x := ((j : Int), true)) hok ((upC_mem _ _ _).2 (.inr ⟨j, hj, .inl ⟨rfl, by decide⟩⟩)))
  rw [seen_heavy] at HR
  obtain ⟨b, off, rfl, hb1, hc1⟩ := own_of hs (Below.refl _ _) h80.1
  have HS := Lib.hid (fun W (h : FR w [(w.heap.size + 1 + 1, #[.int .i8 0, .int .i8 0, .int .i8 0, .int .i8 0], 40), (w.heap.size + 1, #[.int .i8 (j : Int), .bool true], 37), (w.heap.size, #[.int .i8 l, .int .i8 0, .slice (some ⟨b, off, none⟩) ws.length c], 27)] W) => l04SeenH_any w.heap.size b off c j _ _ ws W (h.blk _ (List.mem_cons_of_mem _ (List.mem_cons_of_mem _ List.mem_cons_self))) hj (by omega) (Nat.lt_of_lt_of_le hb1 h.below.size) (hc1.below h.below hb1) (hw j))
  have hj0 : ¬ ((j : Int) < 0) := by omega
  have HI := Lib.hid (fun W => l00In_any (j : Int) (-1) ((ws.length : Int) - 1) W)
  rw [show inB (j : Int) (-1) ((ws.length : Int) - 1) = true from cb_t (by constructor <;> omega)] at HI
  clear hx hc1 hb1
  generalize wI ws j = x at *
  clear hok hs hw hl hk
  go_enter Try.func11, Try.ntmps11
  go_wp2_with fail
  refine HO.out.mono ?_
  rintro e w2 ⟨rfl, hb⟩
  have F1 := F0.next hb
  clear hb F0 HO
  obtain ⟨c0, c1, c2, c3⟩ := (F1.blk _ (List.mem_cons_of_mem _ (List.mem_cons_of_mem _ List.mem_cons_self))).three
  obtain ⟨d0, d1, d2⟩ := (F1.blk _ (List.mem_cons_of_mem _ List.mem_cons_self)).two
  obtain ⟨f0, f1, f2, f3, f4⟩ := (F1.blk _ List.mem_cons_self).four
  dsimp only at c0 c1 c2 c3 d0 d1 d2 f0 f1 f2 f3 f4
  have HB := Lib.hid F1.below
  have HFR := Lib.hid F1
  clear F1
  go_wp2_with fail
  refine (HI.out _).mono ?_
  rintro e w3 ⟨rfl, rfl⟩
  go_wp2_with fail
  refine (HS.out _ HFR.out).mono ?_
  rintro e w4 ⟨rfl, hb4⟩
  have F4 := HFR.out.next hb4
  have HB4 := Lib.hid F4.below
  clear c0 c1 c2 c3 d0 d1 d2 f0 f1 f2 f3 f4 HB HFR hb4 HS
  obtain ⟨f0, f1, f2, f3, f4⟩ := (F4.blk _ List.mem_cons_self).four
  dsimp only at f0 f1 f2 f3 f4
  have HB := Lib.hid F4.below
  clear F4
  go_wp2
  exact bodyPost_ret (v := .tuple #[wordV (x), .int .i64 0]) (by simp [results, Try.results11, go_sem, f0, f1, f2, f3]) rfl ⟨by rw [HR.out.1, HR.out.2], by repeat (first | exact HB.out | refine Below.setCell ?_ (by simp <;> omega) _)⟩
set_option maxHeartbeats 4000000 in
theorem specSeen_t1 (l k : Int) (a : Option Addr) (c : Nat) (ws : List Wf) (j : Nat) (w : World) (hs : Slw w.heap.size w a ws) (hl : B8 l) (hk : B8 k) (hn : ws.length ≤ 1048576) (hw : Wall ws) (hok : okX l k ws = true) (hj : j < ws.length) (hk0 : k = 1) :
    Calls Try.prog 11 #[fixV l k a ws.length c, caseV (j : Int) true] w fun e w' => e = .returned (.tuple #[wordV (soW l k ws ((j : Int), true)), .int .i64 (soC l k ws ((j : Int), true))]) ∧ Below w.heap.size w w' := by
  have F0 := (((FR.start w).box #[.int .i8 l, .int .i8 k, .slice a ws.length c] 27).box #[.int .i8 (j : Int), .bool true] 37).box #[.int .i8 0, .int .i8 0, .int .i8 0, .int .i8 0] 40
  have HO := Lib.hid (l04Ok_any w.heap.size l k a c ws _ (F0.blk _ (List.mem_cons_of_mem _ (List.mem_cons_of_mem _ List.mem_cons_self))) (slw_up hs F0.below) hl hk hn hw)
  simp only [World.size_alloc] at F0
  have hx := okX_t hok
  have h80 := hx.2.2.1
  rw [hok] at HO
  subst hk0
  have HR := Lib.hid (so_f (x := ((j : Int), true)) hok (fun h => by
    rcases (upC_mem _ _ _).1 h with h | ⟨i, hi, ⟨h, h2⟩ | ⟨h, h2⟩⟩
    · have h1 := congrArg Prod.fst h; dsimp only at h1; omega
    · first | exact absurd rfl h2 | (cases h)
    · first | exact absurd rfl h2 | (cases h)))
  have hj0 : ¬ ((j : Int) < 0) := by omega
  have HI := Lib.hid (fun W => l00In_any (j : Int) (-1) ((ws.length : Int) - 1) W)
  rw [show inB (j : Int) (-1) ((ws.length : Int) - 1) = true from cb_t (by constructor <;> omega)] at HI
  clear hx
  clear hok hs hw hl hk
  go_enter Try.func11, Try.ntmps11
  go_wp2_with fail
  refine HO.out.mono ?_
  rintro e w2 ⟨rfl, hb⟩
  have F1 := F0.next hb
  clear hb F0 HO
  obtain ⟨c0, c1, c2, c3⟩ := (F1.blk _ (List.mem_cons_of_mem _ (List.mem_cons_of_mem _ List.mem_cons_self))).three
  obtain ⟨d0, d1, d2⟩ := (F1.blk _ (List.mem_cons_of_mem _ List.mem_cons_self)).two
  obtain ⟨f0, f1, f2, f3, f4⟩ := (F1.blk _ List.mem_cons_self).four
  dsimp only at c0 c1 c2 c3 d0 d1 d2 f0 f1 f2 f3 f4
  have HB := Lib.hid F1.below
  have HFR := Lib.hid F1
  clear F1
  go_wp2_with fail
  refine (HI.out _).mono ?_
  rintro e w3 ⟨rfl, rfl⟩
  go_wp2
  exact bodyPost_ret (v := .tuple #[wordV (fun _ => 0), .int .i64 2]) (by simp [results, Try.results11, go_sem, f0, f1, f2, f3]) rfl ⟨by rw [HR.out.1, HR.out.2], by repeat (first | exact HB.out | refine Below.setCell ?_ (by simp <;> omega) _)⟩
set_option maxHeartbeats 4000000 in
theorem specSeen_t2 (l k : Int) (a : Option Addr) (c : Nat) (ws : List Wf) (j : Nat) (w : World) (hs : Slw w.heap.size w a ws) (hl : B8 l) (hk : B8 k) (hn : ws.length ≤ 1048576) (hw : Wall ws) (hok : okX l k ws = true) (hj : j < ws.length) (hk0 : k = 2) :
    Calls Try.prog 11 #[fixV l k a ws.length c, caseV (j : Int) true] w fun e w' => e = .returned (.tuple #[wordV (soW l k ws ((j : Int), true)), .int .i64 (soC l k ws ((j : Int), true))]) ∧ Below w.heap.size w w' := by
  have F0 := (((FR.start w).box #[.int .i8 l, .int .i8 k, .slice a ws.length c] 27).box #[.int .i8 (j : Int), .bool true] 37).box #[.int .i8 0, .int .i8 0, .int .i8 0, .int .i8 0] 40
  have HO := Lib.hid (l04Ok_any w.heap.size l k a c ws _ (F0.blk _ (List.mem_cons_of_mem _ (List.mem_cons_of_mem _ List.mem_cons_self))) (slw_up hs F0.below) hl hk hn hw)
  simp only [World.size_alloc] at F0
  have hx := okX_t hok
  have h80 := hx.2.2.1
  rw [hok] at HO
  subst hk0
  have HR := Lib.hid (so_t (x := ((j : Int), true)) hok ((upC_mem _ _ _).2 (.inr ⟨j, hj, .inl ⟨rfl, by decide⟩⟩)))
  rw [seen_heavy] at HR
  obtain ⟨b, off, rfl, hb1, hc1⟩ := own_of hs (Below.refl _ _) h80.1
  have HS := Lib.hid (fun W (h : FR w [(w.heap.size + 1 + 1, #[.int .i8 0, .int .i8 0, .int .i8 0, .int .i8 0], 40), (w.heap.size + 1, #[.int .i8 (j : Int), .bool true], 37), (w.heap.size, #[.int .i8 l, .int .i8 2, .slice (some ⟨b, off, none⟩) ws.length c], 27)] W) => l04SeenH_any w.heap.size b off c j _ _ ws W (h.blk _ (List.mem_cons_of_mem _ (List.mem_cons_of_mem _ List.mem_cons_self))) hj (by omega) (Nat.lt_of_lt_of_le hb1 h.below.size) (hc1.below h.below hb1) (hw j))
  have hj0 : ¬ ((j : Int) < 0) := by omega
  have HI := Lib.hid (fun W => l00In_any (j : Int) (-1) ((ws.length : Int) - 1) W)
  rw [show inB (j : Int) (-1) ((ws.length : Int) - 1) = true from cb_t (by constructor <;> omega)] at HI
  clear hx hc1 hb1
  generalize wI ws j = x at *
  clear hok hs hw hl hk
  go_enter Try.func11, Try.ntmps11
  go_wp2_with fail
  refine HO.out.mono ?_
  rintro e w2 ⟨rfl, hb⟩
  have F1 := F0.next hb
  clear hb F0 HO
  obtain ⟨c0, c1, c2, c3⟩ := (F1.blk _ (List.mem_cons_of_mem _ (List.mem_cons_of_mem _ List.mem_cons_self))).three
  obtain ⟨d0, d1, d2⟩ := (F1.blk _ (List.mem_cons_of_mem _ List.mem_cons_self)).two
  obtain ⟨f0, f1, f2, f3, f4⟩ := (F1.blk _ List.mem_cons_self).four
  dsimp only at c0 c1 c2 c3 d0 d1 d2 f0 f1 f2 f3 f4
  have HB := Lib.hid F1.below
  have HFR := Lib.hid F1
  clear F1
  go_wp2_with fail
  refine (HI.out _).mono ?_
  rintro e w3 ⟨rfl, rfl⟩
  go_wp2_with fail
  refine (HS.out _ HFR.out).mono ?_
  rintro e w4 ⟨rfl, hb4⟩
  have F4 := HFR.out.next hb4
  have HB4 := Lib.hid F4.below
  clear c0 c1 c2 c3 d0 d1 d2 f0 f1 f2 f3 f4 HB HFR hb4 HS
  obtain ⟨f0, f1, f2, f3, f4⟩ := (F4.blk _ List.mem_cons_self).four
  dsimp only at f0 f1 f2 f3 f4
  have HB := Lib.hid F4.below
  clear F4
  go_wp2
  exact bodyPost_ret (v := .tuple #[wordV (x), .int .i64 0]) (by simp [results, Try.results11, go_sem, f0, f1, f2, f3]) rfl ⟨by rw [HR.out.1, HR.out.2], by repeat (first | exact HB.out | refine Below.setCell ?_ (by simp <;> omega) _)⟩
set_option maxHeartbeats 4000000 in
theorem specSeen_f0 (l k : Int) (a : Option Addr) (c : Nat) (ws : List Wf) (j : Nat) (w : World) (hs : Slw w.heap.size w a ws) (hl : B8 l) (hk : B8 k) (hn : ws.length ≤ 1048576) (hw : Wall ws) (hok : okX l k ws = true) (hj : j < ws.length) (hk0 : k = 0) :
    Calls Try.prog 11 #[fixV l k a ws.length c, caseV (j : Int) false] w fun e w' => e = .returned (.tuple #[wordV (soW l k ws ((j : Int), false)), .int .i64 (soC l k ws ((j : Int), false))]) ∧ Below w.heap.size w w' := by
  have F0 := (((FR.start w).box #[.int .i8 l, .int .i8 k, .slice a ws.length c] 27).box #[.int .i8 (j : Int), .bool false] 37).box #[.int .i8 0, .int .i8 0, .int .i8 0, .int .i8 0] 40
  have HO := Lib.hid (l04Ok_any w.heap.size l k a c ws _ (F0.blk _ (List.mem_cons_of_mem _ (List.mem_cons_of_mem _ List.mem_cons_self))) (slw_up hs F0.below) hl hk hn hw)
  simp only [World.size_alloc] at F0
  have hx := okX_t hok
  have h80 := hx.2.2.1
  rw [hok] at HO
  subst hk0
  have HR := Lib.hid (so_f (x := ((j : Int), false)) hok (fun h => by
    rcases (upC_mem _ _ _).1 h with h | ⟨i, hi, ⟨h, h2⟩ | ⟨h, h2⟩⟩
    · have h1 := congrArg Prod.fst h; dsimp only at h1; omega
    · first | exact absurd rfl h2 | (cases h)
    · first | exact absurd rfl h2 | (cases h)))
  have hj0 : ¬ ((j : Int) < 0) := by omega
  have HI := Lib.hid (fun W => l00In_any (j : Int) (-1) ((ws.length : Int) - 1) W)
  rw [show inB (j : Int) (-1) ((ws.length : Int) - 1) = true from cb_t (by constructor <;> omega)] at HI
  clear hx
  clear hok hs hw hl hk
  go_enter Try.func11, Try.ntmps11
  go_wp2_with fail
  refine HO.out.mono ?_
  rintro e w2 ⟨rfl, hb⟩
  have F1 := F0.next hb
  clear hb F0 HO
  obtain ⟨c0, c1, c2, c3⟩ := (F1.blk _ (List.mem_cons_of_mem _ (List.mem_cons_of_mem _ List.mem_cons_self))).three
  obtain ⟨d0, d1, d2⟩ := (F1.blk _ (List.mem_cons_of_mem _ List.mem_cons_self)).two
  obtain ⟨f0, f1, f2, f3, f4⟩ := (F1.blk _ List.mem_cons_self).four
  dsimp only at c0 c1 c2 c3 d0 d1 d2 f0 f1 f2 f3 f4
  have HB := Lib.hid F1.below
  have HFR := Lib.hid F1
  clear F1
  go_wp2_with fail
  refine (HI.out _).mono ?_
  rintro e w3 ⟨rfl, rfl⟩
  go_wp2
  exact bodyPost_ret (v := .tuple #[wordV (fun _ => 0), .int .i64 2]) (by simp [results, Try.results11, go_sem, f0, f1, f2, f3]) rfl ⟨by rw [HR.out.1, HR.out.2], by repeat (first | exact HB.out | refine Below.setCell ?_ (by simp <;> omega) _)⟩
set_option maxHeartbeats 4000000 in
theorem specSeen_f1 (l k : Int) (a : Option Addr) (c : Nat) (ws : List Wf) (j : Nat) (w : World) (hs : Slw w.heap.size w a ws) (hl : B8 l) (hk : B8 k) (hn : ws.length ≤ 1048576) (hw : Wall ws) (hok : okX l k ws = true) (hj : j < ws.length) (hk0 : k = 1) :
    Calls Try.prog 11 #[fixV l k a ws.length c, caseV (j : Int) false] w fun e w' => e = .returned (.tuple #[wordV (soW l k ws ((j : Int), false)), .int .i64 (soC l k ws ((j : Int), false))]) ∧ Below w.heap.size w w' := by
  have F0 := (((FR.start w).box #[.int .i8 l, .int .i8 k, .slice a ws.length c] 27).box #[.int .i8 (j : Int), .bool false] 37).box #[.int .i8 0, .int .i8 0, .int .i8 0, .int .i8 0] 40
  have HO := Lib.hid (l04Ok_any w.heap.size l k a c ws _ (F0.blk _ (List.mem_cons_of_mem _ (List.mem_cons_of_mem _ List.mem_cons_self))) (slw_up hs F0.below) hl hk hn hw)
  simp only [World.size_alloc] at F0
  have hx := okX_t hok
  have h80 := hx.2.2.1
  rw [hok] at HO
  subst hk0
  have HR := Lib.hid (so_t (x := ((j : Int), false)) hok ((upC_mem _ _ _).2 (.inr ⟨j, hj, .inr ⟨rfl, by decide⟩⟩)))
  rw [seen_light] at HR
  obtain ⟨b, off, rfl, hb1, hc1⟩ := own_of hs (Below.refl _ _) h80.1
  have HS := Lib.hid (fun W (h : FR w [(w.heap.size + 1 + 1, #[.int .i8 0, .int .i8 0, .int .i8 0, .int .i8 0], 40), (w.heap.size + 1, #[.int .i8 (j : Int), .bool false], 37), (w.heap.size, #[.int .i8 l, .int .i8 1, .slice (some ⟨b, off, none⟩) ws.length c], 27)] W) => l04SeenL_any w.heap.size b off c j _ _ ws W (h.blk _ (List.mem_cons_of_mem _ (List.mem_cons_of_mem _ List.mem_cons_self))) hj (by omega) (Nat.lt_of_lt_of_le hb1 h.below.size) (hc1.below h.below hb1) (hw j))
  have hj0 : ¬ ((j : Int) < 0) := by omega
  have HI := Lib.hid (fun W => l00In_any (j : Int) (-1) ((ws.length : Int) - 1) W)
  rw [show inB (j : Int) (-1) ((ws.length : Int) - 1) = true from cb_t (by constructor <;> omega)] at HI
  clear hx hc1 hb1
  generalize wI ws j = x at *
  clear hok hs hw hl hk
  go_enter Try.func11, Try.ntmps11
  go_wp2_with fail
  refine HO.out.mono ?_
  rintro e w2 ⟨rfl, hb⟩
  have F1 := F0.next hb
  clear hb F0 HO
  obtain ⟨c0, c1, c2, c3⟩ := (F1.blk _ (List.mem_cons_of_mem _ (List.mem_cons_of_mem _ List.mem_cons_self))).three
  obtain ⟨d0, d1, d2⟩ := (F1.blk _ (List.mem_cons_of_mem _ List.mem_cons_self)).two
  obtain ⟨f0, f1, f2, f3, f4⟩ := (F1.blk _ List.mem_cons_self).four
  dsimp only at c0 c1 c2 c3 d0 d1 d2 f0 f1 f2 f3 f4
  have HB := Lib.hid F1.below
  have HFR := Lib.hid F1
  clear F1
  go_wp2_with fail
  refine (HI.out _).mono ?_
  rintro e w3 ⟨rfl, rfl⟩
  go_wp2_with fail
  refine (HS.out _ HFR.out).mono ?_
  rintro e w4 ⟨rfl, hb4⟩
  have F4 := HFR.out.next hb4
  have HB4 := Lib.hid F4.below
  clear c0 c1 c2 c3 d0 d1 d2 f0 f1 f2 f3 f4 HB HFR hb4 HS
  obtain ⟨f0, f1, f2, f3, f4⟩ := (F4.blk _ List.mem_cons_self).four
  dsimp only at f0 f1 f2 f3 f4
  have HB := Lib.hid F4.below
  clear F4
  go_wp2
  exact bodyPost_ret (v := .tuple #[wordV (opD x), .int .i64 0]) (by simp [results, Try.results11, go_sem, f0, f1, f2, f3]) rfl ⟨by rw [HR.out.1, HR.out.2], by repeat (first | exact HB.out | refine Below.setCell ?_ (by simp <;> omega) _)⟩
set_option maxHeartbeats 4000000 in
theorem specSeen_f2 (l k : Int) (a : Option Addr) (c : Nat) (ws : List Wf) (j : Nat) (w : World) (hs : Slw w.heap.size w a ws) (hl : B8 l) (hk : B8 k) (hn : ws.length ≤ 1048576) (hw : Wall ws) (hok : okX l k ws = true) (hj : j < ws.length) (hk0 : k = 2) :
    Calls Try.prog 11 #[fixV l k a ws.length c, caseV (j : Int) false] w fun e w' => e = .returned (.tuple #[wordV (soW l k ws ((j : Int), false)), .int .i64 (soC l k ws ((j : Int), false))]) ∧ Below w.heap.size w w' := by
  have F0 := (((FR.start w).box #[.int .i8 l, .int .i8 k, .slice a ws.length c] 27).box #[.int .i8 (j : Int), .bool false] 37).box #[.int .i8 0, .int .i8 0, .int .i8 0, .int .i8 0] 40
  have HO := Lib.hid (l04Ok_any w.heap.size l k a c ws _ (F0.blk _ (List.mem_cons_of_mem _ (List.mem_cons_of_mem _ List.mem_cons_self))) (slw_up hs F0.below) hl hk hn hw)
  simp only [World.size_alloc] at F0
  have hx := okX_t hok
  have h80 := hx.2.2.1
  rw [hok] at HO
  subst hk0
  have HR := Lib.hid (so_t (x := ((j : Int), false)) hok ((upC_mem _ _ _).2 (.inr ⟨j, hj, .inr ⟨rfl, by decide⟩⟩)))
  rw [seen_light] at HR
  obtain ⟨b, off, rfl, hb1, hc1⟩ := own_of hs (Below.refl _ _) h80.1
  have HS := Lib.hid (fun W (h : FR w [(w.heap.size + 1 + 1, #[.int .i8 0, .int .i8 0, .int .i8 0, .int .i8 0], 40), (w.heap.size + 1, #[.int .i8 (j : Int), .bool false], 37), (w.heap.size, #[.int .i8 l, .int .i8 2, .slice (some ⟨b, off, none⟩) ws.length c], 27)] W) => l04SeenL_any w.heap.size b off c j _ _ ws W (h.blk _ (List.mem_cons_of_mem _ (List.mem_cons_of_mem _ List.mem_cons_self))) hj (by omega) (Nat.lt_of_lt_of_le hb1 h.below.size) (hc1.below h.below hb1) (hw j))
  have hj0 : ¬ ((j : Int) < 0) := by omega
  have HI := Lib.hid (fun W => l00In_any (j : Int) (-1) ((ws.length : Int) - 1) W)
  rw [show inB (j : Int) (-1) ((ws.length : Int) - 1) = true from cb_t (by constructor <;> omega)] at HI
  clear hx hc1 hb1
  generalize wI ws j = x at *
  clear hok hs hw hl hk
  go_enter Try.func11, Try.ntmps11
  go_wp2_with fail
  refine HO.out.mono ?_
  rintro e w2 ⟨rfl, hb⟩
  have F1 := F0.next hb
  clear hb F0 HO
  obtain ⟨c0, c1, c2, c3⟩ := (F1.blk _ (List.mem_cons_of_mem _ (List.mem_cons_of_mem _ List.mem_cons_self))).three
  obtain ⟨d0, d1, d2⟩ := (F1.blk _ (List.mem_cons_of_mem _ List.mem_cons_self)).two
  obtain ⟨f0, f1, f2, f3, f4⟩ := (F1.blk _ List.mem_cons_self).four
  dsimp only at c0 c1 c2 c3 d0 d1 d2 f0 f1 f2 f3 f4
  have HB := Lib.hid F1.below
  have HFR := Lib.hid F1
  clear F1
  go_wp2_with fail
  refine (HI.out _).mono ?_
  rintro e w3 ⟨rfl, rfl⟩
  go_wp2_with fail
  refine (HS.out _ HFR.out).mono ?_
  rintro e w4 ⟨rfl, hb4⟩
  have F4 := HFR.out.next hb4
  have HB4 := Lib.hid F4.below
  clear c0 c1 c2 c3 d0 d1 d2 f0 f1 f2 f3 f4 HB HFR hb4 HS
  obtain ⟨f0, f1, f2, f3, f4⟩ := (F4.blk _ List.mem_cons_self).four
  dsimp only at f0 f1 f2 f3 f4
  have HB := Lib.hid F4.below
  clear F4
  go_wp2
  exact bodyPost_ret (v := .tuple #[wordV (opD x), .int .i64 0]) (by simp [results, Try.results11, go_sem, f0, f1, f2, f3]) rfl ⟨by rw [HR.out.1, HR.out.2], by repeat (first | exact HB.out | refine Below.setCell ?_ (by simp <;> omega) _)⟩
theorem specSeenOf_any (l k : Int) (a : Option Addr) (c : Nat) (ws : List Wf) (cc : Int) (hh : Bool) (w : World) (hs : Slw w.heap.size w a ws) (hl : B8 l) (hk : B8 k) (hn : ws.length ≤ 1048576) (hw : Wall ws) (hcc : B8 cc) :
    Calls Try.prog 11 #[fixV l k a ws.length c, caseV cc hh] w fun e w' => e = .returned (.tuple #[wordV (soW l k ws (cc, hh)), .int .i64 (soC l k ws (cc, hh))]) ∧ Below w.heap.size w w' := by
  cases hok : okX l k ws
  · exact specSeen_no l k a c ws cc hh w hs hl hk hn hw hok
  by_cases hr : -1 ≤ cc ∧ cc ≤ (ws.length : Int) - 1
  · by_cases h0 : cc < 0
    · obtain rfl : cc = -1 := by omega
      cases hh
      · exact specSeen_none_f l k a c ws () w hs hl hk hn hw hok
      · exact specSeen_none_t l k a c ws () w hs hl hk hn hw hok
    · obtain ⟨j, rfl⟩ : ∃ j : Nat, cc = j := ⟨cc.toNat, by omega⟩
      have hj : j < ws.length := by omega
      have hk3 := (okX_t hok).2.1
      rcases k_of hk3 with h | h | h <;> cases hh
      · exact specSeen_f0 l k a c ws j w hs hl hk hn hw hok hj h
      · exact specSeen_t0 l k a c ws j w hs hl hk hn hw hok hj h
      · exact specSeen_f1 l k a c ws j w hs hl hk hn hw hok hj h
      · exact specSeen_t1 l k a c ws j w hs hl hk hn hw hok hj h
      · exact specSeen_f2 l k a c ws j w hs hl hk hn hw hok hj h
      · exact specSeen_t2 l k a c ws j w hs hl hk hn hw hok hj h
  · by_cases h0 : cc < 0
    · exact specSeen_out_lo l k a c ws cc hh w hs hl hk hn hw hok hcc hr h0
    · exact specSeen_out_hi l k a c ws cc hh w hs hl hk hn hw hok hcc hr h0
end Go.Proofs.Ytieghjpecoiodaa
