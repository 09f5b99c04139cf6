/-
  DecodeNear with a number out of range, and where the cases are looked through.
-/
import Derived.Test.YtieghjpecoiodaaB5
import Derived.Test.YtieghjpecoiodaaB1
import Derived.Test.YtieghjpecoiodaaA7
namespace Go.Proofs.Ytieghjpecoiodaa
open Go.RowKit Go.Shelf
set_option maxRecDepth 100000
set_option linter.unusedVariables false

set_option maxHeartbeats 4000000 in
theorem decodeNear_out (l k : Int) (a : Option Addr) (c : Nat) (ws : List Wf) (x : Nat → Int) (wr : Int) (w : World) (hs : Slw w.heap.size w a ws) (hl : B8 l) (hk : B8 k) (hn : ws.length ≤ 1048576) (hw : Wall ws) (hx : W4 x) (hok : okX l k ws = true) (hd : okD l x = true) (hr : ¬ (0 ≤ wr ∧ wr ≤ 4)) :
    Calls Try.prog 12 #[fixV l k a ws.length c, wordV x, .int .i64 wr] w fun e w' => e = .returned (.tuple #[caseV 0 false, .int .i64 2]) ∧ Below w.heap.size w w' := by
  have F0 := ((((FR.start w).box #[.int .i8 l, .int .i8 k, .slice a ws.length c] 27).box (wordC x) 40).box #[.int .i64 wr] 2).box #[.int .i8 0, .bool false] 37
  have HO := Lib.hid (openSeen_t l k a c ws x _ (slw_up hs F0.below) hl hk hn hw hx hok hd)
  have HW := Lib.hid (fun W => within_any wr 0 4 W)
  rw [show inB wr 0 4 = false from cb_f hr] at HW
  simp only [World.size_alloc] at F0
  clear hok hw hs hn hl hk hx hd hr
  generalize ws.length = n at *
  obtain ⟨c0, c1, c2, c3⟩ := (F0.blk _ (List.mem_cons_of_mem _ (List.mem_cons_of_mem _ (List.mem_cons_of_mem _ List.mem_cons_self)))).three
  obtain ⟨x0, x1, x2, x3, x4⟩ := (F0.blk _ (List.mem_cons_of_mem _ (List.mem_cons_of_mem _ List.mem_cons_self))).four
  go_enter Try.func12, Try.ntmps12
  go_wp2_with fail
  refine HO.out.mono ?_
  rintro e w2 ⟨rfl, hb⟩
  have F1 := (F0.next hb).box (opC a n c l k) 58
  clear hb c0 c1 c2 c3 x0 x1 x2 x3 x4 HO F0
  obtain ⟨f0, f1, f2⟩ := (F1.blk _ (List.mem_cons_of_mem _ List.mem_cons_self)).two
  have k0 := (F1.blk _ (List.mem_cons_of_mem _ (List.mem_cons_of_mem _ List.mem_cons_self))).cell 0
  dsimp only at f0 f1 f2 k0
  have HB := Lib.hid F1.below
  clear F1
  go_wp2_with fail
  refine (HW.out _).mono ?_
  rintro e w3 ⟨rfl, rfl⟩
  go_wp2
  exact bodyPost_ret (v := .tuple #[caseV 0 false, .int .i64 2]) (by simp [results, Try.results12, go_sem, f0, f1]) rfl ⟨rfl, by repeat (first | exact HB.out | refine Below.setCell ?_ (by simp <;> omega) _)⟩

/-- The cases whose seen words are near. -/
def nearL (ws : List Wf) (x : Nat → Int) (wr : Int) (pre : List Cs) : List Cs := pre.filter (fun c => decide (dist (seenV ws c) x 4 ≤ wr))
theorem nearL_t {ws : List Wf} {x : Nat → Int} {wr : Int} {pre : List Cs} {c : Cs} (h : dist (seenV ws c) x 4 ≤ wr) : nearL ws x wr (pre ++ [c]) = nearL ws x wr pre ++ [c] := by simp [nearL, h]
theorem nearL_f {ws : List Wf} {x : Nat → Int} {wr : Int} {pre : List Cs} {c : Cs} (h : ¬ dist (seenV ws c) x 4 ≤ wr) : nearL ws x wr (pre ++ [c]) = nearL ws x wr pre := by simp [nearL, h]
theorem nearL_len (ws : List Wf) (x : Nat → Int) (wr : Int) (pre : List Cs) : (nearL ws x wr pre).length ≤ pre.length := List.length_filter_le _ _
end Go.Proofs.Ytieghjpecoiodaa
