/-
  DecodeNear where there is nothing to look for.
-/
import Derived.Test.YtieghjpecoiodaaB2
import Derived.Test.YtieghjpecoiodaaB3
namespace Go.Proofs.Ytieghjpecoiodaa
open Go.RowKit
set_option maxRecDepth 100000
set_option linter.unusedVariables false

set_option maxHeartbeats 4000000 in
theorem decodeNear_no (l k : Int) (a : Option Addr) (c : Nat) (ws : List Wf) (x : Nat → Int) (wr : Int) (w : World) (hs : Slw w.heap.size w a ws) (hl : B8 l) (hk : B8 k) (hn : ws.length ≤ 1048576) (hw : Wall ws) (hx : W4 x) (hok : okX l k ws = false ∨ okD l x = false) :
    Calls Try.prog 12 #[fixV l k a ws.length c, wordV x, .int .i64 wr] w fun e w' => e = .returned (.tuple #[caseV 0 false, .int .i64 1]) ∧ Below w.heap.size w w' := by
  have F0 := ((((FR.start w).box #[.int .i8 l, .int .i8 k, .slice a ws.length c] 27).box (wordC x) 40).box #[.int .i64 wr] 2).box #[.int .i8 0, .bool false] 37
  have HO := Lib.hid (show Calls Try.prog 33 #[fixV l k a ws.length c, wordV x] _ fun e w' => e = .returned (.tuple #[.agg nopC, .int .i64 1]) ∧ Below _ _ w' from by
    have hs1 := slw_up hs F0.below
    cases h1 : okX l k ws
    · exact openSeen_f l k a c ws x _ hs1 hl hk hn hw hx h1
    · rcases hok with h2 | h2
      · rw [h1] at h2; cases h2
      · exact openSeen_d l k a c ws x _ hs1 hl hk hn hw hx h1 h2)
  simp only [World.size_alloc] at F0
  clear hok hw hs hn hl hk hx
  generalize ws.length = n at *
  obtain ⟨c0, c1, c2, c3⟩ := (F0.blk _ (List.mem_cons_of_mem _ (List.mem_cons_of_mem _ (List.mem_cons_of_mem _ List.mem_cons_self)))).three
  obtain ⟨x0, x1, x2, x3, x4⟩ := (F0.blk _ (List.mem_cons_of_mem _ (List.mem_cons_of_mem _ List.mem_cons_self))).four
  go_enter Try.func12, Try.ntmps12
  go_wp2_with fail
  refine HO.out.mono ?_
  rintro e w2 ⟨rfl, hb⟩
  have F1 := (F0.next hb).box nopC 58
  clear hb c0 c1 c2 c3 x0 x1 x2 x3 x4 HO F0
  obtain ⟨f0, f1, f2⟩ := (F1.blk _ (List.mem_cons_of_mem _ List.mem_cons_self)).two
  dsimp only at f0 f1 f2
  have HB := Lib.hid F1.below
  clear F1
  go_wp2
  exact bodyPost_ret (v := .tuple #[caseV 0 false, .int .i64 1]) (by simp [results, Try.results12, go_sem, f0, f1]) rfl ⟨rfl, by repeat (first | exact HB.out | refine Below.setCell ?_ (by simp <;> omega) _)⟩
end Go.Proofs.Ytieghjpecoiodaa
