/-
  A fixed plan opened with a word that has been seen.
-/
import Derived.Test.YtieghjpecoiodaaA6
namespace Go.Proofs.Ytieghjpecoiodaa
open Go.RowKit
set_option maxRecDepth 100000
set_option linter.unusedVariables false

theorem res_openSeen {W : World} {b : Nat} {v0 v1 v2 v3 v4 v5 : Value} (K : Blk W b #[v0, v1, v2, v3, v4, v5] 58) (c : Value) (tmps : Array Value) (h2 : tmps.getD 4 undef = .pointer (some ⟨b, 0, none⟩)) (h3 : tmps.getD 5 undef = c) : (results Try.f33 tmps).run Try.prog W = .ok (.tuple #[.agg #[v0, v1, v2, v3, v4, v5], c]) W := by
  have h2' : tmps[4]?.getD undef = .pointer (some ⟨b, 0, none⟩) := by simpa using h2
  have h3' : tmps[5]?.getD undef = c := by simpa using h3
  obtain ⟨e0, e1, e2, e3, e4, e5, -⟩ := K.six
  simp [results, Try.results33, go_sem, e0, e1, e2, e3, e4, e5, h2', h3']
set_option maxHeartbeats 4000000 in
theorem openSeen_t (l k : Int) (a : Option Addr) (c : Nat) (ws : List Wf) (x : Nat → Int) (w : World) (hs : Slw w.heap.size w a ws) (hl : B8 l) (hk : B8 k) (hn : ws.length ≤ 1048576) (hw : Wall ws) (hx : W4 x) (hok : okX l k ws = true) (hd : okD l x = true) :
    Calls Try.prog 33 #[fixV l k a ws.length c, wordV x] w fun e w' => e = .returned (.tuple #[opV a ws.length c l k, .int .i64 0]) ∧ Below w.heap.size w w' := by
  have F0 := (((FR.start w).box #[.int .i8 l, .int .i8 k, .slice a ws.length c] 27).box (wordC x) 40).box nopC 58
  have HO := Lib.hid (openFixed_t l k a c ws _ (slw_up hs F0.below) hl hk hn hw hok)
  have HV := Lib.hid (fun W => validWord_any l x W (i64_8 hl) hx)
  rw [hd] at HV
  clear hd
  simp only [World.size_alloc] at F0
  clear hok hw hs hn hl hk hx
  generalize ws.length = n at *
  obtain ⟨c0, c1, c2, c3⟩ := (F0.blk _ (List.mem_cons_of_mem _ (List.mem_cons_of_mem _ List.mem_cons_self))).three
  go_enter Try.func33, Try.ntmps33
  go_wp2_with fail
  refine HO.out.mono ?_
  rintro e w2 ⟨rfl, hb⟩
  have F2 := (F0.next hb).box (opC a n c l k) 58
  clear hb F0 c0 c1 c2 c3 HO
  obtain ⟨d0, d1, d2, d3, d4, d5, d6⟩ := (F2.blk _ List.mem_cons_self).six
  obtain ⟨x0, x1, x2, x3, x4⟩ := (F2.blk _ (List.mem_cons_of_mem _ (List.mem_cons_of_mem _ List.mem_cons_self))).four
  dsimp only at x0 x1 x2 x3 x4
  go_wp2_with fail
  refine (HV.out _).mono ?_
  rintro e w3 ⟨rfl, hb3⟩
  have F3 := F2.next hb3
  clear hb3 F2 d0 d1 d2 d3 d4 d5 d6 x0 x1 x2 x3 x4 HV
  generalize w2.heap.size = ob at *
  obtain ⟨d0, d1, d2, d3, d4, d5, d6⟩ := (F3.blk _ List.mem_cons_self).six
  have k1 := F3.blk _ (List.mem_cons_of_mem _ List.mem_cons_self)
  dsimp only at k1 d0 d1 d2 d3 d4 d5 d6
  have hle : w.heap.size ≤ w.heap.size + 1 + 1 := by omega
  have HK := Lib.hid ((((((k1.set 0 (.slice a n c)).set 1 (.int .i64 l)).set 2 (.int .i8 (n : Int))).set 3 (.int .i8 k)).set 4 (.bool true)).set 5 (.bool false))
  have HB := Lib.hid (((((((F3.below).setCell (show w.heap.size ≤ (⟨w.heap.size + 1 + 1, 0, none⟩ : Addr).block from hle) (.slice a n c)).setCell (show w.heap.size ≤ (⟨w.heap.size + 1 + 1, 1, none⟩ : Addr).block from hle) (.int .i64 l)).setCell (show w.heap.size ≤ (⟨w.heap.size + 1 + 1, 2, none⟩ : Addr).block from hle) (.int .i8 (n : Int))).setCell (show w.heap.size ≤ (⟨w.heap.size + 1 + 1, 3, none⟩ : Addr).block from hle) (.int .i8 k)).setCell (show w.heap.size ≤ (⟨w.heap.size + 1 + 1, 4, none⟩ : Addr).block from hle) (.bool true)).setCell (show w.heap.size ≤ (⟨w.heap.size + 1 + 1, 5, none⟩ : Addr).block from hle) (.bool false))
  obtain ⟨f0, f1, f2, f3, f4, f5, f6⟩ := k1.six
  clear F3 k1 hle
  go_wp2
  exact bodyPost_ret (res_openSeen HK.out (.int .i64 0) _ rfl rfl) rfl ⟨rfl, HB.out⟩
set_option maxHeartbeats 4000000 in
theorem openSeen_d (l k : Int) (a : Option Addr) (c : Nat) (ws : List Wf) (x : Nat → Int) (w : World) (hs : Slw w.heap.size w a ws) (hl : B8 l) (hk : B8 k) (hn : ws.length ≤ 1048576) (hw : Wall ws) (hx : W4 x) (hok : okX l k ws = true) (hd : okD l x = false) :
    Calls Try.prog 33 #[fixV l k a ws.length c, wordV x] w fun e w' => e = .returned (.tuple #[.agg nopC, .int .i64 1]) ∧ Below w.heap.size w w' := by
  have F0 := (((FR.start w).box #[.int .i8 l, .int .i8 k, .slice a ws.length c] 27).box (wordC x) 40).box nopC 58
  have HO := Lib.hid (openFixed_t l k a c ws _ (slw_up hs F0.below) hl hk hn hw hok)
  have HV := Lib.hid (fun W => validWord_any l x W (i64_8 hl) hx)
  rw [hd] at HV
  clear hd
  simp only [World.size_alloc] at F0
  clear hok hw hs hn hl hk hx
  generalize ws.length = n at *
  obtain ⟨c0, c1, c2, c3⟩ := (F0.blk _ (List.mem_cons_of_mem _ (List.mem_cons_of_mem _ List.mem_cons_self))).three
  go_enter Try.func33, Try.ntmps33
  go_wp2_with fail
  refine HO.out.mono ?_
  rintro e w2 ⟨rfl, hb⟩
  have F2 := (F0.next hb).box (opC a n c l k) 58
  clear hb F0 c0 c1 c2 c3 HO
  obtain ⟨d0, d1, d2, d3, d4, d5, d6⟩ := (F2.blk _ List.mem_cons_self).six
  obtain ⟨x0, x1, x2, x3, x4⟩ := (F2.blk _ (List.mem_cons_of_mem _ (List.mem_cons_of_mem _ List.mem_cons_self))).four
  dsimp only at x0 x1 x2 x3 x4
  go_wp2_with fail
  refine (HV.out _).mono ?_
  rintro e w3 ⟨rfl, hb3⟩
  have F3 := F2.next hb3
  clear hb3 F2 d0 d1 d2 d3 d4 d5 d6 x0 x1 x2 x3 x4 HV
  generalize w2.heap.size = ob at *
  obtain ⟨d0, d1, d2, d3, d4, d5, d6⟩ := (F3.blk _ List.mem_cons_self).six
  have k1 := F3.blk _ (List.mem_cons_of_mem _ List.mem_cons_self)
  dsimp only at k1 d0 d1 d2 d3 d4 d5 d6
  have hle : w.heap.size ≤ w.heap.size + 1 + 1 := by omega
  have HK := Lib.hid ((((((k1.set 0 (.slice none 0 0)).set 1 (.int .i64 0)).set 2 (.int .i8 0)).set 3 (.int .i8 0)).set 4 (.bool false)).set 5 (.bool false))
  have HB := Lib.hid (((((((F3.below).setCell (show w.heap.size ≤ (⟨w.heap.size + 1 + 1, 0, none⟩ : Addr).block from hle) (.slice none 0 0)).setCell (show w.heap.size ≤ (⟨w.heap.size + 1 + 1, 1, none⟩ : Addr).block from hle) (.int .i64 0)).setCell (show w.heap.size ≤ (⟨w.heap.size + 1 + 1, 2, none⟩ : Addr).block from hle) (.int .i8 0)).setCell (show w.heap.size ≤ (⟨w.heap.size + 1 + 1, 3, none⟩ : Addr).block from hle) (.int .i8 0)).setCell (show w.heap.size ≤ (⟨w.heap.size + 1 + 1, 4, none⟩ : Addr).block from hle) (.bool false)).setCell (show w.heap.size ≤ (⟨w.heap.size + 1 + 1, 5, none⟩ : Addr).block from hle) (.bool false))
  obtain ⟨f0, f1, f2, f3, f4, f5, f6⟩ := k1.six
  clear F3 k1 hle
  go_wp2
  exact bodyPost_ret (res_openSeen HK.out (.int .i64 1) _ rfl rfl) rfl ⟨rfl, HB.out⟩
set_option maxHeartbeats 4000000 in
theorem openSeen_f (l k : Int) (a : Option Addr) (c : Nat) (ws : List Wf) (x : Nat → Int) (w : World) (hs : Slw w.heap.size w a ws) (hl : B8 l) (hk : B8 k) (hn : ws.length ≤ 1048576) (hw : Wall ws) (hx : W4 x) (hok : okX l k ws = false) :
    Calls Try.prog 33 #[fixV l k a ws.length c, wordV x] w fun e w' => e = .returned (.tuple #[.agg nopC, .int .i64 1]) ∧ Below w.heap.size w w' := by
  have F0 := (((FR.start w).box #[.int .i8 l, .int .i8 k, .slice a ws.length c] 27).box (wordC x) 40).box nopC 58
  have HO := Lib.hid (openFixed_f l k a c ws _ (slw_up hs F0.below) hl hk hn hw hok)
  simp only [World.size_alloc] at F0
  clear hok hw hs hn hl hk hx
  generalize ws.length = n at *
  obtain ⟨c0, c1, c2, c3⟩ := (F0.blk _ (List.mem_cons_of_mem _ (List.mem_cons_of_mem _ List.mem_cons_self))).three
  go_enter Try.func33, Try.ntmps33
  go_wp2_with fail
  refine HO.out.mono ?_
  rintro e w2 ⟨rfl, hb⟩
  have F2 := (F0.next hb).box nopC 58
  clear hb F0 c0 c1 c2 c3 HO
  have F3 := F2
  clear F2
  go_upto_region 4 with fail
  generalize hw3 : w2.alloc (.cells nopC 58) = w3 at *
  generalize w2.heap.size = ob at *
  clear hw3
  obtain ⟨d0, d1, d2, d3, d4, d5, d6⟩ := (F3.blk _ List.mem_cons_self).six
  have k1 := F3.blk _ (List.mem_cons_of_mem _ List.mem_cons_self)
  dsimp only at k1 d0 d1 d2 d3 d4 d5 d6
  have hle : w.heap.size ≤ w.heap.size + 1 + 1 := by omega
  have HK := Lib.hid ((((((k1.set 0 (.slice none 0 0)).set 1 (.int .i64 0)).set 2 (.int .i8 0)).set 3 (.int .i8 0)).set 4 (.bool false)).set 5 (.bool false))
  have HB := Lib.hid (((((((F3.below).setCell (show w.heap.size ≤ (⟨w.heap.size + 1 + 1, 0, none⟩ : Addr).block from hle) (.slice none 0 0)).setCell (show w.heap.size ≤ (⟨w.heap.size + 1 + 1, 1, none⟩ : Addr).block from hle) (.int .i64 0)).setCell (show w.heap.size ≤ (⟨w.heap.size + 1 + 1, 2, none⟩ : Addr).block from hle) (.int .i8 0)).setCell (show w.heap.size ≤ (⟨w.heap.size + 1 + 1, 3, none⟩ : Addr).block from hle) (.int .i8 0)).setCell (show w.heap.size ≤ (⟨w.heap.size + 1 + 1, 4, none⟩ : Addr).block from hle) (.bool false)).setCell (show w.heap.size ≤ (⟨w.heap.size + 1 + 1, 5, none⟩ : Addr).block from hle) (.bool false))
  obtain ⟨f0, f1, f2, f3, f4, f5, f6⟩ := k1.six
  clear F3 k1 hle
  go_wp2
  exact bodyPost_ret (res_openSeen HK.out (.int .i64 1) _ rfl rfl) rfl ⟨rfl, HB.out⟩
end Go.Proofs.Ytieghjpecoiodaa
