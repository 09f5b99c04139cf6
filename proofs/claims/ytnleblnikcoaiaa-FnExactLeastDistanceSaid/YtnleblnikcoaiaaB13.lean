/-
  The model's Decode, whole.
-/
import Derived.Test.YtnleblnikcoaiaaB12
namespace Go.Proofs.Ytnleblnikcoaiaa
open Go.RowKit
set_option maxRecDepth 100000
set_option linter.unusedVariables false

set_option maxHeartbeats 4000000 in
theorem specDc_noF (l k : Int) (a : Option Addr) (c : Nat) (ws : List Wf) (x : Nat → Int) (w : World) (hs : Slw w.heap.size w a ws) (hl : B8 l) (hk : B8 k) (hn : ws.length ≤ 1048576) (hw : Wall ws) (hx : W4 x) (hok : okX l k ws = false) :
    Calls Try.prog 16 #[fixV l k a ws.length c, wordV x] w fun e w' => e = .returned (.tuple #[caseV 0 false, .int .i64 1]) ∧ Below w.heap.size w w' := by
  have F0 := (((FR.start w).box #[.int .i8 l, .int .i8 k, .slice a ws.length c] 35).box (wordC x) 30).box #[.int .i8 0, .bool false] 37
  have HO := Lib.hid (l04Ok_any w.heap.size l k a c ws _ (F0.blk _ (List.mem_cons_of_mem _ (List.mem_cons_of_mem _ List.mem_cons_self))) (slw_up hs F0.below) hl hk hn hw)
  rw [hok] at HO
  simp only [World.size_alloc] at F0
  clear hok hw hs hn hl hk hx
  go_enter Try.func16, Try.ntmps16
  go_wp2_with fail
  refine HO.out.mono ?_
  rintro e w2 ⟨rfl, hb⟩
  have F1 := F0.next hb
  clear hb F0 HO
  obtain ⟨f0, f1, f2⟩ := (F1.blk _ List.mem_cons_self).two
  dsimp only at f0 f1 f2
  have HB := Lib.hid F1.below
  clear F1
  go_wp2
  exact bodyPost_ret (v := .tuple #[caseV 0 false, .int .i64 1]) (by simp [results, Try.results16, go_sem, f0, f1]) rfl ⟨rfl, by repeat (first | exact HB.out | refine Below.setCell ?_ (by simp <;> omega) _)⟩
set_option maxHeartbeats 4000000 in
theorem specDc_noD (l k : Int) (a : Option Addr) (c : Nat) (ws : List Wf) (x : Nat → Int) (w : World) (hs : Slw w.heap.size w a ws) (hl : B8 l) (hk : B8 k) (hn : ws.length ≤ 1048576) (hw : Wall ws) (hx : W4 x) (hok : okX l k ws = true) (hd : okD l x = false) :
    Calls Try.prog 16 #[fixV l k a ws.length c, wordV x] w fun e w' => e = .returned (.tuple #[caseV 0 false, .int .i64 1]) ∧ Below w.heap.size w w' := by
  have F0 := (((FR.start w).box #[.int .i8 l, .int .i8 k, .slice a ws.length c] 35).box (wordC x) 30).box #[.int .i8 0, .bool false] 37
  have HO := Lib.hid (l04Ok_any w.heap.size l k a c ws _ (F0.blk _ (List.mem_cons_of_mem _ (List.mem_cons_of_mem _ List.mem_cons_self))) (slw_up hs F0.below) hl hk hn hw)
  rw [hok] at HO
  have HV := Lib.hid (fun W => l04Word_any l x W (i64_8 hl) hx)
  rw [hd] at HV
  simp only [World.size_alloc] at F0
  unfold B8 at hl
  clear hok hd hw hs hn hk hx
  go_enter Try.func16, Try.ntmps16
  go_wp2_with fail
  refine HO.out.mono ?_
  rintro e w2 ⟨rfl, hb⟩
  have F1 := F0.next hb
  clear hb F0 HO
  obtain ⟨c0, c1, c2, c3⟩ := (F1.blk _ (List.mem_cons_of_mem _ (List.mem_cons_of_mem _ List.mem_cons_self))).three
  obtain ⟨x0, x1, x2, x3, x4⟩ := (F1.blk _ (List.mem_cons_of_mem _ List.mem_cons_self)).four
  dsimp only at c0 c1 c2 c3 x0 x1 x2 x3 x4
  go_wp2_with fail
  refine (HV.out _).mono ?_
  rintro e w3 ⟨rfl, hb3⟩
  have F2 := F1.next hb3
  clear hb3 F1 HV c0 c1 c2 c3 x0 x1 x2 x3 x4
  obtain ⟨f0, f1, f2⟩ := (F2.blk _ List.mem_cons_self).two
  dsimp only at f0 f1 f2
  have HB := Lib.hid F2.below
  clear F2
  go_wp2
  exact bodyPost_ret (v := .tuple #[caseV 0 false, .int .i64 1]) (by simp [results, Try.results16, go_sem, f0, f1]) rfl ⟨rfl, by repeat (first | exact HB.out | refine Below.setCell ?_ (by simp <;> omega) _)⟩
set_option maxHeartbeats 4000000 in
theorem specDc_in (l k : Int) (b off c : Nat) (ws : List Wf) (x : Nat → Int) (w : World) (hb1 : b < w.heap.size) (hc1 : WAt w b off ws) (hl : B8 l) (hk : B8 k) (hw : Wall ws) (hx : W4 x) (hok : okX l k ws = true) (hd : okD l x = true) :
    Calls Try.prog 16 #[fixV l k (some ⟨b, off, none⟩) ws.length c, wordV x] w fun e w' => e = .returned (.tuple #[caseV (deV l k ws x).1 (deV l k ws x).2, .int .i64 (deC l k ws x)]) ∧ Below w.heap.size w w' := by
  have F0 := (((FR.start w).box #[.int .i8 l, .int .i8 k, .slice (some ⟨b, off, none⟩) ws.length c] 35).box (wordC x) 30).box #[.int .i8 0, .bool false] 37
  have hx2 := okX_t hok
  have h80 : ws.length ≤ 80 := by have := hx2.2.2.1.2; omega
  have HO := Lib.hid (l04Ok_any w.heap.size l k (some ⟨b, off, none⟩) c ws _ (F0.blk _ (List.mem_cons_of_mem _ (List.mem_cons_of_mem _ List.mem_cons_self))) (slw_up (.inr ⟨b, off, rfl, hb1, hc1⟩) F0.below) hl hk (by omega) hw)
  rw [hok] at HO
  have HV := Lib.hid (fun W => l04Word_any l x W (i64_8 hl) hx)
  rw [hd] at HV
  have HD := Lib.hid (fun W (h : Below w.heap.size w W) K => l04Decode_any w.heap.size b off c l k ws x W K (Nat.lt_of_lt_of_le hb1 h.size) (hc1.below h hb1) h80 hw hx2.2.1)
  have HQ := Lib.hid (show (fcQ ws (upC k true ws.length) (wordV x) = none ∧ deV l k ws x = (0, false) ∧ deC l k ws x = 6 ∧ ldV ws (upC k true ws.length) x = (0, false)) ∨ ∃ q, fcQ ws (upC k true ws.length) (wordV x) = some q ∧ deV l k ws x = q ∧ deC l k ws x = 0 ∧ ldV ws (upC k true ws.length) x = q from by
    cases hq : fcQ ws (upC k true ws.length) (wordV x) with
    | none => exact .inl ⟨rfl, (de_none hok hd hq).1, (de_none hok hd hq).2, by unfold ldV; rw [hq]; rfl⟩
    | some q => exact .inr ⟨q, rfl, (de_some hok hd hq).1, (de_some hok hd hq).2, by unfold ldV; rw [hq]; rfl⟩)
  simp only [World.size_alloc] at F0
  unfold B8 at hl
  clear hok hd hw hk hx hx2 hc1
  rcases HQ.out with ⟨hq, e1, e2, e3⟩ | ⟨q, hq, e1, e2, e3⟩
  all_goals
    rw [e1, e2]
    rw [hq, e3] at HD
    clear e1 e2 e3 hq HQ
    go_enter Try.func16, Try.ntmps16
    go_wp2_with fail
    refine HO.out.mono ?_
    rintro e w2 ⟨rfl, hb⟩
    have F1 := F0.next hb
    clear hb F0 HO
    obtain ⟨c0, c1, c2, c3⟩ := (F1.blk _ (List.mem_cons_of_mem _ (List.mem_cons_of_mem _ List.mem_cons_self))).three
    obtain ⟨x0, x1, x2, x3, x4⟩ := (F1.blk _ (List.mem_cons_of_mem _ List.mem_cons_self)).four
    dsimp only at c0 c1 c2 c3 x0 x1 x2 x3 x4
    go_wp2_with fail
    refine (HV.out _).mono ?_
    rintro e w3 ⟨rfl, hb3⟩
    have F2 := F1.next hb3
    clear hb3 F1 HV c0 c1 c2 c3 x0 x1 x2 x3 x4
    obtain ⟨x0, x1, x2, x3, x4⟩ := (F2.blk _ (List.mem_cons_of_mem _ List.mem_cons_self)).four
    dsimp only at x0 x1 x2 x3 x4
    go_wp2_with fail
    refine (HD.out _ F2.below (F2.blk _ (List.mem_cons_of_mem _ (List.mem_cons_of_mem _ List.mem_cons_self)))).mono ?_
    rintro e w4 ⟨rfl, hb4⟩
    have F3 := F2.next hb4
    clear hb4 F2 HD x0 x1 x2 x3 x4
    obtain ⟨f0, f1, f2⟩ := (F3.blk _ List.mem_cons_self).two
    have hlt := (F3.blk _ List.mem_cons_self).lt
    dsimp only at f0 f1 f2 hlt
    have HB := Lib.hid F3.below
    have hsz := F3.size
    clear F3
    go_wp2
  · exact bodyPost_ret (v := .tuple #[caseV 0 false, .int .i64 6]) (by simp [results, Try.results16, go_sem, f0, f1, hlt]) rfl ⟨rfl, by repeat (first | exact HB.out | refine Below.setCell ?_ (by simp <;> omega) _ | refine Below.alloc ?_ (by simp <;> omega) _)⟩
  · exact bodyPost_ret (v := .tuple #[caseV q.1 q.2, .int .i64 0]) (by simp [results, Try.results16, go_sem, f0, f1, hlt]) rfl ⟨rfl, by repeat (first | exact HB.out | refine Below.setCell ?_ (by simp <;> omega) _ | refine Below.alloc ?_ (by simp <;> omega) _)⟩
theorem specDecode_any (l k : Int) (a : Option Addr) (c : Nat) (ws : List Wf) (x : Nat → Int) (w : World) (hs : Slw w.heap.size w a ws) (hl : B8 l) (hk : B8 k) (hn : ws.length ≤ 1048576) (hw : Wall ws) (hx : W4 x) :
    Calls Try.prog 16 #[fixV l k a ws.length c, wordV x] w fun e w' => e = .returned (.tuple #[caseV (deV l k ws x).1 (deV l k ws x).2, .int .i64 (deC l k ws x)]) ∧ Below w.heap.size w w' := by
  cases hok : okX l k ws
  · rw [(de_no (.inl hok)).1, (de_no (.inl hok)).2]
    exact specDc_noF l k a c ws x w hs hl hk hn hw hx hok
  cases hd : okD l x
  · rw [(de_no (.inr hd)).1, (de_no (.inr hd)).2]
    exact specDc_noD l k a c ws x w hs hl hk hn hw hx hok hd
  obtain ⟨b, off, rfl, hb1, hc1⟩ := own_of hs (Below.refl _ _) (okX_t hok).2.2.1.1
  exact specDc_in l k b off c ws x w hb1 hc1 hl hk hw hx hok hd
end Go.Proofs.Ytnleblnikcoaiaa
