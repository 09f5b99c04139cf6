/-
  The walks of StateOf.
-/
import Derived.Test.YtclmjbkdghgjbaaZ25
namespace Go.Proofs.Ytclmjbkdghgjbaa
open Go.RowKit
set_option maxRecDepth 100000
set_option linter.unusedVariables false

def soX (l kk : Int) (qs : List Ak) (i : Nat) : Int := if okG l kk qs = true then stG kk qs l.toNat i else 0
def soC (l kk : Int) (qs : List Ak) : Int := if okG l kk qs = true then 0 else 1
theorem so_bad {l kk : Int} {qs : List Ak} (h : okG l kk qs = false) : soX l kk qs = (fun _ => 0) ∧ soC l kk qs = 1 := by
  unfold soX soC; rw [h]; exact ⟨rfl, rfl⟩
theorem so_good {l kk : Int} {qs : List Ak} (h : okG l kk qs = true) : soX l kk qs = stG kk qs l.toNat ∧ soC l kk qs = 0 := by
  unfold soX soC; rw [h]; exact ⟨rfl, rfl⟩
theorem res_specStateOf {W : World} {b : Nat} {v0 v1 v2 v3 : Value} (K : Blk W b #[v0, v1, v2, v3] 40) (c : Value) (tmps : Array Value) (h4 : tmps.getD 2 undef = .pointer (some ⟨b, 0, none⟩)) (h5 : tmps.getD 3 undef = c) : (results Try.f17 tmps).run Try.prog W = .ok (.tuple #[.agg #[v0, v1, v2, v3], c]) W := by
  have h4' : tmps[2]?.getD undef = .pointer (some ⟨b, 0, none⟩) := by simpa using h4
  have h5' : tmps[3]?.getD undef = c := by simpa using h5
  obtain ⟨e0, e1, e2, e3, -⟩ := K.four
  simp [results, Try.results17, go_sem, e0, e1, e2, e3, h4', h5']
set_option maxHeartbeats 2000000 in
theorem specStateOf_any (l kk : Int) (a : Option Addr) (c : Nat) (xs : List Ak) (w : World) (hs : Sla w.heap.size w a xs) (hl : B8 l) (hk : B8 kk) (hn : xs.length ≤ 1048576) (hw : Aall xs) :
    Calls Try.prog 17 #[gamV l kk a xs.length c] w fun e w' => e = .returned (.tuple #[staV (soX l kk xs), .int .i64 (soC l kk xs)]) ∧ Below w.heap.size w w' := by
  have F0 := ((FR.start w).box #[.int .i8 l, .int .i8 kk, .slice a xs.length c] 25).box (staC (fun _ => 0)) 40
  simp only [World.size_alloc] at F0
  have HV := Lib.hid (l06Ok_any w.heap.size l kk a c xs _ (F0.blk _ (List.mem_cons_of_mem _ List.mem_cons_self)) (hs.up F0.below (Nat.le_refl _)) hl hk hn hw)
  cases h : okG l kk xs
  · obtain ⟨e1, e2⟩ := so_bad h
    rw [h] at HV
    rw [e1, e2]
    clear e1 e2 h hs hw
    generalize xs.length = n at *
    go_enter Try.func17, Try.ntmps17
    go_wp2_with fail
    refine HV.out.mono ?_
    rintro e w2 ⟨rfl, hb⟩
    have F1 := F0.next hb.below
    clear hb F0
    have k1 := F1.blk _ List.mem_cons_self
    have HR := Lib.hid (Blk.setAll k1 (.int .i64 0) (.int .i64 0) (.int .i64 0) (.int .i64 0))
    have HB := Lib.hid (below_setAll F1.below (show w.heap.size ≤ w.heap.size + 1 by omega) (.int .i64 0) (.int .i64 0) (.int .i64 0) (.int .i64 0))
    obtain ⟨d0, d1, d2, d3, d4⟩ := k1.four
    clear F1 k1
    go_wp2
    exact bodyPost_ret (res_specStateOf HR.out _ _ rfl rfl) rfl ⟨rfl, HB.out⟩
  obtain ⟨e1, e2⟩ := so_good h
  rw [h] at HV
  rw [e1, e2]
  have hg := okG_t h
  obtain ⟨ln, rfl⟩ := Int.eq_ofNat_of_zero_le (show 0 ≤ l by omega)
  have HT := Lib.hid (fun W (hK : Blk W w.heap.size #[.int .i8 (ln : Int), .int .i8 kk, .slice a xs.length c] 25) hs => l06State_any w.heap.size ln kk a c xs W hK hs hg.2.2.1 hw (by omega) hg.2.1)
  have HS := Lib.hid hs
  rw [show ((ln : Int).toNat) = ln from rfl]
  generalize stG kk xs ln = y at *
  clear e1 e2 h hs hw hg hl hk
  go_enter Try.func17, Try.ntmps17
  go_wp2_with fail
  refine HV.out.mono ?_
  rintro e w2 ⟨rfl, hb⟩
  have F1 := F0.next hb.below
  clear hb F0
  go_wp2_with fail
  refine (HT.out _ (F1.blk _ (List.mem_cons_of_mem _ List.mem_cons_self)) (HS.out.up F1.below (Nat.le_refl _))).mono ?_
  rintro e w3 ⟨rfl, hb⟩
  have F2 := F1.next hb
  clear hb F1
  have k1 := F2.blk _ List.mem_cons_self
  have HR := Lib.hid (Blk.setAll k1 (.int .i64 (y 0)) (.int .i64 (y 1)) (.int .i64 (y 2)) (.int .i64 (y 3)))
  have HB := Lib.hid (below_setAll F2.below (show w.heap.size ≤ w.heap.size + 1 by omega) (.int .i64 (y 0)) (.int .i64 (y 1)) (.int .i64 (y 2)) (.int .i64 (y 3)))
  obtain ⟨d0, d1, d2, d3, d4⟩ := k1.four
  clear F2 k1
  go_wp2
  exact bodyPost_ret (res_specStateOf HR.out _ _ rfl rfl) rfl ⟨rfl, HB.out⟩
theorem res_stateOf {W : World} {b : Nat} {v0 v1 v2 v3 : Value} (K : Blk W b #[v0, v1, v2, v3] 40) (c : Value) (tmps : Array Value) (h4 : tmps.getD 2 undef = .pointer (some ⟨b, 0, none⟩)) (h5 : tmps.getD 3 undef = c) : (results Try.f18 tmps).run Try.prog W = .ok (.tuple #[.agg #[v0, v1, v2, v3], c]) W := by
  have h4' : tmps[2]?.getD undef = .pointer (some ⟨b, 0, none⟩) := by simpa using h4
  have h5' : tmps[3]?.getD undef = c := by simpa using h5
  obtain ⟨e0, e1, e2, e3, -⟩ := K.four
  simp [results, Try.results18, go_sem, e0, e1, e2, e3, h4', h5']
set_option maxHeartbeats 2000000 in
theorem stateOf_any (l kk : Int) (a : Option Addr) (c : Nat) (xs : List Ak) (w : World) (hs : Sla w.heap.size w a xs) (hl : B8 l) (hk : B8 kk) (hn : xs.length ≤ 1048576) (hw : Aall xs) :
    Calls Try.prog 18 #[gamV l kk a xs.length c] w fun e w' => e = .returned (.tuple #[staV (soX l kk xs), .int .i64 (soC l kk xs)]) ∧ Below w.heap.size w w' := by
  have F0 := ((FR.start w).box #[.int .i8 l, .int .i8 kk, .slice a xs.length c] 25).box (staC (fun _ => 0)) 40
  simp only [World.size_alloc] at F0
  have HV := Lib.hid (validGame_any l kk a c xs _ (hs.up F0.below (Nat.le_refl _)) hl hk hn hw)
  obtain ⟨c0, c1, c2, -⟩ := (F0.blk _ (List.mem_cons_of_mem _ List.mem_cons_self)).three
  cases h : okG l kk xs
  · obtain ⟨e1, e2⟩ := so_bad h
    rw [h] at HV
    rw [e1, e2]
    clear e1 e2 h hs hw
    generalize xs.length = n at *
    go_enter Try.func18, Try.ntmps18
    go_wp2_with fail
    refine HV.out.mono ?_
    rintro e w2 ⟨rfl, hb⟩
    have F1 := F0.next hb
    clear hb F0 c0 c1 c2
    have k1 := F1.blk _ List.mem_cons_self
    have HR := Lib.hid (Blk.setAll k1 (.int .i64 0) (.int .i64 0) (.int .i64 0) (.int .i64 0))
    have HB := Lib.hid (below_setAll F1.below (show w.heap.size ≤ w.heap.size + 1 by omega) (.int .i64 0) (.int .i64 0) (.int .i64 0) (.int .i64 0))
    obtain ⟨d0, d1, d2, d3, d4⟩ := k1.four
    clear F1 k1
    go_wp2
    exact bodyPost_ret (res_stateOf HR.out _ _ rfl rfl) rfl ⟨rfl, HB.out⟩
  obtain ⟨e1, e2⟩ := so_good h
  rw [h] at HV
  rw [e1, e2]
  have hg := okG_t h
  obtain ⟨ln, rfl⟩ := Int.eq_ofNat_of_zero_le (show 0 ≤ l by omega)
  have HT := Lib.hid (fun W hs => stateM_any ln kk a c xs W hs hg.2.2.1 hw (by omega) hg.2.1)
  have HS := Lib.hid hs
  rw [show ((ln : Int).toNat) = ln from rfl]
  generalize stG kk xs ln = y at *
  clear e1 e2 h hs hw hg hl hk
  go_enter Try.func18, Try.ntmps18
  go_wp2_with fail
  refine HV.out.mono ?_
  rintro e w2 ⟨rfl, hb⟩
  have F1 := F0.next hb
  clear hb F0 c0 c1 c2
  obtain ⟨c0, c1, c2, -⟩ := (F1.blk _ (List.mem_cons_of_mem _ List.mem_cons_self)).three
  dsimp only at c0 c1 c2
  go_wp2_with fail
  refine (HT.out _ (HS.out.up F1.below (Nat.le_refl _))).mono ?_
  rintro e w3 ⟨rfl, hb⟩
  have F2 := F1.next hb
  clear hb F1 c0 c1 c2
  have k1 := F2.blk _ List.mem_cons_self
  have HR := Lib.hid (Blk.setAll k1 (.int .i64 (y 0)) (.int .i64 (y 1)) (.int .i64 (y 2)) (.int .i64 (y 3)))
  have HB := Lib.hid (below_setAll F2.below (show w.heap.size ≤ w.heap.size + 1 by omega) (.int .i64 (y 0)) (.int .i64 (y 1)) (.int .i64 (y 2)) (.int .i64 (y 3)))
  obtain ⟨d0, d1, d2, d3, d4⟩ := k1.four
  clear F2 k1
  go_wp2
  exact bodyPost_ret (res_stateOf HR.out _ _ rfl rfl) rfl ⟨rfl, HB.out⟩
end Go.Proofs.Ytclmjbkdghgjbaa
