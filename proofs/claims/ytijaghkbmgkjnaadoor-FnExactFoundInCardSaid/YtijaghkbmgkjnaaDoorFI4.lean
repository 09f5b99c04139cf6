/-
  The function that recovers; FoundIn of the program.
-/
import Derived.Test.YtijaghkbmgkjnaaDoorFI3
namespace Go.Proofs.YtijaghkbmgkjnaaDoor
open Go.RowKit
set_option maxRecDepth 100000
set_option linter.unusedVariables false

theorem res_guarded {W : World} {b d : Nat} {u v : Value} {t t2 : TypeId} (K : Blk W b #[u] t) (K2 : Blk W d #[v] t2) (tmps : Array Value) (h6 : tmps.getD 2 undef = .pointer (some ⟨b, 0, none⟩)) (h7 : tmps.getD 3 undef = .pointer (some ⟨d, 0, none⟩)) : (results Tryd.f14 tmps).run Tryd.prog W = .ok (.tuple #[u, v]) W := by
  have h6' : tmps[2]?.getD undef = .pointer (some ⟨b, 0, none⟩) := by simpa using h6
  have h7' : tmps[3]?.getD undef = .pointer (some ⟨d, 0, none⟩) := by simpa using h7
  have e0 := K.cell 0
  have e2 := K2.cell 0
  simp at e0 e2
  simp [results, Tryd.results14, go_sem, e0, e2, h6', h7']
set_option maxHeartbeats 2000000 in
theorem guard_panics (g : Value) (n : Int) (w : World) (hc : ∀ W, Below w.heap.size w W → Calls Tryd.prog 15 #[g] W fun e w' => e = .panicked [lostE n false] ∧ Below W.heap.size W w') :
    Calls Tryd.prog 14 #[.func (.func 15) #[g] #[]] w fun e w' => e = .returned (.tuple #[.int .i64 0, .iface 64 (.agg #[.int .i64 n])]) ∧ Below w.heap.size w w' := by
  have F0 := ((FR.start w).box #[.int .i64 0] 2).box #[.nilIface] 42
  simp only [World.size_alloc] at F0
  have hmf : ∀ (fn : Fn) (first cap : Array Value) (w : World), (Instr.makeFunc fn first cap).run Tryd.prog w = .ok (.func fn first cap) w := fun _ _ _ _ => rfl
  have HC := Lib.hid (hc _ F0.below)
  clear hc
  go_enter_defers Tryd.func14, Tryd.ntmps14
  go_wp2_with fail
  refine HC.out.mono ?_
  rintro e w2 ⟨rfl, hb⟩
  have F1 := F0.next hb
  have h1 := F1.blk _ (List.mem_cons_of_mem _ List.mem_cons_self)
  have h2 := F1.blk _ List.mem_cons_self
  dsimp only at h1 h2
  have HB := Lib.hid (And.intro h1 (And.intro h2 F1.below))
  clear F0 F1 hb h1 h2 HC
  refine leaves_cons (f := 26) (args := #[.pointer (some ⟨w.heap.size, 0, none⟩), .pointer (some ⟨w.heap.size + 1, 0, none⟩)]) (by simp) (by simp [go_sem]) ?_
  refine (catch_panicking w.heap.size (w.heap.size + 1) n _ _ [] _ HB.out.1 HB.out.2.1 (by omega)).mono ?_
  rintro e u' w'' ⟨rfl, rfl, h1, h2, h3⟩
  exact ⟨_, res_guarded h1 h2 _ rfl rfl, rfl, HB.out.2.2.trans (h3 _ (by omega) (by omega) HB.out.2.2.size)⟩
set_option maxHeartbeats 2000000 in
theorem guard_nil (g : Value) (x : Int) (w : World) (hc : ∀ W, Below w.heap.size w W → Calls Tryd.prog 15 #[g] W fun e w' => e = .returned (.tuple #[.int .i64 x, .nilIface]) ∧ Below W.heap.size W w') :
    Calls Tryd.prog 14 #[.func (.func 15) #[g] #[]] w fun e w' => e = .returned (.tuple #[.int .i64 x, .nilIface]) ∧ Below w.heap.size w w' := by
  have F0 := ((FR.start w).box #[.int .i64 0] 2).box #[.nilIface] 42
  simp only [World.size_alloc] at F0
  have hmf : ∀ (fn : Fn) (first cap : Array Value) (w : World), (Instr.makeFunc fn first cap).run Tryd.prog w = .ok (.func fn first cap) w := fun _ _ _ _ => rfl
  have HC := Lib.hid (hc _ F0.below)
  clear hc
  go_enter_defers Tryd.func14, Tryd.ntmps14
  go_wp2_with fail
  refine HC.out.mono ?_
  rintro e w2 ⟨rfl, hb⟩
  have F1 := F0.next hb
  have h1 := F1.blk _ (List.mem_cons_of_mem _ List.mem_cons_self)
  have h2 := F1.blk _ List.mem_cons_self
  dsimp only at h1 h2
  have k1 := (h1.set 0 (.int .i64 x)).setOther (show w.heap.size ≠ w.heap.size + 1 by omega) 0 (.nilIface)
  have k2 := (h2.setOther (show w.heap.size + 1 ≠ w.heap.size by omega) 0 (.int .i64 x)).set 0 (.nilIface)
  have HB := Lib.hid (And.intro k1 (And.intro k2 ((F1.below.setCell (p := ⟨w.heap.size, 0, none⟩) (by simp) (.int .i64 x)).setCell (p := ⟨w.heap.size + 1, 0, none⟩) (by simp) (.nilIface))))
  obtain ⟨e0, ef⟩ := (show w2.cell? ⟨w.heap.size, 0, none⟩ = some (.int .i64 0) ∧ ∀ i, w2.frozen? ⟨w.heap.size, i, none⟩ = false from ⟨h1.cell 0, h1.free⟩)
  obtain ⟨q0, qf⟩ := (show w2.cell? ⟨w.heap.size + 1, 0, none⟩ = some .nilIface ∧ ∀ i, w2.frozen? ⟨w.heap.size + 1, i, none⟩ = false from ⟨h2.cell 0, h2.free⟩)
  clear F0 F1 hb h1 h2 k1 k2 HC
  go_wp2
  refine leaves_cons (f := 26) (args := #[.pointer (some ⟨w.heap.size, 0, none⟩), .pointer (some ⟨w.heap.size + 1, 0, none⟩)]) (by simp) (by simp [go_sem]) ?_
  refine (catch_idle ⟨w.heap.size, 0, none⟩ ⟨w.heap.size + 1, 0, none⟩ _).mono ?_
  rintro e u' w'' ⟨rfl, rfl, rfl⟩
  exact ⟨_, res_guarded HB.out.1 HB.out.2.1 _ rfl rfl, rfl, HB.out.2.2⟩
set_option maxHeartbeats 2000000 in
theorem guard_ifc (g : Value) (x : Int) (t : TypeId) (v : Value) (w : World) (hc : ∀ W, Below w.heap.size w W → Calls Tryd.prog 15 #[g] W fun e w' => e = .returned (.tuple #[.int .i64 x, .iface t v]) ∧ Below W.heap.size W w') :
    Calls Tryd.prog 14 #[.func (.func 15) #[g] #[]] w fun e w' => e = .returned (.tuple #[.int .i64 x, .iface t v]) ∧ Below w.heap.size w w' := by
  have F0 := ((FR.start w).box #[.int .i64 0] 2).box #[.nilIface] 42
  simp only [World.size_alloc] at F0
  have hmf : ∀ (fn : Fn) (first cap : Array Value) (w : World), (Instr.makeFunc fn first cap).run Tryd.prog w = .ok (.func fn first cap) w := fun _ _ _ _ => rfl
  have HC := Lib.hid (hc _ F0.below)
  clear hc
  go_enter_defers Tryd.func14, Tryd.ntmps14
  go_wp2_with fail
  refine HC.out.mono ?_
  rintro e w2 ⟨rfl, hb⟩
  have F1 := F0.next hb
  have h1 := F1.blk _ (List.mem_cons_of_mem _ List.mem_cons_self)
  have h2 := F1.blk _ List.mem_cons_self
  dsimp only at h1 h2
  have k1 := (h1.set 0 (.int .i64 x)).setOther (show w.heap.size ≠ w.heap.size + 1 by omega) 0 (.iface t v)
  have k2 := (h2.setOther (show w.heap.size + 1 ≠ w.heap.size by omega) 0 (.int .i64 x)).set 0 (.iface t v)
  have HB := Lib.hid (And.intro k1 (And.intro k2 ((F1.below.setCell (p := ⟨w.heap.size, 0, none⟩) (by simp) (.int .i64 x)).setCell (p := ⟨w.heap.size + 1, 0, none⟩) (by simp) (.iface t v))))
  obtain ⟨e0, ef⟩ := (show w2.cell? ⟨w.heap.size, 0, none⟩ = some (.int .i64 0) ∧ ∀ i, w2.frozen? ⟨w.heap.size, i, none⟩ = false from ⟨h1.cell 0, h1.free⟩)
  obtain ⟨q0, qf⟩ := (show w2.cell? ⟨w.heap.size + 1, 0, none⟩ = some .nilIface ∧ ∀ i, w2.frozen? ⟨w.heap.size + 1, i, none⟩ = false from ⟨h2.cell 0, h2.free⟩)
  clear F0 F1 hb h1 h2 k1 k2 HC
  go_wp2
  refine leaves_cons (f := 26) (args := #[.pointer (some ⟨w.heap.size, 0, none⟩), .pointer (some ⟨w.heap.size + 1, 0, none⟩)]) (by simp) (by simp [go_sem]) ?_
  refine (catch_idle ⟨w.heap.size, 0, none⟩ ⟨w.heap.size + 1, 0, none⟩ _).mono ?_
  rintro e u' w'' ⟨rfl, rfl, rfl⟩
  exact ⟨_, res_guarded HB.out.1 HB.out.2.1 _ rfl rfl, rfl, HB.out.2.2⟩
set_option maxHeartbeats 4000000 in
theorem foundIn_any (l kk : Int) (a : Option Addr) (c : Nat) (xs : List Ak) (w : World) (hs : Sla w.heap.size w a xs) (hl : B8 l) (hk : B8 kk) (hn : xs.length ≤ 1048576) (hw : Aall xs) (s n : Addr) (he : Errs w s n) :
    Calls Tryd.prog 7 #[gamV l kk a xs.length c] w fun e w' => e = .returned (.tuple #[.int .i64 (fdV l kk xs), .int .i64 (fdC l kk xs)]) ∧ Below w.heap.size w w' := by
  have F0 := (FR.start w).box #[.int .i8 l, .int .i8 kk, .slice a xs.length c] 31
  have HV := Lib.hid (validGame_any l kk a c xs _ (hs.up F0.below (Nat.le_refl _)) hl hk hn hw)
  obtain ⟨c0, c1, c2, -⟩ := (F0.blk _ List.mem_cons_self).three
  cases h : okG l kk xs
  · obtain ⟨e1, e2⟩ := fd_bad h
    rw [h] at HV
    rw [e1, e2]
    clear e1 e2 h hs hw he
    generalize xs.length = m at *
    go_enter Tryd.func7, Tryd.ntmps7
    go_wp2_with fail
    refine HV.out.mono ?_
    rintro e w2 ⟨rfl, hb⟩
    have HB := Lib.hid (F0.next hb).below
    clear hb F0 c0 c1 c2
    go_wp2
    go_ret2
    exact ⟨rfl, HB.out⟩
  rw [h] at HV
  have hg := okG_t h
  obtain ⟨e1, e2⟩ := fd_good h
  rw [e1, e2]
  obtain ⟨ln, rfl⟩ := Int.eq_ofNat_of_zero_le (show 0 ≤ l by omega)
  rw [show ((ln : Int).toNat) = ln from rfl]
  clear e1 e2 h
  by_cases h0 : (candL kk xs ln).length = 0
  · have HG := Lib.hid (fun (W : World) (hb : Below w.heap.size w W) => guard_panics (gamV ln kk a xs.length c) xs.length W (fun W2 hb2 => only_none ln kk a c xs W2 ((hs.up hb (Nat.le_refl _)).up hb2 (Nat.le_refl _)) hg.2.2.1 hw (by omega) hg.2.1 h0))
    have HD := Lib.hid (fun (W : World) (hb : Below w.heap.size w W) => code_lost xs.length s n W (he.below hb))
    rw [show oneV (candL kk xs ln) = 0 from by unfold oneV; rw [if_neg (by omega)], show oneC (candL kk xs ln) = 8 from by unfold oneC; rw [if_pos h0]]
    clear hs hw he hl hk hg h0
    generalize xs.length = m at *
    go_enter Tryd.func7, Tryd.ntmps7
    go_wp2_with fail
    refine HV.out.mono ?_
    rintro e w2 ⟨rfl, hb⟩
    have F1 := F0.next hb
    clear hb F0 c0 c1 c2
    obtain ⟨c0, c1, c2, -⟩ := (F1.blk _ List.mem_cons_self).three
    go_wp2_with fail
    refine (HG.out _ F1.below).mono ?_
    rintro e w3 ⟨rfl, hb⟩
    have F2 := F1.next hb
    clear hb F1 c0 c1 c2
    go_wp2_with fail
    refine (HD.out _ F2.below).mono ?_
    rintro e w4 ⟨rfl, hb⟩
    have HB := Lib.hid (F2.next hb).below
    clear hb F2
    go_wp2
    go_ret2
    exact ⟨rfl, HB.out⟩
  by_cases h1 : (candL kk xs ln).length = 1
  · have HG := Lib.hid (fun (W : World) (hb : Below w.heap.size w W) => guard_nil (gamV ln kk a xs.length c) (oneV (candL kk xs ln)) W (fun W2 hb2 => only_one ln kk a c xs W2 ((hs.up hb (Nat.le_refl _)).up hb2 (Nat.le_refl _)) hg.2.2.1 hw (by omega) hg.2.1 h1))
    have HD := Lib.hid (fun (W : World) (hb : Below w.heap.size w W) => code_nil W)
    rw [show oneV (candL kk xs ln) = oneV (candL kk xs ln) from rfl, show oneC (candL kk xs ln) = 0 from by unfold oneC; rw [if_neg h0, if_pos h1]]
    generalize oneV (candL kk xs ln) = V at *
    clear hs hw he hl hk hg h0 h1
    generalize xs.length = m at *
    go_enter Tryd.func7, Tryd.ntmps7
    go_wp2_with fail
    refine HV.out.mono ?_
    rintro e w2 ⟨rfl, hb⟩
    have F1 := F0.next hb
    clear hb F0 c0 c1 c2
    obtain ⟨c0, c1, c2, -⟩ := (F1.blk _ List.mem_cons_self).three
    go_wp2_with fail
    refine (HG.out _ F1.below).mono ?_
    rintro e w3 ⟨rfl, hb⟩
    have F2 := F1.next hb
    clear hb F1 c0 c1 c2
    go_wp2_with fail
    refine (HD.out _ F2.below).mono ?_
    rintro e w4 ⟨rfl, hb⟩
    have HB := Lib.hid (F2.next hb).below
    clear hb F2
    go_wp2
    go_ret2
    exact ⟨rfl, HB.out⟩
  · have HG := Lib.hid (fun (W : World) (hb : Below w.heap.size w W) => guard_ifc (gamV ln kk a xs.length c) 0 _ _ W (fun W2 hb2 => only_several ln kk a c xs W2 ((hs.up hb (Nat.le_refl _)).up hb2 (Nat.le_refl _)) hg.2.2.1 hw (by omega) hg.2.1 s n ((he.below hb).below hb2) h0 h1))
    have HD := Lib.hid (fun (W : World) (hb : Below w.heap.size w W) => code_several s n W (he.below hb))
    rw [show oneV (candL kk xs ln) = 0 from by unfold oneV; rw [if_neg h1], show oneC (candL kk xs ln) = 4 from by unfold oneC; rw [if_neg h0, if_neg h1]]
    clear hs hw he hl hk hg h0 h1
    generalize xs.length = m at *
    go_enter Tryd.func7, Tryd.ntmps7
    go_wp2_with fail
    refine HV.out.mono ?_
    rintro e w2 ⟨rfl, hb⟩
    have F1 := F0.next hb
    clear hb F0 c0 c1 c2
    obtain ⟨c0, c1, c2, -⟩ := (F1.blk _ List.mem_cons_self).three
    go_wp2_with fail
    refine (HG.out _ F1.below).mono ?_
    rintro e w3 ⟨rfl, hb⟩
    have F2 := F1.next hb
    clear hb F1 c0 c1 c2
    go_wp2_with fail
    refine (HD.out _ F2.below).mono ?_
    rintro e w4 ⟨rfl, hb⟩
    have HB := Lib.hid (F2.next hb).below
    clear hb F2
    go_wp2
    go_ret2
    exact ⟨rfl, HB.out⟩
end Go.Proofs.YtijaghkbmgkjnaaDoor
