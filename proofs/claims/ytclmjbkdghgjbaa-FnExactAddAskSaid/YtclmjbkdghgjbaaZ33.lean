/-
  The walks of NewGame, and of its law.
-/
import Derived.Test.YtclmjbkdghgjbaaZ8
import Derived.Test.YtclmjbkdghgjbaaFQg
namespace Go.Proofs.Ytclmjbkdghgjbaa
open Go.RowKit
set_option maxRecDepth 100000
set_option linter.unusedVariables false

def okN (n l : Int) : Prop := (1 ≤ n ∧ n ≤ 60) ∧ (0 ≤ l ∧ l ≤ 3)
noncomputable def ngN (n l : Int) : Int := if cb (okN n l) = true then n else 0
noncomputable def ngL (n l : Int) : Int := if cb (okN n l) = true then l else 0
noncomputable def ngC (n l : Int) : Int := if cb (okN n l) = true then 0 else 2
theorem ng_bad {n l : Int} (h : ¬ okN n l) : ngN n l = 0 ∧ ngL n l = 0 ∧ ngC n l = 2 := by
  unfold ngN ngL ngC; rw [cb_f h]; exact ⟨rfl, rfl, rfl⟩
theorem ng_good {n l : Int} (h : okN n l) : ngN n l = n ∧ ngL n l = l ∧ ngC n l = 0 := by
  unfold ngN ngL ngC; rw [cb_t h]; exact ⟨rfl, rfl, rfl⟩
theorem okN_b {n l : Int} (h : okN n l) : (inB n 1 60 && inB l 0 3) = true := by
  rw [show inB n 1 60 = true from cb_t h.1, show inB l 0 3 = true from cb_t h.2]; rfl
theorem okN_f {n l : Int} (h : ¬ okN n l) : (inB n 1 60 && inB l 0 3) = false := by
  by_cases h1 : 1 ≤ n ∧ n ≤ 60
  · rw [show inB l 0 3 = false from cb_f (fun h2 => h ⟨h1, h2⟩)]; simp
  · rw [show inB n 1 60 = false from cb_f h1]; rfl
theorem Blk.set3 {w : World} {b : Nat} {v0 v1 v2 : Value} {t : TypeId} (h : Blk w b #[v0, v1, v2] t) (u0 u1 u2 : Value) :
    Blk (((w.setCell ⟨b, 0, none⟩ u0).setCell ⟨b, 1, none⟩ u1).setCell ⟨b, 2, none⟩ u2) b #[u0, u1, u2] t := ((h.set 0 u0).set 1 u1).set 2 u2
theorem below_set3 {n : Nat} {a w : World} (h : Below n a w) {b : Nat} (hb : n ≤ b) (u0 u1 u2 : Value) : Below n a (((w.setCell ⟨b, 0, none⟩ u0).setCell ⟨b, 1, none⟩ u1).setCell ⟨b, 2, none⟩ u2) :=
  ((h.setCell (p := ⟨b, 0, none⟩) hb u0).setCell (p := ⟨b, 1, none⟩) hb u1).setCell (p := ⟨b, 2, none⟩) hb u2
theorem res_specNewGame {W : World} {b : Nat} {v0 v1 v2 : Value} (K : Blk W b #[v0, v1, v2] 25) (c : Value) (tmps : Array Value) (h4 : tmps.getD 4 undef = .pointer (some ⟨b, 0, none⟩)) (h5 : tmps.getD 5 undef = c) : (results Try.f8 tmps).run Try.prog W = .ok (.tuple #[.agg #[v0, v1, v2], c]) W := by
  have h4' : tmps[4]?.getD undef = .pointer (some ⟨b, 0, none⟩) := by simpa using h4
  have h5' : tmps[5]?.getD undef = c := by simpa using h5
  obtain ⟨e0, e1, e2, -⟩ := K.three
  simp [results, Try.results8, go_sem, e0, e1, e2, h4', h5']
set_option maxHeartbeats 2000000 in
theorem specNewGame_any (n l : Int) (w : World) (hn : -9223372036854775808 ≤ n ∧ n ≤ 9223372036854775807) (hl : -9223372036854775808 ≤ l ∧ l ≤ 9223372036854775807) :
    Calls Try.prog 8 #[.int .i64 n, .int .i64 l] w fun e w' => e = .returned (.tuple #[gamV (ngN n l) (ngL n l) none 0 0, .int .i64 (ngC n l)]) ∧ Below w.heap.size w w' := by
  have F0 := (FR.start w).box #[.int .i8 0, .int .i8 0, .slice none 0 0] 25
  have k0 := F0.blk _ List.mem_cons_self
  have HV := Lib.hid (fun W => l06Begin_any n l W)
  by_cases h : okN n l
  · obtain ⟨e1, e2, e3⟩ := ng_good h
    rw [okN_b h] at HV
    rw [e1, e2, e3]
    have h1 := h.1
    have h2 := h.2
    clear h e1 e2 e3
    go_enter Try.func8, Try.ntmps8
    go_wp2_with fail
    refine (HV.out _).mono ?_
    rintro e w2 ⟨rfl, rfl⟩
    generalize w.alloc (.cells #[.int .i8 0, .int .i8 0, .slice none 0 0] 25) = w1 at *
    have HR := Lib.hid (Blk.set3 k0 (.int .i8 n) (.int .i8 l) (.slice none 0 0))
    have HB := Lib.hid (below_set3 F0.below (Nat.le_refl _) (.int .i8 n) (.int .i8 l) (.slice none 0 0))
    obtain ⟨d0, d1, d2, d3⟩ := k0.three
    clear F0 k0
    go_wp2
    exact bodyPost_ret (res_specNewGame HR.out _ _ rfl rfl) rfl ⟨rfl, HB.out⟩
  · obtain ⟨e1, e2, e3⟩ := ng_bad h
    rw [okN_f h] at HV
    rw [e1, e2, e3]
    clear h e1 e2 e3
    go_enter Try.func8, Try.ntmps8
    go_wp2_with fail
    refine (HV.out _).mono ?_
    rintro e w2 ⟨rfl, rfl⟩
    generalize w.alloc (.cells #[.int .i8 0, .int .i8 0, .slice none 0 0] 25) = w1 at *
    have HR := Lib.hid (Blk.set3 k0 (.int .i8 0) (.int .i8 0) (.slice none 0 0))
    have HB := Lib.hid (below_set3 F0.below (Nat.le_refl _) (.int .i8 0) (.int .i8 0) (.slice none 0 0))
    obtain ⟨d0, d1, d2, d3⟩ := k0.three
    clear F0 k0
    go_wp2
    exact bodyPost_ret (res_specNewGame HR.out _ _ rfl rfl) rfl ⟨rfl, HB.out⟩
theorem res_newGame {W : World} {b : Nat} {v0 v1 v2 : Value} (K : Blk W b #[v0, v1, v2] 25) (c : Value) (tmps : Array Value) (h4 : tmps.getD 4 undef = .pointer (some ⟨b, 0, none⟩)) (h5 : tmps.getD 5 undef = c) : (results Try.f9 tmps).run Try.prog W = .ok (.tuple #[.agg #[v0, v1, v2], c]) W := by
  have h4' : tmps[4]?.getD undef = .pointer (some ⟨b, 0, none⟩) := by simpa using h4
  have h5' : tmps[5]?.getD undef = c := by simpa using h5
  obtain ⟨e0, e1, e2, -⟩ := K.three
  simp [results, Try.results9, go_sem, e0, e1, e2, h4', h5']
set_option maxHeartbeats 2000000 in
theorem newGame_any (n l : Int) (w : World) (hn : -9223372036854775808 ≤ n ∧ n ≤ 9223372036854775807) (hl : -9223372036854775808 ≤ l ∧ l ≤ 9223372036854775807) :
    Calls Try.prog 9 #[.int .i64 n, .int .i64 l] w fun e w' => e = .returned (.tuple #[gamV (ngN n l) (ngL n l) none 0 0, .int .i64 (ngC n l)]) ∧ Below w.heap.size w w' := by
  have F0 := (FR.start w).box #[.int .i8 0, .int .i8 0, .slice none 0 0] 25
  have k0 := F0.blk _ List.mem_cons_self
  have HV := Lib.hid (fun W => within_any n 1 60 W)
  have HW := Lib.hid (fun W => within_any l 0 3 W)
  by_cases h1 : 1 ≤ n ∧ n ≤ 60
  case neg =>
    obtain ⟨e1, e2, e3⟩ := ng_bad (show ¬ okN n l from fun h => h1 h.1)
    rw [show inB n 1 60 = false from cb_f h1] at HV
    rw [e1, e2, e3]
    clear e1 e2 e3 h1
    go_enter Try.func9, Try.ntmps9
    go_wp2_with fail
    refine (HV.out _).mono ?_
    rintro e w2 ⟨rfl, rfl⟩
    generalize w.alloc (.cells #[.int .i8 0, .int .i8 0, .slice none 0 0] 25) = w1 at *
    have HR := Lib.hid (Blk.set3 k0 (.int .i8 0) (.int .i8 0) (.slice none 0 0))
    have HB := Lib.hid (below_set3 F0.below (Nat.le_refl _) (.int .i8 0) (.int .i8 0) (.slice none 0 0))
    obtain ⟨d0, d1, d2, d3⟩ := k0.three
    clear F0 k0
    go_wp2
    exact bodyPost_ret (res_newGame HR.out _ _ rfl rfl) rfl ⟨rfl, HB.out⟩
  rw [show inB n 1 60 = true from cb_t h1] at HV
  by_cases h2 : 0 ≤ l ∧ l ≤ 3
  case neg =>
    obtain ⟨e1, e2, e3⟩ := ng_bad (show ¬ okN n l from fun h => h2 h.2)
    rw [show inB l 0 3 = false from cb_f h2] at HW
    rw [e1, e2, e3]
    clear e1 e2 e3 h1 h2
    go_enter Try.func9, Try.ntmps9
    go_wp2_with fail
    refine (HV.out _).mono ?_
    rintro e w2 ⟨rfl, rfl⟩
    go_wp2_with fail
    refine (HW.out _).mono ?_
    rintro e w2 ⟨rfl, rfl⟩
    generalize w.alloc (.cells #[.int .i8 0, .int .i8 0, .slice none 0 0] 25) = w1 at *
    have HR := Lib.hid (Blk.set3 k0 (.int .i8 0) (.int .i8 0) (.slice none 0 0))
    have HB := Lib.hid (below_set3 F0.below (Nat.le_refl _) (.int .i8 0) (.int .i8 0) (.slice none 0 0))
    obtain ⟨d0, d1, d2, d3⟩ := k0.three
    clear F0 k0
    go_wp2
    exact bodyPost_ret (res_newGame HR.out _ _ rfl rfl) rfl ⟨rfl, HB.out⟩
  rw [show inB l 0 3 = true from cb_t h2] at HW
  obtain ⟨e1, e2, e3⟩ := ng_good (show okN n l from ⟨h1, h2⟩)
  rw [e1, e2, e3]
  clear e1 e2 e3
  · go_enter Try.func9, Try.ntmps9
    go_wp2_with fail
    refine (HV.out _).mono ?_
    rintro e w2 ⟨rfl, rfl⟩
    go_wp2_with fail
    refine (HW.out _).mono ?_
    rintro e w2 ⟨rfl, rfl⟩
    generalize w.alloc (.cells #[.int .i8 0, .int .i8 0, .slice none 0 0] 25) = w1 at *
    have HR := Lib.hid (Blk.set3 k0 (.int .i8 n) (.int .i8 l) (.slice none 0 0))
    have HB := Lib.hid (below_set3 F0.below (Nat.le_refl _) (.int .i8 n) (.int .i8 l) (.slice none 0 0))
    obtain ⟨d0, d1, d2, d3⟩ := k0.three
    clear F0 k0
    go_wp2
    exact bodyPost_ret (res_newGame HR.out _ _ rfl rfl) rfl ⟨rfl, HB.out⟩
theorem eqGame_nil (l k : Int) (a a2 : Option Addr) (c c2 : Nat) (w : World) :
    Calls Try.prog 10 #[gamV l k a 0 c, gamV l k a2 0 c2] w fun e w' => e = .returned (.bool true) ∧ Below w.heap.size w w' := eqGame_any l k a a2 c c2 [] w (by simp) (.inl rfl)
theorem markGame_nil (l k : Int) (a : Option Addr) (c : Nat) (w : World) :
    Calls Try.prog 11 #[gamV l k a 0 c, .int .i64 1] w fun e w' => e = .returned (.int .i64 1) ∧ Below w.heap.size w w' := by
  have HB := Lib.hid ((FR.start w).box #[.int .i8 l, .int .i8 k, .slice a 0 c] 25).below
  have HM := Lib.hid (fun W => markAskS_nil a c 1 W)
  go_enter Try.func11, Try.ntmps11
  go_wp2_with fail
  refine (HM.out _).mono ?_
  rintro e w2 ⟨rfl, rfl⟩
  go_wp2
  go_ret
  exact ⟨rfl, HB.out⟩
theorem heldGame_nil (l k : Int) (a : Option Addr) (c : Nat) (w : World) :
    Calls Try.prog 12 #[gamV l k a 0 c, .int .i64 1] w fun e w' => e = .returned (.int .i64 1) ∧ Below w.heap.size w w' := by
  have HB := Lib.hid ((FR.start w).box #[.int .i8 l, .int .i8 k, .slice a 0 c] 25).below
  have HM := Lib.hid (fun W => heldAskS_nil a c 1 W)
  go_enter Try.func12, Try.ntmps12
  go_wp2_with fail
  refine (HM.out _).mono ?_
  rintro e w2 ⟨rfl, rfl⟩
  go_wp2
  go_ret
  exact ⟨rfl, HB.out⟩
set_option maxHeartbeats 4000000 in
theorem walk_FnExactNewGame (n0 : Int) (n1 : Int) (w : World) (p0 : -9223372036854775808 ≤ n0 ∧ n0 ≤ 9223372036854775807) (p1 : -9223372036854775808 ≤ n1 ∧ n1 ≤ 9223372036854775807) :
    Calls Try.prog 3 #[.int .i64 n0, .int .i64 n1] w fun e w' => e = .returned (.bool true) ∧ Below w.heap.size w w' := by
  have F0 := FR.start w
  have HS := Lib.hid (fun W => specNewGame_any n0 n1 W p0 p1)
  have HI := Lib.hid (fun W => newGame_any n0 n1 W p0 p1)
  generalize ngN n0 n1 = A at *
  generalize ngL n0 n1 = B at *
  generalize ngC n0 n1 = C at *
  have HE := Lib.hid (fun a a2 c c2 W => eqGame_nil A B a a2 c c2 W)
  have HM := Lib.hid (fun a c W => markGame_nil A B a c W)
  have HH := Lib.hid (fun a c W => heldGame_nil A B a c W)
  clear p0 p1
  go_enter Try.func3, Try.ntmps3
  go_wp2_with fail
  refine (HS.out _).mono ?_
  rintro e w1 ⟨rfl, hb1⟩
  have F1 := F0.next hb1
  clear hb1 F0
  have F2 := F1.box #[.int .i8 A, .int .i8 B, .slice none 0 0] 25
  clear F1
  go_wp2_with fail
  refine (HI.out _).mono ?_
  rintro e w3 ⟨rfl, hb3⟩
  have F3 := F2.next hb3
  clear hb3 F2
  have F4 := F3.box #[.int .i8 A, .int .i8 B, .slice none 0 0] 25
  clear F3
  obtain ⟨x00, x01, x02, -⟩ := (F4.blk _ (List.mem_cons_self)).three
  obtain ⟨x10, x11, x12, -⟩ := (F4.blk _ (List.mem_cons_of_mem _ (List.mem_cons_self))).three
  go_wp2_with fail
  refine (HE.out _ _ _ _ _).mono ?_
  rintro e w5 ⟨rfl, hb5⟩
  have F5 := F4.next hb5
  clear hb5 F4 x00 x01 x02 x10 x11 x12
  obtain ⟨x00, x01, x02, -⟩ := (F5.blk _ (List.mem_cons_self)).three
  go_wp2_with fail
  refine (HM.out _ _ _).mono ?_
  rintro e w6 ⟨rfl, hb6⟩
  have F6 := F5.next hb6
  clear hb6 F5 x00 x01 x02
  obtain ⟨x00, x01, x02, -⟩ := (F6.blk _ (List.mem_cons_self)).three
  go_wp2_with fail
  refine (HH.out _ _ _).mono ?_
  rintro e w7 ⟨rfl, hb7⟩
  have F7 := F6.next hb7
  clear hb7 F6 x00 x01 x02
  go_wp2_with fail
  refine (HI.out _).mono ?_
  rintro e w8 ⟨rfl, hb8⟩
  have F8 := F7.next hb8
  clear hb8 F7
  have F9 := F8.box #[.int .i8 A, .int .i8 B, .slice none 0 0] 25
  clear F8
  obtain ⟨x00, x01, x02, -⟩ := (F9.blk _ (List.mem_cons_self)).three
  obtain ⟨x10, x11, x12, -⟩ := (F9.blk _ (List.mem_cons_of_mem _ (List.mem_cons_of_mem _ (List.mem_cons_self)))).three
  go_wp2_with fail
  refine (HE.out _ _ _ _ _).mono ?_
  rintro e w10 ⟨rfl, hb10⟩
  have F10 := F9.next hb10
  clear hb10 F9 x00 x01 x02 x10 x11 x12
  obtain ⟨x00, x01, x02, -⟩ := (F10.blk _ (List.mem_cons_of_mem _ (List.mem_cons_self))).three
  go_wp2_with fail
  refine (HH.out _ _ _).mono ?_
  rintro e w11 ⟨rfl, hb11⟩
  have F11 := F10.next hb11
  clear hb11 F10 x00 x01 x02
  have HB := Lib.hid F11.below
  clear F11
  go_wp2
  go_ret
  exact ⟨rfl, HB.out⟩
end Go.Proofs.Ytclmjbkdghgjbaa
