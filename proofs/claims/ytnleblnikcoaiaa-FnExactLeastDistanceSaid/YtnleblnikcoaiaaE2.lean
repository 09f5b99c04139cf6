/-
  The laws' helpers on lists of words and on fixed plans: copying and comparing.
-/
import Derived.Test.YtnleblnikcoaiaaE1
namespace Go.Proofs.Ytnleblnikcoaiaa
open Go.RowKit
set_option maxRecDepth 100000
set_option linter.unusedVariables false

theorem Try.info_wd : (Try.prog.info? 30).map (fun i => (i.zero, i.size, i.bytes)) = some (some (.agg #[.int .i8 0, .int .i8 0, .int .i8 0, .int .i8 0]), 4, 4) := by kernel_rfl
abbrev z4 : Array Value := #[.int .i8 0, .int .i8 0, .int .i8 0, .int .i8 0]
theorem run_make_wd (n : Nat) (hn : n ≤ 1048576) (w : World) : (Instr.makeSlice 33 (.int .i64 n) (.int .i64 n)).run Try.prog w = .ok (.slice (some ⟨w.heap.size, 0, none⟩) n n) (w.alloc (.cells (madeCells z4 (n * 4)) 30)) := by
  obtain ⟨i, hi, hzz⟩ := Option.map_eq_some_iff.1 Try.info_wd
  simp only [Prod.mk.injEq] at hzz
  obtain ⟨hz, hs, hb⟩ := hzz
  have hr := run_make (P := Try.prog) w 33 30 i _ Try.underlying33 hi hz .i64 .i64 (n : Int) (n : Int) (by omega) (Int.le_refl _) (by rw [hb]; omega) (by omega)
  rw [hs] at hr
  simp only [Int.toNat_natCast] at hr
  exact hr
theorem made_row (w : World) (n : Nat) (t : TypeId) : (w.alloc (.cells (madeCells z4 (n * 4)) t)).rowIs w.heap.size t (n * 4) (fun _ => .int .i8 0) := by
  have h := World.rowIs_alloc w (madeCells z4 (n * 4)) t (fun _ => .int .i8 0) (fun i hi => by
    rw [size_madeCells] at hi
    simp only [madeCells, Array.getElem?_map, Array.getElem?_range, hi, if_true, Option.map_some]
    have : i % 4 = 0 ∨ i % 4 = 1 ∨ i % 4 = 2 ∨ i % 4 = 3 := by omega
    rcases this with e | e | e | e <;> simp [e])
  rwa [size_madeCells] at h
/-- The first k words are laid, the others not yet. -/
def wPart (ws : List Wf) (k i : Nat) : Value := if i < k * 4 then wcell ws i else .int .i8 0
set_option maxHeartbeats 1000000 in
theorem toWordS_some (b off c : Nat) (ws : List Wf) (w : World) (hn : ws.length ≤ 1048576) (hb : b < w.heap.size) (hc : WAt w b off ws) :
    Calls Try.prog 32 #[.slice (some ⟨b, off, none⟩) ws.length c] w fun e w' => ∃ g, e = .returned (.slice (some ⟨g, 0, none⟩) ws.length ws.length) ∧ w.heap.size ≤ g ∧ Blk w' g (wcells ws) 30 ∧ Below w.heap.size w w' := by
  have hmk := run_make_wd ws.length hn
  go_enter Try.func32, Try.ntmps32
  go_wp2
  clear hmk
  have hr0 := (made_row w ws.length 30).congr (g := wPart ws 0) (fun i _ => by simp [wPart])
  have hB0 := (Below.refl w.heap.size w).alloc (Nat.le_refl _) (.cells (madeCells z4 (ws.length * 4)) 30)
  generalize (w.alloc (.cells (madeCells z4 (ws.length * 4)) 30)) = w1 at *
  go_loopw [4] (fun i wr => ∃ k : Nat, k ≤ ws.length ∧ i = .int .i64 k ∧ wr.rowIs w.heap.size 30 (ws.length * 4) (wPart ws k) ∧ Below w.heap.size w wr) (fun i _ => ws.length - (intOf i).toNat)
  case atStart => exact ⟨0, Nat.zero_le _, rfl, hr0, hB0⟩
  case round =>
    obtain ⟨k, hk, rfl, hr, hB⟩ := hrel
    by_cases hlt : k < ws.length
    · obtain ⟨c0, c1, c2, c3⟩ := (hc.below hB hb).four k hlt
      have HR := Lib.hid hr
      have HB := Lib.hid hB
      have hlt3 := hr.lt
      have hkl : (k : Int) < (ws.length : Int) := by omega
      clear hr hB hc
      have HX := Lib.hid (show ∃ x, wI ws k = x from ⟨_, rfl⟩)
      obtain ⟨x, hx⟩ := HX.out
      have HX2 := Lib.hid hx
      rw [hx] at c0 c1 c2 c3
      clear hx HX
      go_wp2_with fail
      refine (toWord_any x _).mono ?_
      rintro e w2 ⟨rfl, hb2⟩
      have hr2 : w2.rowIs w.heap.size 30 (ws.length * 4) (wPart ws k) := by
        obtain ⟨cs, h1, h2, h3⟩ := HR.out
        exact ⟨cs, (hb2.block _ hlt3).trans h1, h2, h3⟩
      have HB2 := Lib.hid (HB.out.trans (hb2.mono HB.out.size))
      have p0 : w2.cell? ⟨w.heap.size, k * 4, none⟩ = some (.int .i8 0) := by rw [hr2.cell (by omega)]; simp [wPart]
      have p1 : w2.cell? ⟨w.heap.size, k * 4 + 1, none⟩ = some (.int .i8 0) := by rw [hr2.cell (by omega), wPart, if_neg (by omega)]
      have p2 : w2.cell? ⟨w.heap.size, k * 4 + 2, none⟩ = some (.int .i8 0) := by rw [hr2.cell (by omega), wPart, if_neg (by omega)]
      have p3 : w2.cell? ⟨w.heap.size, k * 4 + 3, none⟩ = some (.int .i8 0) := by rw [hr2.cell (by omega), wPart, if_neg (by omega)]
      have pf : ∀ j, w2.frozen? ⟨w.heap.size, j, none⟩ = false := fun j => hr2.frozen j
      have HR3 := Lib.hid (((((hr2.set (k * 4) (.int .i8 (x 0))).set (k * 4 + 1) (.int .i8 (x 1))).set (k * 4 + 2) (.int .i8 (x 2))).set (k * 4 + 3) (.int .i8 (x 3))).congr (g := wPart ws (k + 1)) (fun i hi => by
        unfold wPart
        by_cases e3 : i = k * 4 + 3
        · subst e3; rw [if_pos rfl, if_pos (by omega), wcell_at _ _ _ (by decide), HX2.out]
        by_cases e2 : i = k * 4 + 2
        · subst e2; rw [if_neg (by omega), if_pos rfl, if_pos (by omega), wcell_at _ _ _ (by decide), HX2.out]
        by_cases e1 : i = k * 4 + 1
        · subst e1; rw [if_neg (by omega), if_neg (by omega), if_pos rfl, if_pos (by omega), wcell_at _ _ _ (by decide), HX2.out]
        by_cases e0 : i = k * 4
        · subst e0; rw [if_neg (by omega), if_neg (by omega), if_neg (by omega), if_pos rfl, if_pos (by omega)]; have := wcell_at ws k 0 (by decide); rw [Nat.add_zero] at this; rw [this, HX2.out]
        rw [if_neg e3, if_neg e2, if_neg e1, if_neg e0]
        by_cases h : i < k * 4
        · rw [if_pos h, if_pos (by omega)]
        · rw [if_neg h, if_neg (by omega)]))
      clear hr2 hb2 HR HB c0 c1 c2 c3 HX2
      go_wp2
      go_roundw
      case rel => exact ⟨k + 1, by omega, by go_num, HR3.out, (((HB2.out.setCell (Nat.le_refl _) _).setCell (Nat.le_refl _) _).setCell (Nat.le_refl _) _).setCell (Nat.le_refl _) _⟩
      case measure => simp [intOf]; omega
    · have hkk : k = ws.length := by omega
      have HR := Lib.hid (blk_of_row (hr.congr (g := wcell ws) (fun i hi => by unfold wPart; rw [if_pos (by omega)])))
      clear hkk hr
      go_wp2
      go_ret
      exact ⟨w.heap.size, rfl, Nat.le_refl _, HR.out, hB⟩
theorem toWordS_nil (a : Option Addr) (c : Nat) (w : World) :
    Calls Try.prog 32 #[.slice a 0 c] w fun e w' => ∃ g, e = .returned (.slice (some ⟨g, 0, none⟩) 0 0) ∧ w.heap.size ≤ g ∧ Blk w' g (wcells []) 30 ∧ Below w.heap.size w w' := by
  have hmk : ∀ w, (Instr.makeSlice 33 (.int .i64 0) (.int .i64 0)).run Try.prog w = .ok (.slice (some ⟨w.heap.size, 0, none⟩) 0 0) (w.alloc (.cells (madeCells z4 (0 * 4)) 30)) := fun w => run_make_wd 0 (by omega) w
  have hB0 := (Below.refl w.heap.size w).alloc (Nat.le_refl _) (.cells (madeCells z4 (0 * 4)) 30)
  have hr0 := blk_of_row (ws := []) ((made_row w 0 30).congr (g := wcell []) (fun i h => absurd h (by omega)))
  go_enter Try.func32, Try.ntmps32
  go_wp2
  clear hmk
  refine wp_loop_rounds 1 ?_
  rw [rounds_succ]
  go_wp2
  go_ret
  exact ⟨w.heap.size, rfl, Nat.le_refl _, hr0, hB0⟩
theorem toWordS_any (B : Nat) (a : Option Addr) (c : Nat) (ws : List Wf) (w : World) (hn : ws.length ≤ 1048576) (hB : B ≤ w.heap.size) (h : Slw B w a ws) :
    Calls Try.prog 32 #[.slice a ws.length c] w fun e w' => ∃ g, e = .returned (.slice (some ⟨g, 0, none⟩) ws.length ws.length) ∧ w.heap.size ≤ g ∧ Blk w' g (wcells ws) 30 ∧ Below w.heap.size w w' := by
  rcases h with rfl | ⟨b, off, rfl, hb, hc⟩
  · exact toWordS_nil a c w
  · exact toWordS_some b off c ws w hn (by omega) hc
theorem res_toFixed {W : World} {b : Nat} {v0 v1 v2 : Value} (K : Blk W b #[v0, v1, v2] 35) (tmps : Array Value) (h2 : tmps.getD 2 undef = .pointer (some ⟨b, 0, none⟩)) : (results Try.f11 tmps).run Try.prog W = .ok (.agg #[v0, v1, v2]) W := by
  have h2' : tmps[2]?.getD undef = .pointer (some ⟨b, 0, none⟩) := by simpa using h2
  have e0 := K.cell 0
  have e1 := K.cell 1
  have e2 := K.cell 2
  simp at e0 e1 e2
  simp [results, Try.results11, go_sem, e0, e1, e2, h2']
theorem Blk.three {w : World} {b : Nat} {a0 a1 a2 : Value} {t : TypeId} (h : Blk w b #[a0, a1, a2] t) :
    w.cell? ⟨b, 0, none⟩ = some a0 ∧ w.cell? ⟨b, 1, none⟩ = some a1 ∧ w.cell? ⟨b, 2, none⟩ = some a2 ∧ ∀ i, w.frozen? ⟨b, i, none⟩ = false :=
  ⟨h.cell 0, h.cell 1, h.cell 2, h.free⟩
set_option maxHeartbeats 1000000 in
theorem toFixed_any (B : Nat) (l k : Int) (a : Option Addr) (c : Nat) (ws : List Wf) (w : World) (hn : ws.length ≤ 1048576) (hB : B ≤ w.heap.size) (h : Slw B w a ws) :
    Calls Try.prog 11 #[fixV l k a ws.length c] w fun e w' => ∃ g, e = .returned (fixV l k (some ⟨g, 0, none⟩) ws.length ws.length) ∧ w.heap.size ≤ g ∧ Blk w' g (wcells ws) 30 ∧ Below w.heap.size w w' := by
  have F0 := (((FR.start w).box #[.int .i8 l, .int .i8 k, .slice a ws.length c] 25).box #[.int .i8 0, .int .i8 0, .slice none 0 0] 35).box #[.int .i8 l, .int .i8 k, .slice none 0 0] 35
  simp only [World.size_alloc] at F0
  have HT := Lib.hid (fun W (hw : Below w.heap.size w W) => toWordS_any B a c ws W hn (by have := hw.size; omega) (Slw.below h (hw.mono hB)))
  clear h
  go_enter Try.func11, Try.ntmps11
  go_wp2_with fail
  refine (HT.out _ F0.below).mono ?_
  rintro e w2 ⟨g, rfl, hg, hk, hb⟩
  have F1 := F0.next hb
  have hlt := hk.lt
  have HK := Lib.hid hk
  have hsz := F0.size
  have hgs : w.heap.size ≤ g := Nat.le_trans hsz hg
  have hb0 := (F0.blk _ List.mem_cons_self).lt
  simp only [World.size_alloc] at hg hb0 hlt
  have k0 := F1.blk _ List.mem_cons_self
  have k1 := F1.blk _ (List.mem_cons_of_mem _ List.mem_cons_self)
  dsimp only at k0 k1
  have hg0 : g ≠ w.heap.size + 1 + 1 := by omega
  have hg1 : g ≠ w.heap.size + 1 := by omega
  have HG := Lib.hid ((((hk.setOther hg0 2 (.slice (some ⟨g, 0, none⟩) ws.length ws.length)).setOther hg1 0 (.int .i8 l)).setOther hg1 1 (.int .i8 k)).setOther hg1 2 (.slice (some ⟨g, 0, none⟩) ws.length ws.length))
  have HR := Lib.hid ((((k1.setOther (show w.heap.size + 1 ≠ w.heap.size + 1 + 1 by omega) 2 (.slice (some ⟨g, 0, none⟩) ws.length ws.length)).set 0 (.int .i8 l)).set 1 (.int .i8 k)).set 2 (.slice (some ⟨g, 0, none⟩) ws.length ws.length))
  have HW := Lib.hid ((((F1.below.setCell (show w.heap.size ≤ (⟨w.heap.size + 1 + 1, 2, none⟩ : Addr).block by simp; omega) (.slice (some ⟨g, 0, none⟩) ws.length ws.length)).setCell (show w.heap.size ≤ (⟨w.heap.size + 1, 0, none⟩ : Addr).block by simp) (.int .i8 l)).setCell (show w.heap.size ≤ (⟨w.heap.size + 1, 1, none⟩ : Addr).block by simp) (.int .i8 k)).setCell (show w.heap.size ≤ (⟨w.heap.size + 1, 2, none⟩ : Addr).block by simp) (.slice (some ⟨g, 0, none⟩) ws.length ws.length))
  obtain ⟨d0, d1, d2, d3⟩ := k0.three
  obtain ⟨e0, e1, e2, e3⟩ := k1.three
  clear F0 F1 hb hk HT k0 k1 hg0 hg1 HK hlt hb0 hsz
  go_wp2
  exact bodyPost_ret (res_toFixed HR.out _ rfl) rfl ⟨g, rfl, hgs, HG.out, HW.out⟩
theorem Slw.own {w : World} {b : Nat} {ws : List Wf} {t : TypeId} (h : Blk w b (wcells ws) t) : Slw w.heap.size w (some ⟨b, 0, none⟩) ws := .inr ⟨b, 0, rfl, h.lt, h.words⟩
theorem toFixed_fr {w0 W : World} {L : List (Nat × Array Value × TypeId)} (h : FR w0 L W) (l k : Int) (a : Option Addr) (c : Nat) (ws : List Wf) (hn : ws.length ≤ 1048576) (hs : Slw w0.heap.size w0 a ws) :
    Calls Try.prog 11 #[fixV l k a ws.length c] W fun e w' => ∃ g, e = .returned (fixV l k (some ⟨g, 0, none⟩) ws.length ws.length) ∧ FR w0 ((g, wcells ws, 30) :: L) w' := by
  refine (toFixed_any w0.heap.size l k a c ws W hn h.size (hs.below h.below)).mono ?_
  rintro e w' ⟨g, rfl, hg, hk, hb⟩
  exact ⟨g, rfl, h.add hb hg hk⟩
theorem szFixed_fr {w0 W : World} {L : List (Nat × Array Value × TypeId)} (h : FR w0 L W) (l k : Int) (a : Option Addr) (n c : Nat) (m : Int) (hl : 0 ≤ m ∧ m ≤ 1048576) (hn : n ≤ 9223372036854775807) :
    Calls Try.prog 9 #[fixV l k a n c, .int .i64 m] W fun e w' => e = .returned (.int .i64 (if m < n then -1 else m - (n : Int))) ∧ FR w0 L w' := Calls.fr h (szFixed_any l k a n c m W hl hn)
theorem eqWordS_same (b off c b2 off2 c2 : Nat) (ws : List Wf) (w : World) (hn : ws.length ≤ 1048576) (hb : b < w.heap.size) (hb2 : b2 < w.heap.size) (hc : WAt w b off ws) (hc2 : WAt w b2 off2 ws) :
    Calls Try.prog 35 #[.slice (some ⟨b, off, none⟩) ws.length c, .slice (some ⟨b2, off2, none⟩) ws.length c2] w fun e w' => e = .returned (.bool true) ∧ Below w.heap.size w w' := by
  go_enter Try.func35, Try.ntmps35
  go_wp2
  go_loopw [5] (fun i wr => ∃ k : Nat, k ≤ ws.length ∧ i = .int .i64 k ∧ Below w.heap.size w wr) (fun i _ => ws.length - (intOf i).toNat)
  case atStart => exact ⟨0, Nat.zero_le _, rfl, Below.refl _ _⟩
  case round =>
    obtain ⟨k, hk, rfl, hB⟩ := hrel
    by_cases hlt : k < ws.length
    · obtain ⟨p0, p1, p2, p3⟩ := (hc.below hB hb).four k hlt
      obtain ⟨q0, q1, q2, q3⟩ := (hc2.below hB hb2).four k hlt
      have hkl : (k : Int) < (ws.length : Int) := by omega
      have HB := Lib.hid hB
      clear hB
      generalize wI ws k = x at *
      go_upto_region 6 with fail
      refine wp_region_still_tail 8 (by kernel_rfl) (by kernel_rfl) ?_
      simp only [List.take_succ_cons, List.take_zero, List.drop_succ_cons, List.drop_zero]
      iterate 8 still_step
      refine wpStill_nil ?_
      have HB2 := Lib.hid (show Below w.heap.size w wr.drew from HB.out.drew)
      change wpList _ _ _ _ _ wr.drew
      clear p0 p1 p2 p3 q0 q1 q2 q3 HB
      generalize wr.drew = w2 at *
      go_wp2_with fail
      refine (eqWord_same x _).mono ?_
      rintro e w3 ⟨rfl, hb3⟩
      have HB3 := Lib.hid (HB2.out.trans (hb3.mono HB2.out.size))
      clear hb3
      go_wp2
      go_roundw
      case rel => exact ⟨k + 1, by omega, by go_num, HB3.out⟩
      case measure => simp [intOf]; omega
    · go_wp2
      go_ret
      exact ⟨rfl, hB⟩
theorem eqWordS_nil (a b : Option Addr) (c c2 : Nat) (w : World) :
    Calls Try.prog 35 #[.slice a 0 c, .slice b 0 c2] w fun e w' => e = .returned (.bool true) ∧ w = w' := by
  go_enter Try.func35, Try.ntmps35
  go_wp2
  refine wp_loop_rounds 1 ?_
  rw [rounds_succ]
  go_wp2
  go_ret
  exact ⟨rfl, rfl⟩
/-- Two slices with the same words. -/
def Twin (w : World) (a a2 : Option Addr) (ws : List Wf) : Prop := ws = [] ∨ ∃ b off b2 off2, a = some ⟨b, off, none⟩ ∧ a2 = some ⟨b2, off2, none⟩ ∧ b < w.heap.size ∧ b2 < w.heap.size ∧ WAt w b off ws ∧ WAt w b2 off2 ws
theorem Twin.below {w w' : World} {a a2 : Option Addr} {ws : List Wf} (h : Twin w a a2 ws) (hb : Below w.heap.size w w') : Twin w' a a2 ws := by
  rcases h with h | ⟨b, off, b2, off2, rfl, rfl, h1, h2, h3, h4⟩
  · exact .inl h
  · have := hb.size
    exact .inr ⟨b, off, b2, off2, rfl, rfl, by omega, by omega, h3.below hb h1, h4.below hb h2⟩
theorem eqWordS_any (a a2 : Option Addr) (c c2 : Nat) (ws : List Wf) (w : World) (hn : ws.length ≤ 1048576) (h : Twin w a a2 ws) :
    Calls Try.prog 35 #[.slice a ws.length c, .slice a2 ws.length c2] w fun e w' => e = .returned (.bool true) ∧ Below w.heap.size w w' := by
  rcases h with rfl | ⟨b, off, b2, off2, rfl, rfl, h1, h2, h3, h4⟩
  · refine (eqWordS_nil a a2 c c2 w).mono ?_
    rintro e w' ⟨rfl, rfl⟩
    exact ⟨rfl, Below.refl _ _⟩
  · exact eqWordS_same b off c b2 off2 c2 ws w hn h1 h2 h3 h4
theorem eqFixed_any (l k : Int) (a a2 : Option Addr) (c c2 : Nat) (ws : List Wf) (w : World) (hn : ws.length ≤ 1048576) (h : Twin w a a2 ws) :
    Calls Try.prog 15 #[fixV l k a ws.length c, fixV l k a2 ws.length c2] w fun e w' => e = .returned (.bool true) ∧ Below w.heap.size w w' := by
  have F0 := ((FR.start w).box #[.int .i8 l, .int .i8 k, .slice a ws.length c] 35).box #[.int .i8 l, .int .i8 k, .slice a2 ws.length c2] 35
  simp only [World.size_alloc] at F0
  have HE := Lib.hid (eqWordS_any a a2 c c2 ws _ hn (h.below F0.below))
  go_enter Try.func15, Try.ntmps15
  go_wp2_with fail
  refine HE.out.mono ?_
  rintro e w2 ⟨rfl, hb⟩
  have HF := Lib.hid (F0.next hb).below
  clear hb F0 HE
  go_wp2
  go_ret
  exact ⟨rfl, HF.out⟩
theorem eqFixed_fr {w0 W : World} {L : List (Nat × Array Value × TypeId)} {g g2 : Nat} {ws : List Wf} (h : FR w0 L W) (h1 : (g, wcells ws, 30) ∈ L) (h2 : (g2, wcells ws, 30) ∈ L) (l k : Int) (c c2 : Nat) (hn : ws.length ≤ 1048576) :
    Calls Try.prog 15 #[fixV l k (some ⟨g, 0, none⟩) ws.length c, fixV l k (some ⟨g2, 0, none⟩) ws.length c2] W fun e w' => e = .returned (.bool true) ∧ FR w0 L w' :=
  Calls.fr h (eqFixed_any l k _ _ c c2 ws W hn (.inr ⟨g, 0, g2, 0, rfl, rfl, (h.blk _ h1).lt, (h.blk _ h2).lt, (h.blk _ h1).words, (h.blk _ h2).words⟩))
end Go.Proofs.Ytnleblnikcoaiaa
