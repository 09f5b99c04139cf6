/-
  The laws' helpers on lists of words and on fixed plans: copying and comparing.
-/
import Derived.Test.YtieghjpecoiodaaE1
namespace Go.Proofs.Ytieghjpecoiodaa
open Go.RowKit
set_option maxRecDepth 100000
set_option linter.unusedVariables false

theorem Try.info_wd : (Try.prog.info? 40).map (fun i => (i.zero, i.size, i.bytes)) = some (some (.agg #[.int .i8 0, .int .i8 0, .int .i8 0, .int .i8 0]), 4, 4) := by kernel_rfl
abbrev z4 : Array Value := #[.int .i8 0, .int .i8 0, .int .i8 0, .int .i8 0]
theorem run_make_wd (n : Nat) (hn : n ≤ 1048576) (w : World) : (Instr.makeSlice 25 (.int .i64 n) (.int .i64 n)).run Try.prog w = .ok (.slice (some ⟨w.heap.size, 0, none⟩) n n) (w.alloc (.cells (madeCells z4 (n * 4)) 40)) := by
  obtain ⟨i, hi, hzz⟩ := Option.map_eq_some_iff.1 Try.info_wd
  simp only [Prod.mk.injEq] at hzz
  obtain ⟨hz, hs, hb⟩ := hzz
  have hr := run_make (P := Try.prog) w 25 40 i _ Try.underlying25 hi hz .i64 .i64 (n : Int) (n : Int) (by omega) (Int.le_refl _) (by rw [hb]; omega) (by omega)
  rw [hs] at hr
  simp only [Int.toNat_natCast] at hr
  exact hr
theorem made_row (w : World) (n : Nat) (t : TypeId) : (w.alloc (.cells (madeCells z4 (n * 4)) t)).rowIs w.heap.size t (n * 4) (fun _ => .int .i8 0) := by
  have h := World.rowIs_alloc w (madeCells z4 (n * 4)) t (fun _ => .int .i8 0) (fun i hi => by
    rw [size_madeCells] at hi
    simp only [madeCells, Array.getElem?_map, Array.getElem?_range, hi, if_true, Option.map_some]
    have : i % 4 = 0 ∨ i % 4 = 1 ∨ i % 4 = 2 ∨ i % 4 = 3 := by omega
    rcases this with e | e | e | e <;> simp [e])
  rwa [size_madeCells] at h
/-- The first k words are laid, the others not yet. -/
def wPart (ws : List Wf) (k i : Nat) : Value := if i < k * 4 then wcell ws i else .int .i8 0
theorem Blk.three {w : World} {b : Nat} {a0 a1 a2 : Value} {t : TypeId} (h : Blk w b #[a0, a1, a2] t) :
    w.cell? ⟨b, 0, none⟩ = some a0 ∧ w.cell? ⟨b, 1, none⟩ = some a1 ∧ w.cell? ⟨b, 2, none⟩ = some a2 ∧ ∀ i, w.frozen? ⟨b, i, none⟩ = false :=
  ⟨h.cell 0, h.cell 1, h.cell 2, h.free⟩
theorem Slw.own {w : World} {b : Nat} {ws : List Wf} {t : TypeId} (h : Blk w b (wcells ws) t) : Slw w.heap.size w (some ⟨b, 0, none⟩) ws := .inr ⟨b, 0, rfl, h.lt, h.words⟩
theorem eqWordS_same (b off c b2 off2 c2 : Nat) (ws : List Wf) (w : World) (hn : ws.length ≤ 1048576) (hb : b < w.heap.size) (hb2 : b2 < w.heap.size) (hc : WAt w b off ws) (hc2 : WAt w b2 off2 ws) :
    Calls Try.prog 44 #[.slice (some ⟨b, off, none⟩) ws.length c, .slice (some ⟨b2, off2, none⟩) ws.length c2] w fun e w' => e = .returned (.bool true) ∧ Below w.heap.size w w' := by
  go_enter Try.func44, Try.ntmps44
  go_wp2
  go_loopw [5] (fun i wr => ∃ k : Nat, k ≤ ws.length ∧ i = .int .i64 k ∧ Below w.heap.size w wr) (fun i _ => ws.length - (intOf i).toNat)
  case atStart => exact ⟨0, Nat.zero_le _, rfl, Below.refl _ _⟩
  case round =>
    obtain ⟨k, hk, rfl, hB⟩ := hrel
    by_cases hlt : k < ws.length
    · obtain ⟨p0, p1, p2, p3⟩ := (hc.below hB hb).four k hlt
      obtain ⟨q0, q1, q2, q3⟩ := (hc2.below hB hb2).four k hlt
      have hkl : (k : Int) < (ws.length : Int) := by omega
      have HB := Lib.hid hB
      clear hB
      generalize wI ws k = x at *
      go_upto_region 6 with fail
      refine wp_region_still_tail 8 (by kernel_rfl) (by kernel_rfl) ?_
      simp only [List.take_succ_cons, List.take_zero, List.drop_succ_cons, List.drop_zero]
      iterate 8 still_step
      refine wpStill_nil ?_
      have HB2 := Lib.hid (show Below w.heap.size w wr.drew from HB.out.drew)
      change wpList _ _ _ _ _ wr.drew
      clear p0 p1 p2 p3 q0 q1 q2 q3 HB
      generalize wr.drew = w2 at *
      go_wp2_with fail
      refine (eqWord_same x _).mono ?_
      rintro e w3 ⟨rfl, hb3⟩
      have HB3 := Lib.hid (HB2.out.trans (hb3.mono HB2.out.size))
      clear hb3
      go_wp2
      go_roundw
      case rel => exact ⟨k + 1, by omega, by go_num, HB3.out⟩
      case measure => simp [intOf]; omega
    · go_wp2
      go_ret
      exact ⟨rfl, hB⟩
theorem eqWordS_nil (a b : Option Addr) (c c2 : Nat) (w : World) :
    Calls Try.prog 44 #[.slice a 0 c, .slice b 0 c2] w fun e w' => e = .returned (.bool true) ∧ w = w' := by
  go_enter Try.func44, Try.ntmps44
  go_wp2
  refine wp_loop_rounds 1 ?_
  rw [rounds_succ]
  go_wp2
  go_ret
  exact ⟨rfl, rfl⟩
/-- Two slices with the same words. -/
def Twin (w : World) (a a2 : Option Addr) (ws : List Wf) : Prop := ws = [] ∨ ∃ b off b2 off2, a = some ⟨b, off, none⟩ ∧ a2 = some ⟨b2, off2, none⟩ ∧ b < w.heap.size ∧ b2 < w.heap.size ∧ WAt w b off ws ∧ WAt w b2 off2 ws
theorem Twin.below {w w' : World} {a a2 : Option Addr} {ws : List Wf} (h : Twin w a a2 ws) (hb : Below w.heap.size w w') : Twin w' a a2 ws := by
  rcases h with h | ⟨b, off, b2, off2, rfl, rfl, h1, h2, h3, h4⟩
  · exact .inl h
  · have := hb.size
    exact .inr ⟨b, off, b2, off2, rfl, rfl, by omega, by omega, h3.below hb h1, h4.below hb h2⟩
theorem eqWordS_any (a a2 : Option Addr) (c c2 : Nat) (ws : List Wf) (w : World) (hn : ws.length ≤ 1048576) (h : Twin w a a2 ws) :
    Calls Try.prog 44 #[.slice a ws.length c, .slice a2 ws.length c2] w fun e w' => e = .returned (.bool true) ∧ Below w.heap.size w w' := by
  rcases h with rfl | ⟨b, off, b2, off2, rfl, rfl, h1, h2, h3, h4⟩
  · refine (eqWordS_nil a a2 c c2 w).mono ?_
    rintro e w' ⟨rfl, rfl⟩
    exact ⟨rfl, Below.refl _ _⟩
  · exact eqWordS_same b off c b2 off2 c2 ws w hn h1 h2 h3 h4
theorem eqFixed_any (l k : Int) (a a2 : Option Addr) (c c2 : Nat) (ws : List Wf) (w : World) (hn : ws.length ≤ 1048576) (h : Twin w a a2 ws) :
    Calls Try.prog 16 #[fixV l k a ws.length c, fixV l k a2 ws.length c2] w fun e w' => e = .returned (.bool true) ∧ Below w.heap.size w w' := by
  have F0 := ((FR.start w).box #[.int .i8 l, .int .i8 k, .slice a ws.length c] 27).box #[.int .i8 l, .int .i8 k, .slice a2 ws.length c2] 27
  simp only [World.size_alloc] at F0
  have HE := Lib.hid (eqWordS_any a a2 c c2 ws _ hn (h.below F0.below))
  go_enter Try.func16, Try.ntmps16
  go_wp2_with fail
  refine HE.out.mono ?_
  rintro e w2 ⟨rfl, hb⟩
  have HF := Lib.hid (F0.next hb).below
  clear hb F0 HE
  go_wp2
  go_ret
  exact ⟨rfl, HF.out⟩
theorem eqFixed_fr {w0 W : World} {L : List (Nat × Array Value × TypeId)} {g g2 : Nat} {ws : List Wf} (h : FR w0 L W) (h1 : (g, wcells ws, 40) ∈ L) (h2 : (g2, wcells ws, 40) ∈ L) (l k : Int) (c c2 : Nat) (hn : ws.length ≤ 1048576) :
    Calls Try.prog 16 #[fixV l k (some ⟨g, 0, none⟩) ws.length c, fixV l k (some ⟨g2, 0, none⟩) ws.length c2] W fun e w' => e = .returned (.bool true) ∧ FR w0 L w' :=
  Calls.fr h (eqFixed_any l k _ _ c c2 ws W hn (.inr ⟨g, 0, g2, 0, rfl, rfl, (h.blk _ h1).lt, (h.blk _ h2).lt, (h.blk _ h1).words, (h.blk _ h2).words⟩))
end Go.Proofs.Ytieghjpecoiodaa
