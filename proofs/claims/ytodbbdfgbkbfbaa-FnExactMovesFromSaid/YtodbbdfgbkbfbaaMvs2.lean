/-
  The law's helpers on lists of moves.
-/
import Derived.Test.YtodbbdfgbkbfbaaMvs
import Derived.Deep.DeepCutAuto
namespace Go.Proofs.Ytodbbdfgbkbfbaa
open Go.RowKit
set_option maxRecDepth 100000
set_option linter.unusedVariables false

theorem szMoveS_any (a : Option Addr) (n c : Nat) (l : Int) (w : World) (hl : 0 ≤ l ∧ l ≤ 1048576) (hn : n ≤ 9223372036854775807) :
    Calls Try.prog 14 #[.slice a n c, .int .i64 l] w fun e w' => e = .returned (.int .i64 (if l < n then -1 else l - (n : Int))) ∧ w = w' := by
  by_cases h : l < n
  · rw [if_pos h]
    go_enter Try.func14, Try.ntmps14
    go_wp2
    go_ret
    exact ⟨rfl, rfl⟩
  · rw [if_neg h]
    go_enter Try.func14, Try.ntmps14
    go_wp2
    go_ret
    exact ⟨rfl, rfl⟩
theorem Try.info_mv : (Try.prog.info? 38).map (fun i => (i.zero, i.size, i.bytes)) = some (some (.agg #[.int .i8 0, .int .i8 0, .int .i8 0]), 3, 3) := by kernel_rfl
theorem run_make_mv (n : Nat) (hn : n ≤ 1048576) (w : World) : (Instr.makeSlice 46 (.int .i64 n) (.int .i64 n)).run Try.prog w = .ok (.slice (some ⟨w.heap.size, 0, none⟩) n n) (w.alloc (.cells (madeCells #[.int .i8 0, .int .i8 0, .int .i8 0] (n * 3)) 38)) := by
  obtain ⟨i, hi, hzz⟩ := Option.map_eq_some_iff.1 Try.info_mv
  simp only [Prod.mk.injEq] at hzz
  obtain ⟨hz, hs, hb⟩ := hzz
  have hr := run_make (P := Try.prog) w 46 38 i _ Try.underlying46 hi hz .i64 .i64 (n : Int) (n : Int) (by omega) (Int.le_refl _) (by rw [hb]; omega) (by omega)
  rw [hs] at hr
  simp only [Int.toNat_natCast] at hr
  exact hr
theorem made_row (w : World) (n : Nat) (t : TypeId) : (w.alloc (.cells (madeCells #[.int .i8 0, .int .i8 0, .int .i8 0] (n * 3)) t)).rowIs w.heap.size t (n * 3) (fun _ => .int .i8 0) := by
  have h := World.rowIs_alloc w (madeCells #[.int .i8 0, .int .i8 0, .int .i8 0] (n * 3)) t (fun _ => .int .i8 0) (fun i hi => by
    rw [size_madeCells] at hi
    simp only [madeCells, Array.getElem?_map, Array.getElem?_range, hi, if_true, Option.map_some]
    have : i % 3 = 0 ∨ i % 3 = 1 ∨ i % 3 = 2 := by omega
    rcases this with e | e | e <;> simp [e])
  rwa [size_madeCells] at h
/-- The first k moves are laid, the others not yet. -/
def mPart (ms : List Mv) (k i : Nat) : Value := if i < k * 3 then mcell ms i else .int .i8 0
theorem toMoveS_some (b off c : Nat) (ms : List Mv) (w : World) (hn : ms.length ≤ 1048576) (hb : b < w.heap.size) (hc : MAt w b off ms) :
    Calls Try.prog 16 #[.slice (some ⟨b, off, none⟩) ms.length c] w fun e w' => ∃ g, e = .returned (.slice (some ⟨g, 0, none⟩) ms.length ms.length) ∧ w.heap.size ≤ g ∧ Blk w' g (mcells ms) 38 ∧ Below w.heap.size w w' := by
  have hmk := run_make_mv ms.length hn
  go_enter Try.func16, Try.ntmps16
  go_wp2
  clear hmk
  have hr0 := (made_row w ms.length 38).congr (g := mPart ms 0) (fun i _ => by simp [mPart])
  have hB0 := (Below.refl w.heap.size w).alloc (Nat.le_refl _) (.cells (madeCells #[.int .i8 0, .int .i8 0, .int .i8 0] (ms.length * 3)) 38)
  generalize (w.alloc (.cells (madeCells #[.int .i8 0, .int .i8 0, .int .i8 0] (ms.length * 3)) 38)) = w1 at *
  go_loopw [4] (fun i wr => ∃ k : Nat, k ≤ ms.length ∧ i = .int .i64 k ∧ wr.rowIs w.heap.size 38 (ms.length * 3) (mPart ms k) ∧ Below w.heap.size w wr) (fun i _ => ms.length - (intOf i).toNat)
  case atStart => exact ⟨0, Nat.zero_le _, rfl, hr0, hB0⟩
  case round =>
    obtain ⟨k, hk, rfl, hr, hB⟩ := hrel
    by_cases hlt : k < ms.length
    · obtain ⟨c0, c1, c2⟩ := (hc.below hB hb) k hlt
      have HR := Lib.hid hr
      have HB := Lib.hid hB
      have hlt3 := hr.lt
      have hkl : (k : Int) < (ms.length : Int) := by omega
      clear hr hB hc
      go_wp2_with fail
      refine (toMove_any _ _ _ _).mono ?_
      rintro e w2 ⟨rfl, hb2⟩
      have hr2 : w2.rowIs w.heap.size 38 (ms.length * 3) (mPart ms k) := by
        obtain ⟨cs, h1, h2, h3⟩ := HR.out
        exact ⟨cs, (hb2.block _ hlt3).trans h1, h2, h3⟩
      have HB2 := Lib.hid (HB.out.trans (hb2.mono HB.out.size))
      have p0 : w2.cell? ⟨w.heap.size, k * 3, none⟩ = some (.int .i8 0) := by rw [hr2.cell (by omega)]; simp [mPart]
      have p1 : w2.cell? ⟨w.heap.size, k * 3 + 1, none⟩ = some (.int .i8 0) := by rw [hr2.cell (by omega), mPart, if_neg (by omega)]
      have p2 : w2.cell? ⟨w.heap.size, k * 3 + 2, none⟩ = some (.int .i8 0) := by rw [hr2.cell (by omega), mPart, if_neg (by omega)]
      have pf : ∀ j, w2.frozen? ⟨w.heap.size, j, none⟩ = false := fun j => hr2.frozen j
      have HR3 := Lib.hid ((((hr2.set (k * 3) (.int .i8 (mvI ms k).1)).set (k * 3 + 1) (.int .i8 (mvI ms k).2.1)).set (k * 3 + 2) (.int .i8 (mvI ms k).2.2)).congr (g := mPart ms (k + 1)) (fun i hi => by
        unfold mPart
        by_cases e2 : i = k * 3 + 2
        · subst e2; rw [if_pos rfl, if_pos (by omega), mcell_2]
        by_cases e1 : i = k * 3 + 1
        · subst e1; rw [if_neg (by omega), if_pos rfl, if_pos (by omega), mcell_1]
        by_cases e0 : i = k * 3
        · subst e0; rw [if_neg (by omega), if_neg (by omega), if_pos rfl, if_pos (by omega), mcell_0]
        rw [if_neg e2, if_neg e1, if_neg e0]
        by_cases h : i < k * 3
        · rw [if_pos h, if_pos (by omega)]
        · rw [if_neg h, if_neg (by omega)]))
      clear hr2 hb2 HR HB c0 c1 c2
      generalize (mvI ms k).1 = v0 at *
      generalize (mvI ms k).2.1 = v1 at *
      generalize (mvI ms k).2.2 = v2 at *
      go_wp2
      go_roundw
      case rel => exact ⟨k + 1, by omega, by go_num, HR3.out, ((HB2.out.setCell (Nat.le_refl _) _).setCell (Nat.le_refl _) _).setCell (Nat.le_refl _) _⟩
      case measure => simp [intOf]; omega
    · have hkk : k = ms.length := by omega
      have HR := Lib.hid (blk_of_row (hr.congr (g := mcell ms) (fun i hi => by unfold mPart; rw [if_pos (by omega)])))
      clear hkk hr
      go_wp2
      go_ret
      exact ⟨w.heap.size, rfl, Nat.le_refl _, HR.out, hB⟩
theorem toMoveS_nil (a : Option Addr) (c : Nat) (w : World) :
    Calls Try.prog 16 #[.slice a 0 c] w fun e w' => ∃ g, e = .returned (.slice (some ⟨g, 0, none⟩) 0 0) ∧ w.heap.size ≤ g ∧ Blk w' g (mcells []) 38 ∧ Below w.heap.size w w' := by
  have hmk : ∀ w, (Instr.makeSlice 46 (.int .i64 0) (.int .i64 0)).run Try.prog w = .ok (.slice (some ⟨w.heap.size, 0, none⟩) 0 0) (w.alloc (.cells (madeCells #[.int .i8 0, .int .i8 0, .int .i8 0] (0 * 3)) 38)) := fun w => run_make_mv 0 (by omega) w
  have hB0 := (Below.refl w.heap.size w).alloc (Nat.le_refl _) (.cells (madeCells #[.int .i8 0, .int .i8 0, .int .i8 0] (0 * 3)) 38)
  have hr0 := blk_of_row (ms := []) ((made_row w 0 38).congr (g := mcell []) (fun i h => absurd h (by omega)))
  go_enter Try.func16, Try.ntmps16
  go_wp2
  clear hmk
  refine wp_loop_rounds 1 ?_
  rw [rounds_succ]
  go_wp2
  go_ret
  exact ⟨w.heap.size, rfl, Nat.le_refl _, hr0, hB0⟩
theorem toMoveS_any (B : Nat) (a : Option Addr) (c : Nat) (ms : List Mv) (w : World) (hn : ms.length ≤ 1048576) (hB : B ≤ w.heap.size) (h : Slm B w a ms) :
    Calls Try.prog 16 #[.slice a ms.length c] w fun e w' => ∃ g, e = .returned (.slice (some ⟨g, 0, none⟩) ms.length ms.length) ∧ w.heap.size ≤ g ∧ Blk w' g (mcells ms) 38 ∧ Below w.heap.size w w' := by
  rcases h with rfl | ⟨b, off, rfl, hb, hc⟩
  · exact toMoveS_nil a c w
  · exact toMoveS_some b off c ms w hn (by omega) hc
theorem eqMove_same (k f g : Int) (w : World) :
    Calls Try.prog 32 #[movV k f g, movV k f g] w fun e w' => e = .returned (.bool true) ∧ Below w.heap.size w w' := by
  go_enter Try.func32, Try.ntmps32
  go_wp2
  go_ret
  exact ⟨rfl, ((Below.refl _ _).alloc (Nat.le_refl _) _).alloc (by simp) _⟩
theorem eqMoveS_same (b c b2 c2 : Nat) (ms : List Mv) (w : World) (hn : ms.length ≤ 1048576) (hb : b < w.heap.size) (hb2 : b2 < w.heap.size) (hc : MAt w b 0 ms) (hc2 : MAt w b2 0 ms) :
    Calls Try.prog 18 #[.slice (some ⟨b, 0, none⟩) ms.length c, .slice (some ⟨b2, 0, none⟩) ms.length c2] w fun e w' => e = .returned (.bool true) ∧ Below w.heap.size w w' := by
  go_enter Try.func18, Try.ntmps18
  go_wp2
  go_loopw [5] (fun i wr => ∃ k : Nat, k ≤ ms.length ∧ i = .int .i64 k ∧ Below w.heap.size w wr) (fun i _ => ms.length - (intOf i).toNat)
  case atStart => exact ⟨0, Nat.zero_le _, rfl, Below.refl _ _⟩
  case round =>
    obtain ⟨k, hk, rfl, hB⟩ := hrel
    by_cases hlt : k < ms.length
    · obtain ⟨p0, p1, p2⟩ := (hc.below hB hb) k hlt
      obtain ⟨q0, q1, q2⟩ := (hc2.below hB hb2) k hlt
      rw [Nat.zero_add] at p0 p1 p2 q0 q1 q2
      have hkl : (k : Int) < (ms.length : Int) := by omega
      have HB := Lib.hid hB
      clear hB
      go_upto_region 6 with fail
      refine wp_region_still_tail 8 (by kernel_rfl) (by kernel_rfl) ?_
      simp only [List.take_succ_cons, List.take_zero, List.drop_succ_cons, List.drop_zero]
      iterate 8 still_step
      refine wpStill_nil ?_
      have HB2 := Lib.hid (show Below w.heap.size w wr.drew from HB.out.drew)
      change wpList _ _ _ _ _ wr.drew
      clear p0 p1 p2 q0 q1 q2 HB
      generalize wr.drew = w2 at *
      go_wp2_with fail
      refine (eqMove_same _ _ _ _).mono ?_
      rintro e w3 ⟨rfl, hb3⟩
      have HB3 := Lib.hid (HB2.out.trans (hb3.mono HB2.out.size))
      clear hb3
      go_wp2
      go_roundw
      case rel => exact ⟨k + 1, by omega, by go_num, HB3.out⟩
      case measure => simp [intOf]; omega
    · go_wp2
      go_ret
      exact ⟨rfl, hB⟩
theorem FR.push {w0 w w' : World} {g : Nat} {cs : Array Value} {t : TypeId} {L : List (Nat × Array Value × TypeId)} {R : List (Nat × List Int)} (h : FR w0 L R w) (hb : Below w.heap.size w w') (hg : w.heap.size ≤ g) (hk : Blk w' g cs t) : FR w0 ((g, cs, t) :: L) R w' := by
  have h1 := h.next hb
  refine ⟨h1.below, fun p hp => ?_, h1.row, fun p L' e => ?_⟩
  · rcases List.mem_cons.1 hp with rfl | hp
    · exact hk
    · exact h1.blk p hp
  · cases e
    exact ⟨Nat.le_trans h.below.size hg, fun q hq => Nat.lt_of_lt_of_le (h.blk q hq).lt hg⟩
theorem toMoveS_fr {w0 W : World} {L : List (Nat × Array Value × TypeId)} {R : List (Nat × List Int)} (h : FR w0 L R W) (a : Option Addr) (ms : List Mv) (c : Nat) (hn : ms.length ≤ 1048576) (hs : Slm w0.heap.size w0 a ms) :
    Calls Try.prog 16 #[.slice a ms.length c] W fun e w' => ∃ g, e = .returned (.slice (some ⟨g, 0, none⟩) ms.length ms.length) ∧ FR w0 ((g, mcells ms, 38) :: L) R w' := by
  refine (toMoveS_any w0.heap.size a c ms W hn h.size (hs.below h.below)).mono ?_
  rintro e w' ⟨g, rfl, hg, hk, hb⟩
  exact ⟨g, rfl, h.push hb hg hk⟩
theorem eqMoveS_fr {w0 W : World} {L : List (Nat × Array Value × TypeId)} {R : List (Nat × List Int)} {g g2 : Nat} {ms : List Mv} (h : FR w0 L R W) (h1 : (g, mcells ms, 38) ∈ L) (h2 : (g2, mcells ms, 38) ∈ L) (c c2 : Nat) (hn : ms.length ≤ 1048576) :
    Calls Try.prog 18 #[.slice (some ⟨g, 0, none⟩) ms.length c, .slice (some ⟨g2, 0, none⟩) ms.length c2] W fun e w' => e = .returned (.bool true) ∧ FR w0 L R w' :=
  Calls.fr h (eqMoveS_same g c g2 c2 ms W hn (h.blk _ h1).lt (h.blk _ h2).lt (h.blk _ h1).moves (h.blk _ h2).moves)
end Go.Proofs.Ytodbbdfgbkbfbaa
