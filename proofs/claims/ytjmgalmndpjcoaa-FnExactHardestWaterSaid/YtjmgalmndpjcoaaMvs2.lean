/-
  The law's helpers on lists of moves.
-/
import Derived.Test.YtjmgalmndpjcoaaMvs
import Derived.Deep.DeepCutAuto
namespace Go.Proofs.Ytjmgalmndpjcoaa
open Go.RowKit
set_option maxRecDepth 100000
set_option linter.unusedVariables false

theorem Try.info_mv : (Try.prog.info? 78).map (fun i => (i.zero, i.size, i.bytes)) = some (some (.agg #[.int .i8 0, .int .i8 0, .int .i8 0]), 3, 3) := by kernel_rfl
theorem run_make_mv (n : Nat) (hn : n ≤ 1048576) (w : World) : (Instr.makeSlice 39 (.int .i64 n) (.int .i64 n)).run Try.prog w = .ok (.slice (some ⟨w.heap.size, 0, none⟩) n n) (w.alloc (.cells (madeCells #[.int .i8 0, .int .i8 0, .int .i8 0] (n * 3)) 78)) := by
  obtain ⟨i, hi, hzz⟩ := Option.map_eq_some_iff.1 Try.info_mv
  simp only [Prod.mk.injEq] at hzz
  obtain ⟨hz, hs, hb⟩ := hzz
  have hr := run_make (P := Try.prog) w 39 78 i _ Try.underlying39 hi hz .i64 .i64 (n : Int) (n : Int) (by omega) (Int.le_refl _) (by rw [hb]; omega) (by omega)
  rw [hs] at hr
  simp only [Int.toNat_natCast] at hr
  exact hr
theorem made_row (w : World) (n : Nat) (t : TypeId) : (w.alloc (.cells (madeCells #[.int .i8 0, .int .i8 0, .int .i8 0] (n * 3)) t)).rowIs w.heap.size t (n * 3) (fun _ => .int .i8 0) := by
  have h := World.rowIs_alloc w (madeCells #[.int .i8 0, .int .i8 0, .int .i8 0] (n * 3)) t (fun _ => .int .i8 0) (fun i hi => by
    rw [size_madeCells] at hi
    simp only [madeCells, Array.getElem?_map, Array.getElem?_range, hi, if_true, Option.map_some]
    have : i % 3 = 0 ∨ i % 3 = 1 ∨ i % 3 = 2 := by omega
    rcases this with e | e | e <;> simp [e])
  rwa [size_madeCells] at h
/-- The first k moves are laid, the others not yet. -/
def mPart (ms : List Mv) (k i : Nat) : Value := if i < k * 3 then mcell ms i else .int .i8 0
theorem eqMove_same (k f g : Int) (w : World) :
    Calls Try.prog 48 #[movV k f g, movV k f g] w fun e w' => e = .returned (.bool true) ∧ Below w.heap.size w w' := by
  go_enter Try.func48, Try.ntmps48
  go_wp2
  go_ret
  exact ⟨rfl, ((Below.refl _ _).alloc (Nat.le_refl _) _).alloc (by simp) _⟩
theorem eqMoveS_same (b c b2 c2 : Nat) (ms : List Mv) (w : World) (hn : ms.length ≤ 1048576) (hb : b < w.heap.size) (hb2 : b2 < w.heap.size) (hc : MAt w b 0 ms) (hc2 : MAt w b2 0 ms) :
    Calls Try.prog 21 #[.slice (some ⟨b, 0, none⟩) ms.length c, .slice (some ⟨b2, 0, none⟩) ms.length c2] w fun e w' => e = .returned (.bool true) ∧ Below w.heap.size w w' := by
  go_enter Try.func21, Try.ntmps21
  go_wp2
  go_loopw [5] (fun i wr => ∃ k : Nat, k ≤ ms.length ∧ i = .int .i64 k ∧ Below w.heap.size w wr) (fun i _ => ms.length - (intOf i).toNat)
  case atStart => exact ⟨0, Nat.zero_le _, rfl, Below.refl _ _⟩
  case round =>
    obtain ⟨k, hk, rfl, hB⟩ := hrel
    by_cases hlt : k < ms.length
    · obtain ⟨p0, p1, p2⟩ := (hc.below hB hb) k hlt
      obtain ⟨q0, q1, q2⟩ := (hc2.below hB hb2) k hlt
      rw [Nat.zero_add] at p0 p1 p2 q0 q1 q2
      have hkl : (k : Int) < (ms.length : Int) := by omega
      have HB := Lib.hid hB
      clear hB
      go_upto_region 6 with fail
      refine wp_region_still_tail 8 (by kernel_rfl) (by kernel_rfl) ?_
      simp only [List.take_succ_cons, List.take_zero, List.drop_succ_cons, List.drop_zero]
      iterate 8 still_step
      refine wpStill_nil ?_
      have HB2 := Lib.hid (show Below w.heap.size w wr.drew from HB.out.drew)
      change wpList _ _ _ _ _ wr.drew
      clear p0 p1 p2 q0 q1 q2 HB
      generalize wr.drew = w2 at *
      go_wp2_with fail
      refine (eqMove_same _ _ _ _).mono ?_
      rintro e w3 ⟨rfl, hb3⟩
      have HB3 := Lib.hid (HB2.out.trans (hb3.mono HB2.out.size))
      clear hb3
      go_wp2
      go_roundw
      case rel => exact ⟨k + 1, by omega, by go_num, HB3.out⟩
      case measure => simp [intOf]; omega
    · go_wp2
      go_ret
      exact ⟨rfl, hB⟩
theorem FR.push {w0 w w' : World} {g : Nat} {cs : Array Value} {t : TypeId} {L : List (Nat × Array Value × TypeId)} {R : List (Nat × List Int)} (h : FR w0 L R w) (hb : Below w.heap.size w w') (hg : w.heap.size ≤ g) (hk : Blk w' g cs t) : FR w0 ((g, cs, t) :: L) R w' := by
  have h1 := h.next hb
  refine ⟨h1.below, fun p hp => ?_, h1.row, fun p L' e => ?_⟩
  · rcases List.mem_cons.1 hp with rfl | hp
    · exact hk
    · exact h1.blk p hp
  · cases e
    exact ⟨Nat.le_trans h.below.size hg, fun q hq => Nat.lt_of_lt_of_le (h.blk q hq).lt hg⟩
theorem eqMoveS_fr {w0 W : World} {L : List (Nat × Array Value × TypeId)} {R : List (Nat × List Int)} {g g2 : Nat} {ms : List Mv} (h : FR w0 L R W) (h1 : (g, mcells ms, 78) ∈ L) (h2 : (g2, mcells ms, 78) ∈ L) (c c2 : Nat) (hn : ms.length ≤ 1048576) :
    Calls Try.prog 21 #[.slice (some ⟨g, 0, none⟩) ms.length c, .slice (some ⟨g2, 0, none⟩) ms.length c2] W fun e w' => e = .returned (.bool true) ∧ FR w0 L R w' :=
  Calls.fr h (eqMoveS_same g c g2 c2 ms W hn (h.blk _ h1).lt (h.blk _ h2).lt (h.blk _ h1).moves (h.blk _ h2).moves)
end Go.Proofs.Ytjmgalmndpjcoaa
