/-
  The walks of the functions that ask whether water is valid, in the program and in its model.
-/
import Derived.Test.YtjmgalmndpjcoaaJugs
import Derived.Laws.CopyOwn
namespace Go.Proofs.Ytjmgalmndpjcoaa
open Go.RowKit
set_option maxRecDepth 100000

theorem Blk.wat {w : World} {b : Nat} {x : Nat → Int} {t : TypeId} (h : Blk w b #[.int .i16 (x 0), .int .i16 (x 1), .int .i16 (x 2), .int .i16 (x 3)] t) {k : Nat} (hk : k < 4) : w.cell? ⟨b, k, none⟩ = some (.int .i16 (x k)) := by
  rw [h.cell]
  match k, hk with
  | 0, _ => rfl
  | 1, _ => rfl
  | 2, _ => rfl
  | 3, _ => rfl
/-- The first k numbers are not too great. -/
def UpTo (J : List Int) (x : Nat → Int) (k : Nat) : Prop := ∀ i, i < k → 0 ≤ x i ∧ x i ≤ J.getD i 0
theorem UpTo.snoc {J : List Int} {x : Nat → Int} {k : Nat} (h : UpTo J x k) (h1 : 0 ≤ x k ∧ x k ≤ J.getD k 0) : UpTo J x (k + 1) := fun j hj => by
  by_cases e : j = k
  · subst e; exact h1
  · exact h j (by omega)
theorem l02Water_any (b off c : Nat) (J : List Int) (x : Nat → Int) (w : World) (hb : b < w.heap.size) (hc : At .i16 w b off J) :
    Calls Try.prog 42 #[.slice (some ⟨b, off, none⟩) J.length c, watV x] w fun e w' => e = .returned (.bool (okX J x)) ∧ Below w.heap.size w w' := by
  go_enter Try.func42, Try.ntmps42
  go_wp2
  have k0 := blk_new w #[.int .i16 (x 0), .int .i16 (x 1), .int .i16 (x 2), .int .i16 (x 3)] 30
  have hB := (Below.refl w.heap.size w).alloc (Nat.le_refl _) (.cells #[.int .i16 (x 0), .int .i16 (x 1), .int .i16 (x 2), .int .i16 (x 3)] 30)
  have hc1 := hc.below hB hb
  clear hc
  generalize hg : w.alloc (.cells #[.int .i16 (x 0), .int .i16 (x 1), .int .i16 (x 2), .int .i16 (x 3)] 30) = wb at *
  clear hg
  have HB := Lib.hid hB
  clear hB
  go_loop [5, 6] (fun i _ => ∃ k : Nat, k ≤ 4 ∧ i = .int .i64 k ∧ UpTo J x k) (fun i _ => 4 - (intOf i).toNat)
  case atStart => exact ⟨0, Nat.zero_le _, rfl, fun j hj => absurd hj (by omega)⟩
  case round =>
    obtain ⟨k, hk, rfl, hU⟩ := hrel
    have HU := Lib.hid hU
    clear hU
    by_cases hlt : k < 4
    · have hx := k0.wat hlt
      by_cases h1 : x k < 0
      · have Hr := Lib.hid (show okX J x = false from cb_f (p := OkX J x) (fun h => by have := h k hlt; omega))
        generalize x k = y at *
        have hd : decide (y < 0) = true := by simpa using h1
        by_cases hj : k < J.length
        · have hcell := hc1 k hj
          go_wp2
          go_ret
          exact ⟨retb Hr.out.symm, HB.out⟩
        · go_wp2
          go_ret
          exact ⟨retb Hr.out.symm, HB.out⟩
      by_cases h2 : J.getD k 0 < x k
      · have Hr := Lib.hid (show okX J x = false from cb_f (p := OkX J x) (fun h => by have := h k hlt; omega))
        generalize x k = y at *
        have hd : decide (y < 0) = false := by simpa using h1
        by_cases hj : k < J.length
        · have hcell := hc1 k hj
          generalize J.getD k 0 = m at *
          have hd2 : decide (m < y) = true := by simpa using h2
          go_wp2
          go_ret
          exact ⟨retb Hr.out.symm, HB.out⟩
        · rw [getD_ge (by omega)] at h2
          have hd2 : decide (0 < y) = true := by simpa using h2
          go_wp2
          go_ret
          exact ⟨retb Hr.out.symm, HB.out⟩
      have HS := Lib.hid (HU.out.snoc (k := k) ⟨by omega, by omega⟩)
      generalize x k = y at *
      have hd : decide (y < 0) = false := by simpa using h1
      by_cases hj : k < J.length
      · have hcell := hc1 k hj
        generalize J.getD k 0 = m at *
        have hd2 : decide (m < y) = false := by simpa using h2
        go_wp2
        go_round
        case rel => exact ⟨k + 1, by omega, by go_num, HS.out⟩
        case measure => simp [intOf]; omega
      · rw [getD_ge (by omega)] at h2
        have hd2 : decide (0 < y) = false := by simpa using h2
        go_wp2
        go_round
        case rel => exact ⟨k + 1, by omega, by go_num, HS.out⟩
        case measure => simp [intOf]; omega
    · obtain rfl : k = 4 := by omega
      have Hr := Lib.hid (show okX J x = true from cb_t (p := OkX J x) HU.out)
      go_wp2
      go_ret
      exact ⟨retb Hr.out.symm, HB.out⟩
theorem index_wat0 (x : Nat → Int) (w : World) : (Instr.index 30 (watV x) (.int .i64 0)).run Try.prog w = .ok (.int .i16 (x 0)) w := by kernel_rfl
theorem index_wat1 (x : Nat → Int) (w : World) : (Instr.index 30 (watV x) (.int .i64 1)).run Try.prog w = .ok (.int .i16 (x 1)) w := by kernel_rfl
theorem index_wat2 (x : Nat → Int) (w : World) : (Instr.index 30 (watV x) (.int .i64 2)).run Try.prog w = .ok (.int .i16 (x 2)) w := by kernel_rfl
theorem index_wat3 (x : Nat → Int) (w : World) : (Instr.index 30 (watV x) (.int .i64 3)).run Try.prog w = .ok (.int .i16 (x 3)) w := by kernel_rfl
theorem index_wat (x : Nat → Int) {k : Nat} (hk : k < 4) (w : World) : (Instr.index 30 (watV x) (.int .i64 k)).run Try.prog w = .ok (.int .i16 (x k)) w := by
  have : k = 0 ∨ k = 1 ∨ k = 2 ∨ k = 3 := by omega
  rcases this with rfl | rfl | rfl | rfl
  · exact index_wat0 x w
  · exact index_wat1 x w
  · exact index_wat2 x w
  · exact index_wat3 x w
theorem full_cell {J : List Int} (hl : J.length ≤ 4) {k : Nat} (hk : k < 4) : (splice [Value.int .i16 0, .int .i16 0, .int .i16 0, .int .i16 0] 0 (J.map (Value.int .i16))).toArray[k]? = some (.int .i16 (J.getD k 0)) := by
  match J, hl with
  | [], _ => match k, hk with
    | 0, _ => rfl
    | 1, _ => rfl
    | 2, _ => rfl
    | 3, _ => rfl
  | [a], _ => match k, hk with
    | 0, _ => rfl
    | 1, _ => rfl
    | 2, _ => rfl
    | 3, _ => rfl
  | [a, b], _ => match k, hk with
    | 0, _ => rfl
    | 1, _ => rfl
    | 2, _ => rfl
    | 3, _ => rfl
  | [a, b, c], _ => match k, hk with
    | 0, _ => rfl
    | 1, _ => rfl
    | 2, _ => rfl
    | 3, _ => rfl
  | [a, b, c, d], _ => match k, hk with
    | 0, _ => rfl
    | 1, _ => rfl
    | 2, _ => rfl
    | 3, _ => rfl
theorem canHold_any (b off c : Nat) (J : List Int) (x : Nat → Int) (w : World) (hl : J.length ≤ 4) (hb : b < w.heap.size) (hc : At .i16 w b off J) :
    Calls Try.prog 61 #[.slice (some ⟨b, off, none⟩) J.length c, watV x] w fun e w' => e = .returned (.bool (okX J x)) ∧ Below w.heap.size w w' := by
  have HC := Lib.hid hc
  obtain ⟨cs, hcs⟩ : ∃ cs, cs = J.map (Value.int .i16) := ⟨_, rfl⟩
  have HCS := Lib.hid hcs
  have hcl : cs.length = J.length := by rw [hcs]; simp
  have HL := Lib.hid hcl
  clear hcs hcl hc
  go_enter Try.func61, Try.ntmps61
  go_wp2_with (with_reducible refine wpList_copy_splice rfl _ _ 22 22 rfl 23 Try.underlying22 (by kernel_rfl) (some ⟨w.heap.size + 1, 0, none⟩) (some ⟨b, off, none⟩) 4 4 J.length c rfl rfl (w.heap.size + 1) 0 [.int .i16 0, .int .i16 0, .int .i16 0, .int .i16 0] 30 ?c1 cs ?c2 ?c3 ?c4 ?c5 (w.heap.size + 1) (w.alloc (.cells #[.int .i16 (x 0), .int .i16 (x 1), .int .i16 (x 2), .int .i16 (x 3)] 30)) ?c6 ?c7 ?_)
  case c1 => exact heap_alloc2_new w _ _
  case c2 => rw [HL.out]; show _ = min _ _; omega
  case c3 =>
    intro _ j v hj
    rw [HCS.out, List.getElem?_map] at hj
    cases h : J[j]? with
    | none => rw [h] at hj; simp at hj
    | some y =>
      rw [h] at hj
      simp only [Option.map_some, Option.some.injEq] at hj
      subst hj
      have h2 := HC.out j (List.getElem?_eq_some_iff.1 h).1
      rw [show J.getD j 0 = y by simp [List.getD_eq_getElem?_getD, h]] at h2
      exact h2
  case c4 => rw [HL.out]; simp; omega
  case c5 => intro v hv; rw [HCS.out] at hv; simp at hv; obtain ⟨y, _, rfl⟩ := hv; rfl
  case c6 => exact (Below.refl _ _).alloc (by simp) _
  case c7 => omega
  intro w2 hk hB
  have k1 : Blk w2 (w.heap.size + 1) (splice [Value.int .i16 0, .int .i16 0, .int .i16 0, .int .i16 0] 0 (J.map (Value.int .i16))).toArray 30 := by rw [← HCS.out]; exact hk.out
  clear hk
  have k0 := (blk_new w #[.int .i16 (x 0), .int .i16 (x 1), .int .i16 (x 2), .int .i16 (x 3)] 30).below hB (Nat.lt_succ_self _)
  have HB := Lib.hid (((Below.refl w.heap.size w).alloc (Nat.le_refl _) (.cells #[.int .i16 (x 0), .int .i16 (x 1), .int .i16 (x 2), .int .i16 (x 3)] 30)).trans (hB.mono (Nat.le_succ _)))
  clear hB
  obtain ⟨c0, c1, c2, c3, _⟩ := k0.four
  go_wp2
  clear c0 c1 c2 c3
  go_loop [6, 7, 12] (fun _ _ i => ∃ k : Nat, k ≤ 4 ∧ i = .int .i64 k ∧ UpTo J x k) (fun _ _ i => 4 - (intOf i).toNat)
  case atStart => exact ⟨0, Nat.zero_le _, rfl, fun j hj => absurd hj (by omega)⟩
  case round =>
    obtain ⟨k, hk, rfl, hU⟩ := hrel
    have HU := Lib.hid hU
    clear hU
    by_cases hlt : k < 4
    · have hf : w2.cell? ⟨w.heap.size + 1, k, none⟩ = some (.int .i16 (J.getD k 0)) := (k1.cell k).trans (full_cell hl hlt)
      have hix := fun W => index_wat x hlt W
      by_cases h1 : x k < 0
      · have Hr := Lib.hid (show okX J x = false from cb_f (p := OkX J x) (fun h => by have := h k hlt; omega))
        generalize hy : x k = y at *
        have HY := Lib.hid hy
        clear hy
        have hd : decide (y < 0) = true := by simpa using h1
        go_wp2
        go_ret
        exact ⟨retb Hr.out.symm, HB.out⟩
      by_cases h2 : J.getD k 0 < x k
      · have Hr := Lib.hid (show okX J x = false from cb_f (p := OkX J x) (fun h => by have := h k hlt; omega))
        generalize hy : x k = y at *
        have HY := Lib.hid hy
        clear hy
        generalize J.getD k 0 = m at *
        have hd : decide (y < 0) = false := by simpa using h1
        have hd2 : decide (m < y) = true := by simpa using h2
        go_wp2
        go_ret
        exact ⟨retb Hr.out.symm, HB.out⟩
      have HS := Lib.hid (HU.out.snoc (k := k) ⟨by omega, by omega⟩)
      generalize hy : x k = y at *
      have HY := Lib.hid hy
      clear hy
      generalize J.getD k 0 = m at *
      have hd : decide (y < 0) = false := by simpa using h1
      have hd2 : decide (m < y) = false := by simpa using h2
      go_wp2
      go_round
      case rel => exact ⟨k + 1, by omega, by go_num, HS.out⟩
      case measure => simp [intOf]; omega
    · obtain rfl : k = 4 := by omega
      have Hr := Lib.hid (show okX J x = true from cb_t (p := OkX J x) HU.out)
      go_wp2
      go_ret
      exact ⟨retb Hr.out.symm, HB.out⟩
end Go.Proofs.Ytjmgalmndpjcoaa
