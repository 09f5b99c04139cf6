/-
  The model's Decode.
-/
import Derived.Test.YtnleblnikcoaiaaB11
import Derived.Test.YtnleblnikcoaiaaB9
import Derived.Test.YtnleblnikcoaiaaE4
namespace Go.Proofs.Ytnleblnikcoaiaa
open Go.RowKit
set_option maxRecDepth 100000
set_option linter.unusedVariables false

theorem fcQ_pre {ws : List Wf} {pre L : List Cs} {v : Value} {q : Cs} (h : pre <+: L) (hq : fcQ ws pre v = some q) : fcQ ws L v = some q := by
  obtain ⟨r, rfl⟩ := h
  unfold fcQ at hq ⊢
  rw [List.find?_append, hq]
  rfl
theorem fcQ_at {ws : List Wf} {L : List Cs} {v : Value} {i : Nat} (hi : i < L.length) (h : fcQ ws (L.take i) v = none) (he : wordV (seenV ws (L.getD i (0, false))) = v) : fcQ ws L v = some (L.getD i (0, false)) := by
  refine fcQ_pre (List.take_prefix (i + 1) L) ?_
  rw [take_cs L i hi, fcQ_snoc, h, if_pos he]
  rfl
theorem fcQ_no {ws : List Wf} {L : List Cs} {v : Value} {i : Nat} (hi : i < L.length) (h : fcQ ws (L.take i) v = none) (he : wordV (seenV ws (L.getD i (0, false))) ≠ v) : fcQ ws (L.take (i + 1)) v = none := by
  rw [take_cs L i hi, fcQ_snoc, h, if_neg he]
  rfl
/-- What the model finds. -/
noncomputable def ldV (ws : List Wf) (L : List Cs) (x : Nat → Int) : Cs := (fcQ ws L (wordV x)).getD (0, false)
set_option maxHeartbeats 4000000 in
theorem l04Decode_any (fb b off c : Nat) (l k : Int) (ws : List Wf) (x : Nat → Int) (w : World) (K : Blk w fb #[.int .i8 l, .int .i8 k, .slice (some ⟨b, off, none⟩) ws.length c] 35) (hb : b < w.heap.size) (hc : WAt w b off ws) (hn : ws.length ≤ 80) (hw : Wall ws) (hk : 0 ≤ k ∧ k ≤ 2) :
    Calls Try.prog 37 #[.pointer (some ⟨fb, 0, none⟩), wordV x] w fun e w' => e = .returned (.tuple #[caseV (ldV ws (upC k true ws.length) x).1 (ldV ws (upC k true ws.length) x).2, .bool (fcQ ws (upC k true ws.length) (wordV x)).isSome]) ∧ Below w.heap.size w w' := by
  have F0 := ((FR.start w).box (wordC x) 30).box #[.int .i8 0, .bool false] 37
  have HC := Lib.hid (fun W K => l04Cases_any fb b off c l k ws W K hn hk)
  have hUL := upC80 k ws.length hn
  simp only [World.size_alloc] at F0
  have HW := Lib.hid (And.intro hw (And.intro hc K))
  clear hw hc K
  go_enter Try.func37, Try.ntmps37
  go_wp2_with fail
  refine (HC.out _ (Blk.below HW.out.2.2 F0.below HW.out.2.2.lt)).mono ?_
  rintro e w4 ⟨g, c', rfl, hg0, hg1, hcs, hfr, hb4⟩
  have F3 := F0.next hb4
  have hM : MD fb b off c g l k ws w4 := ⟨Blk.below HW.out.2.2 F3.below HW.out.2.2.lt, Nat.lt_of_lt_of_le hb F3.below.size, HW.out.2.1.below F3.below hb, hg1, hcs⟩
  have bX := F3.blk _ (List.mem_cons_of_mem _ List.mem_cons_self)
  have bR := F3.blk _ List.mem_cons_self
  dsimp only at bX bR
  have HM := Lib.hid (And.intro hM (And.intro bX (And.intro bR F3.below)))
  have hR4 := Blk.lt bR
  have hgne : g ≠ w.heap.size + 1 := by have := F0.blk _ List.mem_cons_self |>.lt; dsimp only at this; simp only [World.size_alloc] at hg0 this; omega
  clear hM bX bR F3 F0 hb4 HC hcs hfr hg0 hg1
  generalize hL : upC k true ws.length = L at *
  go_wp2
  go_loopw [7] (fun iv wr => ∃ i : Nat, iv = .int .i64 (i : Int) ∧ i ≤ L.length ∧ fcQ ws (L.take i) (wordV x) = none ∧ Below w4.heap.size w4 wr) (fun iv _ => L.length - (intOf iv).toNat)
  case atStart => exact ⟨0, rfl, Nat.zero_le _, rfl, Below.refl _ _⟩
  case round =>
    obtain ⟨i, rfl, hi', hno, hB⟩ := hrel
    obtain ⟨hM, bX, bR, hB0⟩ := HM.out
    by_cases hlt : i < L.length
    case neg =>
      obtain rfl : i = L.length := by omega
      rw [List.take_length] at hno
      have HF := Lib.hid (show ldV ws (upC k true ws.length) x = (0, false) ∧ (fcQ ws (upC k true ws.length) (wordV x)).isSome = false by rw [hL]; unfold ldV; rw [hno]; exact ⟨rfl, rfl⟩)
      have hB1 := hB0.trans (hB.mono hB0.size)
      have kB := Lib.hid hB1
      obtain ⟨f0, f1, f2⟩ := (Blk.below bR hB hR4).two
      clear bR bX hM hB hB1 hB0 hno
      go_wp2
      exact bodyPost_ret (v := .tuple #[caseV 0 false, .bool false]) (by simp [results, Try.results37, go_sem, f0, f1]) rfl ⟨by rw [HF.out.1, HF.out.2], by repeat (first | exact kB.out | refine Below.setCell ?_ (by simp <;> omega) _)⟩
    have hi2 : i < (upC k true ws.length).length := by rw [hL]; exact hlt
    have hltz : (i : Int) < (L.length : Int) := by omega
    have hlL : (L.length : Int) ≤ 161 := by omega
    have hx4 : w.heap.size < w4.heap.size := by omega
    have M1 := (hM.below (hB.mono (Nat.le_refl _))).below (Below.refl wr.heap.size wr).drew
    have X1 := Blk.below (Blk.below bX hB hx4) ((Below.refl wr.heap.size wr).drew) (Blk.lt (Blk.below bX hB hx4))
    have H6 := Lib.hid (fun W' (h : Below wr.drew.heap.size wr.drew W') => (M1.below h).six i hi2 (Blk.below X1 h (Blk.lt X1)))
    have HS := Lib.hid (M1.seen hn HW.out.1 i hi2)
    obtain ⟨g0, g1⟩ := (M1.two i hi2)
    rw [hL] at H6 HS g0 g1
    have HB1 := Lib.hid (hB.trans ((Below.refl wr.heap.size wr).drew.mono hB.size))
    have HA := Lib.hid (fcQ_at (v := wordV x) hlt hno)
    have HN := Lib.hid (fcQ_no (v := wordV x) hlt hno)
    generalize hy : L.getD i (0, false) = y at *
    have HBR := Lib.hid (And.intro bR hB0)
    clear hB hM bX bR hB0 M1 X1 g0 g1 hi2 hno
    generalize hsy : seenV ws y = z at *
    by_cases hw : wordV z = wordV x
    · obtain ⟨q0, q1, q2, q3⟩ := wordV_inj hw
      have hE := fun W => eqWd_t (x := z) (y := x) ⟨q0, q1, q2, q3⟩ W
      have hF := HA.out hw
      have HF := Lib.hid (show ldV ws (upC k true ws.length) x = y ∧ (fcQ ws (upC k true ws.length) (wordV x)).isSome = true by rw [hL]; unfold ldV; rw [hF]; exact ⟨rfl, rfl⟩)
      have hwh := Lib.hid hw
      clear hw hF q0 q1 q2 q3 HA HN
      go_wp2_with fail
      go_region_held3 (fun w' => w'.cell? ⟨g, i * 2, none⟩ = some (.int .i8 y.1) ∧ w'.cell? ⟨g, i * 2 + 1, none⟩ = some (.bool y.2) ∧ w'.cell? ⟨w.heap.size, 0, none⟩ = some (.int .i8 (x 0)) ∧ w'.cell? ⟨w.heap.size, 1, none⟩ = some (.int .i8 (x 1)) ∧ w'.cell? ⟨w.heap.size, 2, none⟩ = some (.int .i8 (x 2)) ∧ w'.cell? ⟨w.heap.size, 3, none⟩ = some (.int .i8 (x 3)))
        (first | with_reducible exact H6.out _ hb5 | with_reducible exact H6.out _ (Below.refl _ _))
        (first
          | (go_at_call 31; with_reducible refine HS.out.mono ?_; rintro e w5 ⟨rfl, hb5⟩))
      obtain ⟨g0, g1, -⟩ := H6.out _ hb5
      have hB5 := HB1.out.trans (hb5.mono HB1.out.size)
      have kB := Lib.hid (HBR.out.2.trans (hB5.mono HBR.out.2.size))
      obtain ⟨f0, f1, f2⟩ := (Blk.below HBR.out.1 hB5 hR4).two
      have hne : g ≠ w.heap.size + 1 := hgne
      clear hb5 hB5 HS H6 HB1 HBR hE
      go_wp2
      exact bodyPost_ret (v := .tuple #[caseV y.1 y.2, .bool true]) (by simp [results, Try.results37, go_sem, f0, f1]) rfl ⟨by rw [HF.out.1, HF.out.2], by repeat (first | exact kB.out | refine Below.setCell ?_ (by simp <;> omega) _)⟩
    · have hE := fun W => eqWd_f (x := z) (y := x) (fun h => hw (by show Value.agg _ = Value.agg _; rw [h.1, h.2.1, h.2.2.1, h.2.2.2])) W
      have HN2 := Lib.hid (HN.out hw)
      clear hw HA HN
      go_wp2_with fail
      go_region_held3 (fun w' => w'.cell? ⟨g, i * 2, none⟩ = some (.int .i8 y.1) ∧ w'.cell? ⟨g, i * 2 + 1, none⟩ = some (.bool y.2) ∧ w'.cell? ⟨w.heap.size, 0, none⟩ = some (.int .i8 (x 0)) ∧ w'.cell? ⟨w.heap.size, 1, none⟩ = some (.int .i8 (x 1)) ∧ w'.cell? ⟨w.heap.size, 2, none⟩ = some (.int .i8 (x 2)) ∧ w'.cell? ⟨w.heap.size, 3, none⟩ = some (.int .i8 (x 3)))
        (first | with_reducible exact H6.out _ hb5 | with_reducible exact H6.out _ (Below.refl _ _))
        (first
          | (go_at_call 31; with_reducible refine HS.out.mono ?_; rintro e w5 ⟨rfl, hb5⟩))
      have HB5 := Lib.hid (HB1.out.trans (hb5.mono HB1.out.size))
      clear hb5 HS H6 HB1 HBR hE
      go_wp2
      go_roundw
      case rel => exact ⟨i + 1, by go_num, by omega, HN2.out, HB5.out⟩
      case measure => simp [intOf]; omega
end Go.Proofs.Ytnleblnikcoaiaa
