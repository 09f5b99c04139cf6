/-
  The model's WithoutThing.
-/
import Derived.Test.YtlpmojjmnkiflaaWT2
import Derived.Deep.DeepCutAuto
import Derived.Deep.RegionHeld3
namespace Go.Proofs.Ytlpmojjmnkiflaa
open Go.RowKit
set_option maxRecDepth 100000
set_option linter.unusedVariables false

theorem least_any (a c : Int) (w : World) : Calls Try.prog 49 #[.int .i64 a, .int .i64 c] w fun e w' => e = .returned (.int .i64 (min a c)) ∧ w = w' := by
  by_cases h : a < c
  · rw [show min a c = a by omega]
    go_enter Try.func49, Try.ntmps49
    go_wp2
    go_ret
    exact ⟨rfl, rfl⟩
  · rw [show min a c = c by omega]
    have hd : decide (a < c) = false := by simpa using h
    go_enter Try.func49, Try.ntmps49
    go_wp2
    go_ret
    exact ⟨rfl, rfl⟩
set_option maxHeartbeats 4000000 in
theorem specWithoutThing_in (l k : Int) (a : Option Addr) (c : Nat) (xs : List Int) (t : Nat) (w : World) (hs : Sl .u16 w.heap.size w a xs) (hl : B8 l) (hk : B8 k) (hn : xs.length ≤ 1048576) (hw : U16 xs) (hok : okY l k xs = true) (ht : (t : Int) ≤ l - 1) (h1 : l ≠ 1) :
    Calls Try.prog 29 #[ferV l k a xs.length c, .int .i64 t] w fun e w' => ∃ v, e = .returned (.tuple #[.agg #[.int .i8 (l - 1), .int .i8 (min k (l - 1)), v], .int .i64 0]) ∧ OwnV .u16 w.heap.size w' v (wtL t xs xs.length) ∧ Below w.heap.size w w' := by
  have F0 := ((FR.start w).box #[.int .i8 l, .int .i8 k, .slice a xs.length c] 33).box #[.int .i8 0, .int .i8 0, .slice none 0 0] 33
  simp only [World.size_alloc] at F0
  have HV := Lib.hid (l05Ok_any w.heap.size l k a c xs _ (F0.blk _ (List.mem_cons_of_mem _ List.mem_cons_self)) (hs.up F0.below (Nat.le_refl _)) hl hk hn hw)
  rw [hok] at HV
  have HS := Lib.hid (And.intro hs hw)
  have hy := okY_t hok
  have hl8 := hy.1
  have hk8 := hy.2.1
  have hn20 := hy.2.2.1
  have ht7 : t ≤ 7 := by omega
  have HW := Lib.hid (fun W => l00In_any (t : Int) 0 (l - 1) W)
  rw [show inB (t : Int) 0 (l - 1) = true from cb_t (by omega)] at HW
  have e1 : (l == 1) = false := by rw [beq_eq_false_iff_ne]; exact h1
  have HM := Lib.hid (fun W => least_any k (l - 1) W)
  obtain ⟨m, hmd⟩ : ∃ m, min k (l - 1) = m := ⟨_, rfl⟩
  have hm8 : 0 ≤ m ∧ m ≤ 8 := by omega
  rw [hmd] at HM ⊢
  clear hs hw hok hl hk hmd
  have hp0 : (1 : Int) ≤ 2 ^ t ∧ (2 : Int) ^ t ≤ 128 := by
    have : t = 0 ∨ t = 1 ∨ t = 2 ∨ t = 3 ∨ t = 4 ∨ t = 5 ∨ t = 6 ∨ t = 7 := by omega
    rcases this with rfl | rfl | rfl | rfl | rfl | rfl | rfl | rfl <;> decide
  have hw1 : IntKind.u16.wrap (2 ^ t) = 2 ^ t := by rw [IntKind.wrap_u16]; omega
  have hw2 : IntKind.u16.wrap (2 ^ t - 1) = 2 ^ t - 1 := by rw [IntKind.wrap_u16]; omega
  have q1 : IntKind.i64.wrap k = k := by rw [IntKind.wrap_i64]; omega
  have q2 : IntKind.i64.wrap l = l := by rw [IntKind.wrap_i64]; omega
  have q3 : IntKind.i64.wrap (l - 1) = l - 1 := by rw [IntKind.wrap_i64]; omega
  have q4 : IntKind.i8.wrap (l - 1) = l - 1 := by simp [IntKind.wrap, IntKind.bits, IntKind.signed]; omega
  have q5 : IntKind.i8.wrap m = m := by simp [IntKind.wrap, IntKind.bits, IntKind.signed]; omega
  obtain ⟨n, hnn⟩ : ∃ n, xs.length = n := ⟨_, rfl⟩
  have HNN := Lib.hid hnn
  go_enter Try.func29, Try.ntmps29
  rw [hnn] at HV F0 hn20 hn ⊢
  clear hnn
  go_wp2_with fail
  refine HV.out.mono ?_
  rintro e w2 ⟨rfl, hb⟩
  have F1 := F0.next hb.below
  clear hb F0 HV
  obtain ⟨c0, c1, c2, -⟩ := (F1.blk _ (List.mem_cons_of_mem _ List.mem_cons_self)).three
  go_wp2_with fail
  refine (HW.out _).mono ?_
  rintro e w3 ⟨rfl, rfl⟩
  go_upto_region 7 with fail
  go_cut [6] (fun s wx => ∃ B, s = .pointer (some ⟨B, 0, none⟩) ∧ FR w [(B, #[.int .i8 (l - 1), .int .i8 m, .slice none 0 0], 33), (w.heap.size + 1, #[.int .i8 0, .int .i8 0, .slice none 0 0], 33), (w.heap.size, #[.int .i8 l, .int .i8 k, .slice a n c], 33)] wx ∧ wx.heap.size = B + 1)
  case first =>
    have F2 := F1.drew
    clear c0 c1 c2
    have keepS : ∀ (L : List (Nat × Array Value × TypeId)) (W' : World), FR w L W' → (w.heap.size, #[.int .i8 l, .int .i8 k, .slice a n c], 33) ∈ L → (W'.cell? ⟨w.heap.size, 0, none⟩ = some (.int .i8 l) ∧ W'.cell? ⟨w.heap.size, 1, none⟩ = some (.int .i8 k) ∧ W'.cell? ⟨w.heap.size, 2, none⟩ = some (.slice a n c)) :=
      fun L W' h hm => ⟨(h.blk _ hm).cell 0, (h.blk _ hm).cell 1, (h.blk _ hm).cell 2⟩
    go_region_held3 (fun w' => w'.cell? ⟨w.heap.size, 0, none⟩ = some (.int .i8 l) ∧ w'.cell? ⟨w.heap.size, 1, none⟩ = some (.int .i8 k) ∧ w'.cell? ⟨w.heap.size, 2, none⟩ = some (.slice a n c))
      (first
        | exact keepS _ _ F2 (List.mem_cons_of_mem _ List.mem_cons_self)
        | exact keepS _ _ (F2.box _ _) (List.mem_cons_of_mem _ (List.mem_cons_of_mem _ List.mem_cons_self)))
      (first
        | (go_at_call 49; with_reducible refine (HM.out _).mono ?_; rintro e w4 ⟨rfl, rfl⟩))
    all_goals (go_wp2_with fail; go_meet; first | exact ⟨_, rfl, (F1.box _ _).drew, by simp⟩ | exact ⟨_, rfl, F2.box _ _, by simp⟩)
  case rest =>
    obtain ⟨nb, rfl, F2, hsz2⟩ := hcut
    clear F1 c0 c1 c2
    obtain ⟨c0, c1, c2, -⟩ := (F2.blk _ (List.mem_cons_of_mem _ (List.mem_cons_of_mem _ List.mem_cons_self))).three
    have z1 : w.heap.size + 1 < nb := (F2.top _ _ rfl).2 _ List.mem_cons_self
    have HF2 := Lib.hid F2
    clear F2
    go_wp2
    clear c0 c1 c2
    go_loopw [8] (fun i wr => ∃ (j : Nat) (v : Value), i = .int .i64 j ∧ j ≤ n ∧ wr.ownsRow (nb + 1) 26 1 v (wtL t xs j).length (uvals (wtL t xs j)) ∧ nb + 1 ≤ wr.heap.size ∧ FR w [(nb, #[.int .i8 (l - 1), .int .i8 m, v], 33), (w.heap.size + 1, #[.int .i8 0, .int .i8 0, .slice none 0 0], 33), (w.heap.size, #[.int .i8 l, .int .i8 k, .slice a n c], 33)] wr) (fun i _ => n - (intOf i).toNat)
    case atStart => exact ⟨0, .slice none 0 0, rfl, Nat.zero_le _, World.ownsRow_nil _ _ _ _, by omega, HF2.out⟩
    case round =>
      clear HF2 hsz2
      obtain ⟨j, v, rfl, hj, hrow, hnz, F3⟩ := hrel
      obtain ⟨ao, cap, rfl⟩ := own_slice hrow
      obtain ⟨c0, c1, c2, -⟩ := (F3.blk _ (List.mem_cons_of_mem _ (List.mem_cons_of_mem _ List.mem_cons_self))).three
      by_cases hlt : j < n
      case neg =>
        have hlz : ¬ (j : Int) < (n : Int) := by omega
        obtain ⟨e0, e1', e2, -⟩ := (F3.blk _ List.mem_cons_self).three
        have F4 := F3.tail (fun p L' e => by cases e; exact ⟨by simp, fun r hr => by simp at hr; subst hr; simp⟩)
        obtain ⟨g0, g1, g2, gf⟩ := (F4.blk _ List.mem_cons_self).three
        have F9 := F4.fer (u0 := .int .i8 (l - 1)) (u1 := .int .i8 m) (u2 := .slice ao (wtL t xs j).length cap)
        have hrow9 := ((row_set hrow (b := w.heap.size + 1) (by omega) 0 (.int .i8 (l - 1))) |> fun h => row_set h (b := w.heap.size + 1) (by omega) 1 (.int .i8 m)) |> fun h => row_set h (b := w.heap.size + 1) (by omega) 2 (.slice ao (wtL t xs j).length cap)
        have HB := Lib.hid (And.intro (F9.blk _ List.mem_cons_self) (And.intro F9.below ((OwnV.ofOwns rfl hrow9).mono (show w.heap.size ≤ nb + 1 by omega))))
        have HE := Lib.hid (show wtL t xs n = wtL t xs j by rw [show n = j by omega])
        clear F3 F4 F9 hrow9 hrow
        go_wp2
        exact bodyPost_ret (res_fer _ Try.results29 HB.out.1 _ rfl rfl) rfl ⟨_, rfl, by rw [HE.out]; exact HB.out.2.2, HB.out.2.1⟩
      have hlz : (j : Int) < (n : Int) := by omega
      have hjx : j < xs.length := by have := HNN.out; omega
      obtain ⟨xb, xoff, rfl, hxb, hxc⟩ : ∃ b off, a = some ⟨b, off, none⟩ ∧ b < w.heap.size ∧ At .u16 w b off xs := by
        rcases HS.out.1 with h | h
        · subst h; simp at hjx
        · exact h
      have hc := (hxc.below F3.below hxb) j hjx
      have hx16 := HS.out.2 j
      have HT := Lib.hid (fun h => wtL_t (t := t) (xs := xs) (j := j) h)
      have HF := Lib.hid (fun h => wtL_f (t := t) (xs := xs) (j := j) h)
      have hll := wtL_len t xs j
      generalize xs.getD j 0 = r at *
      obtain ⟨e0, e1', e2, ef⟩ := (F3.blk _ List.mem_cons_self).three
      by_cases hb : r / 2 ^ t % 2 = 0
      · have hbt : ((r / 2 ^ t).tmod 2 == 0) = true := by rw [Int.tmod_eq_emod_of_nonneg (Int.ediv_nonneg hx16.1 (by omega)), hb]; rfl
        have HN := Lib.hid (HT.out hb)
        clear HT HF
        have HF3 := Lib.hid F3
        have HROW := Lib.hid hrow
        obtain ⟨i0, hi, hz0, hz1, hz2⟩ := info_parts Try.info_u16
        have hrow2 := hrow
        clear F3 hrow
        go_upto_region 14 with fail
        go_wp2_with (first
          | (at_builtin; go_loud (refine wpList_append_own _ rfl _ _ 23 rfl (nb + 1) 26 i0 (.int .u16 0) 1 2 Try.underlying23 hi hz0 hz1 hz2 rfl (by decide) _ _ _ rfl (HROW.out.alloc _) ⟨wr.heap.size, 0, none⟩ 1 1 [.int .u16 (wtR t r)] rfl rfl (cell_one_new _ _ _) (by simp [Value.oneCell']) (by unfold maxLen; omega) (by omega) (by simp; omega) ?_))
          | go_in)
        intro v' w5 hown' hgrow _
        have F5 := FR.grow (B := nb + 1) (HF3.out.next ((Below.refl _ _).alloc (Nat.le_refl _) (.cells #[.int .u16 (wtR t r)] 26))) hgrow (fun k hk => (HROW.out.lt k hk).1) (by omega) (fun p hp => by simp at hp; rcases hp with rfl | rfl | rfl <;> simp <;> omega)
        obtain ⟨p0, p1, p2, pf⟩ := (F5.blk _ List.mem_cons_self).three
        obtain ⟨ao', cap', rfl⟩ := own_slice hown'
        have F6 := F5.setTop 2 (.slice ao' ((wtL t xs j).length + 1) cap')
        have hrow6 := row_set hown' (b := nb) (by omega) 2 (.slice ao' ((wtL t xs j).length + 1) cap')
        have HH := Lib.hid (And.intro hrow6 F6)
        have HL := Lib.hid (show (wtL t xs (j + 1)).length = (wtL t xs j).length + 1 by rw [HN.out, List.length_append]; rfl)
        clear hrow6 F6 F5 hown' hgrow c0 c1 c2 e0 e1' e2 ef hc
        go_wp2
        go_roundw
        case rel => exact ⟨j + 1, _, by go_num, by omega, by rw [HL.out, HN.out]; simpa [uvals] using HH.out.1, (HH.out.2.blk _ List.mem_cons_self).lt, HH.out.2⟩
        case measure => simp [intOf]; omega
      · have hbt : ((r / 2 ^ t).tmod 2 == 0) = false := by rw [Int.tmod_eq_emod_of_nonneg (Int.ediv_nonneg hx16.1 (by omega)), beq_eq_false_iff_ne]; exact hb
        have HN := Lib.hid (HF.out hb)
        have hbn : (r / 2 ^ t % 2 == 0) = false := by rw [beq_eq_false_iff_ne]; exact hb
        have HH := Lib.hid (And.intro hrow F3)
        clear HT HF hrow F3
        go_wp2
        go_roundw
        case rel => exact ⟨j + 1, _, by go_num, by omega, by rw [HN.out]; exact HH.out.1, hnz, HH.out.2⟩
        case measure => simp [intOf]; omega
end Go.Proofs.Ytlpmojjmnkiflaa
