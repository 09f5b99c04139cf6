/-
  The walks of ReadTurns, the program's and the model's.
-/
import Derived.Test.YtlmmfcbdhmhekaaDoorSP2
namespace Go.Proofs.YtlmmfcbdhmhekaaDoor
open Go.RowKit
set_option maxRecDepth 100000
set_option linter.unusedVariables false

theorem own_sl {k : IntKind} {B : Nat} {w : World} {v : Value} {xs : List Int} (h : OwnV k B w v xs) : ∃ a c, v = .slice a xs.length c ∧ Sl k w.heap.size w a xs := by
  rcases h with ⟨rfl, a, c, rfl⟩ | ⟨b, c, rfl, _, h2, h3, _⟩
  · exact ⟨a, c, rfl, .inl rfl⟩
  · exact ⟨_, c, rfl, .inr ⟨b, 0, rfl, h2, h3⟩⟩
theorem row_mono {w : World} {B B' S : Nat} {T : TypeId} {v : Value} {n : Nat} {xs : List Value} (h : w.ownsRow B T S v n xs) (hB : B' ≤ B) : w.ownsRow B' T S v n xs := by
  refine ⟨h.1, ?_⟩
  rcases h.2 with h1 | ⟨g, cap, cur, h0, h1, h2⟩
  · exact .inl h1
  · exact .inr ⟨g, cap, cur, h0, by omega, h2⟩
/-- What ReadTurns answers. -/
noncomputable def rtV (s : ByteArray) : List Int := if s = ⟨#[]⟩ then [] else rsV (wds s)
noncomputable def rtC (s : ByteArray) : Int := if s = ⟨#[]⟩ then 0 else rsC (wds s)
theorem rt_t {s : ByteArray} (h : s = ⟨#[]⟩) : rtV s = [] ∧ rtC s = 0 := by unfold rtV rtC; rw [if_pos h, if_pos h]; exact ⟨rfl, rfl⟩
theorem rt_f {s : ByteArray} (h : s ≠ ⟨#[]⟩) : rtV s = rsV (wds s) ∧ rtC s = rsC (wds s) := by unfold rtV rtC; rw [if_neg h, if_neg h]; exact ⟨rfl, rfl⟩
theorem ret2s {v u : Value} {a b : Int} (h1 : v = u) (h : a = b) : Ending.returned (.tuple #[v, .int .i64 a]) = .returned (.tuple #[u, .int .i64 b]) := by rw [h1, h]
theorem snoc1 {X : List ByteArray} {k : Nat} (hk : k < X.length) : (rdL (X.take k)).map (Value.int .u8) ++ [.int .u8 ((rdT (X.getD k ⟨#[]⟩) (X.getD k ⟨#[]⟩).size : Nat) : Int)] = (rdL (X.take (k + 1))).map (Value.int .u8) := by
  rw [rdL_snoc hk, List.map_append]; rfl
theorem take_all {X : List ByteArray} {k : Nat} (h : ¬ k < X.length) : X.take k = X := List.take_of_length_le (by omega)
theorem readTurns_any (s : ByteArray) (w : World) (hs : s.size ≤ 1048576) (hm : ∃ m : Int, w.cell? ⟨0, 0, none⟩ = some (.int .i64 m)) :
    Calls Tryd.prog 5 #[.string s] w fun e w' => ∃ v, e = .returned (.tuple #[v, .int .i64 (rtC s)]) ∧ OwnV .u8 w.heap.size w' v (rtV s) ∧ Below w.heap.size w w' := by
  obtain ⟨iu, hu0, hu1, hu2, hu3⟩ := info_parts info_u8
  by_cases h0 : s = ⟨#[]⟩
  · subst h0
    rw [(rt_t rfl).1, (rt_t rfl).2]
    go_enter Tryd.func5, Tryd.ntmps5
    go_wp2
    go_ret2
    exact ⟨_, rfl, OwnV.nil _ _ _ _ _, Below.refl _ _⟩
  have HT := Lib.hid (rt_f h0)
  have e1 : (s.toList == []) = false := by have h := tl_f h0; rwa [ByteArray.toList_eq (ByteArray.mk #[])] at h
  clear h0
  obtain ⟨m, hm⟩ := hm
  have HT2 := Lib.hid (show rtV s = rsV (wdN s) ∧ rtC s = rsC (wdN s) from ⟨HT.out.1.trans (rs_same s).1.symm, HT.out.2.trans (rs_same s).2.symm⟩)
  have HP := Lib.hid (show Calls Tryd.prog 12 #[.string s, .string ⟨#[32]⟩, .int .i64 61] w fun e w' => e = .returned (.slice (some ⟨w.heap.size, 0, none⟩) (wdN s).length (min 61 (s.size + 1))) ∧ w' = w.alloc (.cells (Lib.cellsOf (wdN s) (min 61 (s.size + 1))) 9) from Tryd.strings_SplitN s ⟨#[32]⟩ 61 m w (by omega) hm (by decide) (by decide) (by decide))
  have hXN : (wdN s).length ≤ min 61 (s.size + 1) := by have := Lib.splitB_length_le ⟨#[32]⟩ 0 (min 61 (s.size + 1) - 1) s; unfold wdN; omega
  have HX := Lib.hid (show ∀ x ∈ wdN s, x.size ≤ 1048576 from fun x hx => Nat.le_trans (splitB_part _ _ _ x hx) hs)
  have hN : min 61 (s.size + 1) ≤ 61 := Nat.min_le_left _ _
  have hX61 : (wdN s).length ≤ 61 := Nat.le_trans hXN hN
  have HL := Lib.hid (show (∀ x ∈ wdN s, okS x = true) → (wdN s).length ≤ 1048576 from fun _ => by omega)
  have HW := Lib.hid (row_cells (w := w) (B := w.heap.size) (T := 9) (Nat.le_refl _) hXN (by unfold maxLen; omega))
  have HB := Lib.hid ((Below.refl w.heap.size w).alloc (Nat.le_refl _) (.cells (Lib.cellsOf (wdN s) (min 61 (s.size + 1))) 9))
  clear HT hm hs hXN
  generalize wdN s = X at *
  generalize min 61 (s.size + 1) = N at *
  generalize hw1 : w.alloc (.cells (Lib.cellsOf X N) 9) = w1 at *
  clear hw1
  obtain ⟨g, hg⟩ : ∃ g : Nat, g = w.heap.size := ⟨_, rfl⟩
  rw [← hg] at HP
  have HW := Lib.hid (show w1.ownsRow w.heap.size 9 1 (.slice (some ⟨g, 0, none⟩) X.length N) X.length (X.map Value.string) from by rw [hg]; exact HW.out)
  clear hg
  go_enter Tryd.func5, Tryd.ntmps5
  go_wp2_with fail
  refine HP.out.mono ?_
  rintro e w2 ⟨rfl, rfl⟩
  clear HP
  go_wp2
  go_loopw [4, 16] (fun pl i wr => (∃ (k : Nat) (v : Value), i = .int .i64 k ∧ pl = v ∧ k ≤ X.length ∧ wr.ownsRow w.heap.size 5 1 v k ((rdL (X.take k)).map (Value.int .u8)) ∧ (∀ x ∈ X.take k, okS x = true) ∧ wr.ownsRow w.heap.size 9 1 (.slice (some ⟨g, 0, none⟩) X.length N) X.length (X.map Value.string) ∧ Below w.heap.size w wr)) (fun _ i _ => X.length - (intOf i).toNat)
  case atStart => exact ⟨0, _, rfl, rfl, Nat.zero_le _, ⟨by simp [rdL], .inl ⟨rfl, rfl⟩⟩, fun x hx => absurd hx (by simp), HW.out, HB.out⟩
  case round =>
    clear HW HB
    obtain ⟨k, _, rfl, rfl, hk, hown, hok, hW, hB⟩ := hrel
    by_cases hlt : k < X.length
    · have hkl : (k : Int) < (X.length : Int) := by omega
      have h2 := wd_at hW hlt
      have hx := HX.out (X.getD k ⟨#[]⟩) (getD_mem hlt)
      have HS := Lib.hid (fun h => all_snoc hlt hok h)
      have HN := Lib.hid (snoc1 hlt)
      have HM := Lib.hid (getD_mem hlt)
      have HB := Lib.hid hB
      have HO := Lib.hid hown
      have HW := Lib.hid hW
      clear hok hB hown hW
      generalize X.getD k ⟨#[]⟩ = x at *
      have hr := rd_lt x x.size
      have HC := Lib.hid (readThings_any x wr hx)
      clear hx
      by_cases ho : okS x = true
      · have HV := Lib.hid ho
        rw [(rv_t ho).1, (rv_t ho).2] at HC
        clear ho
        generalize rdT x x.size = r at *
        go_wp2_with fail
        refine HC.out.mono ?_
        rintro e w2 ⟨rfl, hb⟩
        have HB2 := Lib.hid (HB.out.trans (hb.mono HB.out.size))
        have hown := row_nxt HO.out hb
        have hW := row_nxt HW.out hb
        clear hb HB HO HW HC
        go_wp2_with (first
          | (at_builtin; refine wpList_append_own _ rfl _ _ 22 rfl w.heap.size 5 iu (.int .u8 0) 1 1 Tryd.underlying22 hu0 hu1 hu2 hu3 rfl (by decide) _ _ _ rfl (hown.alloc _) ⟨w2.heap.size, 0, none⟩ 1 1 [.int .u8 (r : Int)] rfl rfl ?c1 ?c2 ?c3 ?c4 ?c5 ?_)
          | go_in)
        case c1 =>
          intro j u hj
          match j, hj with
          | 0, hj => simp at hj; subst hj; simp [Addr.add]
        case c2 => intro u hu; simp at hu; subst hu; rfl
        case c3 => unfold maxLen; omega
        case c4 => omega
        case c5 => simp; have := HB2.out.size; omega
        intro u' w5 hown' hgrow _
        have hB5 : Below w.heap.size w w5 := (HB2.out.alloc HB2.out.size _).grown hgrow (by simp; have := HB2.out.size; omega) (fun j hj => (hown.lt j hj).1)
        have HW5 := Lib.hid ((hW.alloc _).kept hgrow (row_ne hW hown (by decide)))
        have HO5 := Lib.hid hown'
        have HB5 := Lib.hid hB5
        clear hown' hgrow hown hW HB2 hB5
        go_wp2
        go_roundw
        case rel => exact ⟨k + 1, u', by go_num, rfl, by omega, by rw [← HN.out]; exact HO5.out, HS.out HV.out, HW5.out, HB5.out⟩
        case measure => simp [intOf]; omega
      · have HE := Lib.hid (rs_f (X := X) (fun hg => ho (hg.1 x HM.out)))
        have hof : okS x = false := by cases h : okS x with | true => exact absurd h ho | false => rfl
        rw [(rv_f hof).1, (rv_f hof).2] at HC
        clear ho hof
        go_wp2_with fail
        refine HC.out.mono ?_
        rintro e w2 ⟨rfl, hb⟩
        have HB2 := Lib.hid (HB.out.trans (hb.mono HB.out.size))
        clear hb HB HO HW HC
        go_wp2
        go_ret2
        exact ⟨_, ret2s rfl (HT2.out.2.trans HE.out.2).symm, by rw [HT2.out.1, HE.out.1]; exact OwnV.nil _ _ _ _ _, HB2.out⟩
    · have HA := Lib.hid (take_all hlt)
      have HB := Lib.hid hB
      obtain rfl : k = X.length := by omega
      rw [HA.out] at hown
      have hov := OwnV.ofOwns (rdL_len X).symm hown
      have hall : ∀ x ∈ X, okS x = true := by rw [HA.out] at hok; exact hok
      obtain ⟨a, c, rfl, hsl⟩ := own_sl hov
      have hle : (rdL X).length ≤ 1048576 := by rw [rdL_len]; exact HL.out hall
      by_cases hp : plC (rdL X) = 0
      · have HG := Lib.hid (rs_t ⟨hall, hp⟩)
        have HI := Lib.hid (turnsIn_any a c (rdL X) wr hle hsl (rdL_u8 X))
        rw [hp] at HI
        have HO := Lib.hid hov
        clear hov hsl hle hall hok hown hW hB hp HA
        generalize tiV (rdL X) = tv at *
        rw [rdL_len] at HI HO ⊢
        go_wp2_with fail
        refine HI.out.mono ?_
        rintro e w2 ⟨rfl, rfl⟩
        clear HI
        go_wp2
        go_ret2
        exact ⟨_, ret2s rfl (HT2.out.2.trans HG.out.2).symm, by rw [HT2.out.1, HG.out.1]; exact HO.out, HB.out⟩
      · have HG := Lib.hid (rs_f (X := X) (fun hg => hp hg.2))
        have HI := Lib.hid (turnsIn_any a c (rdL X) wr hle hsl (rdL_u8 X))
        have hp3 : plC (rdL X) = 2 ∨ plC (rdL X) = 3 := by rcases plC_cases (rdL X) with h | h | h <;> first | exact .inl h | exact .inr h | exact absurd h hp
        clear hov hsl hle hall hok hown hW hB hp HA
        generalize tiV (rdL X) = tv at *
        generalize plC (rdL X) = pc at *
        rw [rdL_len] at HI ⊢
        go_wp2_with fail
        refine HI.out.mono ?_
        rintro e w2 ⟨rfl, rfl⟩
        clear HI
        have hd : (pc == (0 : Int)) = false := by rcases hp3 with rfl | rfl <;> rfl
        have hd0 : pc ≠ 0 := by rcases hp3 with rfl | rfl <;> decide
        go_wp2
        go_ret2
        exact ⟨_, ret2s rfl (HT2.out.2.trans HG.out.2).symm, by rw [HT2.out.1, HG.out.1]; exact OwnV.nil _ _ _ _ _, HB.out⟩
theorem specReadTurns_any (s : ByteArray) (w : World) (hs : s.size ≤ 1048576) :
    Calls Tryd.prog 4 #[.string s] w fun e w' => ∃ v, e = .returned (.tuple #[v, .int .i64 (rtC s)]) ∧ OwnV .u8 w.heap.size w' v (rtV s) ∧ Below w.heap.size w w' := by
  obtain ⟨iu, hu0, hu1, hu2, hu3⟩ := info_parts info_u8
  by_cases h0 : s = ⟨#[]⟩
  · subst h0
    rw [(rt_t rfl).1, (rt_t rfl).2]
    go_enter Tryd.func4, Tryd.ntmps4
    go_wp2
    go_ret2
    exact ⟨_, rfl, OwnV.nil _ _ _ _ _, (Below.refl _ _).alloc (Nat.le_refl _) _⟩
  have HT := Lib.hid (rt_f h0)
  have e1 : (s.toList == []) = false := by have h := tl_f h0; rwa [ByteArray.toList_eq (ByteArray.mk #[])] at h
  clear h0
  have HSP := Lib.hid (fun wb : World => show Calls Tryd.prog 9 #[.string s, .int .u8 32] wb fun e w' => ∃ v, e = .returned v ∧ w'.ownsRow wb.heap.size 9 1 v (wds s).length ((wds s).map Value.string) ∧ Below wb.heap.size wb w' from (l01Split_any s 32 wb hs).mono fun e w' ⟨v, h1, h2, h3⟩ => ⟨v, h1, by unfold wds; rw [List.length_map, List.map_map]; exact h2, h3⟩)
  have HX := Lib.hid (show ∀ x ∈ wds s, x.size ≤ 1048576 from fun x hx => Nat.le_trans (wds_size s x hx) hs)
  have hXb : (wds s).length ≤ 1048577 := by have := wds_le s; omega
  have hX1 := wds_ne s
  have HL := Lib.hid (show (∀ x ∈ wds s, okS x = true) → (wds s).length ≤ 1048576 from fun h => by
    have := wds_len s (fun x hx e => by have h1 := h x hx; rw [e, okS_none] at h1; exact absurd h1 (by decide))
    omega)
  have hOW := World.ownsRow_made (base := w.heap.size) (e := 5) (size := 1) w #[] 0 (Nat.le_refl _) (by unfold maxLen; omega) (by simp)
  clear hs
  generalize wds s = X at *
  go_enter Tryd.func4, Tryd.ntmps4
  go_wp2_with fail
  have hB0 := (Below.refl w.heap.size w).alloc (Nat.le_refl _) (.cells #[] 5)
  generalize hg : w.alloc (.cells #[] 5) = wb at *
  clear hg
  refine (HSP.out wb).mono ?_
  rintro e w1 ⟨vw, rfl, hW, hb⟩
  clear HSP
  obtain ⟨g, N, rfl⟩ := row_slice hW hX1
  have HOW := Lib.hid (row_nxt hOW hb)
  have HW := Lib.hid (row_mono hW hB0.size)
  have HB := Lib.hid (hB0.trans (hb.mono hB0.size))
  clear hOW hb hW hB0
  go_wp2
  go_loopw [4, 6] (fun pl i wr => (∃ (k : Nat) (v : Value), i = .int .i64 k ∧ pl = v ∧ k ≤ X.length ∧ wr.ownsRow w.heap.size 5 1 v k ((rdL (X.take k)).map (Value.int .u8)) ∧ (∀ x ∈ X.take k, okS x = true) ∧ wr.ownsRow w.heap.size 9 1 (.slice (some ⟨g, 0, none⟩) X.length N) X.length (X.map Value.string) ∧ Below w.heap.size w wr)) (fun _ i _ => X.length - (intOf i).toNat)
  case atStart => exact ⟨0, _, rfl, rfl, Nat.zero_le _, by simpa [rdL] using HOW.out, fun x hx => absurd hx (by simp), HW.out, HB.out⟩
  case round =>
    clear HW HB
    obtain ⟨k, _, rfl, rfl, hk, hown, hok, hW, hB⟩ := hrel
    by_cases hlt : k < X.length
    · have hkl : (k : Int) < (X.length : Int) := by omega
      have h2 := wd_at hW hlt
      have hx := HX.out (X.getD k ⟨#[]⟩) (getD_mem hlt)
      have HS := Lib.hid (fun h => all_snoc hlt hok h)
      have HN := Lib.hid (snoc1 hlt)
      have HM := Lib.hid (getD_mem hlt)
      have HB := Lib.hid hB
      have HO := Lib.hid hown
      have HW := Lib.hid hW
      clear hok hB hown hW
      generalize X.getD k ⟨#[]⟩ = x at *
      have hr := rd_lt x x.size
      have HC := Lib.hid (l05Read_any x wr hx)
      clear hx
      by_cases ho : okS x = true
      · have HV := Lib.hid ho
        rw [ho] at HC
        clear ho
        generalize rdT x x.size = r at *
        go_wp2_with fail
        refine HC.out.mono ?_
        rintro e w2 ⟨v2, rfl, hv2, hb⟩
        obtain rfl := hv2 (by first | rfl | trivial)
        have HB2 := Lib.hid (HB.out.trans (hb.mono HB.out.size))
        have hown := row_nxt HO.out hb
        have hW := row_nxt HW.out hb
        clear hb HB HO HW HC
        go_wp2_with (first
          | (at_builtin; refine wpList_append_own _ rfl _ _ 22 rfl w.heap.size 5 iu (.int .u8 0) 1 1 Tryd.underlying22 hu0 hu1 hu2 hu3 rfl (by decide) _ _ _ rfl (hown.alloc _) ⟨w2.heap.size, 0, none⟩ 1 1 [.int .u8 (r : Int)] rfl rfl ?c1 ?c2 ?c3 ?c4 ?c5 ?_)
          | go_in)
        case c1 =>
          intro j u hj
          match j, hj with
          | 0, hj => simp at hj; subst hj; simp [Addr.add]
        case c2 => intro u hu; simp at hu; subst hu; rfl
        case c3 => unfold maxLen; omega
        case c4 => omega
        case c5 => simp; have := HB2.out.size; omega
        intro u' w5 hown' hgrow _
        have hB5 : Below w.heap.size w w5 := (HB2.out.alloc HB2.out.size _).grown hgrow (by simp; have := HB2.out.size; omega) (fun j hj => (hown.lt j hj).1)
        have HW5 := Lib.hid ((hW.alloc _).kept hgrow (row_ne hW hown (by decide)))
        have HO5 := Lib.hid hown'
        have HB5 := Lib.hid hB5
        clear hown' hgrow hown hW HB2 hB5
        go_wp2
        go_roundw
        case rel => exact ⟨k + 1, u', by go_num, rfl, by omega, by rw [← HN.out]; exact HO5.out, HS.out HV.out, HW5.out, HB5.out⟩
        case measure => simp [intOf]; omega
      · have HE := Lib.hid (rs_f (X := X) (fun hg => ho (hg.1 x HM.out)))
        have hof : okS x = false := by cases h : okS x with | true => exact absurd h ho | false => rfl
        rw [hof] at HC
        clear ho hof
        go_wp2_with fail
        refine HC.out.mono ?_
        rintro e w2 ⟨v2, rfl, -, hb⟩
        have HB2 := Lib.hid (HB.out.trans (hb.mono HB.out.size))
        clear hb HB HO HW HC
        go_wp2
        go_ret2
        exact ⟨_, ret2s rfl (HT.out.2.trans HE.out.2).symm, by rw [HT.out.1, HE.out.1]; exact OwnV.nil _ _ _ _ _, HB2.out.alloc HB2.out.size _⟩
    · have HA := Lib.hid (take_all hlt)
      have HB := Lib.hid hB
      obtain rfl : k = X.length := by omega
      rw [HA.out] at hown
      have hov := OwnV.ofOwns (rdL_len X).symm hown
      have hall : ∀ x ∈ X, okS x = true := by rw [HA.out] at hok; exact hok
      obtain ⟨a, c, rfl, hsl⟩ := own_sl hov
      have hle : (rdL X).length ≤ 1048576 := by rw [rdL_len]; exact HL.out hall
      by_cases hp : plC (rdL X) = 0
      · have HG := Lib.hid (rs_t ⟨hall, hp⟩)
        have HI := Lib.hid (l07Planned_any a c (rdL X) wr hle hsl)
        rw [hp] at HI
        have HO := Lib.hid hov
        clear hov hsl hle hall hok hown hW hB hp HA
        rw [rdL_len] at HI HO ⊢
        go_wp2_with fail
        refine HI.out.mono ?_
        rintro e w2 ⟨rfl, rfl⟩
        clear HI
        go_wp2
        go_ret2
        exact ⟨_, ret2s rfl (HT.out.2.trans HG.out.2).symm, by rw [HT.out.1, HG.out.1]; exact HO.out, HB.out⟩
      · have HG := Lib.hid (rs_f (X := X) (fun hg => hp hg.2))
        have HI := Lib.hid (l07Planned_any a c (rdL X) wr hle hsl)
        have hp3 : plC (rdL X) = 2 ∨ plC (rdL X) = 3 := by rcases plC_cases (rdL X) with h | h | h <;> first | exact .inl h | exact .inr h | exact absurd h hp
        clear hov hsl hle hall hok hown hW hB hp HA
        generalize plC (rdL X) = pc at *
        rw [rdL_len] at HI ⊢
        go_wp2_with fail
        refine HI.out.mono ?_
        rintro e w2 ⟨rfl, rfl⟩
        clear HI
        have hd : (pc == (0 : Int)) = false := by rcases hp3 with rfl | rfl <;> rfl
        have hd0 : pc ≠ 0 := by rcases hp3 with rfl | rfl <;> decide
        go_wp2
        go_ret2
        exact ⟨_, ret2s rfl (HT.out.2.trans HG.out.2).symm, by rw [HT.out.1, HG.out.1]; exact OwnV.nil _ _ _ _ _, HB.out.alloc HB.out.size _⟩
end Go.Proofs.YtlmmfcbdhmhekaaDoor
