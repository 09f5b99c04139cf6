/-
  The walks of FirstLies.
-/
import Derived.Test.YtkaneljgfioblaaZ13
import Derived.Test.YtkaneljgfioblaaZ23
import Derived.Test.YtkaneljgfioblaaOwn
namespace Go.Proofs.Ytkaneljgfioblaa
open Go.RowKit
set_option maxRecDepth 100000
set_option linter.unusedVariables false

/-- Which of the first n questions have been answered wrong. -/
def flL (qs : List Ak) (k : Nat) : Nat → List Int
  | 0 => []
  | n + 1 => if wrongB k (akI qs n) = true then flL qs k n ++ [(n : Int)] else flL qs k n
theorem flL_len (qs : List Ak) (k n : Nat) : (flL qs k n).length ≤ n := by
  induction n with
  | zero => simp [flL]
  | succ n ih =>
    unfold flL
    split
    · simp; omega
    · omega
def fiL (l kk : Int) (qs : List Ak) (n : Int) : List Int := if asC l kk qs n = 0 then flL qs n.toNat qs.length else []
theorem fiL_len (l kk : Int) (qs : List Ak) (n : Int) : (fiL l kk qs n).length ≤ 60 := by
  unfold fiL
  by_cases h : asC l kk qs n = 0
  · rw [if_pos h]
    have := flL_len qs n.toNat qs.length
    have := (okG_t (asC_zero h).1).2.2.1
    omega
  · rw [if_neg h]; simp
set_option maxHeartbeats 4000000 in
theorem specFirstLies_any (l kk : Int) (a : Option Addr) (c : Nat) (xs : List Ak) (n : Int) (w : World) (hs : Sla w.heap.size w a xs) (hl : B8 l) (hk : B8 kk) (hn : xs.length ≤ 1048576) (hw : Aall xs) (hnn : I64 n) :
    Calls Try.prog 20 #[gamV l kk a xs.length c, .int .i64 n] w fun e w' => ∃ v, e = .returned (.tuple #[v, .int .i64 (asC l kk xs n)]) ∧ OwnV .i64 w.heap.size w' v (fiL l kk xs n) ∧ Below w.heap.size w w' := by
  obtain ⟨i0, hi0, hz0, hz1, hz2⟩ := info_parts Try.info_i64c
  have F0 := (FR.start w).box #[.int .i8 l, .int .i8 kk, .slice a xs.length c] 30
  have hs1 := hs.up F0.below (Nat.le_refl _)
  have HA := Lib.hid (l06Asked_any w.heap.size l kk a c xs n _ (F0.blk _ List.mem_cons_self) hs1 hl hk hn hw hnn)
  by_cases h : asC l kk xs n = 0
  case neg =>
    have HV := Lib.hid (show fiL l kk xs n = [] from by unfold fiL; rw [if_neg h])
    rw [HV.out]
    have hq : (asC l kk xs n != 0) = true := by simpa using h
    generalize asC l kk xs n = q at *
    clear h hs hs1 hl hk hw
    generalize xs.length = m at *
    go_enter Try.func20, Try.ntmps20
    go_wp2_with fail
    refine HA.out.mono ?_
    rintro e w2 ⟨rfl, hb⟩
    have F1 := F0.next hb.below
    have HB := Lib.hid (F1.below.alloc F1.size (.cells #[] 2))
    clear hb F0 F1
    go_wp2
    go_ret2
    exact ⟨_, rfl, OwnV.nil _ _ _ _ _, HB.out⟩
  obtain ⟨h1, h2⟩ := asC_zero h
  have hg := okG_t h1
  obtain ⟨k, rfl⟩ := Int.eq_ofNat_of_zero_le h2.1
  have HV := Lib.hid (show fiL l kk xs k = flL xs k xs.length from by unfold fiL; rw [if_pos h]; rfl)
  have HS := Lib.hid hs
  have HQ := Lib.hid (fun j W => l06Wrong_any (akI xs j) k W (hw j) (by omega))
  have HLN := Lib.hid (flL_len xs k)
  have HST := Lib.hid (show ∀ j, flL xs k (j + 1) = if wrongB k (akI xs j) = true then flL xs k j ++ [(j : Int)] else flL xs k j from fun j => rfl)
  have hM0 : flL xs k 0 = [] := rfl
  have hn60 := hg.2.2.1
  rw [h] at HA ⊢
  rw [HV.out]
  obtain ⟨m, hmm⟩ : ∃ m, xs.length = m := ⟨_, rfl⟩
  have HMM := Lib.hid hmm
  simp only [hmm] at HA F0 hn60 ⊢
  generalize hLL : flL xs k = L at *
  clear h h1 h2 hg hs hs1 hl hk hw hnn hLL hmm
  go_enter Try.func20, Try.ntmps20
  go_wp2_with fail
  refine HA.out.mono ?_
  rintro e w2 ⟨rfl, hb⟩
  have F1 := F0.next hb.below
  have hsz2 : w.heap.size + 1 ≤ w2.heap.size := (F1.blk _ List.mem_cons_self).lt
  have F2 := F1.next ((Below.refl w2.heap.size w2).alloc (Nat.le_refl _) (.cells #[] 2))
  obtain ⟨b0, b1, b2, -⟩ := (F2.blk _ List.mem_cons_self).three
  dsimp only at b0 b1 b2
  clear hb F0
  go_wp2
  clear b0 b1 b2
  go_loopw [7, 8] (fun u iv wr => ∃ j : Nat, iv = .int .i64 (j : Int) ∧ j ≤ m ∧ wr.ownsRow (w.heap.size + 1) 2 1 u (L j).length ((L j).map (Value.int .i64)) ∧ FR w [(w.heap.size, #[.int .i8 l, .int .i8 kk, .slice a m c], 30)] wr) (fun _ iv _ => m - (intOf iv).toNat)
  case atStart => exact ⟨0, rfl, Nat.zero_le _, by rw [hM0]; exact World.ownsRow_made w2 #[] 0 hsz2 (by unfold maxLen; omega) (by simp), F2⟩
  case round =>
    obtain ⟨j, rfl, hj, hown, hF⟩ := hrel
    by_cases hlt : j < m
    case neg =>
      obtain rfl : j = m := by omega
      have HO := Lib.hid ((OwnV.ofOwns (by simp) hown).mono (Nat.le_succ w.heap.size))
      have HB := Lib.hid hF.below
      obtain ⟨c0, c1, c2, -⟩ := (hF.blk _ List.mem_cons_self).three
      dsimp only at c0 c1 c2
      have hlt2 : ¬ j < j := by omega
      clear hown hF hlt
      go_wp2
      go_ret2
      exact ⟨_, rfl, HO.out, HB.out⟩
    have hkz : (j : Int) < (m : Int) := by omega
    have hll := HLN.out j
    have HSTk := Lib.hid (HST.out j)
    have HQj := Lib.hid (HQ.out j)
    rcases HS.out with h0 | ⟨b, off, rfl, hbb, hc⟩
    · have := HMM.out; subst h0; simp at this; omega
    obtain ⟨p0, p1⟩ := (hc.below hF.below hbb) j (by rw [HMM.out]; exact hlt)
    generalize akI xs j = q at *
    obtain ⟨c0, c1, c2, -⟩ := (hF.blk _ List.mem_cons_self).three
    dsimp only at c0 c1 c2
    have hO1 := hown
    have F3 := hF
    clear hown hF
    clear hc HS
    cases hq : wrongB k q
    · rw [hq] at HQj HSTk
      have HL1 := Lib.hid (show L (j + 1) = L j by rw [HSTk.out]; rfl)
      clear hq HSTk
      go_wp2_with fail
      refine (HQj.out _).mono ?_
      rintro e w4 ⟨rfl, hb4⟩
      have HO4 := Lib.hid (row_next hO1 hb4)
      have HF4 := Lib.hid (F3.next hb4)
      clear hb4 hO1 F3 c0 c1 c2 p0 p1
      go_wp2
      go_roundw
      case rel => exact ⟨j + 1, by go_num, by omega, by rw [HL1.out]; exact HO4.out, HF4.out⟩
      case measure => simp [intOf]; omega
    · rw [hq] at HQj HSTk
      have HL1 := Lib.hid (show L (j + 1) = L j ++ [(j : Int)] by rw [HSTk.out]; rfl)
      clear hq HSTk
      go_wp2_with fail
      refine (HQj.out _).mono ?_
      rintro e w4 ⟨rfl, hb4⟩
      have hO4 := row_next hO1 hb4
      have F4 := F3.next hb4
      have hs4 : w.heap.size + 1 ≤ w4.heap.size := (F4.blk _ List.mem_cons_self).lt
      clear hb4 hO1 F3 c0 c1 c2 p0 p1
      obtain ⟨wq, rfl⟩ : ∃ wq : World, wq = w4 := ⟨_, rfl⟩
      go_wp2_with (first
        | (at_builtin; refine wpList_append_own _ rfl _ _ 40 rfl (w.heap.size + 1) 2 i0 (.int .i64 0) 1 8 Try.underlying40 hi0 hz0 hz1 hz2 rfl (by decide) _ _ _ rfl (hO4.alloc _) ⟨wq.heap.size, 0, none⟩ 1 1 [.int .i64 (j : Int)] rfl rfl ?c1 ?c2 ?c3 ?c4 ?c5 ?_)
        | go_in)
      case c1 =>
        intro j u hj
        match j, hj with
        | 0, hj => simp at hj; subst hj; simp [Addr.add]
      case c2 => intro u hu; simp at hu; subst hu; rfl
      case c3 => unfold maxLen; omega
      case c4 => omega
      case c5 => simp; omega
      intro u' w5 hown' hgrow _
      have hB5 : Below (w.heap.size + 1) wq w5 := (((Below.refl _ wq).mono (Nat.le_refl _)).alloc hs4 _).grown hgrow (by simp; omega) (fun j hj => (hO4.lt j hj).1)
      have HF5 := Lib.hid (show FR w [(w.heap.size, #[.int .i8 l, .int .i8 kk, .slice (some ⟨b, off, none⟩) m c], 30)] w5 from ⟨F4.below.trans (hB5.mono (by omega)), fun p hp => by simp only [List.mem_cons, List.not_mem_nil, or_false] at hp; subst hp; exact (F4.blk _ List.mem_cons_self).below hB5 (Nat.lt_succ_self _), F4.top⟩)
      have HO5 := Lib.hid hown'
      clear hown' hgrow hO4 F4 hB5
      go_wp2
      go_roundw
      case rel => exact ⟨j + 1, by go_num, by omega, by rw [HL1.out]; simpa using HO5.out, HF5.out⟩
      case measure => simp [intOf]; omega
set_option maxHeartbeats 4000000 in
theorem firstLies_any (l kk : Int) (a : Option Addr) (c : Nat) (xs : List Ak) (n : Int) (w : World) (hs : Sla w.heap.size w a xs) (hl : B8 l) (hk : B8 kk) (hn : xs.length ≤ 1048576) (hw : Aall xs) (hnn : I64 n) :
    Calls Try.prog 21 #[gamV l kk a xs.length c, .int .i64 n] w fun e w' => ∃ v, e = .returned (.tuple #[v, .int .i64 (asC l kk xs n)]) ∧ OwnV .i64 w.heap.size w' v (fiL l kk xs n) ∧ Below w.heap.size w w' := by
  obtain ⟨i0, hi0, hz0, hz1, hz2⟩ := info_parts Try.info_i64c
  have F0 := (FR.start w).box #[.int .i8 l, .int .i8 kk, .slice a xs.length c] 30
  have hs1 := hs.up F0.below (Nat.le_refl _)
  have HA := Lib.hid (codeOfNumber_any l kk a c xs n _ hs1 hl hk hn hw hnn)
  obtain ⟨c0, c1, c2, -⟩ := (F0.blk _ List.mem_cons_self).three
  by_cases h : asC l kk xs n = 0
  case neg =>
    have HV := Lib.hid (show fiL l kk xs n = [] from by unfold fiL; rw [if_neg h])
    rw [HV.out]
    have hq : (asC l kk xs n != 0) = true := by simpa using h
    generalize asC l kk xs n = q at *
    clear h hs hs1 hl hk hw
    generalize xs.length = m at *
    go_enter Try.func21, Try.ntmps21
    go_wp2_with fail
    refine HA.out.mono ?_
    rintro e w2 ⟨rfl, hb⟩
    have F1 := F0.next hb
    have HB := Lib.hid F1.below
    clear hb F0 F1 c0 c1 c2
    go_wp2
    go_ret2
    exact ⟨_, rfl, OwnV.nil _ _ _ _ _, HB.out⟩
  obtain ⟨h1, h2⟩ := asC_zero h
  have hg := okG_t h1
  obtain ⟨k, rfl⟩ := Int.eq_ofNat_of_zero_le h2.1
  have HV := Lib.hid (show fiL l kk xs k = flL xs k xs.length from by unfold fiL; rw [if_pos h]; rfl)
  have HS := Lib.hid hs
  have HQ := Lib.hid (fun j W => isWrong_any (akI xs j) k W (hw j) (by omega))
  have HLN := Lib.hid (flL_len xs k)
  have HST := Lib.hid (show ∀ j, flL xs k (j + 1) = if wrongB k (akI xs j) = true then flL xs k j ++ [(j : Int)] else flL xs k j from fun j => rfl)
  have hM0 : flL xs k 0 = [] := rfl
  have hn60 := hg.2.2.1
  rw [h] at HA ⊢
  rw [HV.out]
  obtain ⟨m, hmm⟩ : ∃ m, xs.length = m := ⟨_, rfl⟩
  have HMM := Lib.hid hmm
  simp only [hmm] at HA F0 hn60 c2 ⊢
  generalize hLL : flL xs k = L at *
  clear h h1 h2 hg hs hs1 hl hk hw hnn hLL hmm
  go_enter Try.func21, Try.ntmps21
  go_wp2_with fail
  refine HA.out.mono ?_
  rintro e w2 ⟨rfl, hb⟩
  have F1 := F0.next hb
  have hsz2 : w.heap.size + 1 ≤ w2.heap.size := (F1.blk _ List.mem_cons_self).lt
  have F2 := F1
  obtain ⟨b0, b1, b2, -⟩ := (F2.blk _ List.mem_cons_self).three
  dsimp only at b0 b1 b2
  clear hb F0 c0 c1 c2
  go_wp2
  clear b0 b1 b2
  go_loopw [7, 8, 9, 19] (fun u _ _ iv wr => ∃ j : Nat, iv = .int .i64 (j : Int) ∧ j ≤ m ∧ wr.ownsRow (w.heap.size + 1) 2 1 u (L j).length ((L j).map (Value.int .i64)) ∧ FR w [(w.heap.size, #[.int .i8 l, .int .i8 kk, .slice a m c], 30)] wr) (fun _ _ _ iv _ => m - (intOf iv).toNat)
  case atStart => exact ⟨0, rfl, Nat.zero_le _, by rw [hM0]; exact World.ownsRow_nil _ _ _ _, F2⟩
  case round =>
    obtain ⟨j, rfl, hj, hown, hF⟩ := hrel
    by_cases hlt : j < m
    case neg =>
      obtain rfl : j = m := by omega
      have HO := Lib.hid ((OwnV.ofOwns (by simp) hown).mono (Nat.le_succ w.heap.size))
      have HB := Lib.hid hF.below
      have hlt2 : ¬ j < j := by omega
      clear hown hF hlt
      go_wp2
      go_ret2
      exact ⟨_, rfl, HO.out, HB.out⟩
    have hkz : (j : Int) < (m : Int) := by omega
    have hll := HLN.out j
    have HSTk := Lib.hid (HST.out j)
    have HQj := Lib.hid (HQ.out j)
    rcases HS.out with h0 | ⟨b, off, rfl, hbb, hc⟩
    · have := HMM.out; subst h0; simp at this; omega
    obtain ⟨p0, p1⟩ := (hc.below hF.below hbb) j (by rw [HMM.out]; exact hlt)
    generalize akI xs j = q at *
    have hO1 := row_next hown ((Below.refl wr.heap.size wr).alloc (Nat.le_refl _) (.cells #[.int .u64 q.1, .bool q.2] 54))
    have F3 := hF.next ((Below.refl wr.heap.size wr).alloc (Nat.le_refl _) (.cells #[.int .u64 q.1, .bool q.2] 54))
    obtain ⟨d0, d1, -⟩ := (blk_new wr #[.int .u64 q.1, .bool q.2] 54).two
    clear hown hF
    clear hc HS
    cases hq : wrongB k q
    · rw [hq] at HQj HSTk
      have HL1 := Lib.hid (show L (j + 1) = L j by rw [HSTk.out]; rfl)
      clear hq HSTk
      go_wp2_with fail
      refine (HQj.out _).mono ?_
      rintro e w4 ⟨rfl, hb4⟩
      have HO4 := Lib.hid (row_next hO1 hb4)
      have HF4 := Lib.hid (F3.next hb4)
      clear hb4 hO1 F3 d0 d1 p0 p1
      go_wp2
      go_roundw
      case rel => exact ⟨j + 1, by go_num, by omega, by rw [HL1.out]; exact HO4.out, HF4.out⟩
      case measure => simp [intOf]; omega
    · rw [hq] at HQj HSTk
      have HL1 := Lib.hid (show L (j + 1) = L j ++ [(j : Int)] by rw [HSTk.out]; rfl)
      clear hq HSTk
      go_wp2_with fail
      refine (HQj.out _).mono ?_
      rintro e w4 ⟨rfl, hb4⟩
      have hO4 := row_next hO1 hb4
      have F4 := F3.next hb4
      have hs4 : w.heap.size + 1 ≤ w4.heap.size := (F4.blk _ List.mem_cons_self).lt
      clear hb4 hO1 F3 d0 d1 p0 p1
      obtain ⟨wq, rfl⟩ : ∃ wq : World, wq = w4 := ⟨_, rfl⟩
      go_wp2_with (first
        | (at_builtin; refine wpList_append_own _ rfl _ _ 40 rfl (w.heap.size + 1) 2 i0 (.int .i64 0) 1 8 Try.underlying40 hi0 hz0 hz1 hz2 rfl (by decide) _ _ _ rfl (hO4.alloc _) ⟨wq.heap.size, 0, none⟩ 1 1 [.int .i64 (j : Int)] rfl rfl ?c1 ?c2 ?c3 ?c4 ?c5 ?_)
        | go_in)
      case c1 =>
        intro j u hj
        match j, hj with
        | 0, hj => simp at hj; subst hj; simp [Addr.add]
      case c2 => intro u hu; simp at hu; subst hu; rfl
      case c3 => unfold maxLen; omega
      case c4 => omega
      case c5 => simp; omega
      intro u' w5 hown' hgrow _
      have hB5 : Below (w.heap.size + 1) wq w5 := (((Below.refl _ wq).mono (Nat.le_refl _)).alloc hs4 _).grown hgrow (by simp; omega) (fun j hj => (hO4.lt j hj).1)
      have HF5 := Lib.hid (show FR w [(w.heap.size, #[.int .i8 l, .int .i8 kk, .slice (some ⟨b, off, none⟩) m c], 30)] w5 from ⟨F4.below.trans (hB5.mono (by omega)), fun p hp => by simp only [List.mem_cons, List.not_mem_nil, or_false] at hp; subst hp; exact (F4.blk _ List.mem_cons_self).below hB5 (Nat.lt_succ_self _), F4.top⟩)
      have HO5 := Lib.hid hown'
      clear hown' hgrow hO4 F4 hB5
      go_wp2
      go_roundw
      case rel => exact ⟨j + 1, by go_num, by omega, by rw [HL1.out]; simpa using HO5.out, HF5.out⟩
      case measure => simp [intOf]; omega
end Go.Proofs.Ytkaneljgfioblaa
