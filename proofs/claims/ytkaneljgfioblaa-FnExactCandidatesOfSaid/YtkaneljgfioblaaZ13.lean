/-
  The walks of LiesFor and its model: the program's count, the codes.
-/
import Derived.Test.YtkaneljgfioblaaZ12
namespace Go.Proofs.Ytkaneljgfioblaa
open Go.RowKit
set_option maxRecDepth 100000
set_option linter.unusedVariables false

set_option maxHeartbeats 2000000 in
theorem liesForM_any (l kk : Int) (a : Option Addr) (c : Nat) (xs : List Ak) (k : Nat) (w : World) (hs : Sla w.heap.size w a xs) (hn : xs.length ≤ 60) (hw : Aall xs) (hk : k ≤ 63) :
    Calls Try.prog 40 #[gamV l kk a xs.length c, .int .i64 k] w fun e w' => e = .returned (.int .i64 (lieN xs k xs.length)) ∧ Below w.heap.size w w' := by
  have F0 := (FR.start w).box #[.int .i8 l, .int .i8 kk, .slice a xs.length c] 30
  have HB0 := Lib.hid F0.below
  obtain ⟨c0, c1, c2, -⟩ := (F0.blk _ List.mem_cons_self).three
  have HS := Lib.hid hs
  have HQ := Lib.hid (fun j W => isWrong_any (akI xs j) k W (hw j) hk)
  obtain ⟨n, hnn⟩ : ∃ n, xs.length = n := ⟨_, rfl⟩
  have HNN := Lib.hid hnn
  simp only [hnn] at hn c0 c1 c2 HB0
  rw [hnn]
  clear hs hw hnn F0
  go_enter Try.func40, Try.ntmps40
  go_wp2
  clear c0 c1 c2
  go_loopw [5, 7, 11] (fun s _ i wr => ∃ j : Nat, i = .int .i64 j ∧ j ≤ n ∧ s = .int .i64 (lieN xs k j) ∧ Below w.heap.size w wr) (fun _ _ i _ => n - (intOf i).toNat)
  case atStart => exact ⟨0, rfl, Nat.zero_le _, rfl, HB0.out⟩
  case round =>
    obtain ⟨j, rfl, hj, rfl, hb⟩ := hrel
    have HB := Lib.hid hb
    by_cases hlt : j < n
    case neg =>
      obtain rfl : j = n := by omega
      clear hb
      go_wp2
      go_ret
      exact ⟨rfl, HB.out⟩
    have hkl : (j : Int) < (n : Int) := by omega
    rcases HS.out with h0 | ⟨b, off, rfl, hbb, hc⟩
    · have := HNN.out; subst h0; simp at this; omega
    obtain ⟨p0, p1⟩ := (hc.below hb hbb) j (by rw [HNN.out]; exact hlt)
    have HQj := Lib.hid (HQ.out j)
    have ht := Lib.hid (lieN_t (qs := xs) (k := k) (i := j) (by rw [HNN.out]; exact hlt))
    have hf := Lib.hid (lieN_f (qs := xs) (k := k) (i := j) (by rw [HNN.out]; exact hlt))
    have hle := lieN_le xs k j
    generalize akI xs j = q at *
    generalize hg : lieN xs k j = s at *
    have F1 := (FR.start wr).box #[.int .u64 q.1, .bool q.2] 54
    have HF1 := Lib.hid F1.below
    obtain ⟨d0, d1, -⟩ := (F1.blk _ List.mem_cons_self).two
    clear hb hc HS hg F1
    cases hq : wrongB k q
    · rw [hq] at HQj
      have HE := Lib.hid (hf.out hq)
      clear ht hf hq
      go_wp2_with fail
      refine (HQj.out _).mono ?_
      rintro e w2 ⟨rfl, hb2⟩
      have HB2 := Lib.hid (HB.out.trans ((HF1.out.trans (hb2.mono HF1.out.size)).mono HB.out.size))
      clear hb2 d0 d1 p0 p1
      go_wp2
      go_roundw
      case rel => exact ⟨j + 1, by go_num, by omega, by rw [HE.out], HB2.out⟩
      case measure => simp [intOf]; omega
    · rw [hq] at HQj
      have HE := Lib.hid (ht.out hq)
      clear ht hf hq
      go_wp2_with fail
      refine (HQj.out _).mono ?_
      rintro e w2 ⟨rfl, hb2⟩
      have HB2 := Lib.hid (HB.out.trans ((HF1.out.trans (hb2.mono HF1.out.size)).mono HB.out.size))
      clear hb2 d0 d1 p0 p1
      go_wp2
      go_roundw
      case rel => exact ⟨j + 1, by go_num, by omega, by rw [HE.out]; go_num, HB2.out⟩
      case measure => simp [intOf]; omega
/-- The code of a game and a number. -/
def asC (l kk : Int) (qs : List Ak) (n : Int) : Int := if okG l kk qs = true then (if 0 ≤ n ∧ n ≤ l - 1 then 0 else 2) else 1
def lfV (l kk : Int) (qs : List Ak) (n : Int) : Int := if asC l kk qs n = 0 then (lieN qs n.toNat qs.length : Int) else 0
theorem asC_bad {l kk : Int} {qs : List Ak} {n : Int} (h : okG l kk qs = false) : asC l kk qs n = 1 := by unfold asC; rw [h]; rfl
theorem asC_far {l kk : Int} {qs : List Ak} {n : Int} (h : okG l kk qs = true) (h2 : ¬ (0 ≤ n ∧ n ≤ l - 1)) : asC l kk qs n = 2 := by unfold asC; rw [h, if_pos rfl, if_neg h2]
theorem asC_ok {l kk : Int} {qs : List Ak} {n : Int} (h : okG l kk qs = true) (h2 : 0 ≤ n ∧ n ≤ l - 1) : asC l kk qs n = 0 := by unfold asC; rw [h, if_pos rfl, if_pos h2]
theorem asC_zero {l kk : Int} {qs : List Ak} {n : Int} (h : asC l kk qs n = 0) : okG l kk qs = true ∧ 0 ≤ n ∧ n ≤ l - 1 := by
  unfold asC at h
  by_cases h1 : okG l kk qs = true
  · rw [if_pos h1] at h
    by_cases h2 : 0 ≤ n ∧ n ≤ l - 1
    · exact ⟨h1, h2⟩
    · rw [if_neg h2] at h; omega
  · rw [if_neg h1] at h; omega
theorem asC_vals (l kk : Int) (qs : List Ak) (n : Int) : 0 ≤ asC l kk qs n ∧ asC l kk qs n ≤ 2 := by
  unfold asC
  split
  · split <;> omega
  · omega
theorem hasNumber_any (l kk : Int) (a : Option Addr) (m c : Nat) (n : Int) (w : World) (hl : B8 l) (hnn : I64 n) :
    Calls Try.prog 53 #[gamV l kk a m c, .int .i64 n] w fun e w' => e = .returned (.bool (inB n 0 (l - 1))) ∧ Below w.heap.size w w' := by
  have HB := Lib.hid ((FR.start w).box #[.int .i8 l, .int .i8 kk, .slice a m c] 30).below
  have HI := Lib.hid (fun W => within_any n 0 (l - 1) W)
  unfold B8 at hl
  unfold I64 at hnn
  generalize inB n 0 (l - 1) = r at *
  go_enter Try.func53, Try.ntmps53
  go_wp2_with fail
  refine (HI.out _).mono ?_
  rintro e w2 ⟨rfl, rfl⟩
  go_wp2
  go_ret
  exact ⟨rfl, HB.out⟩
set_option maxHeartbeats 2000000 in
theorem codeOfNumber_any (l kk : Int) (a : Option Addr) (c : Nat) (xs : List Ak) (n : Int) (w : World) (hs : Sla w.heap.size w a xs) (hl : B8 l) (hk : B8 kk) (hn : xs.length ≤ 1048576) (hw : Aall xs) (hnn : I64 n) :
    Calls Try.prog 39 #[gamV l kk a xs.length c, .int .i64 n] w fun e w' => e = .returned (.int .i64 (asC l kk xs n)) ∧ Below w.heap.size w w' := by
  have F0 := (FR.start w).box #[.int .i8 l, .int .i8 kk, .slice a xs.length c] 30
  have HV := Lib.hid (validGame_any l kk a c xs _ (hs.up F0.below (Nat.le_refl _)) hl hk hn hw)
  have HN := Lib.hid (fun W => hasNumber_any l kk a xs.length c n W hl hnn)
  obtain ⟨c0, c1, c2, -⟩ := (F0.blk _ List.mem_cons_self).three
  clear hs hw
  cases h : okG l kk xs
  · have HR := Lib.hid (asC_bad (n := n) h)
    rw [h] at HV
    clear h
    generalize xs.length = m at *
    go_enter Try.func39, Try.ntmps39
    go_wp2_with fail
    refine HV.out.mono ?_
    rintro e w2 ⟨rfl, hb⟩
    have HF := Lib.hid (F0.next hb).below
    clear hb F0 c0 c1 c2
    go_wp2
    go_ret
    exact ⟨reti HR.out.symm, HF.out⟩
  by_cases h2 : 0 ≤ n ∧ n ≤ l - 1
  · have HR := Lib.hid (asC_ok h h2)
    rw [h] at HV
    rw [show inB n 0 (l - 1) = true from cb_t h2] at HN
    clear h h2
    generalize xs.length = m at *
    go_enter Try.func39, Try.ntmps39
    go_wp2_with fail
    refine HV.out.mono ?_
    rintro e w2 ⟨rfl, hb⟩
    have F1 := F0.next hb
    clear hb F0 c0 c1 c2
    obtain ⟨c0, c1, c2, -⟩ := (F1.blk _ List.mem_cons_self).three
    go_wp2_with fail
    refine (HN.out _).mono ?_
    rintro e w3 ⟨rfl, hb⟩
    have HF := Lib.hid (F1.next hb).below
    clear hb F1 c0 c1 c2
    go_wp2
    go_ret
    exact ⟨reti HR.out.symm, HF.out⟩
  · have HR := Lib.hid (asC_far h h2)
    rw [h] at HV
    rw [show inB n 0 (l - 1) = false from cb_f h2] at HN
    clear h h2
    generalize xs.length = m at *
    go_enter Try.func39, Try.ntmps39
    go_wp2_with fail
    refine HV.out.mono ?_
    rintro e w2 ⟨rfl, hb⟩
    have F1 := F0.next hb
    clear hb F0 c0 c1 c2
    obtain ⟨c0, c1, c2, -⟩ := (F1.blk _ List.mem_cons_self).three
    go_wp2_with fail
    refine (HN.out _).mono ?_
    rintro e w3 ⟨rfl, hb⟩
    have HF := Lib.hid (F1.next hb).below
    clear hb F1 c0 c1 c2
    go_wp2
    go_ret
    exact ⟨reti HR.out.symm, HF.out⟩
set_option maxHeartbeats 2000000 in
theorem l06Asked_any (fb : Nat) (l kk : Int) (a : Option Addr) (c : Nat) (xs : List Ak) (n : Int) (w : World) (K : Blk w fb #[.int .i8 l, .int .i8 kk, .slice a xs.length c] 30) (hs : Sla w.heap.size w a xs) (hl : B8 l) (hk : B8 kk) (hn : xs.length ≤ 1048576) (hw : Aall xs) (hnn : I64 n) :
    Calls Try.prog 37 #[.pointer (some ⟨fb, 0, none⟩), .int .i64 n] w fun e w' => e = .returned (.int .i64 (asC l kk xs n)) ∧ Dr w w' := by
  have HV := Lib.hid (l06Ok_any fb l kk a c xs w K hs hl hk hn hw)
  have HI := Lib.hid (fun W => l00In_any n 0 (l - 1) W)
  have KH := Lib.hid K
  unfold B8 at hl hk
  unfold I64 at hnn
  clear hs hw K
  cases h : okG l kk xs
  · have HR := Lib.hid (asC_bad (n := n) h)
    rw [h] at HV
    clear h
    go_enter Try.func37, Try.ntmps37
    go_wp2_with fail
    refine HV.out.mono ?_
    rintro e w2 ⟨rfl, hd⟩
    have HD := Lib.hid hd
    clear hd
    go_wp2
    go_ret
    exact ⟨reti HR.out.symm, HD.out⟩
  by_cases h2 : 0 ≤ n ∧ n ≤ l - 1
  · have HR := Lib.hid (asC_ok h h2)
    rw [h] at HV
    rw [show inB n 0 (l - 1) = true from cb_t h2] at HI
    clear h h2
    go_enter Try.func37, Try.ntmps37
    go_wp2_with fail
    refine HV.out.mono ?_
    rintro e w2 ⟨rfl, hd⟩
    have HD := Lib.hid hd
    obtain ⟨c0, c1, c2, -⟩ := (hd.blk KH.out).three
    clear hd
    go_wp2_with fail
    refine (HI.out _).mono ?_
    rintro e w3 ⟨rfl, rfl⟩
    go_wp2
    go_ret
    exact ⟨reti HR.out.symm, HD.out⟩
  · have HR := Lib.hid (asC_far h h2)
    rw [h] at HV
    rw [show inB n 0 (l - 1) = false from cb_f h2] at HI
    clear h h2
    go_enter Try.func37, Try.ntmps37
    go_wp2_with fail
    refine HV.out.mono ?_
    rintro e w2 ⟨rfl, hd⟩
    have HD := Lib.hid hd
    obtain ⟨c0, c1, c2, -⟩ := (hd.blk KH.out).three
    clear hd
    go_wp2_with fail
    refine (HI.out _).mono ?_
    rintro e w3 ⟨rfl, rfl⟩
    go_wp2
    go_ret
    exact ⟨reti HR.out.symm, HD.out⟩
theorem specLiesFor_any (l kk : Int) (a : Option Addr) (c : Nat) (xs : List Ak) (n : Int) (w : World) (hs : Sla w.heap.size w a xs) (hl : B8 l) (hk : B8 kk) (hn : xs.length ≤ 1048576) (hw : Aall xs) (hnn : I64 n) :
    Calls Try.prog 16 #[gamV l kk a xs.length c, .int .i64 n] w fun e w' => e = .returned (.tuple #[.int .i64 (lfV l kk xs n), .int .i64 (asC l kk xs n)]) ∧ Below w.heap.size w w' := by
  have F0 := (FR.start w).box #[.int .i8 l, .int .i8 kk, .slice a xs.length c] 30
  have K := F0.blk _ List.mem_cons_self
  have hs1 := hs.up F0.below (Nat.le_refl _)
  have HA := Lib.hid (l06Asked_any w.heap.size l kk a c xs n _ K hs1 hl hk hn hw hnn)
  have HB := Lib.hid F0.below
  by_cases h : asC l kk xs n = 0
  · obtain ⟨h1, h2⟩ := asC_zero h
    have hg := okG_t h1
    obtain ⟨k, rfl⟩ := Int.eq_ofNat_of_zero_le h2.1
    have HL := Lib.hid (fun W (hW : Blk W w.heap.size #[.int .i8 l, .int .i8 kk, .slice a xs.length c] 30) (hW2 : Sla W.heap.size W a xs) => l06Lies_any w.heap.size l kk a c xs k W hW hW2 hg.2.2.1 hw (by omega))
    have HV := Lib.hid (show lfV l kk xs k = (lieN xs k xs.length : Int) from by unfold lfV; rw [if_pos h]; rfl)
    have HS := Lib.hid hs1
    have HK := Lib.hid K
    rw [h] at HA ⊢
    rw [HV.out]
    clear h h1 h2 hg hs hs1 K F0 hl hk hw hnn
    go_enter Try.func16, Try.ntmps16
    go_wp2_with fail
    refine HA.out.mono ?_
    rintro e w2 ⟨rfl, hd⟩
    have HLL := Lib.hid (HL.out w2 (hd.blk HK.out) (HS.out.up hd.below (Nat.le_refl _)))
    have HB2 := Lib.hid (HB.out.trans (hd.below.mono HB.out.size))
    clear hd
    go_wp2_with fail
    refine HLL.out.mono ?_
    rintro e w3 ⟨rfl, hb⟩
    have HB3 := Lib.hid (HB2.out.trans (hb.mono HB2.out.size))
    clear hb
    go_wp2
    go_ret2
    exact ⟨rfl, HB3.out⟩
  · have HV := Lib.hid (show lfV l kk xs n = 0 from by unfold lfV; rw [if_neg h])
    rw [HV.out]
    have hq : (asC l kk xs n != 0) = true := by simpa using h
    generalize asC l kk xs n = q at *
    clear h hs hs1 K F0 hl hk hw
    go_enter Try.func16, Try.ntmps16
    go_wp2_with fail
    refine HA.out.mono ?_
    rintro e w2 ⟨rfl, hd⟩
    have HB2 := Lib.hid (HB.out.trans (hd.below.mono HB.out.size))
    clear hd
    go_wp2
    go_ret2
    exact ⟨rfl, HB2.out⟩
theorem liesFor_any (l kk : Int) (a : Option Addr) (c : Nat) (xs : List Ak) (n : Int) (w : World) (hs : Sla w.heap.size w a xs) (hl : B8 l) (hk : B8 kk) (hn : xs.length ≤ 1048576) (hw : Aall xs) (hnn : I64 n) :
    Calls Try.prog 17 #[gamV l kk a xs.length c, .int .i64 n] w fun e w' => e = .returned (.tuple #[.int .i64 (lfV l kk xs n), .int .i64 (asC l kk xs n)]) ∧ Below w.heap.size w w' := by
  have F0 := (FR.start w).box #[.int .i8 l, .int .i8 kk, .slice a xs.length c] 30
  have hs1 := hs.up F0.below (Nat.le_refl _)
  have HA := Lib.hid (codeOfNumber_any l kk a c xs n _ hs1 hl hk hn hw hnn)
  obtain ⟨c0, c1, c2, -⟩ := (F0.blk _ List.mem_cons_self).three
  by_cases h : asC l kk xs n = 0
  · obtain ⟨h1, h2⟩ := asC_zero h
    have hg := okG_t h1
    obtain ⟨k, rfl⟩ := Int.eq_ofNat_of_zero_le h2.1
    have HL := Lib.hid (fun W (hW2 : Sla W.heap.size W a xs) => liesForM_any l kk a c xs k W hW2 hg.2.2.1 hw (by omega))
    have HV := Lib.hid (show lfV l kk xs k = (lieN xs k xs.length : Int) from by unfold lfV; rw [if_pos h]; rfl)
    have HS := Lib.hid hs1
    rw [h] at HA ⊢
    rw [HV.out]
    clear h h1 h2 hg hs hs1 hl hk hw hnn
    go_enter Try.func17, Try.ntmps17
    go_wp2_with fail
    refine HA.out.mono ?_
    rintro e w2 ⟨rfl, hb⟩
    have F1 := F0.next hb
    have HLL := Lib.hid (HL.out w2 (HS.out.up hb (Nat.le_refl _)))
    clear hb F0 c0 c1 c2
    obtain ⟨c0, c1, c2, -⟩ := (F1.blk _ List.mem_cons_self).three
    go_wp2_with fail
    refine HLL.out.mono ?_
    rintro e w3 ⟨rfl, hb⟩
    have HF := Lib.hid (F1.next hb).below
    clear hb F1 c0 c1 c2
    go_wp2
    go_ret2
    exact ⟨rfl, HF.out⟩
  · have HV := Lib.hid (show lfV l kk xs n = 0 from by unfold lfV; rw [if_neg h])
    rw [HV.out]
    have hq : (asC l kk xs n != 0) = true := by simpa using h
    generalize asC l kk xs n = q at *
    clear h hs hs1 hl hk hw
    generalize xs.length = m at *
    go_enter Try.func17, Try.ntmps17
    go_wp2_with fail
    refine HA.out.mono ?_
    rintro e w2 ⟨rfl, hb⟩
    have HF := Lib.hid (F0.next hb).below
    clear hb F0 c0 c1 c2
    go_wp2
    go_ret2
    exact ⟨rfl, HF.out⟩
end Go.Proofs.Ytkaneljgfioblaa
