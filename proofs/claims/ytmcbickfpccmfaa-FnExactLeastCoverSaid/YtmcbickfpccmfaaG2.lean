/-
  The walks of LeastCover and its model.
-/
import Derived.Test.YtmcbickfpccmfaaY7
import Derived.Test.YtmcbickfpccmfaaG1
import Derived.Deep.DeepCutAuto
namespace Go.Proofs.Ytmcbickfpccmfaa
open Go.RowKit
set_option maxRecDepth 100000
set_option linter.unusedVariables false

/-- The least cover among the first n sets, and the set of all. -/
def lstC (xs : List Int) (al : Nat) : Nat → Nat
  | 0 => al
  | n + 1 => if covX xs (n : Int) = true ∧ (sz n : Int) < (sz (lstC xs al n) : Int) then n else lstC xs al n
theorem lstC_le (xs : List Int) (al n : Nat) : lstC xs al n ≤ al + n := by
  induction n with
  | zero => exact Nat.le_refl _
  | succ n ih => unfold lstC; split <;> omega
theorem lstC_t {xs : List Int} {al n : Nat} (h : covX xs (n : Int) = true) (h2 : (sz n : Int) < (sz (lstC xs al n) : Int)) : lstC xs al (n + 1) = n := by rw [lstC, if_pos ⟨h, h2⟩]
theorem lstC_f {xs : List Int} {al n : Nat} (h : covX xs (n : Int) = false) : lstC xs al (n + 1) = lstC xs al n := by rw [lstC, if_neg (by rw [h]; intro h; exact absurd h.1 (by decide))]
theorem lstC_g {xs : List Int} {al n : Nat} (h2 : ¬ (sz n : Int) < (sz (lstC xs al n) : Int)) : lstC xs al (n + 1) = lstC xs al n := by rw [lstC, if_neg (fun h => h2 h.2)]
def lcV (l k : Int) (xs : List Int) : Int := if okY l k xs = true then (lstC xs (allI l).toNat ((allI l).toNat + 1) : Int) else 0
def lcC (l k : Int) (xs : List Int) : Int := if okY l k xs = true then 0 else 1
theorem retui {a b c d : Int} (h : a = b) (h2 : c = d) : Ending.returned (.tuple #[.int .u16 a, .int .i64 c]) = .returned (.tuple #[.int .u16 b, .int .i64 d]) := by rw [h, h2]
set_option maxHeartbeats 4000000 in
theorem specLeastCover_any (l k : Int) (a : Option Addr) (c : Nat) (xs : List Int) (w : World) (hs : Sl .u16 w.heap.size w a xs) (hl : B8 l) (hk : B8 k) (hn : xs.length ≤ 1048576) (hw : U16 xs) :
    Calls Try.prog 5 #[ferV l k a xs.length c] w fun e w' => e = .returned (.tuple #[.int .u16 (lcV l k xs), .int .i64 (lcC l k xs)]) ∧ Below w.heap.size w w' := by
  have F0 := (FR.start w).box #[.int .i8 l, .int .i8 k, .slice a xs.length c] 30
  have K0 := F0.blk _ List.mem_cons_self
  have hsW := fun (W : World) (hb : Below w.heap.size w W) => hs.up hb (Nat.le_refl _)
  have HV := Lib.hid (l05Ok_any w.heap.size l k a c xs _ K0 (hsW _ F0.below) hl hk hn hw)
  have HB := Lib.hid F0.below
  clear hl hk hw
  cases hok : okY l k xs
  · have HR := Lib.hid (show lcV l k xs = 0 ∧ lcC l k xs = 1 by unfold lcV lcC; rw [hok]; exact ⟨rfl, rfl⟩)
    rw [hok] at HV
    clear hok hs hsW F0 K0
    generalize xs.length = n at *
    go_enter Try.func5, Try.ntmps5
    go_wp2_with fail
    refine HV.out.mono ?_
    rintro e w2 ⟨rfl, hb⟩
    have HB2 := Lib.hid (HB.out.trans (hb.below.mono HB.out.size))
    clear hb HV
    go_wp2
    go_ret2
    exact ⟨retui HR.out.1.symm HR.out.2.symm, HB2.out⟩
  · have h8 := (okY_t hok).1
    have HR := Lib.hid (show lcV l k xs = (lstC xs (allI l).toNat ((allI l).toNat + 1) : Int) ∧ lcC l k xs = 0 by unfold lcV lcC; rw [hok]; exact ⟨rfl, rfl⟩)
    have HS := Lib.hid (fun (W : World) (x : Int) (h : Blk W w.heap.size #[.int .i8 l, .int .i8 k, .slice a xs.length c] 30) (hb : Below w.heap.size w W) => l05Cover_any w.heap.size l k a c xs x W h (hsW W hb) hn hok)
    rw [hok] at HV
    have hal := allI_le h8
    have HA := Lib.hid (fun W (h : Blk W w.heap.size #[.int .i8 l, .int .i8 k, .slice a xs.length c] 30) => l05All_any w.heap.size l _ _ W h h8)
    have HK := Lib.hid K0
    clear hok hs hsW K0 h8
    obtain ⟨al, hal2⟩ : ∃ al : Nat, allI l = al := ⟨(allI l).toNat, by omega⟩
    rw [hal2] at HR HA hal
    clear hal2
    have HLE := Lib.hid (fun n => lstC_le xs al n)
    go_enter Try.func5, Try.ntmps5
    go_wp2_with fail
    refine HV.out.mono ?_
    rintro e w2 ⟨rfl, hb⟩
    have HB2 := Lib.hid (HB.out.trans (hb.below.mono HB.out.size))
    have HK2 := Lib.hid (hb.blk HK.out)
    clear hb HV HK HB F0
    go_wp2_with fail
    refine (HA.out _ HK2.out).mono ?_
    rintro e w3 ⟨rfl, rfl⟩
    go_wp2
    go_loopw [4, 5] (fun m t wr => ∃ j : Nat, j ≤ al + 1 ∧ m = .int .u16 (lstC xs al j) ∧ t = .int .u16 j ∧ Dr w2 wr) (fun _ t _ => al + 1 - (intOf t).toNat)
    case atStart => exact ⟨0, Nat.zero_le _, rfl, rfl, Dr.refl _⟩
    case round =>
      obtain ⟨j, hj, rfl, rfl, hD⟩ := hrel
      have HD := Lib.hid hD
      have KR := Lib.hid (hD.blk HK2.out)
      have HBR := Lib.hid (HB2.out.trans (hD.below.mono HB2.out.size))
      have HAw := Lib.hid (HA.out _ KR.out)
      clear hD
      by_cases hlt : j ≤ al
      · have hjl : (j : Int) ≤ (al : Int) := by omega
        have hle := HLE.out j
        have HT := Lib.hid (fun h => lstC_t (xs := xs) (al := al) (n := j) h)
        have HF := Lib.hid (fun h => lstC_f (xs := xs) (al := al) (n := j) h)
        have HG := Lib.hid (lstC_g (xs := xs) (al := al) (n := j))
        generalize lstC xs al j = m at *
        have HZ1 := Lib.hid (fun W => l05Size_any (j : Int) W (by omega))
        have HZ2 := Lib.hid (fun W => l05Size_any (m : Int) W (by omega))
        simp only [Int.toNat_natCast] at HZ1 HZ2
        have hz1 := sz_le j
        have hz2 := sz_le m
        generalize sz j = zj at *
        generalize sz m = zm at *
        have HC := Lib.hid (fun (W : World) (h : Dr wr W) => HS.out W (j : Int) (h.blk KR.out) (HBR.out.trans (h.below.mono HBR.out.size)))
        cases hq : covX xs (j : Int)
        · rw [hq] at HC
          have HN := Lib.hid (HF.out hq)
          clear HT HF HG hq
          go_wp2_with fail
          refine HAw.out.mono ?_
          rintro e w3 ⟨rfl, rfl⟩
          go_wp2_with fail
          refine (HC.out _ (Dr.refl _)).mono ?_
          rintro e w3 ⟨rfl, rfl⟩
          go_wp2
          go_roundw
          case rel => exact ⟨j + 1, by omega, by rw [HN.out], by go_num, HD.out⟩
          case measure => simp [intOf]; omega
        · rw [hq] at HC
          by_cases hzz : (zj : Int) < (zm : Int)
          · have HN := Lib.hid (HT.out hq hzz)
            clear HT HF HG hq
            go_wp2_with fail
            refine HAw.out.mono ?_
            rintro e w3 ⟨rfl, rfl⟩
            go_wp2_with fail
            refine (HC.out _ (Dr.refl _)).mono ?_
            rintro e w3 ⟨rfl, rfl⟩
            go_wp2_with fail
            refine (HZ1.out _).mono ?_
            rintro e w3 ⟨rfl, rfl⟩
            go_wp2_with fail
            refine (HZ2.out _).mono ?_
            rintro e w3 ⟨rfl, rfl⟩
            go_wp2
            go_roundw
            case rel => exact ⟨j + 1, by omega, by rw [HN.out], by go_num, HD.out⟩
            case measure => simp [intOf]; omega
          · have HN := Lib.hid (HG.out (by omega))
            clear HT HF HG hq
            go_wp2_with fail
            refine HAw.out.mono ?_
            rintro e w3 ⟨rfl, rfl⟩
            go_wp2_with fail
            refine (HC.out _ (Dr.refl _)).mono ?_
            rintro e w3 ⟨rfl, rfl⟩
            go_wp2_with fail
            refine (HZ1.out _).mono ?_
            rintro e w3 ⟨rfl, rfl⟩
            go_wp2_with fail
            refine (HZ2.out _).mono ?_
            rintro e w3 ⟨rfl, rfl⟩
            go_wp2
            go_roundw
            case rel => exact ⟨j + 1, by omega, by rw [HN.out], by go_num, HD.out⟩
            case measure => simp [intOf]; omega
      · have hjl : ¬ (j : Int) ≤ (al : Int) := by omega
        have HE := Lib.hid (show (lstC xs al j : Int) = lcV l k xs by rw [HR.out.1, Int.toNat_natCast, show j = al + 1 by omega])
        generalize lstC xs al j = m at *
        go_wp2_with fail
        refine HAw.out.mono ?_
        rintro e w3 ⟨rfl, rfl⟩
        go_wp2
        go_ret2
        exact ⟨retui HE.out HR.out.2.symm, HBR.out⟩
set_option maxHeartbeats 4000000 in
theorem leastCover_in (l k : Int) (a : Option Addr) (c : Nat) (xs : List Int) (w : World) (hs : Sl .u16 w.heap.size w a xs) (hn : xs.length ≤ 1048576) (hw : U16 xs) (h8 : 1 ≤ l ∧ l ≤ 8) :
    Calls Try.prog 16 #[ferV l k a xs.length c] w fun e w' => e = .returned (.int .u16 (lstC xs (allI l).toNat ((allI l).toNat + 1) : Int)) ∧ Below w.heap.size w w' := by
  have F0 := (FR.start w).box #[.int .i8 l, .int .i8 k, .slice a xs.length c] 30
  obtain ⟨c0, c1, c2, -⟩ := (F0.blk _ List.mem_cons_self).three
  have hsW := fun (W : World) (hb : Below w.heap.size w W) => hs.up hb (Nat.le_refl _)
  have HS := Lib.hid (fun (W : World) (x : Int) (hb : Below w.heap.size w W) => isCover_any l k a c xs x W (hsW W hb) hn hw)
  have hal := allI_le h8
  have HA := Lib.hid (fun W => everything_any l k a xs.length c W h8)
  clear hs hsW h8 hw
  obtain ⟨al, hal2⟩ : ∃ al : Nat, allI l = al := ⟨(allI l).toNat, by omega⟩
  rw [hal2] at HA hal ⊢
  clear hal2
  have HLE := Lib.hid (fun n => lstC_le xs al n)
  generalize xs.length = n at *
  go_enter Try.func16, Try.ntmps16
  go_wp2
  refine wp_scope_round (l := 0) rfl (fun q A W => ∃ j : Nat, j ≤ al ∧ q = al - j ∧ FR w [(w.heap.size, #[.int .i8 l, .int .i8 k, .slice a n c], 30)] W ∧ ∃ u5 u6 u7 u8 u9 u10 u11 u12 u13 u14 u15 u16 u17 u18 u19 u20 u21 u22 u23 u24 : Value, A = { tmps := #[ferV l k a n c, .pointer (some ⟨w.heap.size, 0, none⟩), .int .u16 0, .int .u16 (lstC xs al j), .int .u16 j, u5, u6, u7, u8, u9, u10, u11, u12, u13, u14, u15, u16, u17, u18, u19, u20, u21, u22, u23, u24], defers := [] }) ?_ ?_
  case refine_2 =>
    intro HI
    go_wp2_with fail
    refine (HA.out _).mono ?_
    rintro e w2 ⟨rfl, hb⟩
    have F1 := F0.next hb
    clear hb F0 c0 c1 c2
    go_wp2
    go_step3
    rename_i hK
    exact hK _ _ (HI _ _ _ ⟨0, Nat.zero_le _, rfl, F1, _, _, _, _, _, _, _, _, _, _, _, _, _, _, _, _, _, _, _, _, rfl⟩)
  case refine_1 =>
    rintro q A W ⟨j, hj, rfl, F1, u5, u6, u7, u8, u9, u10, u11, u12, u13, u14, u15, u16, u17, u18, u19, u20, u21, u22, u23, u24, rfl⟩
    clear F0 c0 c1 c2
    have hle := HLE.out j
    obtain ⟨c0, c1, c2, -⟩ := (F1.blk _ List.mem_cons_self).three
    have hjl : (j : Int) ≤ (al : Int) := by omega
    have HT := Lib.hid (fun h => lstC_t (xs := xs) (al := al) (n := j) h)
    have HF := Lib.hid (fun h => lstC_f (xs := xs) (al := al) (n := j) h)
    have HG := Lib.hid (lstC_g (xs := xs) (al := al) (n := j))
    have HCw := Lib.hid (HS.out _ (j : Int) F1.below)
    have HLA := Lib.hid (fun (h : j = al) => (show lstC xs al (al + 1) = lstC xs al (j + 1) by rw [h]))
    generalize lstC xs al j = m at *
    have HZ1 := Lib.hid (fun W => onesCount16_any (j : Int) W (by omega))
    have HZ2 := Lib.hid (fun W => onesCount16_any (m : Int) W (by omega))
    simp only [Int.toNat_natCast] at HZ1 HZ2 ⊢
    have hz1 := sz_le j
    have hz2 := sz_le m
    generalize sz j = zj at *
    generalize sz m = zm at *
    go_wp2_with fail
    refine HCw.out.mono ?_
    rintro e w2 ⟨rfl, hb⟩
    have F2 := F1.next hb
    clear hb F1 c0 c1 c2
    cases hq : covX xs (j : Int)
    · have HN := Lib.hid (HF.out hq)
      clear HT HF HG hq
      obtain ⟨c0, c1, c2, -⟩ := (F2.blk _ List.mem_cons_self).three
      go_wp2_with fail
      refine (HA.out _).mono ?_
      rintro e w9 ⟨rfl, hb⟩
      have F9 := F2.next hb
      clear hb F2 c0 c1 c2
      by_cases hja : j = al
      · have q0 : ((j : Int) == (al : Int)) = true := by rw [beq_iff_eq]; omega
        have hji : (j : Int) = (al : Int) := by omega
        have HE := Lib.hid (HLA.out hja)
        have HB := Lib.hid F9.below
        clear F9
        go_wp2
        try go_step3
        simp only [backTo]
        go_ret
        refine ⟨?_, HB.out⟩
        rw [Int.toNat_natCast, HE.out, HN.out]
        first | rfl | (rw [hja]; rfl)
      · have q0 : ((j : Int) == (al : Int)) = false := by
          rw [beq_eq_false_iff_ne]; omega
        have hji : ¬ (j : Int) = (al : Int) := by omega
        go_wp2
        try go_step3
        have e1 : ((j : Int) + 1) = ((j + 1 : Nat) : Int) := by omega
        refine ⟨rfl, al - (j + 1), by omega, j + 1, by omega, rfl, F9, ?_⟩
        rw [HN.out]
        exact ⟨_, _, _, _, _, _, _, _, _, _, _, _, _, _, _, _, _, _, _, _, rfl⟩
    · obtain ⟨c0, c1, c2, -⟩ := (F2.blk _ List.mem_cons_self).three
      by_cases hzz : (zj : Int) < (zm : Int)
      · have HN := Lib.hid (HT.out hq hzz)
        clear HT HF HG hq
        go_wp2_with fail
        refine (HZ1.out _).mono ?_
        rintro e w4 ⟨rfl, hb⟩
        have F3 := F2.next (hb.below)
        clear hb
        go_wp2_with fail
        refine (HZ2.out _).mono ?_
        rintro e w5 ⟨rfl, hb⟩
        have F4 := F3.next (hb.below)
        clear hb c0 c1 c2
        obtain ⟨c0, c1, c2, -⟩ := (F4.blk _ List.mem_cons_self).three
        go_wp2_with fail
        refine (HA.out _).mono ?_
        rintro e w9 ⟨rfl, hb⟩
        have F9 := F4.next hb
        clear hb F4 F3 F2 c0 c1 c2
        by_cases hja : j = al
        · have q0 : ((j : Int) == (al : Int)) = true := by rw [beq_iff_eq]; omega
          have hji : (j : Int) = (al : Int) := by omega
          have HE := Lib.hid (HLA.out hja)
          have HB := Lib.hid F9.below
          clear F9
          go_wp2
          try go_step3
          simp only [backTo]
          go_ret
          refine ⟨?_, HB.out⟩
          rw [Int.toNat_natCast, HE.out, HN.out]
          first | rfl | (rw [hja]; rfl)
        · have q0 : ((j : Int) == (al : Int)) = false := by
            rw [beq_eq_false_iff_ne]; omega
          have hji : ¬ (j : Int) = (al : Int) := by omega
          go_wp2
          try go_step3
          have e1 : ((j : Int) + 1) = ((j + 1 : Nat) : Int) := by omega
          refine ⟨rfl, al - (j + 1), by omega, j + 1, by omega, rfl, F9, ?_⟩
          rw [HN.out]
          exact ⟨_, _, _, _, _, _, _, _, _, _, _, _, _, _, _, _, _, _, _, _, rfl⟩
      · have HN := Lib.hid (HG.out (by omega))
        clear HT HF HG hq
        go_wp2_with fail
        refine (HZ1.out _).mono ?_
        rintro e w4 ⟨rfl, hb⟩
        have F3 := F2.next (hb.below)
        clear hb
        go_wp2_with fail
        refine (HZ2.out _).mono ?_
        rintro e w5 ⟨rfl, hb⟩
        have F4 := F3.next (hb.below)
        clear hb c0 c1 c2
        obtain ⟨c0, c1, c2, -⟩ := (F4.blk _ List.mem_cons_self).three
        go_wp2_with fail
        refine (HA.out _).mono ?_
        rintro e w9 ⟨rfl, hb⟩
        have F9 := F4.next hb
        clear hb F4 F3 F2 c0 c1 c2
        by_cases hja : j = al
        · have q0 : ((j : Int) == (al : Int)) = true := by rw [beq_iff_eq]; omega
          have hji : (j : Int) = (al : Int) := by omega
          have HE := Lib.hid (HLA.out hja)
          have HB := Lib.hid F9.below
          clear F9
          go_wp2
          try go_step3
          simp only [backTo]
          go_ret
          refine ⟨?_, HB.out⟩
          rw [Int.toNat_natCast, HE.out, HN.out]
          first | rfl | (rw [hja]; rfl)
        · have q0 : ((j : Int) == (al : Int)) = false := by
            rw [beq_eq_false_iff_ne]; omega
          have hji : ¬ (j : Int) = (al : Int) := by omega
          go_wp2
          try go_step3
          have e1 : ((j : Int) + 1) = ((j + 1 : Nat) : Int) := by omega
          refine ⟨rfl, al - (j + 1), by omega, j + 1, by omega, rfl, F9, ?_⟩
          rw [HN.out]
          exact ⟨_, _, _, _, _, _, _, _, _, _, _, _, _, _, _, _, _, _, _, _, rfl⟩
theorem leastCover_any (l k : Int) (a : Option Addr) (c : Nat) (xs : List Int) (w : World) (hs : Sl .u16 w.heap.size w a xs) (hl : B8 l) (hk : B8 k) (hn : xs.length ≤ 1048576) (hw : U16 xs) :
    Calls Try.prog 7 #[ferV l k a xs.length c] w fun e w' => e = .returned (.tuple #[.int .u16 (lcV l k xs), .int .i64 (lcC l k xs)]) ∧ Below w.heap.size w w' := by
  have F0 := (FR.start w).box #[.int .i8 l, .int .i8 k, .slice a xs.length c] 30
  obtain ⟨c0, c1, c2, -⟩ := (F0.blk _ List.mem_cons_self).three
  have hsW := fun (W : World) (hb : Below w.heap.size w W) => hs.up hb (Nat.le_refl _)
  have HV := Lib.hid (validFerry_any l k a c xs _ (hsW _ F0.below) hl hk hn hw)
  have HS := Lib.hid (fun (W : World) (h8 : 1 ≤ l ∧ l ≤ 8) (hb : Below w.heap.size w W) => leastCover_in l k a c xs W (hsW W hb) hn hw h8)
  clear hl hk hw
  cases hok : okY l k xs
  · have HR := Lib.hid (show lcV l k xs = 0 ∧ lcC l k xs = 1 by unfold lcV lcC; rw [hok]; exact ⟨rfl, rfl⟩)
    rw [hok] at HV
    clear hok hs hsW HS
    generalize xs.length = n at *
    go_enter Try.func7, Try.ntmps7
    go_wp2_with fail
    refine HV.out.mono ?_
    rintro e w2 ⟨rfl, hb⟩
    have HB2 := Lib.hid (F0.next hb).below
    clear hb HV F0 c0 c1 c2
    go_wp2
    go_ret2
    exact ⟨retui HR.out.1.symm HR.out.2.symm, HB2.out⟩
  · have h8 := (okY_t hok).1
    have HR := Lib.hid (show lcV l k xs = (lstC xs (allI l).toNat ((allI l).toNat + 1) : Int) ∧ lcC l k xs = 0 by unfold lcV lcC; rw [hok]; exact ⟨rfl, rfl⟩)
    rw [hok] at HV
    have HS2 := Lib.hid (fun W => HS.out W h8)
    clear hok hs hsW h8 HS
    generalize (lstC xs (allI l).toNat ((allI l).toNat + 1) : Int) = r at *
    generalize xs.length = n at *
    go_enter Try.func7, Try.ntmps7
    go_wp2_with fail
    refine HV.out.mono ?_
    rintro e w2 ⟨rfl, hb⟩
    have F1 := F0.next hb
    obtain ⟨d0, d1, d2, -⟩ := (F1.blk _ List.mem_cons_self).three
    clear hb HV F0 c0 c1 c2
    go_wp2_with fail
    refine (HS2.out _ F1.below).mono ?_
    rintro e w3 ⟨rfl, hb⟩
    have HB2 := Lib.hid (F1.next hb).below
    clear hb F1 d0 d1 d2
    go_wp2
    go_ret2
    exact ⟨retui HR.out.1.symm HR.out.2.symm, HB2.out⟩
end Go.Proofs.Ytmcbickfpccmfaa
