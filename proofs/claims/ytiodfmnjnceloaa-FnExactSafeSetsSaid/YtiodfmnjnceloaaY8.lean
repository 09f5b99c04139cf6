/-
  The walks of SafeSets and its model.
-/
import Derived.Test.YtiodfmnjnceloaaY7
namespace Go.Proofs.Ytiodfmnjnceloaa
open Go.RowKit
set_option maxRecDepth 100000
set_option linter.unusedVariables false

/-- How many of the first n sets are safe. -/
def cntS (xs : List Int) : Nat → Nat
  | 0 => 0
  | n + 1 => cntS xs n + (if safeX xs (n : Int) = true then 1 else 0)
theorem cntS_le (xs : List Int) (n : Nat) : cntS xs n ≤ n := by
  induction n with
  | zero => exact Nat.le_refl _
  | succ n ih => unfold cntS; by_cases h : safeX xs (n : Int) = true <;> simp [h] <;> omega
theorem cntS_t {xs : List Int} {n : Nat} (h : safeX xs (n : Int) = true) : cntS xs (n + 1) = cntS xs n + 1 := by rw [cntS, if_pos h]
theorem cntS_f {xs : List Int} {n : Nat} (h : safeX xs (n : Int) = false) : cntS xs (n + 1) = cntS xs n := by rw [cntS, if_neg (by rw [h]; decide)]; rfl
def ssV (l k : Int) (xs : List Int) : Int := if okY l k xs = true then (cntS xs ((allI l).toNat + 1) : Int) else 0
def ssC (l k : Int) (xs : List Int) : Int := if okY l k xs = true then 0 else 1
theorem retii {a b c d : Int} (h : a = b) (h2 : c = d) : Ending.returned (.tuple #[.int .i64 a, .int .i64 c]) = .returned (.tuple #[.int .i64 b, .int .i64 d]) := by rw [h, h2]
set_option maxHeartbeats 2000000 in
theorem specSafeSets_any (l k : Int) (a : Option Addr) (c : Nat) (xs : List Int) (w : World) (hs : Sl .u16 w.heap.size w a xs) (hl : B8 l) (hk : B8 k) (hn : xs.length ≤ 1048576) (hw : U16 xs) :
    Calls Try.prog 23 #[ferV l k a xs.length c] w fun e w' => e = .returned (.tuple #[.int .i64 (ssV l k xs), .int .i64 (ssC l k xs)]) ∧ Below w.heap.size w w' := by
  have F0 := (FR.start w).box #[.int .i8 l, .int .i8 k, .slice a xs.length c] 28
  have K0 := F0.blk _ List.mem_cons_self
  have hsW := fun (W : World) (hb : Below w.heap.size w W) => hs.up hb (Nat.le_refl _)
  have HV := Lib.hid (l05Ok_any w.heap.size l k a c xs _ K0 (hsW _ F0.below) hl hk hn hw)
  have HB := Lib.hid F0.below
  clear hl hk hw
  cases hok : okY l k xs
  · have HR := Lib.hid (show ssV l k xs = 0 ∧ ssC l k xs = 1 by unfold ssV ssC; rw [hok]; exact ⟨rfl, rfl⟩)
    rw [hok] at HV
    clear hok hs hsW F0 K0
    generalize xs.length = n at *
    go_enter Try.func23, Try.ntmps23
    go_wp2_with fail
    refine HV.out.mono ?_
    rintro e w2 ⟨rfl, hb⟩
    have HB2 := Lib.hid (HB.out.trans (hb.below.mono HB.out.size))
    clear hb HV
    go_wp2
    go_ret2
    exact ⟨retii HR.out.1.symm HR.out.2.symm, HB2.out⟩
  · have h8 := (okY_t hok).1
    have HR := Lib.hid (show ssV l k xs = (cntS xs ((allI l).toNat + 1) : Int) ∧ ssC l k xs = 0 by unfold ssV ssC; rw [hok]; exact ⟨rfl, rfl⟩)
    rw [hok] at HV
    have hal := allI_le h8
    have HA := Lib.hid (fun W (h : Blk W w.heap.size #[.int .i8 l, .int .i8 k, .slice a xs.length c] 28) => l05All_any w.heap.size l _ _ W h h8)
    have HS := Lib.hid (fun (W : World) (x : Int) (h : Blk W w.heap.size #[.int .i8 l, .int .i8 k, .slice a xs.length c] 28) (hb : Below w.heap.size w W) => l05Safe_any w.heap.size _ _ a c xs x W h (hsW W hb) hn)
    have HK := Lib.hid K0
    clear hok hs hsW K0 h8
    obtain ⟨al, hal2⟩ : ∃ al : Nat, allI l = al := ⟨(allI l).toNat, by omega⟩
    rw [hal2] at HR HA hal
    clear hal2
    go_enter Try.func23, Try.ntmps23
    go_wp2_with fail
    refine HV.out.mono ?_
    rintro e w2 ⟨rfl, hb⟩
    have HB2 := Lib.hid (HB.out.trans (hb.below.mono HB.out.size))
    have HK2 := Lib.hid (hb.blk HK.out)
    clear hb HV HK HB F0
    go_wp2
    go_loopw [4, 5] (fun m t wr => ∃ j : Nat, j ≤ al + 1 ∧ m = .int .i64 (cntS xs j) ∧ t = .int .u16 j ∧ wr = w2) (fun _ t _ => al + 1 - (intOf t).toNat)
    case atStart => exact ⟨0, Nat.zero_le _, rfl, rfl, rfl⟩
    case round =>
      obtain ⟨j, hj, rfl, rfl, rfl⟩ := hrel
      have HAw := Lib.hid (HA.out _ HK2.out)
      by_cases hlt : j ≤ al
      · have hjl : (j : Int) ≤ (al : Int) := by omega
        have hc := cntS_le xs j
        have HSw := Lib.hid (HS.out _ (j : Int) HK2.out HB2.out)
        have HT := Lib.hid (fun h => cntS_t (xs := xs) (n := j) h)
        have HF := Lib.hid (fun h => cntS_f (xs := xs) (n := j) h)
        generalize cntS xs j = m at *
        cases hq : safeX xs (j : Int)
        · rw [hq] at HSw
          have HN := Lib.hid (HF.out hq)
          clear HT HF hq
          go_wp2_with fail
          refine HAw.out.mono ?_
          rintro e w3 ⟨rfl, rfl⟩
          go_wp2_with fail
          refine HSw.out.mono ?_
          rintro e w3 ⟨rfl, rfl⟩
          go_wp2
          go_roundw
          case rel => exact ⟨j + 1, by omega, by rw [HN.out], by go_num, by first | trivial | rfl⟩
          case measure => simp [intOf]; omega
        · rw [hq] at HSw
          have HN := Lib.hid (HT.out hq)
          clear HT HF hq
          go_wp2_with fail
          refine HAw.out.mono ?_
          rintro e w3 ⟨rfl, rfl⟩
          go_wp2_with fail
          refine HSw.out.mono ?_
          rintro e w3 ⟨rfl, rfl⟩
          go_wp2
          go_roundw
          case rel => exact ⟨j + 1, by omega, by rw [HN.out]; go_num, by go_num, by first | trivial | rfl⟩
          case measure => simp [intOf]; omega
      · have hjl : ¬ (j : Int) ≤ (al : Int) := by omega
        have HE := Lib.hid (show (cntS xs j : Int) = ssV l k xs by rw [HR.out.1, Int.toNat_natCast, show j = al + 1 by omega])
        generalize cntS xs j = m at *
        go_wp2_with fail
        refine HAw.out.mono ?_
        rintro e w3 ⟨rfl, rfl⟩
        go_wp2
        go_ret2
        exact ⟨retii HE.out HR.out.2.symm, HB2.out⟩
set_option maxHeartbeats 2000000 in
theorem safeSets_any (l k : Int) (a : Option Addr) (c : Nat) (xs : List Int) (w : World) (hs : Sl .u16 w.heap.size w a xs) (hl : B8 l) (hk : B8 k) (hn : xs.length ≤ 1048576) (hw : U16 xs) :
    Calls Try.prog 24 #[ferV l k a xs.length c] w fun e w' => e = .returned (.tuple #[.int .i64 (ssV l k xs), .int .i64 (ssC l k xs)]) ∧ Below w.heap.size w w' := by
  have F0 := (FR.start w).box #[.int .i8 l, .int .i8 k, .slice a xs.length c] 28
  obtain ⟨c0, c1, c2, -⟩ := (F0.blk _ List.mem_cons_self).three
  have hsW := fun (W : World) (hb : Below w.heap.size w W) => hs.up hb (Nat.le_refl _)
  have HV := Lib.hid (validFerry_any l k a c xs _ (hsW _ F0.below) hl hk hn hw)
  have HS := Lib.hid (fun (W : World) (x : Int) (hb : Below w.heap.size w W) => isSafe_any l k a c xs x W (hsW W hb) hn hw)
  clear hl hk hw
  cases hok : okY l k xs
  · have HR := Lib.hid (show ssV l k xs = 0 ∧ ssC l k xs = 1 by unfold ssV ssC; rw [hok]; exact ⟨rfl, rfl⟩)
    rw [hok] at HV
    clear hok hs hsW
    generalize xs.length = n at *
    go_enter Try.func24, Try.ntmps24
    go_wp2_with fail
    refine HV.out.mono ?_
    rintro e w2 ⟨rfl, hb⟩
    have HB2 := Lib.hid (F0.next hb).below
    clear hb HV F0 c0 c1 c2
    go_wp2
    go_ret2
    exact ⟨retii HR.out.1.symm HR.out.2.symm, HB2.out⟩
  · have h8 := (okY_t hok).1
    have HR := Lib.hid (show ssV l k xs = (cntS xs ((allI l).toNat + 1) : Int) ∧ ssC l k xs = 0 by unfold ssV ssC; rw [hok]; exact ⟨rfl, rfl⟩)
    rw [hok] at HV
    have hal := allI_le h8
    have HA := Lib.hid (fun W => everything_any l k a xs.length c W h8)
    clear hok hs hsW h8
    obtain ⟨al, hal2⟩ : ∃ al : Nat, allI l = al := ⟨(allI l).toNat, by omega⟩
    rw [hal2] at HR HA hal
    clear hal2
    generalize xs.length = n at *
    go_enter Try.func24, Try.ntmps24
    go_wp2_with fail
    refine HV.out.mono ?_
    rintro e w2 ⟨rfl, hb⟩
    have F1 := F0.next hb
    obtain ⟨d0, d1, d2, -⟩ := (F1.blk _ List.mem_cons_self).three
    clear hb HV F0 c0 c1 c2
    go_wp2_with fail
    refine (HA.out _).mono ?_
    rintro e w3 ⟨rfl, hb⟩
    have F2 := F1.next hb
    clear hb F1 d0 d1 d2 HA
    go_wp2
    go_loopw [4, 12] (fun m t wr => ∃ j : Nat, j ≤ al + 1 ∧ m = .int .i64 (cntS xs j) ∧ t = .int .u16 j ∧ FR w [(w.heap.size, #[.int .i8 l, .int .i8 k, .slice a n c], 28)] wr) (fun _ t _ => al + 1 - (intOf t).toNat)
    case atStart => exact ⟨0, Nat.zero_le _, rfl, rfl, F2⟩
    case round =>
      obtain ⟨j, hj, rfl, rfl, F3⟩ := hrel
      by_cases hlt : j ≤ al
      · have hjl : (j : Int) < (al : Int) + 1 := by omega
        have hc := cntS_le xs j
        have HSw := Lib.hid (HS.out _ (j : Int) F3.below)
        have HT := Lib.hid (fun h => cntS_t (xs := xs) (n := j) h)
        have HF := Lib.hid (fun h => cntS_f (xs := xs) (n := j) h)
        obtain ⟨d0, d1, d2, -⟩ := (F3.blk _ List.mem_cons_self).three
        generalize cntS xs j = m at *
        cases hq : safeX xs (j : Int)
        · rw [hq] at HSw
          have HN := Lib.hid (HF.out hq)
          clear HT HF hq
          go_wp2_with fail
          refine HSw.out.mono ?_
          rintro e w5 ⟨rfl, hb⟩
          have HF4 := Lib.hid (F3.next hb)
          clear hb F3 d0 d1 d2
          go_wp2
          go_roundw
          case rel => exact ⟨j + 1, by omega, by rw [HN.out], by go_num, HF4.out⟩
          case measure => simp [intOf]; omega
        · rw [hq] at HSw
          have HN := Lib.hid (HT.out hq)
          clear HT HF hq
          go_wp2_with fail
          refine HSw.out.mono ?_
          rintro e w5 ⟨rfl, hb⟩
          have HF4 := Lib.hid (F3.next hb)
          clear hb F3 d0 d1 d2
          go_wp2
          go_roundw
          case rel => exact ⟨j + 1, by omega, by rw [HN.out]; go_num, by go_num, HF4.out⟩
          case measure => simp [intOf]; omega
      · have hjl : ¬ (j : Int) < (al : Int) + 1 := by omega
        have HE := Lib.hid (show (cntS xs j : Int) = ssV l k xs by rw [HR.out.1, Int.toNat_natCast, show j = al + 1 by omega])
        have HB := Lib.hid F3.below
        clear F3
        generalize cntS xs j = m at *
        go_wp2
        go_ret2
        exact ⟨retii HE.out HR.out.2.symm, HB.out⟩
end Go.Proofs.Ytiodfmnjnceloaa
