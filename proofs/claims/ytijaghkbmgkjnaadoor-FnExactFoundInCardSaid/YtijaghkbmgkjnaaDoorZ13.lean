/-
  The walks of LiesFor and its model: the program's count, the codes.
-/
import Derived.Test.YtijaghkbmgkjnaaDoorZ12
namespace Go.Proofs.YtijaghkbmgkjnaaDoor
open Go.RowKit
set_option maxRecDepth 100000
set_option linter.unusedVariables false

set_option maxHeartbeats 2000000 in
theorem liesForM_any (l kk : Int) (a : Option Addr) (c : Nat) (xs : List Ak) (k : Nat) (w : World) (hs : Sla w.heap.size w a xs) (hn : xs.length ≤ 60) (hw : Aall xs) (hk : k ≤ 63) :
    Calls Tryd.prog 33 #[gamV l kk a xs.length c, .int .i64 k] w fun e w' => e = .returned (.int .i64 (lieN xs k xs.length)) ∧ Below w.heap.size w w' := by
  have F0 := (FR.start w).box #[.int .i8 l, .int .i8 kk, .slice a xs.length c] 31
  have HB0 := Lib.hid F0.below
  obtain ⟨c0, c1, c2, -⟩ := (F0.blk _ List.mem_cons_self).three
  have HS := Lib.hid hs
  have HQ := Lib.hid (fun j W => isWrong_any (akI xs j) k W (hw j) hk)
  obtain ⟨n, hnn⟩ : ∃ n, xs.length = n := ⟨_, rfl⟩
  have HNN := Lib.hid hnn
  simp only [hnn] at hn c0 c1 c2 HB0
  rw [hnn]
  clear hs hw hnn F0
  go_enter Tryd.func33, Tryd.ntmps33
  go_wp2
  clear c0 c1 c2
  go_loopw [5, 7, 11] (fun s _ i wr => ∃ j : Nat, i = .int .i64 j ∧ j ≤ n ∧ s = .int .i64 (lieN xs k j) ∧ Below w.heap.size w wr) (fun _ _ i _ => n - (intOf i).toNat)
  case atStart => exact ⟨0, rfl, Nat.zero_le _, rfl, HB0.out⟩
  case round =>
    obtain ⟨j, rfl, hj, rfl, hb⟩ := hrel
    have HB := Lib.hid hb
    by_cases hlt : j < n
    case neg =>
      obtain rfl : j = n := by omega
      clear hb
      go_wp2
      go_ret
      exact ⟨rfl, HB.out⟩
    have hkl : (j : Int) < (n : Int) := by omega
    rcases HS.out with h0 | ⟨b, off, rfl, hbb, hc⟩
    · have := HNN.out; subst h0; simp at this; omega
    obtain ⟨p0, p1⟩ := (hc.below hb hbb) j (by rw [HNN.out]; exact hlt)
    have HQj := Lib.hid (HQ.out j)
    have ht := Lib.hid (lieN_t (qs := xs) (k := k) (i := j) (by rw [HNN.out]; exact hlt))
    have hf := Lib.hid (lieN_f (qs := xs) (k := k) (i := j) (by rw [HNN.out]; exact hlt))
    have hle := lieN_le xs k j
    generalize akI xs j = q at *
    generalize hg : lieN xs k j = s at *
    have F1 := (FR.start wr).box #[.int .u64 q.1, .bool q.2] 51
    have HF1 := Lib.hid F1.below
    obtain ⟨d0, d1, -⟩ := (F1.blk _ List.mem_cons_self).two
    clear hb hc HS hg F1
    cases hq : wrongB k q
    · rw [hq] at HQj
      have HE := Lib.hid (hf.out hq)
      clear ht hf hq
      go_wp2_with fail
      refine (HQj.out _).mono ?_
      rintro e w2 ⟨rfl, hb2⟩
      have HB2 := Lib.hid (HB.out.trans ((HF1.out.trans (hb2.mono HF1.out.size)).mono HB.out.size))
      clear hb2 d0 d1 p0 p1
      go_wp2
      go_roundw
      case rel => exact ⟨j + 1, by go_num, by omega, by rw [HE.out], HB2.out⟩
      case measure => simp [intOf]; omega
    · rw [hq] at HQj
      have HE := Lib.hid (ht.out hq)
      clear ht hf hq
      go_wp2_with fail
      refine (HQj.out _).mono ?_
      rintro e w2 ⟨rfl, hb2⟩
      have HB2 := Lib.hid (HB.out.trans ((HF1.out.trans (hb2.mono HF1.out.size)).mono HB.out.size))
      clear hb2 d0 d1 p0 p1
      go_wp2
      go_roundw
      case rel => exact ⟨j + 1, by go_num, by omega, by rw [HE.out]; go_num, HB2.out⟩
      case measure => simp [intOf]; omega
/-- The code of a game and a number. -/
def asC (l kk : Int) (qs : List Ak) (n : Int) : Int := if okG l kk qs = true then (if 0 ≤ n ∧ n ≤ l - 1 then 0 else 2) else 1
def lfV (l kk : Int) (qs : List Ak) (n : Int) : Int := if asC l kk qs n = 0 then (lieN qs n.toNat qs.length : Int) else 0
theorem asC_bad {l kk : Int} {qs : List Ak} {n : Int} (h : okG l kk qs = false) : asC l kk qs n = 1 := by unfold asC; rw [h]; rfl
theorem asC_far {l kk : Int} {qs : List Ak} {n : Int} (h : okG l kk qs = true) (h2 : ¬ (0 ≤ n ∧ n ≤ l - 1)) : asC l kk qs n = 2 := by unfold asC; rw [h, if_pos rfl, if_neg h2]
theorem asC_ok {l kk : Int} {qs : List Ak} {n : Int} (h : okG l kk qs = true) (h2 : 0 ≤ n ∧ n ≤ l - 1) : asC l kk qs n = 0 := by unfold asC; rw [h, if_pos rfl, if_pos h2]
theorem asC_zero {l kk : Int} {qs : List Ak} {n : Int} (h : asC l kk qs n = 0) : okG l kk qs = true ∧ 0 ≤ n ∧ n ≤ l - 1 := by
  unfold asC at h
  by_cases h1 : okG l kk qs = true
  · rw [if_pos h1] at h
    by_cases h2 : 0 ≤ n ∧ n ≤ l - 1
    · exact ⟨h1, h2⟩
    · rw [if_neg h2] at h; omega
  · rw [if_neg h1] at h; omega
theorem asC_vals (l kk : Int) (qs : List Ak) (n : Int) : 0 ≤ asC l kk qs n ∧ asC l kk qs n ≤ 2 := by
  unfold asC
  split
  · split <;> omega
  · omega
end Go.Proofs.YtijaghkbmgkjnaaDoor
