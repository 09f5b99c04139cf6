/-
  The walks of LiesFor and its model: how many answers are wrong.
-/
import Derived.Test.YtijaghkbmgkjnaaDoorZ10
namespace Go.Proofs.YtijaghkbmgkjnaaDoor
open Go.RowKit
set_option maxRecDepth 100000
set_option linter.unusedVariables false

/-- An answer is wrong if k is the number. -/
def wrongB (k : Nat) (q : Ak) : Bool := !(bitN q.1 k == q.2)
/-- How many of the first i answers are wrong if k is the number. -/
def lieN (qs : List Ak) (k i : Nat) : Nat := (qs.take i).countP (wrongB k)
theorem take_ak (qs : List Ak) (i : Nat) (h : i < qs.length) : qs.take (i + 1) = qs.take i ++ [akI qs i] := by
  rw [List.take_add_one, List.getElem?_eq_getElem h]
  unfold akI
  rw [List.getD_eq_getElem?_getD, List.getElem?_eq_getElem h]
  rfl
theorem lieN_t {qs : List Ak} {k i : Nat} (h : i < qs.length) (hw : wrongB k (akI qs i) = true) : lieN qs k (i + 1) = lieN qs k i + 1 := by
  unfold lieN
  rw [take_ak qs i h, List.countP_append]
  simp [hw]
theorem lieN_f {qs : List Ak} {k i : Nat} (h : i < qs.length) (hw : wrongB k (akI qs i) = false) : lieN qs k (i + 1) = lieN qs k i := by
  unfold lieN
  rw [take_ak qs i h, List.countP_append]
  simp [hw]
theorem lieN_le (qs : List Ak) (k i : Nat) : lieN qs k i ≤ i := by
  unfold lieN
  have h1 : List.countP (wrongB k) (qs.take i) ≤ (qs.take i).length := List.countP_le_length
  have h2 := List.length_take_le i qs
  omega
theorem l06Wrong_any (q : Ak) (k : Nat) (w : World) (hq : U64 q.1) (hk : k ≤ 63) :
    Calls Tryd.prog 36 #[askV q, .int .i64 k] w fun e w' => e = .returned (.bool (wrongB k q)) ∧ Below w.heap.size w w' := by
  have F0 := (FR.start w).box #[.int .u64 q.1, .bool q.2] 51
  have HB := Lib.hid F0.below
  obtain ⟨c0, c1, -⟩ := (F0.blk _ List.mem_cons_self).two
  have HR := Lib.hid (show wrongB k q = !(bits .and .u64 (q.1 / 2 ^ k) 1 == 1) == q.2 from rfl)
  clear F0
  go_enter Tryd.func36, Tryd.ntmps36
  go_wp2
  go_ret
  exact ⟨retb HR.out.symm, HB.out⟩
theorem isWrong_any (q : Ak) (k : Nat) (w : World) (hq : U64 q.1) (hk : k ≤ 63) :
    Calls Tryd.prog 37 #[askV q, .int .i64 k] w fun e w' => e = .returned (.bool (wrongB k q)) ∧ Below w.heap.size w w' := by
  have F0 := (FR.start w).box #[.int .u64 q.1, .bool q.2] 51
  have HB := Lib.hid F0.below
  have HH := Lib.hid (fun W => has_any q.1 k W hq (by omega))
  rw [has_nat q.1 k hk] at HH
  obtain ⟨c0, c1, -⟩ := (F0.blk _ List.mem_cons_self).two
  have HR := Lib.hid (show wrongB k q = !(q.2 == bitN q.1 k) from by unfold wrongB; cases bitN q.1 k <;> cases q.2 <;> rfl)
  generalize bitN q.1 k = r at *
  clear F0
  go_enter Tryd.func37, Tryd.ntmps37
  go_wp2
  go_quiet ((go_at_call 38; exact Calls.quiet_same (HH.out _)))
  go_wp2
  go_ret
  exact ⟨retb HR.out.symm, HB.out.trans (below_drewN (Below.refl _ _) _ |>.mono HB.out.size)⟩
set_option maxHeartbeats 2000000 in
theorem l06Lies_any (fb : Nat) (l kk : Int) (a : Option Addr) (c : Nat) (xs : List Ak) (k : Nat) (w : World) (K : Blk w fb #[.int .i8 l, .int .i8 kk, .slice a xs.length c] 31) (hs : Sla w.heap.size w a xs) (hn : xs.length ≤ 60) (hw : Aall xs) (hk : k ≤ 63) :
    Calls Tryd.prog 31 #[.pointer (some ⟨fb, 0, none⟩), .int .i64 k] w fun e w' => e = .returned (.int .i64 (lieN xs k xs.length)) ∧ Below w.heap.size w w' := by
  have KH := Lib.hid K
  have HS := Lib.hid hs
  have HQ := Lib.hid (fun j W => l06Wrong_any (akI xs j) k W (hw j) hk)
  obtain ⟨n, hnn⟩ : ∃ n, xs.length = n := ⟨_, rfl⟩
  have HNN := Lib.hid hnn
  rw [hnn] at KH hn
  rw [hnn]
  clear K hs hw hnn
  go_enter Tryd.func31, Tryd.ntmps31
  go_wp2
  go_loopw [5, 6] (fun s i wr => ∃ j : Nat, i = .int .i64 j ∧ j ≤ n ∧ s = .int .i64 (lieN xs k j) ∧ Below w.heap.size w wr) (fun _ i _ => n - (intOf i).toNat)
  case atStart => exact ⟨0, rfl, Nat.zero_le _, rfl, Below.refl _ _⟩
  case round =>
    obtain ⟨j, rfl, hj, rfl, hb⟩ := hrel
    have HB := Lib.hid hb
    have KR := Lib.hid (KH.out.below hb KH.out.lt)
    obtain ⟨c0, c1, c2, -⟩ := KR.out.three
    by_cases hlt : j < n
    case neg =>
      obtain rfl : j = n := by omega
      clear hb
      go_wp2
      go_ret
      exact ⟨rfl, HB.out⟩
    have hkl : (j : Int) < (n : Int) := by omega
    rcases HS.out with h0 | ⟨b, off, rfl, hbb, hc⟩
    · have := HNN.out; subst h0; simp at this; omega
    obtain ⟨p0, p1⟩ := (hc.below hb hbb) j (by rw [HNN.out]; exact hlt)
    have HQj := Lib.hid (HQ.out j)
    have ht := Lib.hid (lieN_t (qs := xs) (k := k) (i := j) (by rw [HNN.out]; exact hlt))
    have hf := Lib.hid (lieN_f (qs := xs) (k := k) (i := j) (by rw [HNN.out]; exact hlt))
    have hle := lieN_le xs k j
    generalize akI xs j = q at *
    generalize hg : lieN xs k j = s at *
    clear hb hc HS hg
    cases hq : wrongB k q
    · rw [hq] at HQj
      have HE := Lib.hid (hf.out hq)
      clear ht hf hq
      go_wp2_with fail
      refine (HQj.out _).mono ?_
      rintro e w2 ⟨rfl, hb2⟩
      have HB2 := Lib.hid (HB.out.trans (hb2.mono HB.out.size))
      clear hb2 c0 c1 c2 p0 p1
      go_wp2
      go_roundw
      case rel => exact ⟨j + 1, by go_num, by omega, by rw [HE.out], HB2.out⟩
      case measure => simp [intOf]; omega
    · rw [hq] at HQj
      have HE := Lib.hid (ht.out hq)
      clear ht hf hq
      go_wp2_with fail
      refine (HQj.out _).mono ?_
      rintro e w2 ⟨rfl, hb2⟩
      have HB2 := Lib.hid (HB.out.trans (hb2.mono HB.out.size))
      clear hb2 c0 c1 c2 p0 p1
      go_wp2
      go_roundw
      case rel => exact ⟨j + 1, by go_num, by omega, by rw [HE.out]; go_num, HB2.out⟩
      case measure => simp [intOf]; omega
end Go.Proofs.YtijaghkbmgkjnaaDoor
