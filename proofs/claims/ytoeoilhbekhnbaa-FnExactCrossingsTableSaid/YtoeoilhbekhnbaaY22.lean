/-
  The model's LoadsFrom; LoadsFrom at every ferry and bank.
-/
import Derived.Test.YtoeoilhbekhnbaaY21
import Derived.Test.YtoeoilhbekhnbaaY13
import Derived.Test.YtoeoilhbekhnbaaOwn
namespace Go.Proofs.Ytoeoilhbekhnbaa
open Go.RowKit
set_option maxRecDepth 100000
set_option linter.unusedVariables false

theorem bk_near' {l : Int} {xs : List Int} {n : Int} {f : Bool} (h : bkX l xs n f = true) : bits .andNot .u16 n (allI l) = 0 := by
  unfold bkX at h
  simp only [Bool.and_eq_true, beq_iff_eq] at h
  exact h.1
set_option maxHeartbeats 4000000 in
theorem l05Loads_any (fb : Nat) (l k : Int) (a : Option Addr) (c : Nat) (xs : List Int) (n : Int) (f : Bool) (w : World) (K : Blk w fb #[.int .i8 l, .int .i8 k, .slice a xs.length c] 30) (hs : Sl .u16 w.heap.size w a xs) (hn : xs.length ≤ 1048576) (hl : 1 ≤ l ∧ l ≤ 8) (hk : 0 ≤ k ∧ k ≤ 8) (hb : bits .andNot .u16 n (allI l) = 0) :
    Calls Try.prog 51 #[.pointer (some ⟨fb, 0, none⟩), bankV n f] w fun e w' => ∃ v, e = .returned v ∧ OwnV .u16 w.heap.size w' v (ldA l k xs n f) ∧ Below w.heap.size w w' := by
  have F0 := (FR.start w).box #[.int .u16 n, .bool f] 64
  obtain ⟨d0, d1, -⟩ := (F0.blk _ List.mem_cons_self).two
  have HK := Lib.hid K
  have HA := Lib.hid (fun (W : World) (h : Below w.heap.size w W) => l05All_any fb l _ _ W (K.below h K.lt) hl)
  have HC := Lib.hid (fun (W : World) (x : Int) (h : Below w.heap.size w W) (hx : 0 ≤ x ∧ x ≤ 65535) => l05Cross_any fb l k a c xs n f x W (K.below h K.lt) (hs.up h (Nat.le_refl _)) hn hl hk hx hb)
  have hal := allI_le hl
  have HD := Lib.hid (show ldA l k xs n f = ldT l k xs n f ((allI l).toNat + 1) from rfl)
  obtain ⟨al, hal2⟩ : ∃ al : Nat, allI l = al := ⟨(allI l).toNat, by omega⟩
  rw [hal2] at HA HD hal
  simp only [Int.toNat_natCast] at HD
  obtain ⟨i0, hi, hz0, hz1, hz2⟩ := info_parts Try.info_u16
  clear hal2 hs hl hk hb K
  go_enter Try.func51, Try.ntmps51
  go_wp2
  have hr0 : ((w.alloc (.cells #[.int .u16 n, .bool f] 64)).alloc (.cells #[] 62)).ownsRow (w.heap.size + 1) 62 1 (.slice (some ⟨w.heap.size + 1, 0, none⟩) 0 0) (ldT l k xs n f 0).length (uvals (ldT l k xs n f 0)) := by
    have h := World.ownsRow_made (w.alloc (.cells #[.int .u16 n, .bool f] 64)) (e := 62) #[] 0 (Nat.le_refl _) (by unfold maxLen; omega) (by simp) (size := 1)
    simpa [ldT, uvals] using h
  have F1 := F0.next ((Below.refl _ _).alloc (Nat.le_refl _) (.cells #[] 62))
  clear d0 d1 F0
  go_loopw [5, 6] (fun v t wr => ∃ j : Nat, t = .int .u16 j ∧ j ≤ al + 1 ∧ wr.ownsRow (w.heap.size + 1) 62 1 v (ldT l k xs n f j).length (uvals (ldT l k xs n f j)) ∧ FR w [(w.heap.size, #[.int .u16 n, .bool f], 64)] wr) (fun _ t _ => al + 1 - (intOf t).toNat)
  case atStart => exact ⟨0, rfl, Nat.zero_le _, hr0, F1⟩
  case round =>
    clear hr0 F1
    obtain ⟨j, rfl, hj, hrow, F2⟩ := hrel
    have HAw := Lib.hid (HA.out _ F2.below)
    by_cases hlt : j ≤ al
    case neg =>
      have hjl : ¬ (j : Int) ≤ (al : Int) := by omega
      have HR := Lib.hid (show OwnV .u16 w.heap.size wr _ (ldA l k xs n f) from by
        rw [HD.out, show al + 1 = j by omega]
        exact (OwnV.ofOwns rfl hrow).mono (by omega))
      have HB := Lib.hid F2.below
      clear hrow F2
      go_wp2_with fail
      refine HAw.out.mono ?_
      rintro e w3 ⟨rfl, rfl⟩
      go_wp2
      go_ret
      exact ⟨_, rfl, HR.out, HB.out⟩
    have hjl : (j : Int) ≤ (al : Int) := by omega
    obtain ⟨d0, d1, -⟩ := (F2.blk _ List.mem_cons_self).two
    have HCj := Lib.hid (HC.out wr (j : Int) F2.below (by omega))
    have hll := ldT_len l k xs n f j
    have HN := Lib.hid (And.intro (fun h => ldT_t (l := l) (k := k) (xs := xs) (n := n) (f := f) (m := j) h) (fun h => ldT_f (l := l) (k := k) (xs := xs) (n := n) (f := f) (m := j) h))
    generalize crN l k xs n f (j : Int) = cn at *
    generalize crF l k xs n f (j : Int) = cf at *
    by_cases h0 : cdL l k xs n f (j : Int) = 0
    case neg =>
      have HE := Lib.hid (HN.out.2 h0)
      have hne : (cdL l k xs n f (j : Int) == 0) = false := by simpa using h0
      clear h0 HN
      generalize cdL l k xs n f (j : Int) = co at *
      go_wp2_with fail
      refine HAw.out.mono ?_
      rintro e w3 ⟨rfl, rfl⟩
      go_wp2_with fail
      refine HCj.out.mono ?_
      rintro e w3 ⟨rfl, hb3⟩
      have HF := Lib.hid (And.intro ((row_next hrow hb3).alloc (.cells #[.int .u16 cn, .bool cf] 64)) ((F2.next hb3).next ((Below.refl _ _).alloc (Nat.le_refl _) (.cells #[.int .u16 cn, .bool cf] 64))))
      clear hrow F2 d0 d1 hb3
      go_wp2
      go_roundw
      case rel => exact ⟨j + 1, by go_num, by omega, by rw [HE.out]; exact HF.out.1, HF.out.2⟩
      case measure => simp [intOf]; omega
    have HE := Lib.hid (HN.out.1 h0)
    rw [h0] at HCj
    clear h0 HN
    go_wp2_with fail
    refine HAw.out.mono ?_
    rintro e w3 ⟨rfl, rfl⟩
    go_wp2_with fail
    refine HCj.out.mono ?_
    rintro e w3 ⟨rfl, hb3⟩
    have hrow3 := (row_next hrow hb3).alloc (.cells #[.int .u16 cn, .bool cf] 64)
    have F3 := (F2.next hb3).next ((Below.refl _ _).alloc (Nat.le_refl _) (.cells #[.int .u16 cn, .bool cf] 64))
    clear hrow F2 d0 d1 hb3
    have hlt3 := (F3.blk _ List.mem_cons_self).lt
    dsimp only at hlt3
    go_upto_region 7 with fail
    generalize w3.alloc (.cells #[.int .u16 cn, .bool cf] 64) = w4 at *
    go_wp2_with (first
      | (at_builtin; refine wpList_append_own _ rfl _ _ 23 rfl (w.heap.size + 1) 62 i0 (.int .u16 0) 1 2 Try.underlying23 hi hz0 hz1 hz2 rfl (by decide) _ _ _ rfl (hrow3.alloc _) ⟨w4.heap.size, 0, none⟩ 1 1 [.int .u16 (j : Int)] rfl rfl ?c1 ?c2 ?c3 ?c4 ?c5 ?_)
      | go_in)
    case c1 =>
      intro j u hj
      match j, hj with
      | 0, hj => simp at hj; subst hj; simp [Addr.add]
    case c2 => intro u hu; simp at hu; subst hu; rfl
    case c3 => unfold maxLen; omega
    case c4 => omega
    case c5 => simp; omega
    · intro v' w5 hown' hgrow _
      have F5 : FR w [(w.heap.size, #[.int .u16 n, .bool f], 64)] w5 := by
        refine ⟨(F3.below.alloc F3.size _).grown hgrow (by have := F3.size; simp; omega) (fun j hj => by have := (hrow3.lt j hj).1; omega), fun p hp => ?_, F3.top⟩
        rcases List.mem_cons.1 hp with rfl | hp
        · have h1 := (F3.blk _ List.mem_cons_self).alloc (.cells #[.int .u16 (j : Int)] 62)
          exact (hgrow.block w.heap.size h1.lt (fun e' => by have := (hrow3.lt _ e'.symm).1; omega)).trans h1
        · cases hp
      have HF := Lib.hid (And.intro hown' F5)
      clear hgrow hown' F5 F3 hrow3
      go_wp2
      go_roundw
      case rel => exact ⟨j + 1, by go_num, by omega, by rw [HE.out, List.length_append]; simpa [uvals] using HF.out.1, HF.out.2⟩
      case measure => simp [intOf]; omega
def lfL (l k : Int) (xs : List Int) (n : Int) (f : Bool) : List Int := if vbX l k xs n f = true then ldA l k xs n f else []
def lfC (l k : Int) (xs : List Int) (n : Int) (f : Bool) : Int := if vbX l k xs n f = true then 0 else 1
theorem lf_t {l k : Int} {xs : List Int} {n : Int} {f : Bool} (h : vbX l k xs n f = true) : lfL l k xs n f = ldA l k xs n f ∧ lfC l k xs n f = 0 := by unfold lfL lfC; rw [if_pos h, if_pos h]; exact ⟨rfl, rfl⟩
theorem lf_f {l k : Int} {xs : List Int} {n : Int} {f : Bool} (h : vbX l k xs n f = false) : lfL l k xs n f = [] ∧ lfC l k xs n f = 1 := by unfold lfL lfC; rw [h]; exact ⟨rfl, rfl⟩
theorem lfL_len (l k : Int) (xs : List Int) (n : Int) (f : Bool) : (lfL l k xs n f).length ≤ 256 := by
  cases h : vbX l k xs n f
  · rw [(lf_f h).1]; simp
  · rw [(lf_t h).1]
    have h1 := ldT_len l k xs n f ((allI l).toNat + 1)
    have h2 := allI_le (okY_t (vbX_tt h).1).1
    unfold ldA
    omega
end Go.Proofs.Ytoeoilhbekhnbaa
