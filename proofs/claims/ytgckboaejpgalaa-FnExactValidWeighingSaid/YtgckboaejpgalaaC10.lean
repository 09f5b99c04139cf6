/-
  The walks of ResultOf and its model.
-/
import Derived.Test.YtgckboaejpgalaaC9
namespace Go.Proofs.Ytgckboaejpgalaa
open Go.RowKit Go.Shelf
set_option maxRecDepth 100000
set_option linter.unusedVariables false

/-- What is seen of a weighing in a case. -/
def resI (x : Nat → Int) (c : Cs) : Int := if c.1 < 0 then 0 else if c.2 = true then x c.1.toNat else - x c.1.toNat
theorem mem_upC {k : Int} {nn : Bool} {m : Nat} {c : Cs} (h : c ∈ upC k nn m) : -1 ≤ c.1 ∧ c.1 < m := by
  unfold upC at h
  rcases List.mem_append.1 h with h | h
  · split at h
    · simp at h; subst h; simp; omega
    · simp at h
  · obtain ⟨i, hi, hc⟩ := List.mem_flatMap.1 h
    have hi' : i < m := by simpa using hi
    unfold cOf at hc
    rcases List.mem_append.1 hc with hc | hc
    · split at hc
      · simp at hc
      · simp at hc; subst hc; simp; omega
    · split at hc
      · simp at hc
      · simp at hc; subst hc; simp; omega
theorem isC_mem {c k : Int} {n : Bool} {x : Cs} (h : isC c k n x = true) : okT c k = true ∧ x ∈ upC k n c.toNat := by
  unfold isC fndC at h
  cases hok : okT c k
  · rw [hok] at h; simp at h
  · rw [hok] at h
    simp only [if_true, decide_eq_true_eq] at h
    refine ⟨rfl, ?_⟩
    unfold fcC at h
    split at h
    case isTrue h' => exact h'
    case isFalse => omega
theorem isC_bd {c k : Int} {n : Bool} {x : Cs} (h : isC c k n x = true) : -1 ≤ x.1 ∧ x.1 < 13 := by
  obtain ⟨h1, h2⟩ := isC_mem h
  have := mem_upC h2
  have := (okT_t h1).1
  omega
theorem okG_sign {c k : Int} {g : Bool} {x : Nat → Int} (h : okG c k g x = true) : ∀ i, i < 14 → -1 ≤ x i ∧ x i ≤ 1 := by
  unfold okG at h
  have h2 : okGw c g x = true := by cases h1 : okT c k <;> simp_all
  exact fun i hi => ((of_cb (p := OkG c g x) h2).1 i hi).1
theorem okG_ok {c k : Int} {g : Bool} {x : Nat → Int} (h : okG c k g x = true) : okT c k = true := by
  unfold okG at h
  cases h1 : okT c k <;> simp_all
theorem resultOf_any (x : Nat → Int) (cc : Int) (hh : Bool) (w : World) (hx : ∀ i, i < 14 → -1 ≤ x i ∧ x i ≤ 1) (hc : -1 ≤ cc ∧ cc < 13) :
    Calls Try.prog 43 #[weigV x, caseV cc hh] w fun e w' => e = .returned (.int .i8 (resI x (cc, hh))) ∧ Below w.heap.size w w' := by
  have F0 := ((FR.start w).box (weigC x) 44).box #[.int .i8 cc, .bool hh] 39
  simp only [World.size_alloc] at F0
  unfold resI
  have hc8 : -128 ≤ cc ∧ cc ≤ 127 := by omega
  obtain ⟨d0, d1, -⟩ := (F0.blk _ List.mem_cons_self).two
  by_cases hz : cc < 0
  · rw [if_pos hz]
    have hd : decide (cc < 0) = true := by simpa using hz
    have HF := Lib.hid F0.below
    clear F0 d0 d1
    go_enter Try.func43, Try.ntmps43
    go_wp2
    go_ret
    exact ⟨rfl, HF.out⟩
  · rw [if_neg hz]
    obtain ⟨i, rfl⟩ : ∃ i : Nat, cc = (i : Int) := ⟨cc.toNat, by omega⟩
    have hi : i < 14 := by omega
    have hiz : (i : Int) < 14 := by omega
    have hd : decide ((i : Int) < 0) = false := by simp
    have h1 := Blk.weig (x := x) (F0.blk _ (List.mem_cons_of_mem _ List.mem_cons_self)) i hi
    have hxi := hx i hi
    dsimp only at h1
    simp only [Int.toNat_natCast]
    generalize x i = xi at *
    have HF := Lib.hid F0.below
    cases hh
    · simp only [Bool.false_eq_true, if_false]
      go_enter Try.func43, Try.ntmps43
      go_wp2
      go_ret
      exact ⟨rfl, HF.out⟩
    · simp only [if_true]
      go_enter Try.func43, Try.ntmps43
      go_wp2
      go_ret
      exact ⟨rfl, HF.out⟩
theorem l03Result_any (x : Nat → Int) (cc : Int) (hh : Bool) (w : World) (hx : ∀ i, i < 14 → -1 ≤ x i ∧ x i ≤ 1) (hc : -1 ≤ cc ∧ cc < 13) :
    Calls Try.prog 41 #[weigV x, caseV cc hh] w fun e w' => e = .returned (.int .i64 (resI x (cc, hh))) ∧ Below w.heap.size w w' := by
  have F0 := ((FR.start w).box (weigC x) 44).box #[.int .i8 cc, .bool hh] 39
  simp only [World.size_alloc] at F0
  unfold resI
  have hc8 : -128 ≤ cc ∧ cc ≤ 127 := by omega
  obtain ⟨d0, d1, -⟩ := (F0.blk _ List.mem_cons_self).two
  by_cases hz : cc < 0
  · rw [if_pos hz]
    have hd : decide (cc < 0) = true := by simpa using hz
    have HF := Lib.hid F0.below
    clear F0 d0 d1
    go_enter Try.func41, Try.ntmps41
    go_wp2
    go_ret
    exact ⟨rfl, HF.out⟩
  · rw [if_neg hz]
    obtain ⟨i, rfl⟩ : ∃ i : Nat, cc = (i : Int) := ⟨cc.toNat, by omega⟩
    have hi : i < 14 := by omega
    have hiz : (i : Int) < 14 := by omega
    have hd : decide ((i : Int) < 0) = false := by simp
    have h1 := Blk.weig (x := x) (F0.blk _ (List.mem_cons_of_mem _ List.mem_cons_self)) i hi
    have hxi := hx i hi
    dsimp only at h1
    simp only [Int.toNat_natCast]
    generalize x i = xi at *
    have HF := Lib.hid F0.below
    cases hh
    · simp only [Bool.false_eq_true, if_false]
      go_enter Try.func41, Try.ntmps41
      go_wp2
      go_ret
      exact ⟨rfl, HF.out⟩
    · simp only [if_true]
      go_enter Try.func41, Try.ntmps41
      go_wp2
      go_ret
      exact ⟨rfl, HF.out⟩
noncomputable def roV (c k : Int) (n g : Bool) (x : Nat → Int) (y : Cs) : Int := if okG c k g x = true ∧ isC c k n y = true then resI x y else 0
noncomputable def roC (c k : Int) (n g : Bool) (x : Nat → Int) (y : Cs) : Int := if okG c k g x = true then (if isC c k n y = true then 0 else 6) else 1
theorem resI_bd (x : Nat → Int) (y : Cs) (hx : ∀ i, i < 14 → -1 ≤ x i ∧ x i ≤ 1) (hc : -1 ≤ y.1 ∧ y.1 < 13) : -1 ≤ resI x y ∧ resI x y ≤ 1 := by
  have := hx y.1.toNat (by omega)
  unfold resI
  split
  · omega
  · split <;> omega
set_option maxHeartbeats 4000000 in
theorem resultOfF_any (c k : Int) (n g : Bool) (x : Nat → Int) (cc : Int) (hh : Bool) (w : World) (hc : B8 c) (hk : B8 k) (hx : W8 x) :
    Calls Try.prog 26 #[taskV c k n g, weigV x, caseV cc hh] w fun e w' => e = .returned (.tuple #[.int .i64 (roV c k n g x (cc, hh)), .int .i64 (roC c k n g x (cc, hh))]) ∧ Below w.heap.size w w' := by
  have F0 := (((FR.start w).box #[.int .i8 c, .int .i8 k, .bool n, .bool g] 26).box (weigC x) 44).box #[.int .i8 cc, .bool hh] 39
  simp only [World.size_alloc] at F0
  have HV := Lib.hid (fun W => validWeighing_any c k n g x W hc hk hx)
  unfold roV roC
  cases hok : okG c k g x
  · rw [hok] at HV
    simp only [Bool.false_eq_true, false_and, if_false]
    clear hc hk hx
    obtain ⟨c0, c1, c2, c3, -⟩ := (F0.blk _ (List.mem_cons_of_mem _ (List.mem_cons_of_mem _ List.mem_cons_self))).four
    obtain ⟨d0, d1, d2, d3, d4, d5, d6, d7, d8, d9, d10, d11, d12, d13, -⟩ := Blk.fourteen (x := x) (F0.blk _ (List.mem_cons_of_mem _ List.mem_cons_self))
    go_enter Try.func26, Try.ntmps26
    go_wp2_with fail
    refine (HV.out _).mono ?_
    rintro e w2 ⟨rfl, hb2⟩
    have HF := Lib.hid (F0.next hb2).below
    clear hb2 F0 c0 c1 c2 c3 d0 d1 d2 d3 d4 d5 d6 d7 d8 d9 d10 d11 d12 d13
    go_wp2
    go_ret2
    exact ⟨rfl, HF.out⟩
  · rw [hok] at HV
    have hsg := okG_sign hok
    have HC := Lib.hid (fun W => isCase_any c k n g cc hh W hc hk)
    cases hic : isC c k n (cc, hh)
    · rw [hic] at HC
      simp only [Bool.false_eq_true, and_false, if_false, if_true]
      clear hc hk hx
      obtain ⟨c0, c1, c2, c3, -⟩ := (F0.blk _ (List.mem_cons_of_mem _ (List.mem_cons_of_mem _ List.mem_cons_self))).four
      obtain ⟨d0, d1, d2, d3, d4, d5, d6, d7, d8, d9, d10, d11, d12, d13, -⟩ := Blk.fourteen (x := x) (F0.blk _ (List.mem_cons_of_mem _ List.mem_cons_self))
      go_enter Try.func26, Try.ntmps26
      go_wp2_with fail
      refine (HV.out _).mono ?_
      rintro e w2 ⟨rfl, hb2⟩
      have F1 := F0.next hb2
      clear hb2 F0 c0 c1 c2 c3 d0 d1 d2 d3 d4 d5 d6 d7 d8 d9 d10 d11 d12 d13
      obtain ⟨c0, c1, c2, c3, -⟩ := (F1.blk _ (List.mem_cons_of_mem _ (List.mem_cons_of_mem _ List.mem_cons_self))).four
      obtain ⟨e0, e1, -⟩ := (F1.blk _ List.mem_cons_self).two
      go_wp2_with fail
      refine (HC.out _).mono ?_
      rintro e w3 ⟨rfl, hb2⟩
      have HF := Lib.hid (F1.next hb2).below
      clear hb2 F1 c0 c1 c2 c3 e0 e1
      go_wp2
      go_ret2
      exact ⟨rfl, HF.out⟩
    · rw [hic] at HC
      have hcb := isC_bd hic
      have hrb := resI_bd x (cc, hh) hsg hcb
      have HR := Lib.hid (fun W => resultOf_any x cc hh W hsg hcb)
      simp only [and_self, if_true]
      clear hc hk hx hsg hcb
      generalize resI x (cc, hh) = rs at *
      obtain ⟨c0, c1, c2, c3, -⟩ := (F0.blk _ (List.mem_cons_of_mem _ (List.mem_cons_of_mem _ List.mem_cons_self))).four
      obtain ⟨d0, d1, d2, d3, d4, d5, d6, d7, d8, d9, d10, d11, d12, d13, -⟩ := Blk.fourteen (x := x) (F0.blk _ (List.mem_cons_of_mem _ List.mem_cons_self))
      go_enter Try.func26, Try.ntmps26
      go_wp2_with fail
      refine (HV.out _).mono ?_
      rintro e w2 ⟨rfl, hb2⟩
      have F1 := F0.next hb2
      clear hb2 F0 c0 c1 c2 c3 d0 d1 d2 d3 d4 d5 d6 d7 d8 d9 d10 d11 d12 d13
      obtain ⟨c0, c1, c2, c3, -⟩ := (F1.blk _ (List.mem_cons_of_mem _ (List.mem_cons_of_mem _ List.mem_cons_self))).four
      obtain ⟨e0, e1, -⟩ := (F1.blk _ List.mem_cons_self).two
      go_wp2_with fail
      refine (HC.out _).mono ?_
      rintro e w3 ⟨rfl, hb2⟩
      have F2 := F1.next hb2
      clear hb2 F1 c0 c1 c2 c3 e0 e1
      obtain ⟨e0, e1, -⟩ := (F2.blk _ List.mem_cons_self).two
      obtain ⟨d0, d1, d2, d3, d4, d5, d6, d7, d8, d9, d10, d11, d12, d13, -⟩ := Blk.fourteen (x := x) (F2.blk _ (List.mem_cons_of_mem _ List.mem_cons_self))
      go_wp2_with fail
      refine (HR.out _).mono ?_
      rintro e w4 ⟨rfl, hb2⟩
      have HF := Lib.hid (F2.next hb2).below
      clear hb2 F2 e0 e1 d0 d1 d2 d3 d4 d5 d6 d7 d8 d9 d10 d11 d12 d13
      go_wp2
      go_ret2
      exact ⟨rfl, HF.out⟩
set_option maxHeartbeats 4000000 in
theorem specResultOf_any (c k : Int) (n g : Bool) (x : Nat → Int) (cc : Int) (hh : Bool) (w : World) (hc : B8 c) (hk : B8 k) (hx : W8 x) :
    Calls Try.prog 25 #[taskV c k n g, weigV x, caseV cc hh] w fun e w' => e = .returned (.tuple #[.int .i64 (roV c k n g x (cc, hh)), .int .i64 (roC c k n g x (cc, hh))]) ∧ Below w.heap.size w w' := by
  have F0 := (((FR.start w).box #[.int .i8 c, .int .i8 k, .bool n, .bool g] 26).box (weigC x) 44).box #[.int .i8 cc, .bool hh] 39
  simp only [World.size_alloc] at F0
  have HV := Lib.hid (fun W => specValidWeighing_any c k n g x W hc hk hx)
  unfold roV roC
  cases hok : okG c k g x
  · rw [hok] at HV
    simp only [Bool.false_eq_true, false_and, if_false]
    clear hc hk hx
    obtain ⟨c0, c1, c2, c3, -⟩ := (F0.blk _ (List.mem_cons_of_mem _ (List.mem_cons_of_mem _ List.mem_cons_self))).four
    obtain ⟨d0, d1, d2, d3, d4, d5, d6, d7, d8, d9, d10, d11, d12, d13, -⟩ := Blk.fourteen (x := x) (F0.blk _ (List.mem_cons_of_mem _ List.mem_cons_self))
    go_enter Try.func25, Try.ntmps25
    go_wp2_with fail
    refine (HV.out _).mono ?_
    rintro e w2 ⟨rfl, hb2⟩
    have HF := Lib.hid (F0.next hb2).below
    clear hb2 F0 c0 c1 c2 c3 d0 d1 d2 d3 d4 d5 d6 d7 d8 d9 d10 d11 d12 d13
    go_wp2
    go_ret2
    exact ⟨rfl, HF.out⟩
  · rw [hok] at HV
    have hsg := okG_sign hok
    have hokt := okG_ok hok
    obtain ⟨hm, hk', hmc⟩ := okT_t hokt
    have HC := Lib.hid (fun W => l03Find_any c.toNat k n g cc hh W hm hk')
    rw [← hmc] at HC
    have hfl := fiV_le (upC k n c.toNat) (cc, hh)
    have hfL : (upC k n c.toNat).length ≤ 27 := by have := upC_len k n c.toNat; omega
    have hfn := fnd_fi c k n (cc, hh) hokt
    cases hic : isC c k n (cc, hh)
    · have hneg : fiV (upC k n c.toNat) (cc, hh) < 0 := by
        rcases Int.lt_or_le (fiV (upC k n c.toNat) (cc, hh)) 0 with h | h
        · exact h
        · have h2 := (hfn.2 (by omega)).2
          unfold isC at hic
          rw [h2] at hic
          simp at hic
      clear hm hk' hmc hfn
      generalize fiV (upC k n c.toNat) (cc, hh) = fi at *
      simp only [Bool.false_eq_true, and_false, if_false, if_true]
      clear hc hk hx
      obtain ⟨c0, c1, c2, c3, -⟩ := (F0.blk _ (List.mem_cons_of_mem _ (List.mem_cons_of_mem _ List.mem_cons_self))).four
      obtain ⟨d0, d1, d2, d3, d4, d5, d6, d7, d8, d9, d10, d11, d12, d13, -⟩ := Blk.fourteen (x := x) (F0.blk _ (List.mem_cons_of_mem _ List.mem_cons_self))
      go_enter Try.func25, Try.ntmps25
      go_wp2_with fail
      refine (HV.out _).mono ?_
      rintro e w2 ⟨rfl, hb2⟩
      have F1 := F0.next hb2
      clear hb2 F0 c0 c1 c2 c3 d0 d1 d2 d3 d4 d5 d6 d7 d8 d9 d10 d11 d12 d13
      obtain ⟨c0, c1, c2, c3, -⟩ := (F1.blk _ (List.mem_cons_of_mem _ (List.mem_cons_of_mem _ List.mem_cons_self))).four
      obtain ⟨e0, e1, -⟩ := (F1.blk _ List.mem_cons_self).two
      go_wp2_with fail
      refine (HC.out _).mono ?_
      rintro e w3 ⟨rfl, hb2⟩
      have HF := Lib.hid (F1.next hb2).below
      clear hb2 F1 c0 c1 c2 c3 e0 e1
      go_wp2
      go_ret2
      exact ⟨rfl, HF.out⟩
    · have hpos : ¬ fiV (upC k n c.toNat) (cc, hh) < 0 := fun h => by
        have h2 := (hfn.1 h).2
        unfold isC at hic
        rw [h2] at hic
        simp at hic
      have hfi27 : fiV (upC k n c.toNat) (cc, hh) ≤ 27 := by omega
      clear hm hk' hmc hfn
      generalize fiV (upC k n c.toNat) (cc, hh) = fi at *
      have hcb := isC_bd hic
      have hrb := resI_bd x (cc, hh) hsg hcb
      have HR := Lib.hid (fun W => l03Result_any x cc hh W hsg hcb)
      simp only [and_self, if_true]
      clear hc hk hx hsg hcb
      generalize resI x (cc, hh) = rs at *
      obtain ⟨c0, c1, c2, c3, -⟩ := (F0.blk _ (List.mem_cons_of_mem _ (List.mem_cons_of_mem _ List.mem_cons_self))).four
      obtain ⟨d0, d1, d2, d3, d4, d5, d6, d7, d8, d9, d10, d11, d12, d13, -⟩ := Blk.fourteen (x := x) (F0.blk _ (List.mem_cons_of_mem _ List.mem_cons_self))
      go_enter Try.func25, Try.ntmps25
      go_wp2_with fail
      refine (HV.out _).mono ?_
      rintro e w2 ⟨rfl, hb2⟩
      have F1 := F0.next hb2
      clear hb2 F0 c0 c1 c2 c3 d0 d1 d2 d3 d4 d5 d6 d7 d8 d9 d10 d11 d12 d13
      obtain ⟨c0, c1, c2, c3, -⟩ := (F1.blk _ (List.mem_cons_of_mem _ (List.mem_cons_of_mem _ List.mem_cons_self))).four
      obtain ⟨e0, e1, -⟩ := (F1.blk _ List.mem_cons_self).two
      go_wp2_with fail
      refine (HC.out _).mono ?_
      rintro e w3 ⟨rfl, hb2⟩
      have F2 := F1.next hb2
      clear hb2 F1 c0 c1 c2 c3 e0 e1
      obtain ⟨e0, e1, -⟩ := (F2.blk _ List.mem_cons_self).two
      obtain ⟨d0, d1, d2, d3, d4, d5, d6, d7, d8, d9, d10, d11, d12, d13, -⟩ := Blk.fourteen (x := x) (F2.blk _ (List.mem_cons_of_mem _ List.mem_cons_self))
      go_wp2_with fail
      refine (HR.out _).mono ?_
      rintro e w4 ⟨rfl, hb2⟩
      have HF := Lib.hid (F2.next hb2).below
      clear hb2 F2 e0 e1 d0 d1 d2 d3 d4 d5 d6 d7 d8 d9 d10 d11 d12 d13
      go_wp2
      go_ret2
      exact ⟨rfl, HF.out⟩
end Go.Proofs.Ytgckboaejpgalaa
