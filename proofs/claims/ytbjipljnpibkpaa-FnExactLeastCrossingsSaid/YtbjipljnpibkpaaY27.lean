/-
  CheckCrossings and LeastCrossings, the program's and the model's.
-/
import Derived.Test.YtbjipljnpibkpaaY26
namespace Go.Proofs.Ytbjipljnpibkpaa
open Go.RowKit
set_option maxRecDepth 100000
set_option linter.unusedVariables false

/-- The code of a ferry and a table. -/
def tabC (l k : Int) (xs tbl : List Int) : Int := if okY l k xs = true then (if (tbl.length : Int) = 2 * (allI l + 1) then 0 else 2) else 1
theorem tabC_1 {l k : Int} {xs tbl : List Int} (h : okY l k xs = false) : tabC l k xs tbl = 1 := by unfold tabC; rw [h]; rfl
theorem tabC_2 {l k : Int} {xs tbl : List Int} (h : okY l k xs = true) (h2 : ¬ (tbl.length : Int) = 2 * (allI l + 1)) : tabC l k xs tbl = 2 := by unfold tabC; rw [if_pos h, if_neg h2]
theorem tabC_0 {l k : Int} {xs tbl : List Int} (h : okY l k xs = true) (h2 : (tbl.length : Int) = 2 * (allI l + 1)) : tabC l k xs tbl = 0 := by unfold tabC; rw [if_pos h, if_pos h2]
theorem tabC_3 (l k : Int) (xs tbl : List Int) : tabC l k xs tbl = 0 ∨ tabC l k xs tbl = 1 ∨ tabC l k xs tbl = 2 := by
  unfold tabC; split
  · split <;> simp
  · simp
theorem tabC_ok {l k : Int} {xs tbl : List Int} (h : tabC l k xs tbl = 0) : okY l k xs = true ∧ (tbl.length : Int) = 2 * (allI l + 1) := by
  unfold tabC at h
  by_cases h1 : okY l k xs = true
  · rw [if_pos h1] at h
    by_cases h2 : (tbl.length : Int) = 2 * (allI l + 1)
    · exact ⟨h1, h2⟩
    · rw [if_neg h2] at h; omega
  · rw [if_neg h1] at h; omega
def ccV (l k : Int) (xs tbl : List Int) : Bool := decide (tabC l k xs tbl = 0) && prfX l k xs tbl
def lcW (l k : Int) (xs tbl : List Int) : Int := if ccV l k xs tbl = true then (if tbl.getD (allI l + 1).toNat 0 < 0 then 0 else tbl.getD (allI l + 1).toNat 0) else 0
def lcE (l k : Int) (xs tbl : List Int) : Int := if tabC l k xs tbl = 0 then (if prfX l k xs tbl = true then (if tbl.getD (allI l + 1).toNat 0 < 0 then 6 else 0) else 8) else tabC l k xs tbl
theorem prfX_ge {l k : Int} {xs tbl : List Int} (h : prfX l k xs tbl = true) {i : Nat} (hi : i < tbl.length) : -1 ≤ tbl.getD i 0 := by
  by_cases h1 : tbl.getD i 0 < -1
  · rw [prfX_f hi (badP_lo h1)] at h; cases h
  · omega
theorem l05Tabled_any (fb : Nat) (l k : Int) (a : Option Addr) (c : Nat) (xs : List Int) (ta : Option Addr) (tc : Nat) (tbl : List Int) (w : World) (K : Blk w fb #[.int .i8 l, .int .i8 k, .slice a xs.length c] 30) (hs : Sl .u16 w.heap.size w a xs) (hl : B8 l) (hk : B8 k) (hn : xs.length ≤ 1048576) (hw : U16 xs) (htn : tbl.length ≤ 1048576) :
    Calls Try.prog 44 #[.pointer (some ⟨fb, 0, none⟩), .slice ta tbl.length tc] w fun e w' => e = .returned (.int .i64 (tabC l k xs tbl)) ∧ Dr w w' := by
  have HO := Lib.hid (l05Ok_any fb l k a c xs w K hs hl hk hn hw)
  have HK := Lib.hid K
  clear hs hl hk hn hw K
  cases hok : okY l k xs
  · have HR := Lib.hid (tabC_1 (tbl := tbl) hok)
    rw [hok] at HO
    clear hok
    go_enter Try.func44, Try.ntmps44
    go_wp2_with fail
    refine HO.out.mono ?_
    rintro e w2 ⟨rfl, hd⟩
    have HD := Lib.hid hd
    clear hd
    go_wp2
    go_ret
    exact ⟨reti HR.out.symm, HD.out⟩
  have h8 := (okY_t hok).1
  have hal := allI_le h8
  have HT2 := Lib.hid (fun h => tabC_2 (tbl := tbl) hok h)
  have HT0 := Lib.hid (fun h => tabC_0 (tbl := tbl) hok h)
  have HA := Lib.hid (fun W (h : Blk W fb #[.int .i8 l, .int .i8 k, .slice a xs.length c] 30) => l05All_any fb l _ _ W h h8)
  rw [hok] at HO
  clear hok h8
  generalize allI l = al at *
  obtain ⟨tn, htn2⟩ : ∃ tn, tbl.length = tn := ⟨_, rfl⟩
  rw [htn2] at HT2 HT0 htn ⊢
  clear htn2
  by_cases hT : (tn : Int) = 2 * (al + 1)
  · have HR := Lib.hid (HT0.out hT)
    clear HT2 HT0
    have e1 : ((tn : Int) == 2 * (al + 1)) = true := by rw [beq_iff_eq]; exact hT
    go_enter Try.func44, Try.ntmps44
    go_wp2_with fail
    refine HO.out.mono ?_
    rintro e w2 ⟨rfl, hd⟩
    have HD := Lib.hid hd
    clear hd
    go_wp2_with fail
    refine (HA.out _ (HD.out.blk HK.out)).mono ?_
    rintro e w3 ⟨rfl, rfl⟩
    go_wp2
    go_ret
    exact ⟨reti HR.out.symm, HD.out⟩
  · have HR := Lib.hid (HT2.out hT)
    clear HT2 HT0
    have e1 : ((tn : Int) == 2 * (al + 1)) = false := by rw [beq_eq_false_iff_ne]; exact hT
    go_enter Try.func44, Try.ntmps44
    go_wp2_with fail
    refine HO.out.mono ?_
    rintro e w2 ⟨rfl, hd⟩
    have HD := Lib.hid hd
    clear hd
    go_wp2_with fail
    refine (HA.out _ (HD.out.blk HK.out)).mono ?_
    rintro e w3 ⟨rfl, rfl⟩
    go_wp2
    go_ret
    exact ⟨reti HR.out.symm, HD.out⟩
theorem retbi2 {a b : Bool} {c d : Int} (h : a = b) (h2 : c = d) : Ending.returned (.tuple #[.bool a, .int .i64 c]) = .returned (.tuple #[.bool b, .int .i64 d]) := by rw [h, h2]
theorem specCheckCrossings_any (l k : Int) (a : Option Addr) (c : Nat) (xs : List Int) (ta : Option Addr) (tc : Nat) (tbl : List Int) (w : World) (hs : Sl .u16 w.heap.size w a xs) (ht : Sl .i16 w.heap.size w ta tbl) (hl : B8 l) (hk : B8 k) (hn : xs.length ≤ 1048576) (hw : U16 xs) (htn : tbl.length ≤ 1048576) (h16 : I16 tbl) :
    Calls Try.prog 27 #[ferV l k a xs.length c, .slice ta tbl.length tc] w fun e w' => e = .returned (.tuple #[.bool (ccV l k xs tbl), .int .i64 (tabC l k xs tbl)]) ∧ Below w.heap.size w w' := by
  have F0 := (FR.start w).box #[.int .i8 l, .int .i8 k, .slice a xs.length c] 30
  have HT := Lib.hid (l05Tabled_any w.heap.size l k a c xs ta tc tbl _ (F0.blk _ List.mem_cons_self) (hs.up F0.below (Nat.le_refl _)) hl hk hn hw htn)
  have HF := Lib.hid F0
  by_cases h0 : tabC l k xs tbl = 0
  case neg =>
    have HR := Lib.hid (show ccV l k xs tbl = false by unfold ccV; rw [decide_eq_false h0]; rfl)
    clear F0 hs ht hl hk hw
    generalize tabC l k xs tbl = tcc at *
    have e0 : (tcc == 0) = false := by rw [beq_eq_false_iff_ne]; exact h0
    go_enter Try.func27, Try.ntmps27
    go_wp2_with fail
    refine HT.out.mono ?_
    rintro e w2 ⟨rfl, hd⟩
    have HB := Lib.hid (HF.out.next hd.below).below
    clear hd
    go_wp2
    go_ret2
    exact ⟨retbi2 HR.out.symm rfl, HB.out⟩
  have hok := tabC_ok h0
  have HR := Lib.hid (show ccV l k xs tbl = prfX l k xs tbl by unfold ccV; rw [decide_eq_true h0, Bool.true_and])
  have HP := Lib.hid (fun (W : World) (h : FR w [(w.heap.size, #[.int .i8 l, .int .i8 k, .slice a xs.length c], 30)] W) => l05Proof_any w.heap.size l k a c xs ta tc tbl W (h.blk _ List.mem_cons_self) (hs.up h.below (Nat.le_refl _)) (ht.up h.below (Nat.le_refl _)) hn (okY_t hok.1).1 (by have := okY_t hok.1; omega) hok.2 h16)
  rw [h0] at HT ⊢
  clear F0 hs ht hl hk hw hok h0
  generalize prfX l k xs tbl = r at *
  go_enter Try.func27, Try.ntmps27
  go_wp2_with fail
  refine HT.out.mono ?_
  rintro e w2 ⟨rfl, hd⟩
  have HF2 := Lib.hid (HF.out.next hd.below)
  clear hd
  go_wp2_with fail
  refine (HP.out _ HF2.out).mono ?_
  rintro e w3 ⟨rfl, hb⟩
  have HB := Lib.hid (HF2.out.next hb).below
  clear hb
  go_wp2
  go_ret2
  exact ⟨retbi2 HR.out.symm rfl, HB.out⟩
theorem checkCrossings_any (l k : Int) (a : Option Addr) (c : Nat) (xs : List Int) (ta : Option Addr) (tc : Nat) (tbl : List Int) (w : World) (hs : Sl .u16 w.heap.size w a xs) (ht : Sl .i16 w.heap.size w ta tbl) (hl : B8 l) (hk : B8 k) (hn : xs.length ≤ 1048576) (hw : U16 xs) (htn : tbl.length ≤ 1048576) (h16 : I16 tbl) :
    Calls Try.prog 29 #[ferV l k a xs.length c, .slice ta tbl.length tc] w fun e w' => e = .returned (.tuple #[.bool (ccV l k xs tbl), .int .i64 (tabC l k xs tbl)]) ∧ Below w.heap.size w w' := by
  have F0 := (FR.start w).box #[.int .i8 l, .int .i8 k, .slice a xs.length c] 30
  obtain ⟨c0, c1, c2, -⟩ := (F0.blk _ List.mem_cons_self).three
  have HV := Lib.hid (validFerry_any l k a c xs _ (hs.up F0.below (Nat.le_refl _)) hl hk hn hw)
  cases hok : okY l k xs
  · have HR := Lib.hid (And.intro (tabC_1 (tbl := tbl) hok) (show ccV l k xs tbl = false by unfold ccV; rw [tabC_1 hok]; rfl))
    rw [hok] at HV
    clear hok hs ht hl hk hw
    go_enter Try.func29, Try.ntmps29
    go_wp2_with fail
    refine HV.out.mono ?_
    rintro e w2 ⟨rfl, hb⟩
    have HB := Lib.hid (F0.next hb).below
    clear hb F0 c0 c1 c2
    go_wp2
    go_ret2
    exact ⟨retbi2 HR.out.2.symm HR.out.1.symm, HB.out⟩
  have h8 := (okY_t hok).1
  have hk8 : 0 ≤ k ∧ k ≤ 8 := by have := okY_t hok; omega
  have HCB := Lib.hid (fun W => countBanks_any l k a xs.length c W h8)
  rw [hok] at HV
  by_cases hT : (tbl.length : Int) = 2 * (allI l + 1)
  · have HR := Lib.hid (And.intro (tabC_0 (tbl := tbl) hok hT) (show ccV l k xs tbl = prfX l k xs tbl by unfold ccV; rw [tabC_0 hok hT]; rfl))
    have HP := Lib.hid (fun (W : World) (h : Below w.heap.size w W) => isProof_any l k a c xs ta tc tbl W (hs.up h (Nat.le_refl _)) (ht.up h (Nat.le_refl _)) hn hw h8 hk8 hT h16)
    have e1 : ((tbl.length : Int) == 2 * (allI l + 1)) = true := by rw [beq_iff_eq]; exact hT
    have e2 : ((tbl.length : Int) != 2 * (allI l + 1)) = false := by rw [bne, e1]; rfl
    clear hok hs ht hl hk hw h8 hk8
    generalize prfX l k xs tbl = r at *
    generalize tbl.length = tn at *
    generalize allI l = al at *
    go_enter Try.func29, Try.ntmps29
    go_wp2_with fail
    refine HV.out.mono ?_
    rintro e w2 ⟨rfl, hb⟩
    have F1 := F0.next hb
    clear hb F0 c0 c1 c2
    obtain ⟨c0, c1, c2, -⟩ := (F1.blk _ List.mem_cons_self).three
    go_wp2_with fail
    refine (HCB.out _).mono ?_
    rintro e w3 ⟨rfl, hb⟩
    have F2 := F1.next hb
    clear hb F1 c0 c1 c2
    obtain ⟨c0, c1, c2, -⟩ := (F2.blk _ List.mem_cons_self).three
    go_wp2_with fail
    refine (HP.out _ F2.below).mono ?_
    rintro e w4 ⟨rfl, hb⟩
    have HB := Lib.hid (F2.next hb).below
    clear hb F2 c0 c1 c2
    go_wp2
    go_ret2
    exact ⟨retbi2 HR.out.2.symm HR.out.1.symm, HB.out⟩
  · have HR := Lib.hid (And.intro (tabC_2 (tbl := tbl) hok hT) (show ccV l k xs tbl = false by unfold ccV; rw [tabC_2 hok hT]; rfl))
    have e1 : ((tbl.length : Int) == 2 * (allI l + 1)) = false := by rw [beq_eq_false_iff_ne]; exact hT
    have e2 : ((tbl.length : Int) != 2 * (allI l + 1)) = true := by rw [bne, e1]; rfl
    clear hok hs ht hl hk hw h8 hk8
    generalize tbl.length = tn at *
    generalize allI l = al at *
    go_enter Try.func29, Try.ntmps29
    go_wp2_with fail
    refine HV.out.mono ?_
    rintro e w2 ⟨rfl, hb⟩
    have F1 := F0.next hb
    clear hb F0 c0 c1 c2
    obtain ⟨c0, c1, c2, -⟩ := (F1.blk _ List.mem_cons_self).three
    go_wp2_with fail
    refine (HCB.out _).mono ?_
    rintro e w3 ⟨rfl, hb⟩
    have HB := Lib.hid (F1.next hb).below
    clear hb F1 c0 c1 c2
    go_wp2
    go_ret2
    exact ⟨retbi2 HR.out.2.symm HR.out.1.symm, HB.out⟩
end Go.Proofs.Ytbjipljnpibkpaa
