/-
  LeastCrossings, the program's and the model's.
-/
import Derived.Test.YtbjipljnpibkpaaY27
import Derived.Deep.DeepCutAuto
import Derived.Deep.RegionHeld3
namespace Go.Proofs.Ytbjipljnpibkpaa
open Go.RowKit
set_option maxRecDepth 100000
set_option linter.unusedVariables false

theorem retii {a b c d : Int} (h : a = b) (h2 : c = d) : Ending.returned (.tuple #[.int .i64 a, .int .i64 c]) = .returned (.tuple #[.int .i64 b, .int .i64 d]) := by rw [h, h2]
theorem lc_1 {l k : Int} {xs tbl : List Int} (h : ¬ tabC l k xs tbl = 0) : ccV l k xs tbl = false ∧ lcW l k xs tbl = 0 ∧ lcE l k xs tbl = tabC l k xs tbl := by
  have h1 : ccV l k xs tbl = false := by unfold ccV; rw [decide_eq_false h]; rfl
  refine ⟨h1, ?_, ?_⟩
  · unfold lcW; rw [h1]; rfl
  · unfold lcE; rw [if_neg h]
theorem lc_2 {l k : Int} {xs tbl : List Int} (h : tabC l k xs tbl = 0) (h2 : prfX l k xs tbl = false) : ccV l k xs tbl = false ∧ lcW l k xs tbl = 0 ∧ lcE l k xs tbl = 8 := by
  have h1 : ccV l k xs tbl = false := by unfold ccV; rw [h2]; simp
  refine ⟨h1, ?_, ?_⟩
  · unfold lcW; rw [h1]; rfl
  · unfold lcE; rw [if_pos h, h2]; rfl
theorem lc_3 {l k : Int} {xs tbl : List Int} (h : tabC l k xs tbl = 0) (h2 : prfX l k xs tbl = true) : ccV l k xs tbl = true ∧ (tbl.getD (allI l + 1).toNat 0 < 0 → lcW l k xs tbl = 0 ∧ lcE l k xs tbl = 6) ∧ (0 ≤ tbl.getD (allI l + 1).toNat 0 → lcW l k xs tbl = tbl.getD (allI l + 1).toNat 0 ∧ lcE l k xs tbl = 0) := by
  have h1 : ccV l k xs tbl = true := by unfold ccV; rw [h2, h]; rfl
  refine ⟨h1, fun h3 => ⟨?_, ?_⟩, fun h3 => ⟨?_, ?_⟩⟩
  · unfold lcW; rw [if_pos h1, if_pos h3]
  · unfold lcE; rw [if_pos h, if_pos h2, if_pos h3]
  · unfold lcW; rw [if_pos h1, if_neg (by omega)]
  · unfold lcE; rw [if_pos h, if_pos h2, if_neg (by omega)]
theorem specLeastCrossings_any (l k : Int) (a : Option Addr) (c : Nat) (xs : List Int) (ta : Option Addr) (tc : Nat) (tbl : List Int) (w : World) (hs : Sl .u16 w.heap.size w a xs) (ht : Sl .i16 w.heap.size w ta tbl) (hl : B8 l) (hk : B8 k) (hn : xs.length ≤ 1048576) (hw : U16 xs) (htn : tbl.length ≤ 1048576) (h16 : I16 tbl) :
    Calls Try.prog 30 #[ferV l k a xs.length c, .slice ta tbl.length tc] w fun e w' => e = .returned (.tuple #[.int .i64 (lcW l k xs tbl), .int .i64 (lcE l k xs tbl)]) ∧ Below w.heap.size w w' := by
  have F0 := (FR.start w).box #[.int .i8 l, .int .i8 k, .slice a xs.length c] 30
  have HT := Lib.hid (l05Tabled_any w.heap.size l k a c xs ta tc tbl _ (F0.blk _ List.mem_cons_self) (hs.up F0.below (Nat.le_refl _)) hl hk hn hw htn)
  have HF := Lib.hid F0
  by_cases h0 : tabC l k xs tbl = 0
  case neg =>
    have HR := Lib.hid (lc_1 h0)
    clear F0 hs ht hl hk hw
    generalize tabC l k xs tbl = tcc at *
    have e0 : (tcc == 0) = false := by rw [beq_eq_false_iff_ne]; exact h0
    go_enter Try.func30, Try.ntmps30
    go_wp2_with fail
    refine HT.out.mono ?_
    rintro e w2 ⟨rfl, hd⟩
    have HB := Lib.hid (HF.out.next hd.below).below
    clear hd
    go_wp2
    go_ret2
    exact ⟨retii HR.out.2.1.symm HR.out.2.2.symm, HB.out⟩
  have hok := tabC_ok h0
  have h8 := (okY_t hok.1).1
  have HP := Lib.hid (fun (W : World) (h : FR w [(w.heap.size, #[.int .i8 l, .int .i8 k, .slice a xs.length c], 30)] W) => l05Proof_any w.heap.size l k a c xs ta tc tbl W (h.blk _ List.mem_cons_self) (hs.up h.below (Nat.le_refl _)) (ht.up h.below (Nat.le_refl _)) hn h8 (by have := okY_t hok.1; omega) hok.2 h16)
  have HL := Lib.hid (fun (W : World) (h : FR w [(w.heap.size, #[.int .i8 l, .int .i8 k, .slice a xs.length c], 30)] W) => l05Last_any w.heap.size l _ _ W (h.blk _ List.mem_cons_self) h8)
  cases hp : prfX l k xs tbl
  · have HR := Lib.hid (lc_2 h0 hp)
    rw [hp] at HP
    rw [h0] at HT
    clear F0 hs ht hl hk hw hok h0 h8 HL
    go_enter Try.func30, Try.ntmps30
    go_wp2_with fail
    refine HT.out.mono ?_
    rintro e w2 ⟨rfl, hd⟩
    have HF2 := Lib.hid (HF.out.next hd.below)
    clear hd
    go_wp2_with fail
    refine (HP.out _ HF2.out).mono ?_
    rintro e w3 ⟨rfl, hb⟩
    have HB := Lib.hid (HF2.out.next hb).below
    clear hb
    go_wp2
    go_ret2
    exact ⟨retii HR.out.2.1.symm HR.out.2.2.symm, HB.out⟩
  have HR := Lib.hid (lc_3 h0 hp)
  have hal := allI_le h8
  have HTB := Lib.hid (show ∃ b off, ta = some ⟨b, off, none⟩ ∧ ∀ j, j < tbl.length → ∀ W', Below w.heap.size w W' → W'.cell? ⟨b, off + j, none⟩ = some (.int .i16 (tbl.getD j 0)) from by
    rcases ht with h | ⟨b, off, e, hlt, h⟩
    · have := hok.2; rw [h] at this; simp at this; omega
    · exact ⟨b, off, e, fun j hj W' hW' => (h.below hW' hlt) j hj⟩)
  have hlen := hok.2
  rw [hp] at HP
  rw [h0] at HT
  clear F0 hs ht hl hk hw hok h0 h8 hp
  obtain ⟨tb, toff, rfl, hcell⟩ := HTB.out
  obtain ⟨q, hq⟩ : ∃ q : Nat, allI l + 1 = q := ⟨(allI l + 1).toNat, by omega⟩
  have hqt : q < tbl.length := by omega
  have hqz : (q : Int) < (tbl.length : Int) := by omega
  have HC := Lib.hid (fun W hW => hcell q hqt W hW)
  have hv16 := h16 q
  rw [hq] at HR HL
  simp only [Int.toNat_natCast] at HR
  clear hcell HTB hq hlen hqt
  generalize tbl.getD q 0 = v at *
  generalize tbl.length = tn at *
  go_enter Try.func30, Try.ntmps30
  go_wp2_with fail
  refine HT.out.mono ?_
  rintro e w2 ⟨rfl, hd⟩
  have HF2 := Lib.hid (HF.out.next hd.below)
  clear hd
  go_wp2_with fail
  refine (HP.out _ HF2.out).mono ?_
  rintro e w3 ⟨rfl, hb⟩
  have HF3 := Lib.hid (HF2.out.next hb)
  clear hb
  go_wp2_with fail
  refine (HL.out _ HF3.out).mono ?_
  rintro e w4 ⟨rfl, rfl⟩
  have hc := HC.out _ HF3.out.below
  by_cases hv : v < 0
  · have HR2 := Lib.hid (HR.out.2.1 hv)
    go_wp2
    go_ret2
    exact ⟨retii HR2.out.1.symm HR2.out.2.symm, HF3.out.below⟩
  · have HR2 := Lib.hid (HR.out.2.2 (by omega))
    go_wp2
    go_ret2
    exact ⟨retii HR2.out.1.symm HR2.out.2.symm, HF3.out.below⟩
theorem leastCrossings_any (l k : Int) (a : Option Addr) (c : Nat) (xs : List Int) (ta : Option Addr) (tc : Nat) (tbl : List Int) (w : World) (hs : Sl .u16 w.heap.size w a xs) (ht : Sl .i16 w.heap.size w ta tbl) (hl : B8 l) (hk : B8 k) (hn : xs.length ≤ 1048576) (hw : U16 xs) (htn : tbl.length ≤ 1048576) (h16 : I16 tbl) :
    Calls Try.prog 31 #[ferV l k a xs.length c, .slice ta tbl.length tc] w fun e w' => e = .returned (.tuple #[.int .i64 (lcW l k xs tbl), .int .i64 (lcE l k xs tbl)]) ∧ Below w.heap.size w w' := by
  have F0 := (FR.start w).box #[.int .i8 l, .int .i8 k, .slice a xs.length c] 30
  obtain ⟨c0, c1, c2, -⟩ := (F0.blk _ List.mem_cons_self).three
  have HCC := Lib.hid (checkCrossings_any l k a c xs ta tc tbl _ (hs.up F0.below (Nat.le_refl _)) (ht.up F0.below (Nat.le_refl _)) hl hk hn hw htn h16)
  by_cases h0 : tabC l k xs tbl = 0
  case neg =>
    have HR := Lib.hid (lc_1 h0)
    rw [HR.out.1] at HCC
    clear hs ht hl hk hw
    generalize tabC l k xs tbl = tcc at *
    have e0 : (tcc == 0) = false := by rw [beq_eq_false_iff_ne]; exact h0
    go_enter Try.func31, Try.ntmps31
    go_wp2_with fail
    refine HCC.out.mono ?_
    rintro e w2 ⟨rfl, hb⟩
    have HB := Lib.hid (F0.next hb).below
    clear hb F0 c0 c1 c2
    go_wp2
    go_ret2
    exact ⟨retii HR.out.2.1.symm HR.out.2.2.symm, HB.out⟩
  cases hp : prfX l k xs tbl
  · have HR := Lib.hid (lc_2 h0 hp)
    rw [HR.out.1, h0] at HCC
    clear hs ht hl hk hw h0
    go_enter Try.func31, Try.ntmps31
    go_wp2_with fail
    refine HCC.out.mono ?_
    rintro e w2 ⟨rfl, hb⟩
    have HB := Lib.hid (F0.next hb).below
    clear hb F0 c0 c1 c2
    go_wp2
    go_ret2
    exact ⟨retii HR.out.2.1.symm HR.out.2.2.symm, HB.out⟩
  have HR := Lib.hid (lc_3 h0 hp)
  have hok := tabC_ok h0
  have h8 := (okY_t hok.1).1
  have hal := allI_le h8
  have HTB := Lib.hid (show ∃ b off, ta = some ⟨b, off, none⟩ ∧ ∀ j, j < tbl.length → ∀ W', Below w.heap.size w W' → W'.cell? ⟨b, off + j, none⟩ = some (.int .i16 (tbl.getD j 0)) from by
    rcases ht with h | ⟨b, off, e, hlt, h⟩
    · have := hok.2; rw [h] at this; simp at this; omega
    · exact ⟨b, off, e, fun j hj W' hW' => (h.below hW' hlt) j hj⟩)
  have hlen := hok.2
  have HNu := Lib.hid (fun W => number_any l k a xs.length c 0 true W h8 (by omega))
  rw [HR.out.1, h0] at HCC
  have HGE := Lib.hid (fun (i : Nat) hi => prfX_ge hp (i := i) hi)
  clear hs ht hl hk hw hok h0 h8 hp
  obtain ⟨tb, toff, rfl, hcell⟩ := HTB.out
  obtain ⟨q, hq⟩ : ∃ q : Nat, allI l + 1 = q := ⟨(allI l + 1).toNat, by omega⟩
  have HQ := Lib.hid (show nmI l 0 true = (q : Int) by unfold nmI; simp; omega)
  have hqt : q < tbl.length := by omega
  have hqz : (q : Int) < (tbl.length : Int) := by omega
  have HC := Lib.hid (fun W hW => hcell q hqt W hW)
  have hv16 := h16 q
  have hvge := HGE.out q hqt
  rw [hq] at HR
  rw [HQ.out] at HNu
  simp only [Int.toNat_natCast] at HR
  clear hcell HTB hq hlen hqt HGE
  generalize tbl.getD q 0 = v at *
  generalize tbl.length = tn at *
  go_enter Try.func31, Try.ntmps31
  go_wp2_with fail
  refine HCC.out.mono ?_
  rintro e w2 ⟨rfl, hb⟩
  have F1 := F0.next hb
  clear hb F0 c0 c1 c2
  have F2 := F1.drew
  go_upto_region 6 with fail
  go_region_held3 (fun w' => w'.cell? ⟨w.heap.size, 0, none⟩ = some (.int .i8 l) ∧ w'.cell? ⟨w.heap.size, 1, none⟩ = some (.int .i8 k) ∧ w'.cell? ⟨w.heap.size, 2, none⟩ = some (.slice a xs.length c) ∧ w'.cell? ⟨tb, toff + q, none⟩ = some (.int .i16 v))
    (first
      | exact ⟨(F4.blk _ List.mem_cons_self).cell 0, (F4.blk _ List.mem_cons_self).cell 1, (F4.blk _ List.mem_cons_self).cell 2, HC.out _ F4.below⟩
      | exact ⟨(F3.blk _ List.mem_cons_self).cell 0, (F3.blk _ List.mem_cons_self).cell 1, (F3.blk _ List.mem_cons_self).cell 2, HC.out _ F3.below⟩
      | exact ⟨(F2.blk _ List.mem_cons_self).cell 0, (F2.blk _ List.mem_cons_self).cell 1, (F2.blk _ List.mem_cons_self).cell 2, HC.out _ F2.below⟩)
    (first
      | (go_at_call 42; with_reducible refine (Calls.fr F2 (lastBank_any _)).mono ?_; rintro e w3 ⟨rfl, F3⟩)
      | (go_at_call 40; with_reducible refine (Calls.fr F3 (HNu.out _)).mono ?_; rintro e w4 ⟨rfl, F4⟩))
  have HB := Lib.hid F4.below
  clear F1 F2 F3 F4
  by_cases hv : v = -1
  · have HR2 := Lib.hid (HR.out.2.1 (by omega))
    subst hv
    go_wp2
    go_ret2
    exact ⟨retii HR2.out.1.symm HR2.out.2.symm, HB.out⟩
  · have HR2 := Lib.hid (HR.out.2.2 (by omega))
    have e1 : (v == -1) = false := by rw [beq_eq_false_iff_ne]; exact hv
    go_wp2
    go_ret2
    exact ⟨retii HR2.out.1.symm HR2.out.2.symm, HB.out⟩
end Go.Proofs.Ytbjipljnpibkpaa
