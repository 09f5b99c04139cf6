/-
  The text of a ferry, in the model.
-/
import Derived.Test.YtgadcggeoonihaaDoorDC
import Derived.Test.YtgadcggeoonihaaDoorTB3F
import Derived.Test.YtgadcggeoonihaaDoorY5
import Derived.Deep.DeepCutAuto
import Derived.Deep.RegionHeld3
namespace Go.Proofs.YtgadcggeoonihaaDoor
open Go.RowKit
set_option maxRecDepth 100000
set_option linter.unusedVariables false

/-- What is written of a ferry, part by part. -/
def ftX (l k : Int) (xs : List Int) (j : Nat) : ByteArray := if j = 0 then dcV l.toNat else if j = 1 then dcV k.toNat else txV (xs.getD (j - 2) 0).toNat
noncomputable def ftV (l k : Int) (xs : List Int) : ByteArray := if okY l k xs = true then jT (ftX l k xs) (xs.length + 2) else ⟨#[]⟩
theorem ft_t {l k : Int} {xs : List Int} (h : okY l k xs = true) : ftV l k xs = jT (ftX l k xs) (xs.length + 2) := if_pos h
theorem ft_f {l k : Int} {xs : List Int} (h : okY l k xs = false) : ftV l k xs = ⟨#[]⟩ := if_neg (by rw [h]; decide)
theorem ftX_two {l k : Int} {xs : List Int} (j : Nat) : ftX l k xs (j + 2) = txV (xs.getD j 0).toNat := by
  unfold ftX
  rw [if_neg (by omega), if_neg (by omega), show j + 2 - 2 = j by omega]
theorem txV_size (x : Nat) : (txV x).size ≤ 8 := by
  unfold txV
  split
  · decide
  · exact txB_size _ _
theorem ftX_size {l k : Int} {xs : List Int} (hl : 0 ≤ l ∧ l ≤ 9) (hk : 0 ≤ k ∧ k ≤ 9) (j : Nat) : (ftX l k xs j).size ≤ 8 := by
  unfold ftX
  split
  · exact Nat.le_trans (dcV_len 1 _ (by omega) (by decide)) (by decide)
  · split
    · exact Nat.le_trans (dcV_len 1 _ (by omega) (by decide)) (by decide)
    · exact txV_size _
theorem ftT_two (l k : Int) (xs : List Int) : jT (ftX l k xs) 2 = dcV l.toNat ++ ⟨#[32]⟩ ++ dcV k.toNat := by
  rw [show (2 : Nat) = 1 + 1 from rfl, jT_more _ (by omega), jT_one]
  rfl
theorem ba_assoc (a b c : ByteArray) : a ++ b ++ c = a ++ (b ++ c) := by
  apply ByteArray.ext
  simp [ByteArray.data_append]
theorem le_of_andNot (x y : BitVec 16) (h : x &&& ~~~y = 0) : x.toNat ≤ y.toNat := by
  have e : x &&& y = x := by
    apply BitVec.eq_of_getLsbD_eq
    intro i hi
    have hb := congrArg (fun z : BitVec 16 => z.getLsbD i) h
    simp only [BitVec.getLsbD_and, BitVec.getLsbD_not, hi, decide_true, Bool.true_and] at hb
    rw [BitVec.getLsbD_and]
    cases hx : x.getLsbD i <;> cases hy : y.getLsbD i <;> simp_all
  rw [← e, BitVec.toNat_and]
  exact Nat.and_le_right
theorem rule_lt {l : Int} {r : Int} (hl : 1 ≤ l ∧ l ≤ 8) (hr : 0 ≤ r ∧ r ≤ 65535) (h : badR l r = false) : r < 256 := by
  have ha := allI_le hl
  unfold badR at h
  rw [Bool.or_eq_false_iff, Bool.not_eq_false', beq_iff_eq] at h
  have h1 := h.1
  rw [bits_andNot] at h1
  have h2 := le_of_andNot (bv r) (bv (allI l)) ((toNat_eq_zero _).1 h1)
  have e1 : ((bv r).toNat : Int) = r := bv_num hr
  have e2 : ((bv (allI l)).toNat : Int) = allI l := bv_num (by omega)
  omega
theorem okY_rule {l k : Int} {xs : List Int} (h : okY l k xs = true) {j : Nat} (hj : j < xs.length) (hw : U16 xs) : xs.getD j 0 < 256 := by
  obtain ⟨h1, -, -, h4⟩ := okY_t h
  refine rule_lt h1 (hw j) ?_
  rw [List.any_eq_false] at h4
  have := h4 _ (List.getElem_mem hj)
  rw [List.getD_eq_getElem?_getD, List.getElem?_eq_getElem hj]
  simpa using this
set_option maxHeartbeats 4000000 in
theorem l05FerryText_any (fb : Nat) (l k : Int) (a : Option Addr) (c : Nat) (xs : List Int) (w : World) (K : Blk w fb #[.int .i8 l, .int .i8 k, .slice a xs.length c] 28) (hs : Sl .u16 w.heap.size w a xs) (hok : okY l k xs = true) (hw : U16 xs) :
    Calls Tryd.prog 16 #[.pointer (some ⟨fb, 0, none⟩)] w fun e w' => e = .returned (.string (jT (ftX l k xs) (xs.length + 2))) ∧ Below w.heap.size w w' := by
  obtain ⟨hl, hk, hn, -⟩ := okY_t hok
  have HSZ := Lib.hid (fun j => jT_size (ftX l k xs) 8 (ftX_size (by omega) (by omega)) j)
  have HTW := Lib.hid (fun j => ftX_two (l := l) (k := k) (xs := xs) j)
  have H2 := Lib.hid (ftT_two l k xs)
  obtain ⟨ln, rfl⟩ : ∃ n : Nat, l = n := ⟨l.toNat, by omega⟩
  obtain ⟨kn, rfl⟩ : ∃ n : Nat, k = n := ⟨k.toNat, by omega⟩
  have hl9 : (ln : Int) ≤ 8 := by omega
  have hk9 : (kn : Int) ≤ 8 := by omega
  have hsl := dcV_len 1 ln (by omega) (by decide)
  have hsk := dcV_len 1 kn (by omega) (by decide)
  have HDl := Lib.hid (fun W => decimal_any ln W (by omega))
  have HDk := Lib.hid (fun W => decimal_any kn W (by omega))
  have hq1 := fun W => run_string_add_sum (P := Tryd.prog) W (dcV ln) ⟨#[32]⟩ (by rw [show (⟨#[32]⟩ : ByteArray).size = 1 from rfl]; omega)
  have hq2 := fun W => run_string_add_sum (P := Tryd.prog) W (dcV ln ++ ⟨#[32]⟩) (dcV kn) (by rw [ByteArray.size_append, show (⟨#[32]⟩ : ByteArray).size = 1 from rfl]; omega)
  have hw1 : IntKind.i64.wrap (ln : Int) = ln := IntWalk.i64_in _ (by omega)
  have hw2 : IntKind.i64.wrap (kn : Int) = kn := IntWalk.i64_in _ (by omega)
  have HE2 := Lib.hid (show dcV ln ++ ⟨#[32]⟩ ++ dcV kn = jT (ftX ln kn xs) 2 from by rw [H2.out]; rfl)
  have HSL := Lib.hid hs
  have HU := Lib.hid hw
  have HK := Lib.hid K
  generalize ftX (ln : Int) (kn : Int) xs = f at *
  generalize dcV ln = X at *
  generalize dcV kn = Y at *
  have hn20 : (xs.length : Int) ≤ 20 := by omega
  clear hs hw hok hl hk H2
  have K0 : Blk w.drew fb #[.int .i8 (ln : Int), .int .i8 (kn : Int), .slice a xs.length c] 28 := K
  have B0 := (Below.refl w.heap.size w).drew
  have keepS : ∀ W', Blk W' fb #[.int .i8 (ln : Int), .int .i8 (kn : Int), .slice a xs.length c] 28 → (W'.cell? ⟨fb, 0, none⟩ = some (.int .i8 (ln : Int)) ∧ W'.cell? ⟨fb, 1, none⟩ = some (.int .i8 (kn : Int))) := fun W' h => ⟨h.cell 0, h.cell 1⟩
  clear K
  go_enter Tryd.func16, Tryd.ntmps16
  go_upto_region 1 with fail
  go_region_held3 (fun W' => W'.cell? ⟨fb, 0, none⟩ = some (.int .i8 (ln : Int)) ∧ W'.cell? ⟨fb, 1, none⟩ = some (.int .i8 (kn : Int)))
    (first | with_reducible exact keepS _ K0 | (with_reducible exact keepS _ (by with_reducible assumption)) | fail)
    (first
      | (go_at_call 34; with_reducible refine (HDl.out _).mono ?_; rintro e w4 ⟨rfl, hb4⟩; have KK := Blk.below (by with_reducible first | assumption | exact K0) hb4 (Blk.lt (by with_reducible first | assumption | exact K0)); have BB := Below.trans (by with_reducible first | assumption | exact B0) (hb4.mono (Below.size (by with_reducible first | assumption | exact B0))); clear hb4)
      | (go_at_call 34; with_reducible refine (HDk.out _).mono ?_; rintro e w4 ⟨rfl, hb4⟩; have KK := Blk.below (by with_reducible first | assumption | exact K0) hb4 (Blk.lt (by with_reducible first | assumption | exact K0)); have BB := Below.trans (by with_reducible first | assumption | exact B0) (hb4.mono (Below.size (by with_reducible first | assumption | exact B0))); clear hb4))
  all_goals
    clear keepS
    go_wp2
    clear hq1 hq2
    go_loopw [3, 4] (fun tv iv wr => ∃ j : Nat, tv = .string (jT f (j + 2)) ∧ iv = .int .i64 j ∧ j ≤ xs.length ∧ Blk wr fb #[.int .i8 (ln : Int), .int .i8 (kn : Int), .slice a xs.length c] 28 ∧ Below w.heap.size w wr) (fun _ iv _ => xs.length - (intOf iv).toNat)
    case atStart => exact ⟨0, sv HE2.out, rfl, Nat.zero_le _, by assumption, by assumption⟩
    case round =>
      obtain ⟨j, rfl, rfl, hj, hKj, hBj⟩ := hrel
      obtain ⟨k0, k1, k2, k3⟩ := hKj.three
      have HKj := Lib.hid hKj
      have HBj := Lib.hid hBj
      by_cases hlt : j < xs.length
      · have hjl : (j : Int) < (xs.length : Int) := by omega
        rcases HSL.out with h0 | ⟨b, off, rfl, hb, hat⟩
        · rw [h0] at hlt; exact absurd hlt (by simp)
        have hcell := (hat.below hBj hb) j hlt
        have hx := HU.out j
        obtain ⟨x, hxx⟩ : ∃ x : Nat, xs.getD j 0 = (x : Int) := ⟨(xs.getD j 0).toNat, by omega⟩
        rw [hxx] at hx hcell
        have HF := Lib.hid (show f (j + 2) = txV x from by rw [HTW.out j, hxx]; rfl)
        have HTX := Lib.hid (fun W => l05Text_any x W (by omega))
        have hs1 := HSZ.out (j + 2)
        have hs2 := txV_size x
        have HJ := Lib.hid (show jT f (j + 2) ++ (⟨#[32]⟩ ++ txV x) = jT f (j + 1 + 2) from by
          have h := jT_more f (k := j + 2) (by omega); rw [HF.out] at h; rw [show j + 1 + 2 = (j + 2) + 1 by omega, h, ba_assoc])
        have hq1 := fun W => run_string_add_sum (P := Tryd.prog) W ⟨#[32]⟩ (txV x) (by rw [show (⟨#[32]⟩ : ByteArray).size = 1 from rfl]; omega)
        have hq2 := fun W => run_string_add_sum (P := Tryd.prog) W (jT f (j + 2)) (⟨#[32]⟩ ++ txV x) (by rw [ByteArray.size_append, show (⟨#[32]⟩ : ByteArray).size = 1 from rfl]; omega)
        clear hKj hBj hxx hat hs1 hs2
        generalize txV x = T at *
        generalize jT f (j + 2) = U at *
        go_wp2_with fail
        refine (HTX.out _).mono ?_
        rintro e w5 ⟨rfl, hb5⟩
        have HB5 := Lib.hid (HBj.out.trans (hb5.mono HBj.out.size))
        have HK5 := Lib.hid (HKj.out.below hb5 HKj.out.lt)
        clear hb5 k0 k1 k2 k3 hcell
        go_wp2
        go_roundw
        case rel => exact ⟨j + 1, sv HJ.out, by go_num, by omega, HK5.out, HB5.out⟩
        case measure => simp [intOf]; omega
      · obtain rfl : j = xs.length := by omega
        clear hKj hBj
        go_wp2
        go_ret
        exact ⟨rfl, HBj.out⟩
theorem specFerryText_any (l k : Int) (a : Option Addr) (c : Nat) (xs : List Int) (w : World) (hs : Sl .u16 w.heap.size w a xs) (hl : B8 l) (hk : B8 k) (hn : xs.length ≤ 1048576) (hw : U16 xs) :
    Calls Tryd.prog 6 #[ferV l k a xs.length c] w fun e w' => e = .returned (.string (ftV l k xs)) ∧ Below w.heap.size w w' := by
  have hB := (Below.refl w.heap.size w).alloc (Nat.le_refl _) (.cells #[.int .i8 l, .int .i8 k, .slice a xs.length c] 28)
  have k0 := blk_new w #[.int .i8 l, .int .i8 k, .slice a xs.length c] 28
  have hs1 := hs.up hB (Nat.le_refl _)
  have HO := Lib.hid (l05Ok_any w.heap.size l k a c xs _ k0 hs1 hl hk hn hw)
  have HB := Lib.hid hB
  have HK := Lib.hid k0
  have HSL := Lib.hid hs1
  clear hB k0 hs hs1 hl hk
  cases hok : okY l k xs
  · rw [hok] at HO
    have HR := Lib.hid (ft_f hok)
    clear hok hw
    go_enter Tryd.func6, Tryd.ntmps6
    go_wp2_with fail
    refine HO.out.mono ?_
    rintro e w2 ⟨rfl, hb2⟩
    have HB2 := Lib.hid (HB.out.trans (hb2.below.mono HB.out.size))
    clear hb2
    go_wp2
    go_ret
    exact ⟨rets HR.out.symm, HB2.out⟩
  · rw [hok] at HO
    have HR := Lib.hid (ft_t hok)
    have HF := Lib.hid (fun W h1 h2 => l05FerryText_any w.heap.size l k a c xs W h1 h2 hok hw)
    clear hok hw
    generalize jT (ftX l k xs) (xs.length + 2) = TX at *
    go_enter Tryd.func6, Tryd.ntmps6
    go_wp2_with fail
    refine HO.out.mono ?_
    rintro e w2 ⟨rfl, hb2⟩
    have HI := Lib.hid (HF.out w2 (HK.out.below hb2.below HK.out.lt) (HSL.out.up hb2.below (Nat.le_refl _)))
    have HB2 := Lib.hid (HB.out.trans (hb2.below.mono HB.out.size))
    clear hb2
    go_wp2_with fail
    refine HI.out.mono ?_
    rintro e w3 ⟨rfl, hb3⟩
    have HB3 := Lib.hid (HB2.out.trans (hb3.mono HB2.out.size))
    clear hb3
    go_wp2
    go_ret
    exact ⟨rets HR.out.symm, HB3.out⟩
end Go.Proofs.YtgadcggeoonihaaDoor
