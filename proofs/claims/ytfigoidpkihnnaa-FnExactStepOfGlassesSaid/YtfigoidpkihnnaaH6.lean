/-
  The walks of StepOfGlasses, in the program and in its model.
-/
import Derived.Test.YtfigoidpkihnnaaH5
import Derived.Test.YtfigoidpkihnnaaJ7
namespace Go.Proofs.Ytfigoidpkihnnaa
open Go.RowKit
set_option maxRecDepth 100000

noncomputable def sgV (J : List Int) (x : Nat → Int) : Int := if okT J x = true then ((stepTo J x J.length : Nat) : Int) else 0
theorem okT_Z {J : List Int} {x : Nat → Int} (h : okT J x = true) : okZ J x = true := cb_t ⟨(okT_G h).okJ, okT_X h⟩
theorem puzzleOf_any (a : Option Addr) (n c : Nat) (x : Nat → Int) (w : World) :
    Calls Try.prog 28 #[.slice a n c, watV x] w fun e w' => e = .returned (puzV a n c x false) ∧ Below w.heap.size w w' := by
  have HB := Lib.hid (((Below.refl w.heap.size w).alloc (Nat.le_refl _) (.cells #[.int .i16 (x 0), .int .i16 (x 1), .int .i16 (x 2), .int .i16 (x 3)] 31)))
  go_enter Try.func28, Try.ntmps28
  go_wp2
  refine bodyPost_ret (v := puzV a n c x false) (by simp [results, Try.results28, go_sem]) rfl ⟨rfl, ?_⟩
  exact HB.out.alloc HB.out.size _
theorem stepOfGlasses_any (b off c : Nat) (J : List Int) (x : Nat → Int) (w : World) (hn : J.length ≤ 1048576) (hb : b < w.heap.size) (hc : At .i16 w b off J) (hi : I16 J) :
    Calls Try.prog 17 #[.slice (some ⟨b, off, none⟩) J.length c, watV x] w fun e w' => e = .returned (.tuple #[.int .i64 (sgV J x), .int .i64 (rdC J x)]) ∧ Below w.heap.size w w' := by
  have k0 := blk_new w #[.int .i16 (x 0), .int .i16 (x 1), .int .i16 (x 2), .int .i16 (x 3)] 31
  have hB := (Below.refl w.heap.size w).alloc (Nat.le_refl _) (.cells #[.int .i16 (x 0), .int .i16 (x 1), .int .i16 (x 2), .int .i16 (x 3)] 31)
  have hb1 := Nat.lt_of_lt_of_le hb hB.size
  have hc1 := hc.below hB hb
  have HV := Lib.hid (validTops_any b off c J x _ hn hb1 hc1 hi)
  have HC := Lib.hid hc1
  have HK := Lib.hid k0
  have HB := Lib.hid hB
  obtain ⟨c0, c1, c2, c3, -⟩ := k0.four
  clear hB hc hc1
  unfold sgV rdC
  cases hok : okT J x
  · rw [hok] at HV
    clear hok
    simp only [Bool.false_eq_true, if_false]
    go_enter Try.func17, Try.ntmps17
    go_wp2_with fail
    refine HV.out.mono ?_
    rintro e w2 ⟨rfl, hb2⟩
    have HB2 := Lib.hid (HB.out.trans (hb2.mono HB.out.size))
    clear hb2
    go_wp2
    go_ret2
    exact ⟨rfl, HB2.out⟩
  · rw [hok] at HV
    have HZ := Lib.hid (okT_Z hok)
    have HSJ := Lib.hid (fun W (hW : b < W.heap.size) (h : At .i16 W b off J) => stepOfJugs_any b off c J x false W hn hW h hi)
    have hs : sojV J x = ((stepTo J x J.length : Nat) : Int) := by unfold sojV; rw [HZ.out]; rfl
    have hs2 : codZ J x = 0 := by unfold codZ; rw [HZ.out]; rfl
    rw [hs, hs2] at HSJ
    clear hok hs hs2
    simp only [if_true]
    generalize ((stepTo J x J.length : Nat) : Int) = v at *
    go_enter Try.func17, Try.ntmps17
    go_wp2_with fail
    refine HV.out.mono ?_
    rintro e w2 ⟨rfl, hb2⟩
    have HB2 := Lib.hid (HB.out.trans (hb2.mono HB.out.size))
    have HK2 := Lib.hid (HK.out.below hb2 HK.out.lt)
    have HC2 := Lib.hid (HC.out.below hb2 hb1)
    have hb3 : b < w2.heap.size := Nat.lt_of_lt_of_le hb1 hb2.size
    clear hb2 c0 c1 c2 c3
    obtain ⟨c0, c1, c2, c3, -⟩ := HK2.out.four
    go_wp2_with fail
    refine (puzzleOf_any _ _ _ x _).mono ?_
    rintro e w3 ⟨rfl, hbb⟩
    have HB3 := Lib.hid (HB2.out.trans (hbb.mono HB2.out.size))
    have HC3 := Lib.hid (HC2.out.below hbb hb3)
    have hb4 : b < w3.heap.size := Nat.lt_of_lt_of_le hb3 hbb.size
    clear hbb c0 c1 c2 c3
    go_wp2_with fail
    refine (HSJ.out _ hb4 HC3.out).mono ?_
    rintro e w4 ⟨rfl, hbc⟩
    have HB4 := Lib.hid (HB3.out.trans (hbc.mono HB3.out.size))
    clear hbc
    go_wp2
    go_ret2
    exact ⟨rfl, HB4.out⟩
theorem specStepOfGlasses_any (b off c : Nat) (J : List Int) (x : Nat → Int) (w : World) (hn : J.length ≤ 1048576) (hb : b < w.heap.size) (hc : At .i16 w b off J) :
    Calls Try.prog 16 #[.slice (some ⟨b, off, none⟩) J.length c, watV x] w fun e w' => e = .returned (.tuple #[.int .i64 (sgV J x), .int .i64 (rdC J x)]) ∧ Below w.heap.size w w' := by
  have k0 := blk_new w #[.int .i16 (x 0), .int .i16 (x 1), .int .i16 (x 2), .int .i16 (x 3)] 31
  have hB := (Below.refl w.heap.size w).alloc (Nat.le_refl _) (.cells #[.int .i16 (x 0), .int .i16 (x 1), .int .i16 (x 2), .int .i16 (x 3)] 31)
  have hb1 := Nat.lt_of_lt_of_le hb hB.size
  have hc1 := hc.below hB hb
  have HV := Lib.hid (l07Ok_any b off c J x _ hn hb1 hc1)
  have HC := Lib.hid hc1
  have HK := Lib.hid k0
  have HB := Lib.hid hB
  obtain ⟨c0, c1, c2, c3, -⟩ := k0.four
  clear hB hc hc1
  unfold sgV rdC
  cases hok : okT J x
  · rw [hok] at HV
    clear hok
    simp only [Bool.false_eq_true, if_false]
    go_enter Try.func16, Try.ntmps16
    go_wp2_with fail
    refine HV.out.mono ?_
    rintro e w2 ⟨rfl, hb2⟩
    have HB2 := Lib.hid (HB.out.trans (hb2.mono HB.out.size))
    clear hb2
    go_wp2
    go_ret2
    exact ⟨rfl, HB2.out⟩
  · rw [hok] at HV
    have HJ := Lib.hid (okT_G hok).okJ
    have HXX := Lib.hid (okT_X hok)
    clear hok
    simp only [if_true]
    go_enter Try.func16, Try.ntmps16
    go_wp2_with fail
    refine HV.out.mono ?_
    rintro e w2 ⟨rfl, hb2⟩
    have HB2 := Lib.hid (HB.out.trans (hb2.mono HB.out.size))
    have HK2 := Lib.hid (HK.out.below hb2 HK.out.lt)
    have HC2 := Lib.hid (HC.out.below hb2 hb1)
    clear hb2 c0 c1 c2 c3 hb1
    go_wp2
    go_loop [6, 7] (fun s i => ∃ k : Nat, k ≤ J.length ∧ i = .int .i64 k ∧ s = .int .i64 ((stepTo J x k : Nat) : Int)) (fun _ i => J.length - (intOf i).toNat)
    case atStart => exact ⟨0, Nat.zero_le _, rfl, rfl⟩
    case round =>
      obtain ⟨k, hk, rfl, rfl⟩ := hrel
      by_cases hlt : k < J.length
      · have hk4 : k < 4 := by have := HJ.out.1.2; omega
        have hx := HJ.out.2.1 k hlt
        have hxx := HXX.out k hk4
        have hcell := HC2.out k hlt
        have hcw := HK2.out.wat hk4
        have hg := stepTo_bd x (HJ.out.2.1.mono hk)
        have hg2 := stepTo_mid (J := J) (k := k) x hx
        have H := Lib.hid (stepTo_step J x k)
        obtain ⟨m, hm⟩ : ∃ m : Nat, J.getD k 0 = m := ⟨(J.getD k 0).toNat, by omega⟩
        obtain ⟨v, hv⟩ : ∃ v : Nat, x k = v := ⟨(x k).toNat, by omega⟩
        rw [hm] at hcell hx hxx hg2
        rw [hv] at hcw hxx
        have HM := Lib.hid hm
        have HVV := Lib.hid hv
        clear hm hv
        generalize hgg : stepTo J x k = g at *
        have HGG := Lib.hid hgg
        clear hgg
        have hm60 : m ≤ 60 := by omega
        have hv60 : v ≤ 60 := by omega
        have hgm : Nat.gcd g m ≤ 60 := by simpa using hg2
        have hk4' : (k : Int) < 4 := by omega
        have hkl' : (k : Int) < (J.length : Int) := by omega
        clear hx hxx hg2
        have HG := Lib.hid (fun (a b : Nat) W (ha : a ≤ 1000000) (hb : b ≤ 1000000) => l01Gcd_any b a b W (Nat.le_refl _) ha hb)
        go_wp2_with fail
        refine (HG.out g m _ (by omega) (by omega)).mono ?_
        rintro e w' ⟨rfl, rfl⟩
        go_wp2_with fail
        refine (HG.out (Nat.gcd g m) v _ (by omega) (by omega)).mono ?_
        rintro e w' ⟨rfl, rfl⟩
        go_wp2
        go_round
        case rel => exact ⟨k + 1, by omega, by go_num, by rw [H.out, HM.out, HVV.out]; simp⟩
        case measure => simp [intOf]; omega
      · obtain rfl : k = J.length := by omega
        go_wp2
        go_ret2
        exact ⟨rfl, HB2.out⟩
end Go.Proofs.Ytfigoidpkihnnaa
