/-
  The text of glasses, in the program.
-/
import Derived.Test.YtnpgnekofclciaaDoorGT1
import Derived.Test.YtnpgnekofclciaaDoorWX2
import Derived.Deep.AppendLies
namespace Go.Proofs.YtnpgnekofclciaaDoor
open Go.RowKit
set_option maxRecDepth 100000
set_option linter.unusedVariables false

theorem ownsRow_nextT {w w' : World} {B : Nat} {T : TypeId} {S : Nat} {v : Value} {n : Nat} {xs : List Value} (h : w.ownsRow B T S v n xs) (hb : Below w.heap.size w w') : w'.ownsRow B T S v n xs := by
  refine ⟨h.1, ?_⟩
  rcases h.2 with h1 | ⟨g, cap, cur, e, h1, h2, r⟩
  · exact .inl h1
  · exact .inr ⟨g, cap, cur, e, h1, (hb.block g (Array.getElem?_eq_some_iff.1 h2).1).trans h2, r⟩
theorem ownsRow_cap {w : World} {B : Nat} {T : TypeId} {S g cap n : Nat} {xs : List Value} (h : w.ownsRow B T S (.slice (some ⟨g, 0, none⟩) n cap) n xs) : n ≤ cap := by
  rcases h.2 with ⟨h1, _⟩ | ⟨g', cap', cur, e, h1, h2, h3, _⟩
  · cases h1
  · simp only [Value.slice.injEq] at e
    omega
theorem join_own {w : World} {B g cap k : Nat} {f : Nat → ByteArray} (h : w.ownsRow B 9 1 (.slice (some ⟨g, 0, none⟩) k cap) k ((jL f k).map Value.string)) (hs : (jT f k).size ≤ 1000000) (hk : k ≤ 1000000) :
    Calls Tryd.prog 29 #[.slice (some ⟨g, 0, none⟩) k cap, .string ⟨#[32]⟩] w fun e w' => e = .returned (.string (jT f k)) ∧ Below w.heap.size w w' := by
  have hcells : ∀ j y, (jL f k)[j]? = some y → w.cell? ⟨g, 0 + j, none⟩ = some (.string y) := fun j y hj => by
    have h := h.cells (g := g) rfl j (.string y) (by rw [List.getElem?_map, hj]; rfl)
    have e : (⟨g, 0, none⟩ : Addr).add j = ⟨g, 0 + j, none⟩ := by unfold Addr.add; split <;> simp_all
    rw [← e]; exact h
  have hcap := ownsRow_cap h
  have HJ := Tryd.strings_Join g 0 cap (jL f k) ⟨#[32]⟩ w hcells (h.lt g rfl).2 (by rw [jL_len]; omega) (by rw [jL_len]; exact hcap) (by
    rw [show (⟨#[32]⟩ : ByteArray).data.toList = [32] from rfl, jL_join]
    have h5 : (jT f k).data.toList.length = (jT f k).size := Array.length_toList
    omega)
  rw [show (⟨#[32]⟩ : ByteArray).data.toList = [32] from rfl, jL_text, jL_len] at HJ
  exact HJ
theorem jL_get2 (f : Nat → ByteArray) {k i : Nat} (h : i < k) : (jL f k)[i]? = some (f i) := by unfold jL; simp [h]
set_option maxHeartbeats 4000000 in
theorem puzzleText_any (b off c : Nat) (J : List Int) (x : Nat → Int) (t : Bool) (w : World) (hn : J.length ≤ 1048576) (hb : b < w.heap.size) (hc : At .i16 w b off J) (hi : I16 J) (ht : Tab w) :
    Calls Tryd.prog 18 #[puzV (some ⟨b, off, none⟩) J.length c x t] w fun e w' => e = .returned (.string (pxV J x t)) ∧ Below w.heap.size w w' := by
  have hB := (Below.refl w.heap.size w).alloc (Nat.le_refl _) (.cells #[.slice (some ⟨b, off, none⟩) J.length c, .int .i16 (x 0), .int .i16 (x 1), .int .i16 (x 2), .int .i16 (x 3), .bool t] 41)
  have k0 := blk_new w #[.slice (some ⟨b, off, none⟩) J.length c, .int .i16 (x 0), .int .i16 (x 1), .int .i16 (x 2), .int .i16 (x 3), .bool t] 41
  have hb1 := Nat.lt_of_lt_of_le hb hB.size
  have hc1 := hc.below hB hb
  have HO := Lib.hid (validPuzzle_any b off c J x t _ hn hb1 hc1 hi)
  have HB := Lib.hid hB
  have HX := Lib.hid (And.intro k0 hc1)
  have HTB := Lib.hid ht
  clear hc k0 hc1 ht
  cases hok : okZ J x
  · rw [hok] at HO
    have HR := Lib.hid (px_f (t := t) hok)
    clear hok hB
    go_enter Tryd.func18, Tryd.ntmps18
    go_wp2_with fail
    refine HO.out.mono ?_
    rintro e w2 ⟨rfl, hb2⟩
    have HB2 := Lib.hid (HB.out.trans (hb2.mono HB.out.size))
    clear hb2
    go_wp2
    go_ret
    exact ⟨rets HR.out.symm, HB2.out⟩
  · rw [hok] at HO
    obtain ⟨hJ, hx⟩ := of_cb (p := OkZ J x) hok
    have HR := Lib.hid (px_t (t := t) hok)
    have hl4 : J.length ≤ 4 := hJ.1.2
    have hl1 : 1 ≤ J.length := hJ.1.1
    have HSZ := Lib.hid (fun k => jT_size (pzX J x) 5 (pz_size hJ hx) k)
    have HN := Lib.hid (fun j (h : j < J.length) => jg_num hJ hx h)
    have HKK := Lib.hid (fun W (h : Below w.heap.size (w.alloc (.cells #[.slice (some ⟨b, off, none⟩) J.length c, .int .i16 (x 0), .int .i16 (x 1), .int .i16 (x 2), .int .i16 (x 3), .bool t] 41)) W) (hs : Blk W w.heap.size #[.slice (some ⟨b, off, none⟩) J.length c, .int .i16 (x 0), .int .i16 (x 1), .int .i16 (x 2), .int .i16 (x 3), .bool t] 41) => hs)
    clear hok hJ hx hB
    obtain ⟨i0, hi0, hz0, hz1, hz2⟩ := info_parts Tryd.infoS
    go_enter Tryd.func18, Tryd.ntmps18
    go_wp2_with fail
    refine HO.out.mono ?_
    rintro e w2 ⟨rfl, hb2⟩
    have HB2 := Lib.hid (HB.out.trans (hb2.mono HB.out.size))
    have HP := Lib.hid (HX.out.1.below hb2 HX.out.1.lt)
    have HCJ := Lib.hid (HX.out.2.below hb2 hb1)
    have HBL := Lib.hid (Nat.lt_of_lt_of_le hb1 hb2.size)
    obtain ⟨p0, -, -, -, -, -, -⟩ := HP.out.six
    clear hb2 hb1 HB HX HKK
    have HK := Lib.hid (fun W (h : Below w2.heap.size w2 W) => (show _ ∧ _ from ⟨HP.out.below h HP.out.lt, HCJ.out.below h HBL.out⟩))
    have HX4 := Lib.hid (fun (W : World) (h : Blk W w.heap.size #[.slice (some ⟨b, off, none⟩) J.length c, .int .i16 (x 0), .int .i16 (x 1), .int .i16 (x 2), .int .i16 (x 3), .bool t] 41) (j : Nat) (hj : j < 4) => (show W.cell? ⟨w.heap.size, 1 + j, none⟩ = some (.int .i16 (x j)) by
      rw [h.cell]
      match j, hj with
      | 0, _ => rfl
      | 1, _ => rfl
      | 2, _ => rfl
      | 3, _ => rfl))
    go_wp2_with fail
    clear p0
    go_loopw [3, 12] (fun v iv wr => ∃ k : Nat, iv = .int .i64 k ∧ k ≤ J.length ∧ wr.ownsRow w2.heap.size 9 1 v k ((jL (pzX J x) k).map Value.string) ∧ Below w2.heap.size w2 wr) (fun _ iv _ => J.length - (intOf iv).toNat)
    case atStart => exact ⟨0, rfl, Nat.zero_le _, World.ownsRow_nil _ _ _ _, Below.refl _ _⟩
    case round =>
      obtain ⟨k, rfl, hk, hown, hB⟩ := hrel
      by_cases hlt : k < J.length
      · have hkl : (k : Int) < (J.length : Int) := by omega
        have hn := HN.out k hlt
        obtain ⟨xa, hxa⟩ : ∃ xa : Nat, x k = xa := ⟨(x k).toNat, by omega⟩
        obtain ⟨ja, hja⟩ : ∃ ja : Nat, J.getD k 0 = ja := ⟨(J.getD k 0).toNat, by omega⟩
        rw [hxa, hja] at hn
        obtain ⟨hpw, hcw⟩ := HK.out wr hB
        have c0 := HX4.out wr hpw k (by omega)
        have c1 := hcw k hlt
        rw [hxa] at c0
        rw [hja] at c1
        have HX5 := Lib.hid (fun W (h : Below w2.heap.size w2 W) => (show W.cell? ⟨w.heap.size, 1 + k, none⟩ = some (.int .i16 (xa : Int)) by rw [HX4.out W (HK.out W h).1 k (by omega), hxa]))
        have HT := Lib.hid (show pzX J x k = dcV xa ++ ⟨#[47]⟩ ++ dcV ja by unfold pzX; rw [if_pos hlt]; unfold jgX; rw [hxa, hja]; rfl)
        have hsx := dc_two (n := xa) (by omega)
        have hsj := dc_two (n := ja) (by omega)
        have HDx := Lib.hid (fun W (h : Below w2.heap.size w2 W) => itoa_any xa W (by omega) (HTB.out.below (HB2.out.trans (h.mono HB2.out.size))))
        have HDj := Lib.hid (fun W (h : Below w2.heap.size w2 W) => itoa_any ja W (by omega) (HTB.out.below (HB2.out.trans (h.mono HB2.out.size))))
        have hq2 := fun W => run_string_add_sum (P := Tryd.prog) W (dcV xa) ⟨#[47]⟩ (by rw [show (⟨#[47]⟩ : ByteArray).size = 1 from rfl]; omega)
        have hq3 := fun W => run_string_add_sum (P := Tryd.prog) W (dcV xa ++ ⟨#[47]⟩) (dcV ja) (by rw [ByteArray.size_append, show (⟨#[47]⟩ : ByteArray).size = 1 from rfl]; omega)
        have hk4 : (k : Int) < 4 := by omega
        have HBB := Lib.hid hB
        have HO1 := Lib.hid hown
        have hpl := hpw.lt
        clear hB hown hpw hcw hxa hja
        generalize dcV xa = X at *
        generalize dcV ja = Y at *
        go_wp2_with fail
        refine (HDx.out _ HBB.out).mono ?_
        rintro e w3 ⟨rfl, hb3⟩
        have HB3 := Lib.hid (HBB.out.trans (hb3.mono HBB.out.size))
        have HO3 := Lib.hid (ownsRow_nextT HO1.out hb3)
        clear hb3 HBB HO1 c0 c1
        go_wp2_with fail
        refine (HDj.out _ HB3.out).mono ?_
        rintro e w4 ⟨rfl, hb4⟩
        have HB4 := Lib.hid (HB3.out.trans (hb4.mono HB3.out.size))
        have hown := ownsRow_nextT HO3.out hb4
        have hsz := HB4.out.size
        clear hb4 HB3 HO3
        go_wp2_with (at_builtin; refine wpList_append_own _ rfl _ _ 43 rfl w2.heap.size 9 i0 (.string ⟨#[]⟩) 1 16 Tryd.underlying43 hi0 hz0 hz1 hz2 rfl (by decide) _ _ _ rfl (hown.alloc _) ⟨w4.heap.size, 0, none⟩ 1 1 [.string (X ++ ⟨#[47]⟩ ++ Y)] rfl rfl (World.news_of_block (cs := #[.string (X ++ ⟨#[47]⟩ ++ Y)]) (t := 9) (fr := (0, 0)) (heap_alloc_new w4 _)) (by simp [Value.oneCell']) (by unfold maxLen; omega) (by omega) (by simp; omega) ?_)
        intro v' w5 hown' hgrow _
        have hB5 := Lib.hid ((HB4.out.alloc HB4.out.size (.cells #[.string (X ++ ⟨#[47]⟩ ++ Y)] 9)).grown hgrow (by have := HB4.out.size; simp; omega) (fun j hj => (hown.lt j hj).1))
        have hO5 := Lib.hid (show w5.ownsRow w2.heap.size 9 1 v' (k + 1) ((jL (pzX J x) (k + 1)).map Value.string) by rw [jL_snoc, List.map_append, HT.out]; exact hown')
        clear hown' hgrow hown
        go_wp2
        go_roundw
        case rel => exact ⟨k + 1, by go_num, by omega, hO5.out, hB5.out⟩
        case measure => simp [intOf]; omega
      · have hkk : k = J.length := by omega
        clear hlt hk
        subst hkk
        obtain ⟨hpw, hcw⟩ := HK.out wr hB
        obtain ⟨-, -, -, -, -, p5, -⟩ := hpw.six
        obtain ⟨g, cap, rfl, -, -⟩ := hown.form (by omega)
        clear hpw hcw
        have HBB := Lib.hid hB
        have hsz := HBB.out.size
        cases t
        · have HJ := Lib.hid (join_own hown (by have := HSZ.out J.length; omega) (by omega))
          have HE := Lib.hid (show jT (pzX J x) J.length = pxV J x false from HR.out.symm)
          clear hown hB
          generalize jT (pzX J x) J.length = TX at *
          go_wp2_with fail
          refine HJ.out.mono ?_
          rintro e w5 ⟨rfl, hb5⟩
          have HB5 := Lib.hid (HB2.out.trans ((HBB.out.trans (hb5.mono HBB.out.size)).mono HB2.out.size))
          clear hb5
          go_wp2
          go_ret
          exact ⟨rets HE.out, HB5.out⟩
        · have HO1 := Lib.hid hown
          clear hown hB
          go_wp2_with (at_builtin; refine wpList_append_lies _ rfl _ _ 43 rfl w2.heap.size 9 i0 (.string ⟨#[]⟩) 1 16 Tryd.underlying43 hi0 hz0 hz1 hz2 rfl (by decide) _ _ _ rfl (HO1.out.alloc _) ⟨wr.heap.size, 0, none⟩ 1 1 [.string ⟨#[116, 97, 112]⟩] rfl rfl (World.news_of_block (cs := #[.string ⟨#[116, 97, 112]⟩]) (t := 9) (fr := (0, 0)) (heap_alloc_new wr _)) (by simp [Value.oneCell']) (by decide) (by unfold maxLen; omega) (by omega) (by simp; omega) (wr.heap.size + 1) (by simp) ?_)
          intro g2 cap2 w5 hown' hgrow hat hlt5
          have HB5 := Lib.hid (HB2.out.trans (((HBB.out.alloc HBB.out.size (.cells #[.string ⟨#[116, 97, 112]⟩] 9)).grown hgrow (by have := HBB.out.size; simp; omega) (fun j hj => (HO1.out.lt j hj).1)).mono HB2.out.size))
          have HO5 := Lib.hid (show w5.ownsRow w2.heap.size 9 1 (.slice (some ⟨g2, 0, none⟩) (J.length + 1) cap2) (J.length + 1) ((jL (pzX J x) (J.length + 1)).map Value.string) by
            have e : pzX J x J.length = ⟨#[116, 97, 112]⟩ := by unfold pzX; rw [if_neg (Nat.lt_irrefl _)]
            rw [jL_snoc, List.map_append, e]; exact hown')
          have HJ := Lib.hid (join_own HO5.out (by have := HSZ.out (J.length + 1); omega) (by omega))
          have HE := Lib.hid (show jT (pzX J x) (J.length + 1) = pxV J x true from HR.out.symm)
          clear hown' hgrow hat hlt5 HO5
          generalize jT (pzX J x) (J.length + 1) = TX at *
          go_wp2_with fail
          refine HJ.out.mono ?_
          rintro e w6 ⟨rfl, hb6⟩
          have HB6 := Lib.hid (HB5.out.trans (hb6.mono HB5.out.size))
          clear hb6
          go_wp2
          go_ret
          exact ⟨rets HE.out, HB6.out⟩
theorem puzzleOf_any (a : Option Addr) (n c : Nat) (x : Nat → Int) (w : World) :
    Calls Tryd.prog 19 #[.slice a n c, watV x] w fun e w' => e = .returned (puzV a n c x false) ∧ Below w.heap.size w w' := by
  have HB := Lib.hid (((Below.refl w.heap.size w).alloc (Nat.le_refl _) (.cells #[.int .i16 (x 0), .int .i16 (x 1), .int .i16 (x 2), .int .i16 (x 3)] 28)))
  go_enter Tryd.func19, Tryd.ntmps19
  go_wp2
  refine bodyPost_ret (v := puzV a n c x false) (by simp [results, Tryd.results19, go_sem]) rfl ⟨rfl, ?_⟩
  exact HB.out.alloc HB.out.size _
theorem glassesText_any (b off c : Nat) (J : List Int) (x : Nat → Int) (w : World) (hn : J.length ≤ 1048576) (hb : b < w.heap.size) (hc : At .i16 w b off J) (hi : I16 J) (ht : Tab w) :
    Calls Tryd.prog 8 #[.slice (some ⟨b, off, none⟩) J.length c, watV x] w fun e w' => e = .returned (.string (gxV J x)) ∧ Below w.heap.size w w' := by
  have k0 := blk_new w #[.int .i16 (x 0), .int .i16 (x 1), .int .i16 (x 2), .int .i16 (x 3)] 28
  have hB := (Below.refl w.heap.size w).alloc (Nat.le_refl _) (.cells #[.int .i16 (x 0), .int .i16 (x 1), .int .i16 (x 2), .int .i16 (x 3)] 28)
  have hb1 := Nat.lt_of_lt_of_le hb hB.size
  have hc1 := hc.below hB hb
  have HV := Lib.hid (validTops_any b off c J x _ hn hb1 hc1 hi)
  have HC := Lib.hid hc1
  have HK := Lib.hid k0
  have HB := Lib.hid hB
  have HTB := Lib.hid ht
  obtain ⟨c0, c1, c2, c3, -⟩ := k0.four
  clear hB hc hc1 ht
  cases hok : okT J x
  · rw [hok] at HV
    have HR := Lib.hid (show gxV J x = ⟨#[]⟩ by unfold gxV; rw [hok]; rfl)
    clear hok
    go_enter Tryd.func8, Tryd.ntmps8
    go_wp2_with fail
    refine HV.out.mono ?_
    rintro e w2 ⟨rfl, hb2⟩
    have HB2 := Lib.hid (HB.out.trans (hb2.mono HB.out.size))
    clear hb2
    go_wp2
    go_ret
    exact ⟨rets HR.out.symm, HB2.out⟩
  · rw [hok] at HV
    have HR := Lib.hid (show pxV J x false = gxV J x by rw [px_t (okT_ZZ hok).1]; unfold gxV; rw [hok]; rfl)
    have HSJ := Lib.hid (fun W (hW : b < W.heap.size) (h : At .i16 W b off J) (hT : Tab W) => puzzleText_any b off c J x false W hn hW h hi hT)
    rw [HR.out] at HSJ
    clear hok HR
    generalize gxV J x = v at *
    go_enter Tryd.func8, Tryd.ntmps8
    go_wp2_with fail
    refine HV.out.mono ?_
    rintro e w2 ⟨rfl, hb2⟩
    have HB2 := Lib.hid (HB.out.trans (hb2.mono HB.out.size))
    have HK2 := Lib.hid (HK.out.below hb2 HK.out.lt)
    have HC2 := Lib.hid (HC.out.below hb2 hb1)
    have hb3 : b < w2.heap.size := Nat.lt_of_lt_of_le hb1 hb2.size
    clear hb2 c0 c1 c2 c3
    obtain ⟨c0, c1, c2, c3, -⟩ := HK2.out.four
    go_wp2_with fail
    refine (puzzleOf_any _ _ _ x _).mono ?_
    rintro e w3 ⟨rfl, hbb⟩
    have HB3 := Lib.hid (HB2.out.trans (hbb.mono HB2.out.size))
    have HC3 := Lib.hid (HC2.out.below hbb hb3)
    have hb4 : b < w3.heap.size := Nat.lt_of_lt_of_le hb3 hbb.size
    clear hbb c0 c1 c2 c3
    go_wp2_with fail
    refine (HSJ.out _ hb4 HC3.out (HTB.out.below HB3.out)).mono ?_
    rintro e w4 ⟨rfl, hbc⟩
    have HB4 := Lib.hid (HB3.out.trans (hbc.mono HB3.out.size))
    clear hbc
    go_wp2
    go_ret
    exact ⟨rfl, HB4.out⟩
end Go.Proofs.YtnpgnekofclciaaDoor
