/-
  The text of a ferry, in the program.
-/
import Derived.Test.YtgadcggeoonihaaDoorFT1
import Derived.Test.YtgadcggeoonihaaDoorWX2
import Derived.Deep.AppendLies
namespace Go.Proofs.YtgadcggeoonihaaDoor
open Go.RowKit
set_option maxRecDepth 100000
set_option linter.unusedVariables false

theorem ownsRow_nextT {w w' : World} {B : Nat} {T : TypeId} {S : Nat} {v : Value} {n : Nat} {xs : List Value} (h : w.ownsRow B T S v n xs) (hb : Below w.heap.size w w') : w'.ownsRow B T S v n xs := by
  refine ⟨h.1, ?_⟩
  rcases h.2 with h1 | ⟨g, cap, cur, e, h1, h2, r⟩
  · exact .inl h1
  · exact .inr ⟨g, cap, cur, e, h1, (hb.block g (Array.getElem?_eq_some_iff.1 h2).1).trans h2, r⟩
theorem ownsRow_cap {w : World} {B : Nat} {T : TypeId} {S g cap n : Nat} {xs : List Value} (h : w.ownsRow B T S (.slice (some ⟨g, 0, none⟩) n cap) n xs) : n ≤ cap := by
  rcases h.2 with ⟨h1, _⟩ | ⟨g', cap', cur, e, h1, h2, h3, _⟩
  · cases h1
  · simp only [Value.slice.injEq] at e
    omega
theorem join_own {w : World} {B g cap k : Nat} {f : Nat → ByteArray} (h : w.ownsRow B 9 1 (.slice (some ⟨g, 0, none⟩) k cap) k ((jL f k).map Value.string)) (hs : (jT f k).size ≤ 1000000) (hk : k ≤ 1000000) :
    Calls Tryd.prog 21 #[.slice (some ⟨g, 0, none⟩) k cap, .string ⟨#[32]⟩] w fun e w' => e = .returned (.string (jT f k)) ∧ Below w.heap.size w w' := by
  have hcells : ∀ j y, (jL f k)[j]? = some y → w.cell? ⟨g, 0 + j, none⟩ = some (.string y) := fun j y hj => by
    have h := h.cells (g := g) rfl j (.string y) (by rw [List.getElem?_map, hj]; rfl)
    have e : (⟨g, 0, none⟩ : Addr).add j = ⟨g, 0 + j, none⟩ := by unfold Addr.add; split <;> simp_all
    rw [← e]; exact h
  have hcap := ownsRow_cap h
  have HJ := Tryd.strings_Join g 0 cap (jL f k) ⟨#[32]⟩ w hcells (h.lt g rfl).2 (by rw [jL_len]; omega) (by rw [jL_len]; exact hcap) (by
    rw [show (⟨#[32]⟩ : ByteArray).data.toList = [32] from rfl, jL_join]
    have h5 : (jT f k).data.toList.length = (jT f k).size := Array.length_toList
    omega)
  rw [show (⟨#[32]⟩ : ByteArray).data.toList = [32] from rfl, jL_text, jL_len] at HJ
  exact HJ
theorem jL_get2 (f : Nat → ByteArray) {k i : Nat} (h : i < k) : (jL f k)[i]? = some (f i) := by unfold jL; simp [h]
set_option maxHeartbeats 4000000 in
theorem ferryText_any (l k : Int) (a : Option Addr) (c : Nat) (xs : List Int) (w : World) (hs : Sl .u16 w.heap.size w a xs) (hl : B8 l) (hk : B8 k) (hn : xs.length ≤ 1048576) (hw : U16 xs) (ht : Tab w) :
    Calls Tryd.prog 8 #[ferV l k a xs.length c] w fun e w' => e = .returned (.string (ftV l k xs)) ∧ Below w.heap.size w w' := by
  have hB := (Below.refl w.heap.size w).alloc (Nat.le_refl _) (.cells #[.int .i8 l, .int .i8 k, .slice a xs.length c] 28)
  have k0 := blk_new w #[.int .i8 l, .int .i8 k, .slice a xs.length c] 28
  have hs1 := hs.up hB (Nat.le_refl _)
  have HO := Lib.hid (validFerry_any l k a c xs _ hs1 hl hk hn hw)
  have HB := Lib.hid hB
  have HK := Lib.hid k0
  have HSL := Lib.hid hs1
  have HTB := Lib.hid ht
  clear hB k0 hs hs1 hl hk ht
  cases hok : okY l k xs
  · rw [hok] at HO
    have HR := Lib.hid (ft_f hok)
    clear hok hw
    go_enter Tryd.func8, Tryd.ntmps8
    go_wp2_with fail
    refine HO.out.mono ?_
    rintro e w2 ⟨rfl, hb2⟩
    have HB2 := Lib.hid (HB.out.trans (hb2.mono HB.out.size))
    clear hb2
    go_wp2
    go_ret
    exact ⟨rets HR.out.symm, HB2.out⟩
  · rw [hok] at HO
    have HR := Lib.hid (ft_t hok)
    obtain ⟨hl, hk, hn20, -⟩ := okY_t hok
    have HSZ := Lib.hid (fun j => jT_size (ftX l k xs) 8 (ftX_size (by omega) (by omega)) j)
    have HTW := Lib.hid (fun j => ftX_two (l := l) (k := k) (xs := xs) j)
    have HRU := Lib.hid (fun j (hj : j < xs.length) => okY_rule hok hj hw)
    have HU := Lib.hid hw
    have H01 := Lib.hid (show ftX l k xs 0 = dcV l.toNat ∧ ftX l k xs 1 = dcV k.toNat from ⟨rfl, rfl⟩)
    clear hok hw
    obtain ⟨ln, rfl⟩ : ∃ n : Nat, l = n := ⟨l.toNat, by omega⟩
    obtain ⟨kn, rfl⟩ : ∃ n : Nat, k = n := ⟨k.toNat, by omega⟩
    have HIl := Lib.hid (fun W (h : Below w.heap.size w W) => itoa_any ln W (by omega) (HTB.out.below h))
    have HIk := Lib.hid (fun W (h : Below w.heap.size w W) => itoa_any kn W (by omega) (HTB.out.below h))
    have hl9 : (ln : Int) ≤ 8 := by omega
    have hk9 : (kn : Int) ≤ 8 := by omega
    have hw1 : IntKind.i64.wrap (ln : Int) = ln := IntWalk.i64_in _ (by omega)
    have hw2 : IntKind.i64.wrap (kn : Int) = kn := IntWalk.i64_in _ (by omega)
    rw [show ((ln : Int).toNat) = ln from rfl, show ((kn : Int).toNat) = kn from rfl] at H01
    have hn20z : (xs.length : Int) ≤ 20 := by omega
    generalize ftX (ln : Int) (kn : Int) xs = f at *
    generalize dcV ln = X at *
    generalize dcV kn = Y at *
    clear hl hk
    obtain ⟨i0, hi0, hz0, hz1, hz2⟩ := info_parts Tryd.infoS
    go_enter Tryd.func8, Tryd.ntmps8
    go_wp2_with fail
    refine HO.out.mono ?_
    rintro e w2 ⟨rfl, hb2⟩
    have HB2 := Lib.hid (HB.out.trans (hb2.mono HB.out.size))
    have HP := Lib.hid (HK.out.below hb2 HK.out.lt)
    have HSL2 := Lib.hid (HSL.out.up hb2 (Nat.le_refl _))
    clear hb2 HB HK HSL
    go_upto_region 3 with fail
    have K0 : Blk w2.drew w.heap.size #[.int .i8 (ln : Int), .int .i8 (kn : Int), .slice a xs.length c] 28 := HP.out
    have B0 := HB2.out.drew
    have C0 := (Below.refl w2.heap.size w2).drew
    have keepS : ∀ W', Blk W' w.heap.size #[.int .i8 (ln : Int), .int .i8 (kn : Int), .slice a xs.length c] 28 → (W'.cell? ⟨w.heap.size, 0, none⟩ = some (.int .i8 (ln : Int)) ∧ W'.cell? ⟨w.heap.size, 1, none⟩ = some (.int .i8 (kn : Int))) := fun W' h => ⟨h.cell 0, h.cell 1⟩
    go_region_held3 (fun W' => W'.cell? ⟨w.heap.size, 0, none⟩ = some (.int .i8 (ln : Int)) ∧ W'.cell? ⟨w.heap.size, 1, none⟩ = some (.int .i8 (kn : Int)))
      (first | with_reducible exact keepS _ (Blk.alloc KK _) | with_reducible exact keepS _ KK | with_reducible exact keepS _ K0 | fail)
      (first
        | (go_at_call 19; with_reducible refine (HIl.out _ (by with_reducible first | exact BB | exact B0)).mono ?_; rintro e w4 ⟨rfl, hb4⟩; have KK := Blk.below (by with_reducible first | exact KK | exact K0) hb4 (Blk.lt (by with_reducible first | exact KK | exact K0)); have CC := Below.trans (by with_reducible first | exact CC | exact C0) (hb4.mono (Below.size (by with_reducible first | exact CC | exact C0))); have BB := Below.trans (by with_reducible first | exact BB | exact B0) (hb4.mono (Below.size (by with_reducible first | exact BB | exact B0))); clear hb4)
        | (go_at_call 19; with_reducible refine (HIk.out _ (by with_reducible first | exact BB | exact B0)).mono ?_; rintro e w4 ⟨rfl, hb4⟩; have KK := Blk.below (by with_reducible first | exact KK | exact K0) hb4 (Blk.lt (by with_reducible first | exact KK | exact K0)); have CC := Below.trans (by with_reducible first | exact CC | exact C0) (hb4.mono (Below.size (by with_reducible first | exact CC | exact C0))); have BB := Below.trans (by with_reducible first | exact BB | exact B0) (hb4.mono (Below.size (by with_reducible first | exact BB | exact B0))); clear hb4))
    all_goals
      have HKZ := Lib.hid (Blk.alloc KK (.cells #[.string X, .string Y] 9))
      have HBZ := Lib.hid (BB.alloc BB.size (.cells #[.string X, .string Y] 9))
      have HCZ := Lib.hid (CC.alloc CC.size (.cells #[.string X, .string Y] 9))
      have HOZ := Lib.hid (World.ownsRow_lit (base := w2.heap.size) (e := 9) (size := 1) w4 #[.string X, .string Y] 2 CC.size (by unfold maxLen; omega) rfl)
      obtain ⟨k0, k1, k2, k3⟩ := HKZ.out.three
      clear K0 B0 C0 KK BB CC keepS
      have HO2 := Lib.hid (show (w4.alloc (.cells #[.string X, .string Y] 9)).ownsRow w2.heap.size 9 1 (.slice (some ⟨w4.heap.size, 0, none⟩) (0 + 2) 2) (0 + 2) ((jL f (0 + 2)).map Value.string) from by
        have h := HOZ.out
        have e : (jL f (0 + 2)).map Value.string = [.string X, .string Y] := by
          rw [show jL f (0 + 2) = [f 0, f 1] from rfl, H01.out.1, H01.out.2]; rfl
        rw [e]; exact h)
      clear HOZ
      go_wp2_with fail
      clear k0 k1 k2 k3
      go_loopw [3, 21] (fun v iv wr => ∃ j : Nat, iv = .int .i64 j ∧ j ≤ xs.length ∧ wr.ownsRow w2.heap.size 9 1 v (j + 2) ((jL f (j + 2)).map Value.string) ∧ Below w2.heap.size w2 wr) (fun _ iv _ => xs.length - (intOf iv).toNat)
      case atStart => exact ⟨0, rfl, Nat.zero_le _, HO2.out, HCZ.out⟩
      case round =>
        clear HO2 HCZ HBZ HKZ
        obtain ⟨j, rfl, hj, hown, hBj⟩ := hrel
        have HBj := Lib.hid hBj
        have HOj := Lib.hid hown
        have hszj := hBj.size
        by_cases hlt : j < xs.length
        · have hjl : (j : Int) < (xs.length : Int) := by omega
          rcases HSL2.out with h0 | ⟨b, off, rfl, hb, hat⟩
          · rw [h0] at hlt; exact absurd hlt (by simp)
          have hcell := (hat.below hBj hb) j hlt
          have hx := HU.out j
          have hx2 := HRU.out j hlt
          obtain ⟨x, hxx⟩ : ∃ x : Nat, xs.getD j 0 = (x : Int) := ⟨(xs.getD j 0).toNat, by omega⟩
          rw [hxx] at hx hx2 hcell
          have HF := Lib.hid (show f (j + 2) = txV x from by rw [HTW.out j, hxx]; rfl)
          have HTX := Lib.hid (fun W => thingsText_any x W (by omega))
          rw [show ttV (x : Int) = txV x by unfold ttV; rw [if_pos (by omega), Int.toNat_natCast]] at HTX
          clear hown hBj hxx hat
          generalize txV x = T at *
          go_wp2_with fail
          refine (HTX.out _).mono ?_
          rintro e w5 ⟨rfl, hb5⟩
          have HB5 := Lib.hid (HBj.out.trans (hb5.mono HBj.out.size))
          have hown5 := ownsRow_nextT HOj.out hb5
          have hsz5 := HB5.out.size
          clear hb5 hcell
          go_wp2_with (at_builtin; refine wpList_append_own _ rfl _ _ 43 rfl w2.heap.size 9 i0 (.string ⟨#[]⟩) 1 16 Tryd.underlying43 hi0 hz0 hz1 hz2 rfl (by decide) _ _ _ rfl (hown5.alloc _) ⟨w5.heap.size, 0, none⟩ 1 1 [.string T] rfl rfl (World.news_of_block (cs := #[.string T]) (t := 9) (fr := (0, 0)) (heap_alloc_new w5 _)) (by simp [Value.oneCell']) (by unfold maxLen; omega) (by omega) (by simp; omega) ?_)
          intro v' w6 hown' hgrow _
          have hB6 := Lib.hid ((HB5.out.alloc HB5.out.size (.cells #[.string T] 9)).grown hgrow (by have := HB5.out.size; simp; omega) (fun i hi => (hown5.lt i hi).1))
          have hO6 := Lib.hid (show w6.ownsRow w2.heap.size 9 1 v' (j + 1 + 2) ((jL f (j + 1 + 2)).map Value.string) by rw [show j + 1 + 2 = j + 2 + 1 by omega, jL_snoc, List.map_append, HF.out]; exact hown')
          clear hown' hgrow hown5
          go_wp2
          go_roundw
          case rel => exact ⟨j + 1, by go_num, by omega, hO6.out, hB6.out⟩
          case measure => simp [intOf]; omega
        · have hjj : j = xs.length := by omega
          clear hlt hj
          subst hjj
          obtain ⟨g, cap, rfl, -, -⟩ := hown.form (by omega)
          have HJ := Lib.hid (join_own hown (by have := HSZ.out (xs.length + 2); omega) (by omega))
          have HE := Lib.hid (show jT f (xs.length + 2) = ftV ln kn xs from HR.out.symm)
          clear hown hBj
          generalize jT f (xs.length + 2) = TX at *
          go_wp2_with fail
          refine HJ.out.mono ?_
          rintro e w7 ⟨rfl, hb7⟩
          have HB7 := Lib.hid (HB2.out.trans ((HBj.out.trans (hb7.mono HBj.out.size)).mono HB2.out.size))
          clear hb7
          go_wp2
          go_ret
          exact ⟨rets HE.out, HB7.out⟩
end Go.Proofs.YtgadcggeoonihaaDoor
