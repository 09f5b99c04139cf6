/-
  The text of glasses, in the model.
-/
import Derived.Test.YtnpgnekofclciaaDoorDC
import Derived.Test.YtnpgnekofclciaaDoorH4
import Derived.Test.YtnpgnekofclciaaDoorJ3
import Derived.Deep.DeepCutAuto
import Derived.Deep.RegionHeld3
namespace Go.Proofs.YtnpgnekofclciaaDoor
open Go.RowKit
set_option maxRecDepth 100000
set_option linter.unusedVariables false

/-- What is written of one jug. -/
def jgX (J : List Int) (x : Nat → Int) (j : Nat) : ByteArray := dcV (x j).toNat ++ ⟨#[47]⟩ ++ dcV (J.getD j 0).toNat
def pzX (J : List Int) (x : Nat → Int) (j : Nat) : ByteArray := if j < J.length then jgX J x j else ⟨#[116, 97, 112]⟩
noncomputable def pxV (J : List Int) (x : Nat → Int) (t : Bool) : ByteArray := if okZ J x = true then jT (pzX J x) (if t then J.length + 1 else J.length) else ⟨#[]⟩
theorem px_t {J : List Int} {x : Nat → Int} {t : Bool} (h : okZ J x = true) : pxV J x t = jT (pzX J x) (if t then J.length + 1 else J.length) := if_pos h
theorem px_f {J : List Int} {x : Nat → Int} {t : Bool} (h : okZ J x = false) : pxV J x t = ⟨#[]⟩ := if_neg (by rw [h]; decide)
theorem jg_num {J : List Int} {x : Nat → Int} (hJ : OkJ J) (hx : OkX J x) {j : Nat} (h : j < J.length) : (0 ≤ x j ∧ x j ≤ 60) ∧ (1 ≤ J.getD j 0 ∧ J.getD j 0 ≤ 60) := by
  have h1 := hx j (by have := hJ.1.2; omega)
  have h2 := hJ.2.1 j h
  omega
theorem dc_two {n : Nat} (h : n ≤ 99) : (dcV n).size ≤ 2 := dcV_len 2 n (by omega) (by decide)
theorem jg_size {J : List Int} {x : Nat → Int} (hJ : OkJ J) (hx : OkX J x) {j : Nat} (h : j < J.length) : (jgX J x j).size ≤ 5 := by
  have h1 := jg_num hJ hx h
  have h2 := dc_two (n := (x j).toNat) (by omega)
  have h3 := dc_two (n := (J.getD j 0).toNat) (by omega)
  unfold jgX
  rw [ByteArray.size_append, ByteArray.size_append, show (⟨#[47]⟩ : ByteArray).size = 1 from rfl]
  omega
theorem pz_size {J : List Int} {x : Nat → Int} (hJ : OkJ J) (hx : OkX J x) (j : Nat) : (pzX J x j).size ≤ 5 := by
  unfold pzX
  split
  · rename_i h; exact jg_size hJ hx h
  · decide
theorem ba_assoc (a b c : ByteArray) : a ++ b ++ c = a ++ (b ++ c) := by
  apply ByteArray.ext
  simp [ByteArray.data_append]
set_option maxHeartbeats 4000000 in
theorem l07Text_any (b off c : Nat) (J : List Int) (x : Nat → Int) (w0 : World) (hJ : OkJ J) (hx : OkX J x) (hb0 : b < w0.heap.size) (hc0 : At .i16 w0 b off J) :
    Calls Tryd.prog 16 #[.slice (some ⟨b, off, none⟩) J.length c, watV x] w0 fun e w' => e = .returned (.string (jT (pzX J x) J.length)) ∧ Below w0.heap.size w0 w' := by
  have HB00 := Lib.hid ((Below.refl w0.heap.size w0).alloc (Nat.le_refl _) (.cells #[.int .i16 (x 0), .int .i16 (x 1), .int .i16 (x 2), .int .i16 (x 3)] 28))
  have hp := blk_new w0 #[.int .i16 (x 0), .int .i16 (x 1), .int .i16 (x 2), .int .i16 (x 3)] 28
  have hc := hc0.below HB00.out hb0
  have hb := Nat.lt_of_lt_of_le hb0 HB00.out.size
  have hpl := hp.lt
  have HS00 := Lib.hid HB00.out.size
  have hl4 : J.length ≤ 4 := hJ.1.2
  have hl1 : 1 ≤ J.length := hJ.1.1
  have HSZ := Lib.hid (fun k => jT_size (pzX J x) 5 (pz_size hJ hx) k)
  have HN := Lib.hid (fun j (h : j < J.length) => jg_num hJ hx h)
  have HK0 := Lib.hid (And.intro hp hc)
  clear hJ hx hc hp hc0 hb0
  go_enter Tryd.func16, Tryd.ntmps16
  go_wp2
  generalize w0.alloc (.cells #[.int .i16 (x 0), .int .i16 (x 1), .int .i16 (x 2), .int .i16 (x 3)] 28) = w at *
  have HK := Lib.hid (fun W (h : Below w.heap.size w W) => (show _ ∧ _ from ⟨HK0.out.1.below h hpl, HK0.out.2.below h hb⟩))
  generalize hpb : w0.heap.size = pb at *
  have HPB := Lib.hid hpb
  clear hpb
  go_loopw [5, 6] (fun tv i wr => ∃ k : Nat, tv = .string (jT (pzX J x) k) ∧ i = .int .i64 k ∧ k ≤ J.length ∧ Below w.heap.size w wr) (fun _ i _ => J.length - (intOf i).toNat)
  case atStart => exact ⟨0, rfl, rfl, Nat.zero_le _, Below.refl _ _⟩
  case round =>
    obtain ⟨k, rfl, rfl, hk, hB⟩ := hrel
    obtain ⟨hpw, hcw⟩ := HK.out wr hB
    have hs1 := HSZ.out k
    by_cases hlt : k < J.length
    · have hkl : (k : Int) < (J.length : Int) := by omega
      have hn := HN.out k hlt
      obtain ⟨xa, hxa⟩ : ∃ xa : Nat, x k = xa := ⟨(x k).toNat, by omega⟩
      obtain ⟨ja, hja⟩ : ∃ ja : Nat, J.getD k 0 = ja := ⟨(J.getD k 0).toNat, by omega⟩
      rw [hxa, hja] at hn
      have HS := Lib.hid (fun W (h : Below w.heap.size w W) => (show W.cell? ⟨pb, k, none⟩ = some (.int .i16 (xa : Int)) ∧ W.cell? ⟨b, off + k, none⟩ = some (.int .i16 (ja : Int)) by
        obtain ⟨h1, h2⟩ := HK.out W h
        exact ⟨by rw [h1.wat (by omega), hxa], by rw [h2 k hlt, hja]⟩))
      have HT := Lib.hid (show pzX J x k = dcV xa ++ ⟨#[47]⟩ ++ dcV ja by unfold pzX; rw [if_pos hlt]; unfold jgX; rw [hxa, hja]; rfl)
      have hsx := dc_two (n := xa) (by omega)
      have hsj := dc_two (n := ja) (by omega)
      have HDx := Lib.hid (fun W => decimal_any xa W (by omega))
      have HDj := Lib.hid (fun W => decimal_any ja W (by omega))
      have HBB := Lib.hid hB
      obtain ⟨TP, hTP⟩ : ∃ TP : ByteArray, TP = (if k = 0 then jT (pzX J x) k else jT (pzX J x) k ++ ⟨#[32]⟩) := ⟨_, rfl⟩
      have hTPs : TP.size ≤ 6 * k + 1 := by
        rw [hTP]; split
        · omega
        · rw [ByteArray.size_append, show (⟨#[32]⟩ : ByteArray).size = 1 from rfl]; omega
      have HTP := Lib.hid (show jT (pzX J x) (k + 1) = TP ++ (dcV xa ++ ⟨#[47]⟩ ++ dcV ja) by rw [jT, ← hTP, HT.out])
      have hq1 := fun W => run_string_add_sum (P := Tryd.prog) W (jT (pzX J x) k) ⟨#[32]⟩ (by rw [show (⟨#[32]⟩ : ByteArray).size = 1 from rfl]; omega)
      by_cases hk0 : k = 0
      · rw [if_pos hk0] at hTP
        have hk00 : (k : Int) = 0 := by omega
        have hk1 : ¬ (0 : Int) < (k : Int) := by omega
        have hd1 : decide ((0 : Int) < (k : Int)) = false := by simp; omega
        clear hk0 hk00
        · rw [← hTP] at *
          clear hB hpw hcw hxa hja HT hq1
          have hq2 := fun W => run_string_add_sum (P := Tryd.prog) W (dcV xa) ⟨#[47]⟩ (by rw [show (⟨#[47]⟩ : ByteArray).size = 1 from rfl]; omega)
          have hq3 := fun W => run_string_add_sum (P := Tryd.prog) W (dcV xa ++ ⟨#[47]⟩) (dcV ja) (by rw [ByteArray.size_append, show (⟨#[47]⟩ : ByteArray).size = 1 from rfl]; omega)
          have hq4 := fun W => run_string_add_sum (P := Tryd.prog) W TP (dcV xa ++ ⟨#[47]⟩ ++ dcV ja) (by rw [ByteArray.size_append, ByteArray.size_append, show (⟨#[47]⟩ : ByteArray).size = 1 from rfl]; omega)
          have hw1 : IntKind.i64.wrap (xa : Int) = xa := IntWalk.i64_in _ (by omega)
          have hw2 : IntKind.i64.wrap (ja : Int) = ja := IntWalk.i64_in _ (by omega)
          have hk4 : (k : Int) < 4 := by omega
          generalize dcV xa = X at *
          generalize dcV ja = Y at *
          go_upto_region 7 with fail
          have keepS : ∀ W', Below w.heap.size w W' → (W'.cell? ⟨pb, k, none⟩ = some (.int .i16 (xa : Int)) ∧ W'.cell? ⟨b, off + k, none⟩ = some (.int .i16 (ja : Int))) := fun W' h => HS.out W' h
          have HB0 := Lib.hid (show Below w.heap.size w wr.drew from HBB.out.drew)
          go_region_held3 (fun W' => W'.cell? ⟨pb, k, none⟩ = some (.int .i16 (xa : Int)) ∧ W'.cell? ⟨b, off + k, none⟩ = some (.int .i16 (ja : Int)))
            (exact keepS _ (by with_reducible first | assumption | exact HB0.out))
            (first
              | (go_at_call 24; with_reducible refine (HDx.out _).mono ?_; rintro e w4 ⟨rfl, hb4⟩; have hq := Below.trans (by with_reducible first | assumption | exact HB0.out) (hb4.mono (Below.size (by with_reducible first | assumption | exact HB0.out))); clear hb4)
              | (go_at_call 24; with_reducible refine (HDj.out _).mono ?_; rintro e w4 ⟨rfl, hb4⟩; have hq := Below.trans (by with_reducible first | assumption | exact HB0.out) (hb4.mono (Below.size (by with_reducible first | assumption | exact HB0.out))); clear hb4))
          all_goals
            go_wp2_with fail
            exact ⟨⟨k + 1, sv HTP.out.symm, by go_num, by omega, by with_reducible first | assumption | exact HB0.out⟩, by simp [intOf]; omega⟩
      · rw [if_neg hk0] at hTP
        subst hTP
        have hk1 : (0 : Int) < (k : Int) := by omega
        clear hk0
        · clear hB hpw hcw hxa hja HT
          have hq2 := fun W => run_string_add_sum (P := Tryd.prog) W (dcV xa) ⟨#[47]⟩ (by rw [show (⟨#[47]⟩ : ByteArray).size = 1 from rfl]; omega)
          have hq3 := fun W => run_string_add_sum (P := Tryd.prog) W (dcV xa ++ ⟨#[47]⟩) (dcV ja) (by rw [ByteArray.size_append, show (⟨#[47]⟩ : ByteArray).size = 1 from rfl]; omega)
          have hq4 := fun W => run_string_add_sum (P := Tryd.prog) W (jT (pzX J x) k ++ ⟨#[32]⟩) (dcV xa ++ ⟨#[47]⟩ ++ dcV ja) (by rw [ByteArray.size_append] at hTPs; rw [ByteArray.size_append, ByteArray.size_append, ByteArray.size_append, show (⟨#[47]⟩ : ByteArray).size = 1 from rfl, show (⟨#[32]⟩ : ByteArray).size = 1 from rfl]; omega)
          have hw1 : IntKind.i64.wrap (xa : Int) = xa := IntWalk.i64_in _ (by omega)
          have hw2 : IntKind.i64.wrap (ja : Int) = ja := IntWalk.i64_in _ (by omega)
          have hk4 : (k : Int) < 4 := by omega
          generalize dcV xa = X at *
          generalize dcV ja = Y at *
          generalize jT (pzX J x) k = T at *
          go_upto_region 7 with fail
          clear hq1
          have keepS : ∀ W', Below w.heap.size w W' → (W'.cell? ⟨pb, k, none⟩ = some (.int .i16 (xa : Int)) ∧ W'.cell? ⟨b, off + k, none⟩ = some (.int .i16 (ja : Int))) := fun W' h => HS.out W' h
          have HB0 := Lib.hid (show Below w.heap.size w wr.drew from HBB.out.drew)
          go_region_held3 (fun W' => W'.cell? ⟨pb, k, none⟩ = some (.int .i16 (xa : Int)) ∧ W'.cell? ⟨b, off + k, none⟩ = some (.int .i16 (ja : Int)))
            (exact keepS _ (by with_reducible first | assumption | exact HB0.out))
            (first
              | (go_at_call 24; with_reducible refine (HDx.out _).mono ?_; rintro e w4 ⟨rfl, hb4⟩; have hq := Below.trans (by with_reducible first | assumption | exact HB0.out) (hb4.mono (Below.size (by with_reducible first | assumption | exact HB0.out))); clear hb4)
              | (go_at_call 24; with_reducible refine (HDj.out _).mono ?_; rintro e w4 ⟨rfl, hb4⟩; have hq := Below.trans (by with_reducible first | assumption | exact HB0.out) (hb4.mono (Below.size (by with_reducible first | assumption | exact HB0.out))); clear hb4))
          all_goals
            go_wp2_with fail
            exact ⟨⟨k + 1, sv HTP.out.symm, by go_num, by omega, by with_reducible first | assumption | exact HB0.out⟩, by simp [intOf]; omega⟩
    · have hkk : k = J.length := by omega
      have HB := Lib.hid hB
      rw [hkk] at hs1
      clear hlt hB hpw hcw hk
      subst hkk
      go_wp2
      go_ret
      exact ⟨rfl, by rw [HPB.out]; exact HB00.out.trans (HB.out.mono HS00.out)⟩
theorem okT_ZZ {J : List Int} {x : Nat → Int} (h : okT J x = true) : okZ J x = true ∧ OkJ J ∧ OkX J x := by
  have h1 : okG J = true ∧ okX J x = true := by unfold okT at h; simpa using h
  have hJ := (of_okG h1.1).okJ
  have hX : OkX J x := of_cb (p := OkX J x) h1.2
  exact ⟨cb_t ⟨hJ, hX⟩, hJ, hX⟩
noncomputable def gxV (J : List Int) (x : Nat → Int) : ByteArray := if okT J x = true then jT (pzX J x) J.length else ⟨#[]⟩
theorem specGlassesText_any (b off c : Nat) (J : List Int) (x : Nat → Int) (w : World) (hn : J.length ≤ 1048576) (hb : b < w.heap.size) (hc : At .i16 w b off J) :
    Calls Tryd.prog 5 #[.slice (some ⟨b, off, none⟩) J.length c, watV x] w fun e w' => e = .returned (.string (gxV J x)) ∧ Below w.heap.size w w' := by
  have hB := (Below.refl w.heap.size w).alloc (Nat.le_refl _) (.cells #[.int .i16 (x 0), .int .i16 (x 1), .int .i16 (x 2), .int .i16 (x 3)] 28)
  have k0 := blk_new w #[.int .i16 (x 0), .int .i16 (x 1), .int .i16 (x 2), .int .i16 (x 3)] 28
  have hb1 := Nat.lt_of_lt_of_le hb hB.size
  have hc1 := hc.below hB hb
  have HO := Lib.hid (l07Ok_any b off c J x _ hn hb1 hc1)
  have HB := Lib.hid hB
  have HX := Lib.hid (And.intro k0 hc1)
  clear hB hc k0 hc1
  cases hok : okT J x
  · rw [hok] at HO
    have HR := Lib.hid (show gxV J x = ⟨#[]⟩ by unfold gxV; rw [hok]; rfl)
    clear hok
    go_enter Tryd.func5, Tryd.ntmps5
    go_wp2_with fail
    refine HO.out.mono ?_
    rintro e w2 ⟨rfl, hb2⟩
    have HB2 := Lib.hid (HB.out.trans (hb2.mono HB.out.size))
    clear hb2
    go_wp2
    go_ret
    exact ⟨rets HR.out.symm, HB2.out⟩
  · rw [hok] at HO
    have HJ := Lib.hid (okT_ZZ hok)
    have HR := Lib.hid (show gxV J x = jT (pzX J x) J.length by unfold gxV; rw [hok]; rfl)
    have HF := Lib.hid (fun W h1 h2 => l07Text_any b off c J x W HJ.out.2.1 HJ.out.2.2 h1 h2)
    clear hok
    generalize jT (pzX J x) J.length = TX at *
    go_enter Tryd.func5, Tryd.ntmps5
    go_wp2_with fail
    refine HO.out.mono ?_
    rintro e w2 ⟨rfl, hb2⟩
    have HB2 := Lib.hid (HB.out.trans (hb2.mono HB.out.size))
    have HI := Lib.hid (HF.out w2 (Nat.lt_of_lt_of_le hb1 hb2.size) (HX.out.2.below hb2 hb1))
    obtain ⟨c0, c1, c2, c3, -⟩ := (HX.out.1.below hb2 HX.out.1.lt).four
    clear hb2 hb1
    go_wp2_with fail
    refine HI.out.mono ?_
    rintro e w3 ⟨rfl, hb3⟩
    have HB3 := Lib.hid (HB2.out.trans (hb3.mono HB2.out.size))
    clear hb3
    go_wp2
    go_ret
    exact ⟨rets HR.out.symm, HB3.out⟩
end Go.Proofs.YtnpgnekofclciaaDoor
