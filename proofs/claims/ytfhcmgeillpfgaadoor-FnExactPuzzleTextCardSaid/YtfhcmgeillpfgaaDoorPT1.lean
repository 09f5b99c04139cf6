/-
  The text of a puzzle, in the model.
-/
import Derived.Test.YtfhcmgeillpfgaaDoorDC
import Derived.Test.YtfhcmgeillpfgaaDoorJugs4
import Derived.Deep.DeepCutAuto
import Derived.Deep.RegionHeld3
namespace Go.Proofs.YtfhcmgeillpfgaaDoor
open Go.RowKit
set_option maxRecDepth 100000
set_option linter.unusedVariables false

/-- What is written of one jug. -/
def jgX (J : List Int) (x : Nat → Int) (j : Nat) : ByteArray := dcV (x j).toNat ++ ⟨#[47]⟩ ++ dcV (J.getD j 0).toNat
def pzX (J : List Int) (x : Nat → Int) (j : Nat) : ByteArray := if j < J.length then jgX J x j else ⟨#[116, 97, 112]⟩
noncomputable def pxV (J : List Int) (x : Nat → Int) (t : Bool) : ByteArray := if okZ J x = true then jT (pzX J x) (if t then J.length + 1 else J.length) else ⟨#[]⟩
theorem px_t {J : List Int} {x : Nat → Int} {t : Bool} (h : okZ J x = true) : pxV J x t = jT (pzX J x) (if t then J.length + 1 else J.length) := if_pos h
theorem px_f {J : List Int} {x : Nat → Int} {t : Bool} (h : okZ J x = false) : pxV J x t = ⟨#[]⟩ := if_neg (by rw [h]; decide)
theorem jg_num {J : List Int} {x : Nat → Int} (hJ : OkJ J) (hx : OkX J x) {j : Nat} (h : j < J.length) : (0 ≤ x j ∧ x j ≤ 60) ∧ (1 ≤ J.getD j 0 ∧ J.getD j 0 ≤ 60) := by
  have h1 := hx j (by have := hJ.1.2; omega)
  have h2 := hJ.2.1 j h
  omega
theorem dc_two {n : Nat} (h : n ≤ 99) : (dcV n).size ≤ 2 := dcV_len 2 n (by omega) (by decide)
theorem jg_size {J : List Int} {x : Nat → Int} (hJ : OkJ J) (hx : OkX J x) {j : Nat} (h : j < J.length) : (jgX J x j).size ≤ 5 := by
  have h1 := jg_num hJ hx h
  have h2 := dc_two (n := (x j).toNat) (by omega)
  have h3 := dc_two (n := (J.getD j 0).toNat) (by omega)
  unfold jgX
  rw [ByteArray.size_append, ByteArray.size_append, show (⟨#[47]⟩ : ByteArray).size = 1 from rfl]
  omega
theorem pz_size {J : List Int} {x : Nat → Int} (hJ : OkJ J) (hx : OkX J x) (j : Nat) : (pzX J x j).size ≤ 5 := by
  unfold pzX
  split
  · rename_i h; exact jg_size hJ hx h
  · decide
theorem ba_assoc (a b c : ByteArray) : a ++ b ++ c = a ++ (b ++ c) := by
  apply ByteArray.ext
  simp [ByteArray.data_append]
set_option maxHeartbeats 4000000 in
theorem l02Text_any (pb b off c : Nat) (J : List Int) (x : Nat → Int) (t : Bool) (w : World) (hJ : OkJ J) (hx : OkX J x) (hb : b < w.heap.size) (hc : At .i16 w b off J) (hp : Blk w pb #[.slice (some ⟨b, off, none⟩) J.length c, .int .i16 (x 0), .int .i16 (x 1), .int .i16 (x 2), .int .i16 (x 3), .bool t] 31) :
    Calls Tryd.prog 16 #[.pointer (some ⟨pb, 0, none⟩)] w fun e w' => e = .returned (.string (jT (pzX J x) (if t then J.length + 1 else J.length))) ∧ Below w.heap.size w w' := by
  have hpl := hp.lt
  have hl4 : J.length ≤ 4 := hJ.1.2
  have hl1 : 1 ≤ J.length := hJ.1.1
  have HK := Lib.hid (fun W (h : Below w.heap.size w W) => (show _ ∧ _ from ⟨hp.below h hpl, hc.below h hb⟩))
  have HSZ := Lib.hid (fun k => jT_size (pzX J x) 5 (pz_size hJ hx) k)
  have HN := Lib.hid (fun j (h : j < J.length) => jg_num hJ hx h)
  have HX4 := Lib.hid (fun (W : World) (h : Blk W pb #[.slice (some ⟨b, off, none⟩) J.length c, .int .i16 (x 0), .int .i16 (x 1), .int .i16 (x 2), .int .i16 (x 3), .bool t] 31) (j : Nat) (hj : j < 4) => (show W.cell? ⟨pb, 1 + j, none⟩ = some (.int .i16 (x j)) by
    rw [h.cell]
    match j, hj with
    | 0, _ => rfl
    | 1, _ => rfl
    | 2, _ => rfl
    | 3, _ => rfl))
  obtain ⟨p0, p1, p2, p3, p4, p5, -⟩ := hp.six
  clear hJ hx hc hp p1 p2 p3 p4 p5
  go_enter Tryd.func16, Tryd.ntmps16
  go_wp2
  go_loopw [3, 4] (fun tv i wr => ∃ k : Nat, tv = .string (jT (pzX J x) k) ∧ i = .int .i64 k ∧ k ≤ J.length ∧ Below w.heap.size w wr) (fun _ i _ => J.length - (intOf i).toNat)
  case atStart => exact ⟨0, rfl, rfl, Nat.zero_le _, Below.refl _ _⟩
  case round =>
    obtain ⟨k, rfl, rfl, hk, hB⟩ := hrel
    obtain ⟨hpw, hcw⟩ := HK.out wr hB
    obtain ⟨p0, p1, p2, p3, p4, p5, -⟩ := hpw.six
    have hs1 := HSZ.out k
    by_cases hlt : k < J.length
    · have hkl : (k : Int) < (J.length : Int) := by omega
      have hn := HN.out k hlt
      obtain ⟨xa, hxa⟩ : ∃ xa : Nat, x k = xa := ⟨(x k).toNat, by omega⟩
      obtain ⟨ja, hja⟩ : ∃ ja : Nat, J.getD k 0 = ja := ⟨(J.getD k 0).toNat, by omega⟩
      rw [hxa, hja] at hn
      have HS := Lib.hid (fun W (h : Below w.heap.size w W) => (show W.cell? ⟨pb, 0, none⟩ = some (.slice (some ⟨b, off, none⟩) J.length c) ∧ W.cell? ⟨pb, 1 + k, none⟩ = some (.int .i16 (xa : Int)) ∧ W.cell? ⟨b, off + k, none⟩ = some (.int .i16 (ja : Int)) by
        obtain ⟨h1, h2⟩ := HK.out W h
        exact ⟨h1.cell 0, by rw [HX4.out W h1 k (by omega), hxa], by rw [h2 k hlt, hja]⟩))
      have HT := Lib.hid (show pzX J x k = dcV xa ++ ⟨#[47]⟩ ++ dcV ja by unfold pzX; rw [if_pos hlt]; unfold jgX; rw [hxa, hja]; rfl)
      have hsx := dc_two (n := xa) (by omega)
      have hsj := dc_two (n := ja) (by omega)
      have HDx := Lib.hid (fun W => decimal_any xa W (by omega))
      have HDj := Lib.hid (fun W => decimal_any ja W (by omega))
      have HBB := Lib.hid hB
      obtain ⟨TP, hTP⟩ : ∃ TP : ByteArray, TP = (if k = 0 then jT (pzX J x) k else jT (pzX J x) k ++ ⟨#[32]⟩) := ⟨_, rfl⟩
      have hTPs : TP.size ≤ 6 * k + 1 := by
        rw [hTP]; split
        · omega
        · rw [ByteArray.size_append, show (⟨#[32]⟩ : ByteArray).size = 1 from rfl]; omega
      have HTP := Lib.hid (show jT (pzX J x) (k + 1) = TP ++ (dcV xa ++ ⟨#[47]⟩ ++ dcV ja) by rw [jT, ← hTP, HT.out])
      have hq1 := fun W => run_string_add_sum (P := Tryd.prog) W (jT (pzX J x) k) ⟨#[32]⟩ (by rw [show (⟨#[32]⟩ : ByteArray).size = 1 from rfl]; omega)
      by_cases hk0 : k = 0
      · rw [if_pos hk0] at hTP
        have hk00 : (k : Int) = 0 := by omega
        have hk1 : ¬ (0 : Int) < (k : Int) := by omega
        have hd1 : decide ((0 : Int) < (k : Int)) = false := by simp; omega
        clear hk0 hk00
        · rw [← hTP] at *
          clear hB hpw hcw p1 p2 p3 p4 p5 hxa hja HT hq1
          have hq2 := fun W => run_string_add_sum (P := Tryd.prog) W (dcV xa) ⟨#[47]⟩ (by rw [show (⟨#[47]⟩ : ByteArray).size = 1 from rfl]; omega)
          have hq3 := fun W => run_string_add_sum (P := Tryd.prog) W (dcV xa ++ ⟨#[47]⟩) (dcV ja) (by rw [ByteArray.size_append, show (⟨#[47]⟩ : ByteArray).size = 1 from rfl]; omega)
          have hq4 := fun W => run_string_add_sum (P := Tryd.prog) W TP (dcV xa ++ ⟨#[47]⟩ ++ dcV ja) (by rw [ByteArray.size_append, ByteArray.size_append, show (⟨#[47]⟩ : ByteArray).size = 1 from rfl]; omega)
          have hw1 : IntKind.i64.wrap (xa : Int) = xa := IntWalk.i64_in _ (by omega)
          have hw2 : IntKind.i64.wrap (ja : Int) = ja := IntWalk.i64_in _ (by omega)
          have hk4 : (k : Int) < 4 := by omega
          generalize dcV xa = X at *
          generalize dcV ja = Y at *
          go_upto_region 7 with fail
          clear p0
          have keepS : ∀ W', Below w.heap.size w W' → (W'.cell? ⟨pb, 0, none⟩ = some (.slice (some ⟨b, off, none⟩) J.length c) ∧ W'.cell? ⟨pb, 1 + k, none⟩ = some (.int .i16 (xa : Int)) ∧ W'.cell? ⟨b, off + k, none⟩ = some (.int .i16 (ja : Int))) := fun W' h => HS.out W' h
          have HB0 := Lib.hid (show Below w.heap.size w wr.drew from HBB.out.drew)
          go_region_held3 (fun W' => W'.cell? ⟨pb, 0, none⟩ = some (.slice (some ⟨b, off, none⟩) J.length c) ∧ W'.cell? ⟨pb, 1 + k, none⟩ = some (.int .i16 (xa : Int)) ∧ W'.cell? ⟨b, off + k, none⟩ = some (.int .i16 (ja : Int)))
            (exact keepS _ (by with_reducible first | assumption | exact HB0.out))
            (first
              | (go_at_call 34; with_reducible refine (HDx.out _).mono ?_; rintro e w4 ⟨rfl, hb4⟩; have hq := Below.trans (by with_reducible first | assumption | exact HB0.out) (hb4.mono (Below.size (by with_reducible first | assumption | exact HB0.out))); clear hb4)
              | (go_at_call 34; with_reducible refine (HDj.out _).mono ?_; rintro e w4 ⟨rfl, hb4⟩; have hq := Below.trans (by with_reducible first | assumption | exact HB0.out) (hb4.mono (Below.size (by with_reducible first | assumption | exact HB0.out))); clear hb4))
          all_goals
            go_wp2_with fail
            exact ⟨⟨k + 1, sv HTP.out.symm, by go_num, by omega, by with_reducible first | assumption | exact HB0.out⟩, by simp [intOf]; omega⟩
      · rw [if_neg hk0] at hTP
        subst hTP
        have hk1 : (0 : Int) < (k : Int) := by omega
        clear hk0
        · clear hB hpw hcw p1 p2 p3 p4 p5 hxa hja HT
          have hq2 := fun W => run_string_add_sum (P := Tryd.prog) W (dcV xa) ⟨#[47]⟩ (by rw [show (⟨#[47]⟩ : ByteArray).size = 1 from rfl]; omega)
          have hq3 := fun W => run_string_add_sum (P := Tryd.prog) W (dcV xa ++ ⟨#[47]⟩) (dcV ja) (by rw [ByteArray.size_append, show (⟨#[47]⟩ : ByteArray).size = 1 from rfl]; omega)
          have hq4 := fun W => run_string_add_sum (P := Tryd.prog) W (jT (pzX J x) k ++ ⟨#[32]⟩) (dcV xa ++ ⟨#[47]⟩ ++ dcV ja) (by rw [ByteArray.size_append] at hTPs; rw [ByteArray.size_append, ByteArray.size_append, ByteArray.size_append, show (⟨#[47]⟩ : ByteArray).size = 1 from rfl, show (⟨#[32]⟩ : ByteArray).size = 1 from rfl]; omega)
          have hw1 : IntKind.i64.wrap (xa : Int) = xa := IntWalk.i64_in _ (by omega)
          have hw2 : IntKind.i64.wrap (ja : Int) = ja := IntWalk.i64_in _ (by omega)
          have hk4 : (k : Int) < 4 := by omega
          generalize dcV xa = X at *
          generalize dcV ja = Y at *
          generalize jT (pzX J x) k = T at *
          go_upto_region 7 with fail
          clear p0 hq1
          have keepS : ∀ W', Below w.heap.size w W' → (W'.cell? ⟨pb, 0, none⟩ = some (.slice (some ⟨b, off, none⟩) J.length c) ∧ W'.cell? ⟨pb, 1 + k, none⟩ = some (.int .i16 (xa : Int)) ∧ W'.cell? ⟨b, off + k, none⟩ = some (.int .i16 (ja : Int))) := fun W' h => HS.out W' h
          have HB0 := Lib.hid (show Below w.heap.size w wr.drew from HBB.out.drew)
          go_region_held3 (fun W' => W'.cell? ⟨pb, 0, none⟩ = some (.slice (some ⟨b, off, none⟩) J.length c) ∧ W'.cell? ⟨pb, 1 + k, none⟩ = some (.int .i16 (xa : Int)) ∧ W'.cell? ⟨b, off + k, none⟩ = some (.int .i16 (ja : Int)))
            (exact keepS _ (by with_reducible first | assumption | exact HB0.out))
            (first
              | (go_at_call 34; with_reducible refine (HDx.out _).mono ?_; rintro e w4 ⟨rfl, hb4⟩; have hq := Below.trans (by with_reducible first | assumption | exact HB0.out) (hb4.mono (Below.size (by with_reducible first | assumption | exact HB0.out))); clear hb4)
              | (go_at_call 34; with_reducible refine (HDj.out _).mono ?_; rintro e w4 ⟨rfl, hb4⟩; have hq := Below.trans (by with_reducible first | assumption | exact HB0.out) (hb4.mono (Below.size (by with_reducible first | assumption | exact HB0.out))); clear hb4))
          all_goals
            go_wp2_with fail
            exact ⟨⟨k + 1, sv HTP.out.symm, by go_num, by omega, by with_reducible first | assumption | exact HB0.out⟩, by simp [intOf]; omega⟩
    · have hkk : k = J.length := by omega
      have HB := Lib.hid hB
      rw [hkk] at hs1
      clear hlt hB hpw hcw hk
      subst hkk
      cases t
      · clear p0 p1 p2 p3 p4
        obtain ⟨q0, -, -, -, -, q5, -⟩ := (HK.out wr HB.out).1.six
        go_wp2
        go_ret
        exact ⟨rfl, HB.out⟩
      · clear p0 p1 p2 p3 p4
        obtain ⟨q0, -, -, -, -, q5, -⟩ := (HK.out wr HB.out).1.six
        have HE := Lib.hid (show jT (pzX J x) J.length ++ ⟨#[32, 116, 97, 112]⟩ = jT (pzX J x) (J.length + 1) by
          rw [jT_more _ (by omega), ba_assoc]
          congr 1
          unfold pzX
          rw [if_neg (Nat.lt_irrefl _)]
          rfl)
        have hq5 := fun W => run_string_add_sum (P := Tryd.prog) W (jT (pzX J x) J.length) ⟨#[32, 116, 97, 112]⟩ (by rw [show (⟨#[32, 116, 97, 112]⟩ : ByteArray).size = 4 from rfl]; omega)
        go_wp2
        go_ret
        exact ⟨rets HE.out, HB.out⟩
end Go.Proofs.YtfhcmgeillpfgaaDoor
