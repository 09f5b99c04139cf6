/-
  The text of a plan of turns: the program.
-/
import Derived.Test.YtlmmfcbdhmhekaaTT1
import Derived.Deep.OwnRows
namespace Go.Proofs.Ytlmmfcbdhmhekaa
open Go.RowKit
set_option maxRecDepth 100000
set_option linter.unusedVariables false

theorem Try.infoS : (Try.prog.info? 9).map (fun i => (i.zero, i.size, i.bytes)) = some (some (.string ⟨#[]⟩), 1, 16) := by kernel_rfl
theorem turnsText_any (b off c : Nat) (P : List Int) (w : World) (hn : P.length ≤ 1048576) (hb : b < w.heap.size) (hc : At .u8 w b off P) (hu : U8L P) :
    Calls Try.prog 6 #[.slice (some ⟨b, off, none⟩) P.length c] w fun e w' => e = .returned (.string (ttP P)) ∧ Below w.heap.size w w' := by
  have HV := Lib.hid (turnsIn_any (some ⟨b, off, none⟩) c P w hn (.inr ⟨b, off, rfl, hb, hc⟩) hu)
  by_cases h0 : plC P = 0
  rotate_left
  · have HR := Lib.hid (show ttP P = ⟨#[]⟩ from if_neg h0)
    have hpc := plC_cases P
    generalize plC P = q at *
    generalize tiV P = r at *
    have hd : (q == 0) = false := by simpa using h0
    clear hc hu
    go_enter Try.func6, Try.ntmps6
    go_wp2_with fail
    refine HV.out.mono ?_
    rintro e w2 ⟨rfl, rfl⟩
    go_wp2
    go_ret
    exact ⟨rets HR.out.symm, Below.refl _ _⟩
  have hl60 : P.length ≤ 60 := by
    by_cases h6 : 60 < P.length
    · exfalso
      by_cases hg : bigTo P P.length
      · rw [plC_big hg] at h0; omega
      · rw [plC_long hg h6] at h0; omega
    · omega
  have hsm : ∀ j, j < P.length → P.getD j 0 < 16 := fun j hj => by
    by_cases hg : bigTo P P.length
    · rw [plC_big hg] at h0; omega
    · by_cases h : 16 ≤ P.getD j 0
      · exact absurd ⟨j, hj, h⟩ hg
      · omega
  have HR := Lib.hid (show ttP P = acT P P.length from if_pos h0)
  rw [h0] at HV
  have HC := Lib.hid hc
  have HU := Lib.hid hu
  have HSM := Lib.hid hsm
  generalize tiV P = r at *
  clear hc hu h0 hsm
  have hmk := run_make_row' (P := Try.prog) 30 9 (.string ⟨#[]⟩) 16 Try.underlying30 Try.infoS rfl .i64 .i64 P.length (by omega) (by omega)
  go_enter Try.func6, Try.ntmps6
  go_wp2_with fail
  refine HV.out.mono ?_
  rintro e w2 ⟨rfl, rfl⟩
  go_wp2
  clear hmk
  go_loopw [20] (fun iv wr => ∃ k : Nat, iv = .int .i64 k ∧ k ≤ P.length ∧ wr.rowIs w.heap.size 9 P.length (fun j => if j < k then .string (txV (P.getD j 0).toNat) else .string ⟨#[]⟩) ∧ Below w.heap.size w wr) (fun iv _ => P.length - (intOf iv).toNat)
  case atStart => exact ⟨0, rfl, Nat.zero_le _, by simpa using World.rowIs_made w (.string ⟨#[]⟩) P.length 9, (Below.refl _ _).alloc (Nat.le_refl _) _⟩
  case round =>
    obtain ⟨k, rfl, hk, hrow, hB⟩ := hrel
    have HB := Lib.hid hB
    have HRW := Lib.hid hrow
    by_cases hlt : k < P.length
    · have hcell := (HC.out.below hB hb) k hlt
      have hkl : (k : Int) < (P.length : Int) := by omega
      have hux := HU.out k
      have hx16 := HSM.out k hlt
      have HT := Lib.hid (fun W => thingsText_any (P.getD k 0).toNat W (by omega))
      rw [Int.toNat_of_nonneg hux.1, show ttV (P.getD k 0) = txV (P.getD k 0).toNat from if_pos (by omega)] at HT
      clear hB hrow
      generalize htx : txV (P.getD k 0).toNat = tx at *
      have HTX := Lib.hid htx
      clear htx
      generalize hx : P.getD k 0 = x at *
      have HXX := Lib.hid hx
      clear hx
      go_wp2_with fail
      refine (HT.out _).mono ?_
      rintro e w3 ⟨rfl, hb3⟩
      have HB3 := Lib.hid (HB.out.trans (hb3.mono HB.out.size))
      have hrow3 : w3.rowIs w.heap.size 9 P.length _ := World.rowIs.of_block HRW.out (hb3.block _ (World.rowIs.lt HRW.out))
      have hw := hrow3.cell (i := k) hlt
      have hfr := hrow3.frozen k
      simp only [Nat.lt_irrefl, if_false] at hw
      have HROW := Lib.hid ((hrow3.set k (.string tx)).congr (g := fun j => if j < k + 1 then .string (txV (P.getD j 0).toNat) else .string ⟨#[]⟩) (fun i hi => by
        by_cases e : i = k
        · subst e; rw [if_pos rfl, if_pos (Nat.lt_succ_self _), HXX.out, HTX.out]
        · by_cases e2 : i < k
          · simp [e, e2, Nat.lt_succ_of_lt e2]
          · simp [e, e2, show ¬ i < k + 1 by omega]))
      have HB4 := Lib.hid (HB3.out.setCell (show w.heap.size ≤ (⟨w.heap.size, k, none⟩ : Addr).block from Nat.le_refl _) (.string tx))
      clear hb3 hrow3
      go_wp2
      go_roundw
      case rel => exact ⟨k + 1, by go_num, by omega, HROW.out, HB4.out⟩
      case measure => simp [intOf]; omega
    · obtain rfl : k = P.length := by omega
      have hpl := pwT_len P P.length
      have HJ := Lib.hid (Try.strings_Join w.heap.size 0 P.length (pwT P P.length) ⟨#[32]⟩ wr (fun j x hj => by
        have hj2 : j < P.length := by rw [← hpl]; exact (List.getElem?_eq_some_iff.1 hj).1
        have h3 := hrow.cell (i := j) hj2
        rw [if_pos hj2] at h3
        rw [Nat.zero_add, h3]
        have : (pwT P P.length)[j]? = some (txV (P.getD j 0).toNat) := by unfold pwT; simp [hj2]
        rw [this] at hj
        cases hj; rfl) (World.rowIs.lt hrow) (by omega) (by omega) (by
        rw [show (⟨#[32]⟩ : ByteArray).data.toList = [32] from rfl, pwT_join]
        have h4 := acT_size P P.length
        have h5 : (acT P P.length).data.toList.length = (acT P P.length).size := Array.length_toList
        omega))
      rw [show (⟨#[32]⟩ : ByteArray).data.toList = [32] from rfl, pwT_text, hpl] at HJ
      clear hB hrow
      generalize acT P P.length = T at *
      go_wp2_with fail
      refine HJ.out.mono ?_
      rintro e w5 ⟨rfl, hb5⟩
      have HB5 := Lib.hid (HB.out.trans (hb5.mono HB.out.size))
      clear hb5
      go_wp2
      go_ret
      exact ⟨rets HR.out.symm, HB5.out⟩
end Go.Proofs.Ytlmmfcbdhmhekaa
