/-
  The text of weights, in the program.
-/
import Derived.Test.YteicfelaelhaiaaDoorWX1
import Derived.Test.YteicfelaelhaiaaDoorShelf
import Derived.Lib.AppendIntMem
import Derived.Deep.OwnRows
namespace Go.Proofs.YteicfelaelhaiaaDoor
open Go.RowKit
set_option maxRecDepth 100000
set_option linter.unusedVariables false

theorem Tryd.infoS : (Tryd.prog.info? 9).map (fun i => (i.zero, i.size, i.bytes)) = some (some (.string ⟨#[]⟩), 1, 16) := by kernel_rfl
/-- The table of strconv stands. -/
def Tab (w : World) : Prop := Lib.TabIs Tryd.prog w "internal/strconv.uint64pow10" .u64 Lib.pow10Tab
theorem Tab.below {w w' : World} (h : Tab w) (hb : Below w.heap.size w w') : Tab w' := Lib.tabBelow_of_tabIs h w' hb
theorem itoa_any (n : Nat) (w : World) (hn : n ≤ 32767) (ht : Tab w) :
    Calls Tryd.prog 16 #[.int .i64 (n : Int)] w fun e w' => e = .returned (.string (dcV n)) ∧ Below w.heap.size w w' := by
  refine (Tryd.strconv_Itoa (n : Int) (by omega) (by omega) w ht).mono ?_
  rintro e w' ⟨rfl, k, os, rfl⟩
  exact ⟨by rw [Lib.itoa_nonneg]; rfl, Lib.below_grow _ w (Nat.le_refl _) k os⟩
set_option maxHeartbeats 1000000 in
theorem weightsText_any (b off c : Nat) (xs : List Int) (w : World) (hn : xs.length ≤ 1048576) (hb : b < w.heap.size) (hc : At .i16 w b off xs) (hwf : I16 xs) (ht : Tab w) :
    Calls Tryd.prog 7 #[.slice (some ⟨b, off, none⟩) xs.length c] w fun e w' => e = .returned (.string (wtV xs)) ∧ Below w.heap.size w w' := by
  have HV := Lib.hid (validWeights_any b off c xs w hn hc hwf)
  cases hok : okW xs with
  | false =>
    rw [hok] at HV
    have HR := Lib.hid (wt_f hok)
    clear hok hc hwf
    generalize xs.length = n at *
    go_enter Tryd.func7, Tryd.ntmps7
    go_wp2_with fail
    refine HV.out.mono ?_
    rintro e w2 ⟨rfl, hd⟩
    have HB := Lib.hid hd.below
    clear hd
    go_wp2
    go_ret
    exact ⟨rets HR.out.symm, HB.out⟩
  | true =>
    rw [hok] at HV
    have hO : OkW xs := okW_of hok
    have HR := Lib.hid (wt_t hok)
    have hl16 := hO.2.1
    have HU := Lib.hid (ok_bounds hO)
    have HSZ := Lib.hid (jT_size (ntX xs) 5 (ntX_size (ok_bounds hO)) xs.length)
    have HC := Lib.hid hc
    have HTB := Lib.hid ht
    clear hok hc hwf hO ht
    have hmk := run_make_row' (P := Tryd.prog) 34 9 (.string ⟨#[]⟩) 16 Tryd.underlying34 Tryd.infoS rfl .i64 .i64 xs.length (by omega) (by omega)
    go_enter Tryd.func7, Tryd.ntmps7
    go_wp2_with fail
    refine HV.out.mono ?_
    rintro e w2 ⟨rfl, hd⟩
    have HB := Lib.hid hd.below
    clear hd
    go_wp2
    clear hmk
    go_loopw [14] (fun iv wr => ∃ k : Nat, iv = .int .i64 k ∧ k ≤ xs.length ∧ wr.rowIs w2.heap.size 9 xs.length (fun j => if j < k then .string (ntX xs j) else .string ⟨#[]⟩) ∧ Below w.heap.size w wr) (fun iv _ => xs.length - (intOf iv).toNat)
    case atStart => exact ⟨0, rfl, Nat.zero_le _, by simpa using World.rowIs_made w2 (.string ⟨#[]⟩) xs.length 9, HB.out.alloc HB.out.size _⟩
    case round =>
      obtain ⟨k, rfl, hk, hrow, hB⟩ := hrel
      have HB1 := Lib.hid hB
      have HRW := Lib.hid hrow
      by_cases hlt : k < xs.length
      · have hcell := (HC.out.below hB hb) k hlt
        have hkl : (k : Int) < (xs.length : Int) := by omega
        have hx := HU.out k
        obtain ⟨x, hxx⟩ : ∃ x : Nat, xs.getD k 0 = (x : Int) := ⟨(xs.getD k 0).toNat, by omega⟩
        rw [hxx] at hx hcell
        have hT : ntX xs k = dcV x := by unfold ntX; rw [hxx]; rfl
        have HTX := Lib.hid hT
        have HT := Lib.hid (fun W (hW : Below w.heap.size w W) => itoa_any x W (by omega) (HTB.out.below hW))
        clear hB hrow hT hxx
        generalize htx : dcV x = tx at *
        clear htx
        go_wp2_with fail
        refine (HT.out _ HB1.out).mono ?_
        rintro e w3 ⟨rfl, hb3⟩
        have HB3 := Lib.hid (HB1.out.trans (hb3.mono HB1.out.size))
        have hrow3 : w3.rowIs w2.heap.size 9 xs.length _ := World.rowIs.of_block HRW.out (hb3.block _ (World.rowIs.lt HRW.out))
        have hw := hrow3.cell (i := k) hlt
        have hfr := hrow3.frozen k
        simp only [Nat.lt_irrefl, if_false] at hw
        have HROW := Lib.hid ((hrow3.set k (.string tx)).congr (g := fun j => if j < k + 1 then .string (ntX xs j) else .string ⟨#[]⟩) (fun i hi => by
          by_cases e : i = k
          · subst e; rw [if_pos rfl, if_pos (Nat.lt_succ_self _), HTX.out]
          · by_cases e2 : i < k
            · simp [e, e2, Nat.lt_succ_of_lt e2]
            · simp [e, e2, show ¬ i < k + 1 by omega]))
        have HB4 := Lib.hid (HB3.out.setCell (show w.heap.size ≤ (⟨w2.heap.size, k, none⟩ : Addr).block from HB.out.size) (.string tx))
        clear hb3 hrow3
        go_wp2
        go_roundw
        case rel => exact ⟨k + 1, by go_num, by omega, HROW.out, HB4.out⟩
        case measure => simp [intOf]; omega
      · obtain rfl : k = xs.length := by omega
        have hpl := jL_len (ntX xs) xs.length
        have HJ := Lib.hid (Tryd.strings_Join w2.heap.size 0 xs.length (jL (ntX xs) xs.length) ⟨#[32]⟩ wr (fun j x hj => by
          have hj2 : j < xs.length := by rw [← hpl]; exact (List.getElem?_eq_some_iff.1 hj).1
          have h3 := hrow.cell (i := j) hj2
          rw [if_pos hj2] at h3
          rw [Nat.zero_add, h3]
          have : (jL (ntX xs) xs.length)[j]? = some (ntX xs j) := by unfold jL; simp [hj2]
          rw [this] at hj
          cases hj; rfl) (World.rowIs.lt hrow) (by omega) (by omega) (by
          rw [show (⟨#[32]⟩ : ByteArray).data.toList = [32] from rfl, jL_join]
          have h4 := HSZ.out
          have h5 : (jT (ntX xs) xs.length).data.toList.length = (jT (ntX xs) xs.length).size := Array.length_toList
          omega))
        rw [show (⟨#[32]⟩ : ByteArray).data.toList = [32] from rfl, jL_text, hpl] at HJ
        clear hB hrow
        generalize jT (ntX xs) xs.length = T at *
        go_wp2_with fail
        refine HJ.out.mono ?_
        rintro e w5 ⟨rfl, hb5⟩
        have HB5 := Lib.hid (HB1.out.trans (hb5.mono HB1.out.size))
        clear hb5
        go_wp2
        go_ret
        exact ⟨rets HR.out.symm, HB5.out⟩
end Go.Proofs.YteicfelaelhaiaaDoor
