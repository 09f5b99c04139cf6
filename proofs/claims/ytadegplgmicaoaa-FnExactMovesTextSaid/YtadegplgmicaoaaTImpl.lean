/-
  The walks of MovesText.
-/
import Derived.Test.YtadegplgmicaoaaTSpec
import Derived.Test.YtadegplgmicaoaaShelf
import Derived.Lib.Join
namespace Go.Proofs.Ytadegplgmicaoaa
open Go.RowKit
set_option maxRecDepth 100000
set_option linter.unusedVariables false

theorem join_snoc (sep a : List UInt8) : ∀ (l : List (List UInt8)), l ≠ [] → Lib.join (l ++ [a]) sep = Lib.join l sep ++ (sep ++ a) := by
  intro l
  induction l with
  | nil => exact fun h => absurd rfl h
  | cons x l ih =>
    intro _
    cases l with
    | nil => simp [Lib.join, List.intercalate, List.intersperse]
    | cons y l =>
      have h := ih (by simp)
      simp only [Lib.join, List.intercalate, List.intersperse, List.cons_append, List.flatten_cons] at h ⊢
      simp only [List.append_assoc] at h ⊢
      rw [h]
/-- The word of the j-th move. -/
def wdB (ms : List Mv) (j : Nat) : ByteArray := wordB (mvI ms j).1 (mvI ms j).2.1 (mvI ms j).2.2
theorem acc_join (ms : List Mv) (n : Nat) : (accB ms n).data.toList = Lib.join ((List.range n).map (fun j => (wdB ms j).data.toList)) [32] := by
  induction n with
  | zero => rfl
  | succ n ih =>
    rw [List.range_succ, List.map_append, List.map_cons, List.map_nil]
    unfold accB
    by_cases h : 0 < n
    · rw [if_pos h, join_snoc _ _ _ (by simp; omega), ByteArray.data_append, ByteArray.data_append, Array.toList_append, Array.toList_append, ih]
      simp [wdB]
    · obtain rfl : n = 0 := by omega
      rw [if_neg h]
      simp [Lib.join, List.intercalate, accB, wdB, ByteArray.data_append]
theorem acc_text (ms : List Mv) (n : Nat) : (⟨(Lib.join (((List.range n).map (wdB ms)).map (·.data.toList)) [32]).toArray⟩ : ByteArray) = accB ms n := by
  apply ByteArray.ext
  apply Array.toList_inj.1
  rw [acc_join]
  simp [List.map_map, Function.comp_def]
theorem specMovesText_any (b off c : Nat) (ms : List Mv) (w : World) (hn : ms.length ≤ 1048576) (hb : b < w.heap.size) (hc : MAt w b off ms) (hM : Mall ms) :
    Calls Try.prog 5 #[.slice (some ⟨b, off, none⟩) ms.length c] w fun e w' => e = .returned (.string (mtB ms)) ∧ Below w.heap.size w w' := by
  have HV := Lib.hid (l02Moves_any b off c ms w hn hb hc hM)
  unfold mtB
  cases hok : cb (OkT ms)
  · rw [hok] at HV
    clear hok
    simp only [Bool.false_eq_true, if_false]
    go_enter Try.func5, Try.ntmps5
    go_wp2_with fail
    refine HV.out.mono ?_
    rintro e w1 ⟨rfl, hb1⟩
    go_wp2
    go_ret
    exact ⟨rfl, hb1⟩
  · rw [hok] at HV
    have HO := Lib.hid (show OkT ms from of_cb hok)
    clear hok
    simp only [if_true]
    go_enter Try.func5, Try.ntmps5
    go_wp2_with fail
    refine HV.out.mono ?_
    rintro e w1 ⟨rfl, hb1⟩
    go_wp2_with fail
    refine (l02MovesText_any b off c ms w1 (Nat.lt_of_lt_of_le hb hb1.size) (hc.below hb1 hb) HO.out).mono ?_
    rintro e w2 ⟨rfl, hb2⟩
    go_wp2
    go_ret
    exact ⟨rfl, hb1.trans (hb2.mono hb1.size)⟩
theorem Try.infoS : (Try.prog.info? 9).map (fun i => (i.zero, i.size, i.bytes)) = some (some (.string ⟨#[]⟩), 1, 16) := by kernel_rfl
theorem movesText_long (a : Option Addr) (n c : Nat) (w : World) (h : 200 < n) :
    Calls Try.prog 7 #[.slice a n c] w fun e w' => e = .returned (.string ⟨#[]⟩) ∧ Below w.heap.size w w' := by
  have hd : (200 : Int) < (n : Int) := by omega
  go_enter Try.func7, Try.ntmps7
  go_wp2
  go_ret
  exact ⟨rfl, Below.refl _ _⟩
theorem movesText_some (b off c : Nat) (ms : List Mv) (w : World) (hl : ms.length ≤ 200) (hl1 : 0 < ms.length) (hb : b < w.heap.size) (hc : MAt w b off ms) (hM : Mall ms) :
    Calls Try.prog 7 #[.slice (some ⟨b, off, none⟩) ms.length c] w fun e w' => e = .returned (.string (mtB ms)) ∧ Below w.heap.size w w' := by
  have hmk := run_make_row' (P := Try.prog) 35 9 (.string ⟨#[]⟩) 16 Try.underlying35 Try.infoS rfl .i64 .i64 ms.length (by omega) (by omega)
  have hl2 : (ms.length : Int) ≤ 200 := by omega
  have HM := Lib.hid hM
  have HMT := Lib.hid (show mtB ms = if cb (OkT ms) = true then accB ms ms.length else ⟨#[]⟩ from rfl)
  generalize mtB ms = res at *
  clear hM
  go_enter Try.func7, Try.ntmps7
  go_wp2
  clear hmk
  have hr0 : (w.alloc (.cells (madeCells #[.string ⟨#[]⟩] ms.length) 9)).rowIs w.heap.size 9 ms.length (fun j => if j < 0 then .string (wdB ms j) else .string ⟨#[]⟩) := (World.rowIs_made w (.string ⟨#[]⟩) ms.length 9).congr (fun i _ => by simp)
  have hB0 := (Below.refl w.heap.size w).alloc (Nat.le_refl _) (.cells (madeCells #[.string ⟨#[]⟩] ms.length) 9)
  generalize (w.alloc (.cells (madeCells #[.string ⟨#[]⟩] ms.length) 9)) = w1 at *
  go_loopw [16] (fun i wr => ∃ k : Nat, i = .int .i64 k ∧ k ≤ ms.length ∧ OkUp ms k ∧ wr.rowIs w.heap.size 9 ms.length (fun j => if j < k then .string (wdB ms j) else .string ⟨#[]⟩) ∧ Below w.heap.size w wr) (fun i _ => ms.length - (intOf i).toNat)
  case atStart => exact ⟨0, rfl, Nat.zero_le _, fun j h => absurd h (by omega), hr0, hB0⟩
  case round =>
    obtain ⟨k, rfl, hk, hup, hr, hB⟩ := hrel
    have HU := Lib.hid hup
    have HR := Lib.hid hr
    have hrl := hr.lt
    clear hup hr
    by_cases hlt : k < ms.length
    · obtain ⟨c0, c1, c2⟩ := (hc.below hB hb) k hlt
      have hkl : (k : Int) < (ms.length : Int) := by omega
      have HAT := Lib.hid (show OkAt ms k ↔ OkM 4 (mvI ms k).1 (mvI ms k).2.1 (mvI ms k).2.2 from Iff.rfl)
      have hfb := (HM.out k).bf
      have hgb := (HM.out k).bg
      have HWD := Lib.hid (show wdB ms k = wordB (mvI ms k).1 (mvI ms k).2.1 (mvI ms k).2.2 from rfl)
      have HA := Lib.hid (fun W h => actionOf_ok (mvI ms k).1 (mvI ms k).2.1 (mvI ms k).2.2 4 W (by omega) h)
      have HN := Lib.hid (fun W h => actionOf_no (mvI ms k).1 (mvI ms k).2.1 (mvI ms k).2.2 4 W (by omega) hfb hgb h)
      have HWO := Lib.hid (fun W h => wordOf_any (mvI ms k).1 (mvI ms k).2.1 (mvI ms k).2.2 W h)
      generalize actV (mvI ms k).1 (mvI ms k).2.1 (mvI ms k).2.2 = av at *
      generalize hwd : wordB (mvI ms k).1 (mvI ms k).2.1 (mvI ms k).2.2 = wd at *
      clear hwd
      generalize (mvI ms k).1 = v0 at *
      generalize (mvI ms k).2.1 = v1 at *
      generalize (mvI ms k).2.2 = v2 at *
      have hBA := (Below.refl wr.heap.size wr).alloc (Nat.le_refl _) (.cells #[.int .i8 v0, .int .i8 v1, .int .i8 v2] 32)
      have HBA := Lib.hid hBA
      have HBW := Lib.hid hB
      clear hBA hB
      by_cases hok : OkM 4 v0 v1 v2
      · go_wp2_with fail
        refine (HA.out _ hok).mono ?_
        rintro e w3 ⟨rfl, hb3⟩
        have hb3r := HBA.out.trans (hb3.mono HBA.out.size)
        clear c0 c1 c2 hb3
        go_wp2_with fail
        refine (HWO.out _ hok).mono ?_
        rintro e w4 ⟨rfl, hb4⟩
        have hb4r := hb3r.trans (hb4.mono hb3r.size)
        have hr4 : w4.rowIs w.heap.size 9 ms.length (fun j => if j < k then .string (wdB ms j) else .string ⟨#[]⟩) := by
          obtain ⟨cs, h1, h2, h3⟩ := HR.out
          exact ⟨cs, (hb4r.block _ hrl).trans h1, h2, h3⟩
        have p0 : w4.cell? ⟨w.heap.size, k, none⟩ = some (.string ⟨#[]⟩) := by simpa using hr4.cell hlt
        have pf : w4.frozen? ⟨w.heap.size, k, none⟩ = false := hr4.frozen k
        have HB4 := Lib.hid (HBW.out.trans (hb4r.mono HBW.out.size))
        have HR4 := Lib.hid ((hr4.set k (.string wd)).congr (g := fun j => if j < k + 1 then .string (wdB ms j) else .string ⟨#[]⟩) (fun i hi => by
          by_cases e : i = k
          · subst e; simp [HWD.out]
          · by_cases e2 : i < k
            · simp [e, e2, Nat.lt_succ_of_lt e2]
            · simp [e, e2, show ¬ i < k + 1 by omega]))
        have HUN := Lib.hid (HU.out.snoc (HAT.out.2 hok))
        clear hok hb3r hb4 hb4r hr4
        go_wp2
        go_roundw
        case rel => exact ⟨k + 1, by go_num, by omega, HUN.out, HR4.out, HB4.out.setCell (Nat.le_refl _) _⟩
        case measure => simp [intOf]; omega
      · have hres : res = ⟨#[]⟩ := by
          rw [HMT.out, cb_f (fun h : OkT ms => hok (HAT.out.1 (h.2 k hlt)))]; rfl
        have HRES := Lib.hid hres
        clear hres
        go_wp2_with fail
        refine (HN.out _ hok).mono ?_
        rintro e w3 ⟨rfl, hb3⟩
        have HB3 := Lib.hid (HBW.out.trans ((HBA.out.trans (hb3.mono HBA.out.size)).mono HBW.out.size))
        clear c0 c1 c2 hb3 hok
        go_wp2
        go_ret
        exact ⟨by rw [HRES.out]; rfl, HB3.out⟩
    · have hkk : k = ms.length := by omega
      have hkl : ¬ (k : Int) < (ms.length : Int) := by omega
      have hres : res = accB ms ms.length := by
        rw [HMT.out, cb_t (p := OkT ms) ⟨hl, by rw [← hkk]; exact HU.out⟩]; rfl
      have HRES := Lib.hid hres
      have hxl : ((List.range ms.length).map (wdB ms)).length = ms.length := by simp
      have hcells : ∀ (j : Nat) x, ((List.range ms.length).map (wdB ms))[j]? = some x → wr.cell? ⟨w.heap.size, 0 + j, none⟩ = some (.string x) := by
        intro j x hx
        have hj : j < ms.length := by
          have := (List.getElem?_eq_some_iff.1 hx).1
          simpa using this
        rw [Nat.zero_add, HR.out.cell hj, if_pos (by omega)]
        simp [hj] at hx
        rw [← hx]
      have hsz : (Lib.join (((List.range ms.length).map (wdB ms)).map (·.data.toList)) (⟨#[32]⟩ : ByteArray).data.toList).length ≤ 140737488355328 := by
        have h1 := accB_size ms ms.length
        have h2 := congrArg ByteArray.size (acc_text ms ms.length)
        have h3 : (⟨(Lib.join (((List.range ms.length).map (wdB ms)).map (·.data.toList)) [32]).toArray⟩ : ByteArray).size = (Lib.join (((List.range ms.length).map (wdB ms)).map (·.data.toList)) [32]).length := by simp [ByteArray.size]
        rw [h3] at h2
        show (Lib.join (((List.range ms.length).map (wdB ms)).map (·.data.toList)) [32]).length ≤ _
        omega
      have HJ := Try.strings_Join w.heap.size 0 ms.length ((List.range ms.length).map (wdB ms)) ⟨#[32]⟩ wr hcells hrl (by rw [hxl]; omega) (by rw [hxl]; exact Nat.le_refl _) hsz
      rw [hxl, show (⟨(Lib.join (((List.range ms.length).map (wdB ms)).map (·.data.toList)) (⟨#[32]⟩ : ByteArray).data.toList).toArray⟩ : ByteArray) = accB ms ms.length from acc_text ms ms.length] at HJ
      have HJH := Lib.hid HJ
      clear hres hkk hxl hcells hsz HJ
      go_wp2_with fail
      refine HJH.out.mono ?_
      rintro e w2 ⟨rfl, hb2⟩
      go_wp2
      go_ret
      exact ⟨by rw [HRES.out]; rfl, hB.trans (hb2.mono hB.size)⟩
end Go.Proofs.Ytadegplgmicaoaa
