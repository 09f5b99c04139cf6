/-
  The walks of PlacingText, in the program and in its model.
-/
import Derived.Test.YtghhmhkpkpcbjaaLaw
import Derived.Laws.Concat
import Derived.Lib.SlBytesRow
namespace Go.Proofs.Ytghhmhkpkpcbjaa
open Go.RowKit

theorem sv {a b : ByteArray} (h : a = b) : Value.string a = Value.string b := by rw [h]
theorem rets {a b : ByteArray} (h : a = b) : Ending.returned (.string a) = .returned (.string b) := by rw [h]
def byteOf (x : Int) : UInt8 := if x = -1 then 45 else if x = 0 then 48 else 43
def textTo (ps : List Int) (k : Nat) : ByteArray := ⟨((ps.take k).map byteOf).toArray⟩
theorem textTo_size (ps : List Int) (k : Nat) : (textTo ps k).size ≤ k := by
  show ((ps.take k).map byteOf).toArray.size ≤ k
  simp; omega
theorem textTo_step (ps : List Int) (k : Nat) (h : k < ps.length) : textTo ps k ++ ⟨#[byteOf (ps.getD k 0)]⟩ = textTo ps (k + 1) := by
  unfold textTo
  rw [take_getD ps k h, List.map_append]
  simp [ByteArray.mk_append_mk]

noncomputable def ptV (ps : List Int) : ByteArray := if okP ps = true then (if ps.length ≤ 16 then textTo ps ps.length else ⟨#[]⟩) else ⟨#[]⟩
theorem Try.info_u8 : (Try.prog.info? 5).map (fun i => (i.zero, i.size, i.bytes)) = some (some (.int .u8 0), 1, 1) := by kernel_rfl
theorem placingText_some (b off c : Nat) (ps : List Int) (w : World) (h0 : 0 < ps.length) (hl : ps.length ≤ 16) (hb : b < w.heap.size) (hc : At .i8 w b off ps) (hP : OkP ps) :
    Calls Try.prog 33 #[.slice (some ⟨b, off, none⟩) ps.length c] w fun e w' => e = .returned (.string (textTo ps ps.length)) ∧ Below w.heap.size w w' := by
  have hO := Lib.hid (signsOnly_any b off c ps w (by omega) hc)
  rw [show okP ps = true from cb_t hP] at hO
  have HP := Lib.hid hP
  clear hP
  have hmk := run_make_row' (P := Try.prog) 69 5 (.int .u8 0) 1 Try.underlying69 Try.info_u8 rfl .i64 .i64 ps.length (by omega) (by omega)
  have hd : decide ((16 : Int) < (ps.length : Int)) = false := by simp; omega
  go_enter Try.func33, Try.ntmps33
  go_wp2_with fail
  refine hO.out.mono ?_
  rintro e w' ⟨rfl, rfl⟩
  go_wp2_with fail
  clear hmk
  go_loopw [19] (fun i wr => ∃ k : Nat, k ≤ ps.length ∧ i = .int .i64 k ∧ wr.rowIs w.heap.size 5 ps.length (fun j => if j < k then .int .u8 ((byteOf (ps.getD j 0)).toNat : Int) else .int .u8 0) ∧ Below w.heap.size w wr) (fun i _ => ps.length - (intOf i).toNat)
  case atStart =>
    refine ⟨0, Nat.zero_le _, rfl, ?_, (Below.refl _ _).alloc (Nat.le_refl _) _⟩
    simpa using World.rowIs_made w (.int .u8 0) ps.length 5
  case round =>
    obtain ⟨k, hk, rfl, hr, hB⟩ := hrel
    by_cases hlt : k < ps.length
    · have h1 : wr.cell? ⟨b, off + k, none⟩ = some (.int .i8 (ps.getD k 0)) := (hB.cell (by exact hb)).trans (hc k hlt)
      have h2 : wr.cell? ⟨w.heap.size, k, none⟩ = some (.int .u8 0) := by simpa using hr.cell hlt
      have h3 : wr.frozen? ⟨w.heap.size, k, none⟩ = false := hr.frozen k
      have hy : ps.getD k 0 = -1 ∨ ps.getD k 0 = 0 ∨ ps.getD k 0 = 1 := by have := HP.out k hlt; omega
      have Hst := Lib.hid (show ∀ v : Value, v = .int .u8 ((byteOf (ps.getD k 0)).toNat : Int) → (wr.setCell ⟨w.heap.size, k, none⟩ v).rowIs w.heap.size 5 ps.length (fun j => if j < k + 1 then .int .u8 ((byteOf (ps.getD j 0)).toNat : Int) else .int .u8 0) from fun v hv => by
        refine (hr.set k v).congr ?_
        intro i hi
        by_cases e : i = k
        · subst e; simp [hv]
        · by_cases e2 : i < k
          · simp [e, e2, Nat.lt_succ_of_lt e2]
          · simp [e, e2, show ¬ i < k + 1 by omega])
      generalize ps.getD k 0 = y at *
      rcases hy with rfl | rfl | rfl
      · go_wp2
        go_roundw
        case rel => exact ⟨k + 1, by omega, by go_num, Hst.out _ rfl, hB.setCell (Nat.le_refl _) _⟩
        case measure => simp [intOf]; omega
      · go_wp2
        go_roundw
        case rel => exact ⟨k + 1, by omega, by go_num, Hst.out _ rfl, hB.setCell (Nat.le_refl _) _⟩
        case measure => simp [intOf]; omega
      · go_wp2
        go_roundw
        case rel => exact ⟨k + 1, by omega, by go_num, Hst.out _ rfl, hB.setCell (Nat.le_refl _) _⟩
        case measure => simp [intOf]; omega
    · have HK := Lib.hid (show k = ps.length by omega)
      have hs : (textTo ps ps.length).size = ps.length := by
        show ((ps.take ps.length).map byteOf).toArray.size = ps.length
        simp
      have hby : Lib.Bytes wr w.heap.size 0 (textTo ps ps.length) := fun i hi => by
        have hi' : i < ps.length := by omega
        have := hr.cell hi'
        rw [HK.out, if_pos hi'] at this
        rw [Nat.zero_add, this]
        have e : (textTo ps ps.length)[i] = byteOf (ps.getD i 0) := by
          show ((ps.take ps.length).map byteOf).toArray[i] = _
          simp [List.getD_eq_getElem?_getD, List.getElem?_eq_getElem hi']
        rw [e]
      have hconv := Lib.run_convert_whole (P := Try.prog) wr 69 5 9 Try.underlying69 Try.underlying5 Try.underlying9 w.heap.size 0 (textTo ps ps.length) hby ps.length
      rw [hs] at hconv
      clear hby hs
      go_wp2
      go_ret
      exact ⟨rfl, hB⟩
theorem placingText_empty (b off c : Nat) (w : World) :
    Calls Try.prog 33 #[.slice (some ⟨b, off, none⟩) 0 c] w fun e w' => e = .returned (.string ⟨#[]⟩) ∧ Below w.heap.size w w' := by
  have hO := Lib.hid (signsOnly_any b off c [] w (by simp) (fun j hj => by simp at hj))
  rw [show okP [] = true from cb_t (p := OkP []) (fun j hj => by simp at hj)] at hO
  have hmk : ∀ w, (Instr.makeSlice 69 (.int .i64 0) (.int .i64 0)).run Try.prog w = .ok (.slice (some ⟨w.heap.size, 0, none⟩) 0 0) (w.alloc (.cells #[] 5)) := fun _ => by kernel_rfl
  have hconv := Lib.run_convert_whole (P := Try.prog) (w.alloc (.cells #[] 5)) 69 5 9 Try.underlying69 Try.underlying5 Try.underlying9 w.heap.size 0 ⟨#[]⟩ (fun i hi => absurd hi (Nat.not_lt_zero i)) 0
  rw [show (ByteArray.mk #[]).size = 0 from rfl] at hconv
  go_enter Try.func33, Try.ntmps33
  go_wp2_with fail
  refine hO.out.mono ?_
  rintro e w' ⟨rfl, rfl⟩
  go_wp2_with fail
  refine wp_loop_rounds 1 ?_
  rw [rounds_succ]
  go_wp2
  go_ret
  exact ⟨rfl, (Below.refl _ _).alloc (Nat.le_refl _) _⟩
theorem placingText_any (b off c : Nat) (ps : List Int) (w : World) (hn : ps.length ≤ 1048576) (hb : b < w.heap.size) (hc : At .i8 w b off ps) :
    Calls Try.prog 33 #[.slice (some ⟨b, off, none⟩) ps.length c] w fun e w' => e = .returned (.string (ptV ps)) ∧ Below w.heap.size w w' := by
  by_cases hl : ps.length ≤ 16
  · cases hok : okP ps
    · have hv : ptV ps = ⟨#[]⟩ := by unfold ptV; rw [hok]; rfl
      rw [hv]
      have hO := Lib.hid (signsOnly_any b off c ps w hn hc)
      rw [hok] at hO
      have hd : decide ((16 : Int) < (ps.length : Int)) = false := by simp; omega
      clear hok hv
      go_enter Try.func33, Try.ntmps33
      go_wp2_with fail
      refine hO.out.mono ?_
      rintro e w' ⟨rfl, rfl⟩
      go_wp2
      go_ret
      exact ⟨rfl, Below.refl _ _⟩
    · have hv : ptV ps = textTo ps ps.length := by unfold ptV; rw [hok, if_pos rfl, if_pos hl]
      rw [hv]
      by_cases h0 : 0 < ps.length
      · exact placingText_some b off c ps w h0 hl hb hc (of_cb hok)
      · obtain rfl : ps = [] := List.eq_nil_of_length_eq_zero (by omega)
        exact placingText_empty b off c w
  · have hv : ptV ps = ⟨#[]⟩ := by unfold ptV; rw [if_neg hl]; split <;> rfl
    rw [hv]
    have hd : decide ((16 : Int) < (ps.length : Int)) = true := by simp; omega
    have hd2 : (16 : Int) < (ps.length : Int) := by omega
    clear hv
    go_enter Try.func33, Try.ntmps33
    go_wp2
    go_ret
    exact ⟨rfl, Below.refl _ _⟩
end Go.Proofs.Ytghhmhkpkpcbjaa
