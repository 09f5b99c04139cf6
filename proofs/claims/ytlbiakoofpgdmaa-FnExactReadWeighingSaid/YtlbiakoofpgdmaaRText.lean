/-
  The walks of ReadPlacing, in the program and in its model.
-/
import Derived.Test.YtlbiakoofpgdmaaOwn
import Derived.Laws.Externs
namespace Go.Proofs.Ytlbiakoofpgdmaa
open Go.RowKit

theorem ret2v {v u : Value} {a b : Int} (h : v = u) (h2 : a = b) : Ending.returned (.tuple #[v, .int .i64 a]) = .returned (.tuple #[u, .int .i64 b]) := by rw [h, h2]
theorem firstIdx_signs (d : UInt8) : firstIdx ⟨#[45, 48, 43]⟩ d = if d = 45 then 0 else if d = 48 then 1 else if d = 43 then 2 else -1 := by
  unfold firstIdx
  rw [show (ByteArray.mk #[45, 48, 43]).size = 3 from rfl, show List.range 3 = [0, 1, 2] from rfl]
  by_cases h1 : d = 45
  · subst h1; decide
  · by_cases h2 : d = 48
    · subst h2; decide
    · by_cases h3 : d = 43
      · subst h3; decide
      · have e0 : ((ByteArray.mk #[45, 48, 43])[0]! == d) = false := by
          rw [show (ByteArray.mk #[45, 48, 43])[0]! = 45 from rfl]; simpa using fun h => h1 h.symm
        have e1 : ((ByteArray.mk #[45, 48, 43])[1]! == d) = false := by
          rw [show (ByteArray.mk #[45, 48, 43])[1]! = 48 from rfl]; simpa using fun h => h2 h.symm
        have e2 : ((ByteArray.mk #[45, 48, 43])[2]! == d) = false := by
          rw [show (ByteArray.mk #[45, 48, 43])[2]! = 43 from rfl]; simpa using fun h => h3 h.symm
        simp [List.find?, e0, e1, e2, h1, h2, h3]
/-- The number of a byte of a placing's text, -2 if it is none. -/
def valOf (d : UInt8) : Int := if d = 45 then -1 else if d = 48 then 0 else if d = 43 then 1 else -2
theorem firstIdx_val (d : UInt8) : firstIdx ⟨#[45, 48, 43]⟩ d = if valOf d = -2 then -1 else valOf d + 1 := by
  rw [firstIdx_signs]; unfold valOf
  by_cases h1 : d = 45
  · simp [h1]
  · by_cases h2 : d = 48
    · simp [h2]
    · by_cases h3 : d = 43
      · simp [h3]
      · simp [h1, h2, h3]
theorem liteIndexByte_any (c : Int) (w : World) : Calls Try.prog 58 #[.string ⟨#[45, 48, 43]⟩, .int .u8 c] w fun e w' => e = .returned (.int .i64 (firstIdx ⟨#[45, 48, 43]⟩ c.toNat.toUInt8)) ∧ w = w' := by
  go_enter Try.func58, Try.ntmps58
  go_wp2
  rw [run_callFunc_extern Try.func60 (by kernel_rfl) (by kernel_rfl) (by kernel_rfl) (e := Extern.BytealgIndexByte.indexByte) (by kernel_rfl), run_indexByte_string]
  simp only [Result.andThen]
  rw [Oper.upon_value]
  go_wp2
  go_ret
  exact ⟨rfl, rfl⟩
theorem indexByte_any (c : Int) (w : World) : Calls Try.prog 55 #[.string ⟨#[45, 48, 43]⟩, .int .u8 c] w fun e w' => e = .returned (.int .i64 (firstIdx ⟨#[45, 48, 43]⟩ c.toNat.toUInt8)) ∧ w = w' := by
  have H := Lib.hid (liteIndexByte_any c w)
  go_enter Try.func55, Try.ntmps55
  go_wp2_with fail
  refine H.out.mono ?_
  rintro e w' ⟨rfl, rfl⟩
  go_wp2
  go_ret
  exact ⟨rfl, rfl⟩

def valTo (d : UInt8) (m : Int) : Int := if d = 45 ∧ 0 < m then -1 else if d = 48 ∧ 1 < m then 0 else if d = 43 ∧ 2 < m then 1 else -2
theorem valTo_3 (d : UInt8) : valTo d 3 = valOf d := by unfold valTo valOf; simp
theorem valOf_bd (d : UInt8) : -2 ≤ valOf d ∧ valOf d ≤ 1 := by unfold valOf; repeat' split; all_goals omega
def valsTo (s : ByteArray) (k : Nat) : List Int := (s.data.toList.take k).map valOf
theorem valsTo_length (s : ByteArray) (k : Nat) (h : k ≤ s.size) : (valsTo s k).length = k := by
  unfold valsTo
  have : s.data.toList.length = s.size := by simp
  simp; omega
theorem valsTo_step (s : ByteArray) (k : Nat) (h : k < s.size) : valsTo s (k + 1) = valsTo s k ++ [valOf s[k]] := by
  unfold valsTo
  have hl : k < s.data.toList.length := by simpa using h
  rw [List.take_succ_eq_append_getElem hl, List.map_append]
  rfl
theorem valsTo_getD (s : ByteArray) (n j : Nat) (hn : n ≤ s.size) (h : j < n) : (valsTo s n).getD j 0 = valOf (s[j]'(by omega)) := by
  unfold valsTo
  have hl : j < s.data.toList.length := by simp; omega
  rw [List.getD_eq_getElem?_getD, List.getElem?_map, List.getElem?_take_of_lt h, List.getElem?_eq_getElem hl]
  rfl
theorem Try.info_i8 : (Try.prog.info? 22).map (fun i => (i.zero, i.size, i.bytes)) = some (some (.int .i8 0), 1, 1) := by kernel_rfl

/-- What ReadPlacing reads. -/
def RpOk (s : ByteArray) : Prop := (1 ≤ s.size ∧ s.size ≤ 16) ∧ ∀ j (h : j < s.size), valOf s[j] ≠ -2
noncomputable def rpV (s : ByteArray) : List Int := if cb (RpOk s) = true then valsTo s s.size else []
noncomputable def rpC (s : ByteArray) : Int := if cb (RpOk s) = true then 0 else 5
theorem rp_t {s : ByteArray} (h : RpOk s) : rpV s = valsTo s s.size ∧ rpC s = 0 := by unfold rpV rpC; rw [cb_t h]; exact ⟨rfl, rfl⟩
theorem rp_f {s : ByteArray} (h : ¬ RpOk s) : rpV s = [] ∧ rpC s = 5 := by unfold rpV rpC; rw [cb_f h]; exact ⟨rfl, rfl⟩
theorem below_of_grown {B : Nat} {a w w' : World} {row : Option Nat} (h : Below B a w) (hg : w.grownBy w' row) (hB : B ≤ w.heap.size) (hr : ∀ k, row = some k → B ≤ k) : Below B a w' := h.grown hg hB hr

set_option maxRecDepth 100000 in
theorem readPlacing_in (s : ByteArray) (w : World) (h1 : 1 ≤ s.size) (h2 : s.size ≤ 16) :
    Calls Try.prog 47 #[.string s] w fun e w' => ∃ v, e = .returned (.tuple #[v, .int .i64 (rpC s)]) ∧ OwnV .i8 w.heap.size w' v (rpV s) ∧ Below w.heap.size w w' := by
  have hmk := run_make_row' (P := Try.prog) 72 22 (.int .i8 0) 1 Try.underlying72 Try.info_i8 rfl .i64 .i64 s.size (by omega) (by omega)
  have hd1 : decide ((s.size : Int) < 1) = false := by simp; omega
  have hd2 : decide ((16 : Int) < (s.size : Int)) = false := by simp; omega
  go_enter Try.func47, Try.ntmps47
  go_wp2_with fail
  clear hmk
  go_loopw [20] (fun i wr => ∃ k : Nat, k ≤ s.size ∧ i = .int .i64 k ∧ wr.rowIs w.heap.size 22 s.size (fun j => if j < k then .int .i8 ((valsTo s s.size).getD j 0) else .int .i8 0) ∧ (∀ j (h : j < s.size), j < k → valOf s[j] ≠ -2) ∧ Below w.heap.size w wr) (fun i _ => s.size - (intOf i).toNat)
  case atStart =>
    refine ⟨0, Nat.zero_le _, rfl, ?_, fun j _ h => absurd h (by omega), (Below.refl _ _).alloc (Nat.le_refl _) _⟩
    simpa using World.rowIs_made w (.int .i8 0) s.size 22
  case round =>
    obtain ⟨k, hk, rfl, hr, hgood, hB⟩ := hrel
    have Hg := Lib.hid hgood
    clear hgood
    by_cases hlt : k < s.size
    · have hI : ∀ W, Calls Try.prog 55 #[.string ⟨#[45, 48, 43]⟩, .int .u8 (s[k].toNat : Int)] W fun e w' => e = .returned (.int .i64 (if valOf s[k] = -2 then -1 else valOf s[k] + 1)) ∧ W = w' := fun W => by
        have := indexByte_any (s[k].toNat : Int) W
        rw [show ((s[k].toNat : Int)).toNat.toUInt8 = s[k] from by simp, firstIdx_val] at this
        exact this
      have HI := Lib.hid hI
      clear hI
      have HV := Lib.hid (valsTo_getD s s.size k (Nat.le_refl _) hlt)
      have h2 : wr.cell? ⟨w.heap.size, k, none⟩ = some (.int .i8 0) := by simpa using hr.cell hlt
      have h3 : wr.frozen? ⟨w.heap.size, k, none⟩ = false := hr.frozen k
      by_cases hx : valOf s[k] = -2
      · have HR := Lib.hid (rp_f (s := s) (fun h => h.2 k hlt hx))
        rw [if_pos hx] at HI
        clear hx
        go_wp2_with fail
        refine (HI.out _).mono ?_
        rintro e w' ⟨rfl, rfl⟩
        go_wp2_with fail
        go_ret2
        refine ⟨_, ret2v rfl HR.out.2.symm, ?_, hB⟩
        rw [HR.out.1]
        exact OwnV.nil _ _ _ _ _
      · rw [if_neg hx] at HI
        have hbd := valOf_bd s[k]
        have HG2 := Lib.hid (show ∀ j (h : j < s.size), j < k + 1 → valOf s[j] ≠ -2 from fun j h hj => by
          by_cases e : j = k
          · subst e; exact hx
          · exact Hg.out j h (by omega))
        have hx1 : -1 ≤ valOf s[k] := by omega
        have Hst := Lib.hid (show ∀ v : Value, v = .int .i8 (valOf s[k]) → (wr.setCell ⟨w.heap.size, k, none⟩ v).rowIs w.heap.size 22 s.size (fun j => if j < k + 1 then .int .i8 ((valsTo s s.size).getD j 0) else .int .i8 0) from fun v hv => by
          refine (hr.set k v).congr ?_
          intro i hi
          by_cases e : i = k
          · subst e; rw [if_pos rfl, if_pos (Nat.lt_succ_self _), HV.out, hv]
          · by_cases e2 : i < k
            · simp [e, e2, Nat.lt_succ_of_lt e2]
            · simp [e, e2, show ¬ i < k + 1 by omega])
        clear hx
        generalize valOf s[k] = x at *
        go_wp2_with fail
        refine (HI.out _).mono ?_
        rintro e w' ⟨rfl, rfl⟩
        go_wp2_with fail
        go_roundw
        case rel => exact ⟨k + 1, by omega, by go_num, Hst.out _ (by first | rfl | (congr 1; omega)), HG2.out, hB.setCell (Nat.le_refl _) _⟩
        case measure => simp [intOf]; omega
    · have HK := Lib.hid (show k = s.size by omega)
      have HR := Lib.hid (rp_t (s := s) ⟨⟨h1, h2⟩, fun j h => Hg.out j h (by omega)⟩)
      have Hrow := Lib.hid (show RowOf .i8 22 wr w.heap.size (valsTo s s.size) from by
        unfold RowOf
        rw [valsTo_length _ _ (Nat.le_refl _)]
        exact hr.congr (fun i hi => by rw [HK.out, if_pos hi]))
      go_wp2
      go_ret2
      refine ⟨_, ret2v rfl HR.out.2.symm, ?_, hB⟩
      rw [HR.out.1]
      have := OwnV.row (c := s.size) Hrow.out (Nat.le_refl w.heap.size)
      rw [valsTo_length _ _ (Nat.le_refl _)] at this
      exact this
theorem readPlacing_any (s : ByteArray) (w : World) :
    Calls Try.prog 47 #[.string s] w fun e w' => ∃ v, e = .returned (.tuple #[v, .int .i64 (rpC s)]) ∧ OwnV .i8 w.heap.size w' v (rpV s) ∧ Below w.heap.size w w' := by
  by_cases h : 1 ≤ s.size ∧ s.size ≤ 16
  · exact readPlacing_in s w h.1 h.2
  · have HR := Lib.hid (rp_f (s := s) (fun k => h k.1))
    by_cases h3 : s.size < 1
    · have hd1 : decide ((s.size : Int) < 1) = true := by simp; omega
      have hd2 : (s.size : Int) < 1 := by omega
      clear h h3
      go_enter Try.func47, Try.ntmps47
      go_wp2
      go_ret2
      refine ⟨_, ret2v rfl HR.out.2.symm, ?_, Below.refl _ _⟩
      rw [HR.out.1]
      exact OwnV.nil _ _ _ _ _
    · have hd1 : decide ((s.size : Int) < 1) = false := by simp; omega
      have hd2 : decide ((16 : Int) < (s.size : Int)) = true := by simp; omega
      have hd3 : (16 : Int) < (s.size : Int) := by omega
      clear h h3
      go_enter Try.func47, Try.ntmps47
      go_wp2
      go_ret2
      refine ⟨_, ret2v rfl HR.out.2.symm, ?_, Below.refl _ _⟩
      rw [HR.out.1]
      exact OwnV.nil _ _ _ _ _
end Go.Proofs.Ytlbiakoofpgdmaa
