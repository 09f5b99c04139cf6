/-
  The walks of ReadPlacing, in the program and in its model.
-/
import Derived.Test.YtmngeloenchpdaaOwn
import Derived.Laws.Externs
namespace Go.Proofs.Ytmngeloenchpdaa
open Go.RowKit

theorem ret2v {v u : Value} {a b : Int} (h : v = u) (h2 : a = b) : Ending.returned (.tuple #[v, .int .i64 a]) = .returned (.tuple #[u, .int .i64 b]) := by rw [h, h2]
theorem firstIdx_signs (d : UInt8) : firstIdx ⟨#[45, 48, 43]⟩ d = if d = 45 then 0 else if d = 48 then 1 else if d = 43 then 2 else -1 := by
  unfold firstIdx
  rw [show (ByteArray.mk #[45, 48, 43]).size = 3 from rfl, show List.range 3 = [0, 1, 2] from rfl]
  by_cases h1 : d = 45
  · subst h1; decide
  · by_cases h2 : d = 48
    · subst h2; decide
    · by_cases h3 : d = 43
      · subst h3; decide
      · have e0 : ((ByteArray.mk #[45, 48, 43])[0]! == d) = false := by
          rw [show (ByteArray.mk #[45, 48, 43])[0]! = 45 from rfl]; simpa using fun h => h1 h.symm
        have e1 : ((ByteArray.mk #[45, 48, 43])[1]! == d) = false := by
          rw [show (ByteArray.mk #[45, 48, 43])[1]! = 48 from rfl]; simpa using fun h => h2 h.symm
        have e2 : ((ByteArray.mk #[45, 48, 43])[2]! == d) = false := by
          rw [show (ByteArray.mk #[45, 48, 43])[2]! = 43 from rfl]; simpa using fun h => h3 h.symm
        simp [List.find?, e0, e1, e2, h1, h2, h3]
/-- The number of a byte of a placing's text, -2 if it is none. -/
def valOf (d : UInt8) : Int := if d = 45 then -1 else if d = 48 then 0 else if d = 43 then 1 else -2
theorem firstIdx_val (d : UInt8) : firstIdx ⟨#[45, 48, 43]⟩ d = if valOf d = -2 then -1 else valOf d + 1 := by
  rw [firstIdx_signs]; unfold valOf
  by_cases h1 : d = 45
  · simp [h1]
  · by_cases h2 : d = 48
    · simp [h2]
    · by_cases h3 : d = 43
      · simp [h3]
      · simp [h1, h2, h3]
theorem liteIndexByte_any (c : Int) (w : World) : Calls Try.prog 49 #[.string ⟨#[45, 48, 43]⟩, .int .u8 c] w fun e w' => e = .returned (.int .i64 (firstIdx ⟨#[45, 48, 43]⟩ c.toNat.toUInt8)) ∧ w = w' := by
  go_enter Try.func49, Try.ntmps49
  go_wp2
  rw [run_callFunc_extern Try.func58 (by kernel_rfl) (by kernel_rfl) (by kernel_rfl) (e := Extern.BytealgIndexByte.indexByte) (by kernel_rfl), run_indexByte_string]
  simp only [Result.andThen]
  rw [Oper.upon_value]
  go_wp2
  go_ret
  exact ⟨rfl, rfl⟩
theorem indexByte_any (c : Int) (w : World) : Calls Try.prog 35 #[.string ⟨#[45, 48, 43]⟩, .int .u8 c] w fun e w' => e = .returned (.int .i64 (firstIdx ⟨#[45, 48, 43]⟩ c.toNat.toUInt8)) ∧ w = w' := by
  have H := Lib.hid (liteIndexByte_any c w)
  go_enter Try.func35, Try.ntmps35
  go_wp2_with fail
  refine H.out.mono ?_
  rintro e w' ⟨rfl, rfl⟩
  go_wp2
  go_ret
  exact ⟨rfl, rfl⟩

def valTo (d : UInt8) (m : Int) : Int := if d = 45 ∧ 0 < m then -1 else if d = 48 ∧ 1 < m then 0 else if d = 43 ∧ 2 < m then 1 else -2
theorem valTo_3 (d : UInt8) : valTo d 3 = valOf d := by unfold valTo valOf; simp
theorem valOf_bd (d : UInt8) : -2 ≤ valOf d ∧ valOf d ≤ 1 := by unfold valOf; repeat' split; all_goals omega
def valsTo (s : ByteArray) (k : Nat) : List Int := (s.data.toList.take k).map valOf
theorem valsTo_length (s : ByteArray) (k : Nat) (h : k ≤ s.size) : (valsTo s k).length = k := by
  unfold valsTo
  have : s.data.toList.length = s.size := by simp
  simp; omega
theorem valsTo_step (s : ByteArray) (k : Nat) (h : k < s.size) : valsTo s (k + 1) = valsTo s k ++ [valOf s[k]] := by
  unfold valsTo
  have hl : k < s.data.toList.length := by simpa using h
  rw [List.take_succ_eq_append_getElem hl, List.map_append]
  rfl
theorem valsTo_getD (s : ByteArray) (n j : Nat) (hn : n ≤ s.size) (h : j < n) : (valsTo s n).getD j 0 = valOf (s[j]'(by omega)) := by
  unfold valsTo
  have hl : j < s.data.toList.length := by simp; omega
  rw [List.getD_eq_getElem?_getD, List.getElem?_map, List.getElem?_take_of_lt h, List.getElem?_eq_getElem hl]
  rfl
theorem Try.info_i8 : (Try.prog.info? 51).map (fun i => (i.zero, i.size, i.bytes)) = some (some (.int .i8 0), 1, 1) := by kernel_rfl

/-- What ReadPlacing reads. -/
def RpOk (s : ByteArray) : Prop := (1 ≤ s.size ∧ s.size ≤ 16) ∧ ∀ j (h : j < s.size), valOf s[j] ≠ -2
noncomputable def rpV (s : ByteArray) : List Int := if cb (RpOk s) = true then valsTo s s.size else []
noncomputable def rpC (s : ByteArray) : Int := if cb (RpOk s) = true then 0 else 5
theorem rp_t {s : ByteArray} (h : RpOk s) : rpV s = valsTo s s.size ∧ rpC s = 0 := by unfold rpV rpC; rw [cb_t h]; exact ⟨rfl, rfl⟩
theorem rp_f {s : ByteArray} (h : ¬ RpOk s) : rpV s = [] ∧ rpC s = 5 := by unfold rpV rpC; rw [cb_f h]; exact ⟨rfl, rfl⟩
theorem below_of_grown {B : Nat} {a w w' : World} {row : Option Nat} (h : Below B a w) (hg : w.grownBy w' row) (hB : B ≤ w.heap.size) (hr : ∀ k, row = some k → B ≤ k) : Below B a w' := h.grown hg hB hr

set_option maxRecDepth 100000 in
theorem specReadPlacing_in (s : ByteArray) (w : World) (h1 : 1 ≤ s.size) (h2 : s.size ≤ 16) :
    Calls Try.prog 11 #[.string s] w fun e w' => ∃ v, e = .returned (.tuple #[v, .int .i64 (rpC s)]) ∧ OwnV .i8 w.heap.size w' v (rpV s) ∧ Below w.heap.size w w' := by
  obtain ⟨i0, hi, hz0, hz1, hz2⟩ := info_parts Try.info_i8
  go_enter Try.func11, Try.ntmps11
  go_wp2_with fail
  refine (l00In_t _ _ _ _ (by omega)).mono ?_
  rintro e w' ⟨rfl, rfl⟩
  go_wp2_with fail
  go_loopw [4, 5] (fun v i wr => ∃ k : Nat, k ≤ s.size ∧ i = .int .i64 k ∧ wr.ownsRow w.heap.size 51 1 v k ((valsTo s k).map (Value.int .i8)) ∧ (∀ j (h : j < s.size), j < k → valOf s[j] ≠ -2) ∧ Below w.heap.size w wr) (fun _ i _ => s.size - (intOf i).toNat)
  case atStart =>
    refine ⟨0, Nat.zero_le _, rfl, ?_, fun j _ h => absurd h (by omega), (Below.refl _ _).alloc (Nat.le_refl _) _⟩
    exact World.ownsRow_made w #[] 0 (Nat.le_refl _) (by unfold maxLen; omega) (by simp)
  case round =>
    obtain ⟨k, hk, rfl, hown, hgood, hB⟩ := hrel
    have Hg := Lib.hid hgood
    clear hgood
    by_cases hlt : k < s.size
    · obtain ⟨wo, rfl⟩ : ∃ wo : World, wo = wr := ⟨_, rfl⟩
      have hv3 := Lib.hid (valTo_3 s[k])
      go_wp2_with fail
      go_loopw [6, 7] (fun x q wi => ∃ m : Int, 0 ≤ m ∧ m ≤ 3 ∧ q = .int .i64 m ∧ x = .int .i8 (valTo s[k] m) ∧ Dr wo wi) (fun _ q _ => 3 - (intOf q).toNat)
      case atStart => exact ⟨0, by omega, by omega, rfl, by simp [valTo], Dr.refl _⟩
      case round =>
        obtain ⟨m, hm0, hm, rfl, rfl, hdr⟩ := hrel
        have hm4 : m = 0 ∨ m = 1 ∨ m = 2 ∨ m = 3 := by omega
        rcases hm4 with rfl | rfl | rfl | rfl
        · have Hx := Lib.hid (show ((45 : Int) == (s[k].toNat : Int)) = true → valTo s[k] 1 = -1 from fun hb => by
            have hq : s[k] = 45 := by
              apply UInt8.toNat_inj.1
              have : (45 : Int) = (s[k].toNat : Int) := by simpa using hb
              rw [show ((45 : UInt8).toNat) = 45 from rfl]; omega
            rw [hq]; decide)
          have Hy := Lib.hid (show ((45 : Int) == (s[k].toNat : Int)) = false → valTo s[k] 1 = valTo s[k] 0 from fun hb => by
            have hq : ¬ s[k] = 45 := fun e => by rw [e] at hb; revert hb; decide
            unfold valTo
            simp [hq])
          generalize valTo s[k] 0 = x at *
          go_wp2
          go_quiet (fail)
          go_wp2
          · have hb : ((45 : Int) == (s[k].toNat : Int)) = true := by assumption
            have hv := Hx.out hb
            clear hb
            go_roundw
            case rel => exact ⟨1, by omega, by omega, by go_num, by rw [hv], hdr.trans (Dr.of _ _)⟩
            case measure => simp [intOf]
          · have hb : ((45 : Int) == (s[k].toNat : Int)) = false := by assumption
            have hv := Hy.out hb
            clear hb
            go_roundw
            case rel => exact ⟨1, by omega, by omega, by go_num, by rw [hv], hdr.trans (Dr.of _ _)⟩
            case measure => simp [intOf]
        · have Hx := Lib.hid (show ((48 : Int) == (s[k].toNat : Int)) = true → valTo s[k] 2 = 0 from fun hb => by
            have hq : s[k] = 48 := by
              apply UInt8.toNat_inj.1
              have : (48 : Int) = (s[k].toNat : Int) := by simpa using hb
              rw [show ((48 : UInt8).toNat) = 48 from rfl]; omega
            rw [hq]; decide)
          have Hy := Lib.hid (show ((48 : Int) == (s[k].toNat : Int)) = false → valTo s[k] 2 = valTo s[k] 1 from fun hb => by
            have hq : ¬ s[k] = 48 := fun e => by rw [e] at hb; revert hb; decide
            unfold valTo
            simp [hq])
          generalize valTo s[k] 1 = x at *
          go_wp2
          go_quiet (fail)
          go_wp2
          · have hb : ((48 : Int) == (s[k].toNat : Int)) = true := by assumption
            have hv := Hx.out hb
            clear hb
            go_roundw
            case rel => exact ⟨2, by omega, by omega, by go_num, by rw [hv], hdr.trans (Dr.of _ _)⟩
            case measure => simp [intOf]
          · have hb : ((48 : Int) == (s[k].toNat : Int)) = false := by assumption
            have hv := Hy.out hb
            clear hb
            go_roundw
            case rel => exact ⟨2, by omega, by omega, by go_num, by rw [hv], hdr.trans (Dr.of _ _)⟩
            case measure => simp [intOf]
        · have Hx := Lib.hid (show ((43 : Int) == (s[k].toNat : Int)) = true → valTo s[k] 3 = 1 from fun hb => by
            have hq : s[k] = 43 := by
              apply UInt8.toNat_inj.1
              have : (43 : Int) = (s[k].toNat : Int) := by simpa using hb
              rw [show ((43 : UInt8).toNat) = 43 from rfl]; omega
            rw [hq]; decide)
          have Hy := Lib.hid (show ((43 : Int) == (s[k].toNat : Int)) = false → valTo s[k] 3 = valTo s[k] 2 from fun hb => by
            have hq : ¬ s[k] = 43 := fun e => by rw [e] at hb; revert hb; decide
            unfold valTo
            simp [hq])
          generalize valTo s[k] 2 = x at *
          go_wp2
          go_quiet (fail)
          go_wp2
          · have hb : ((43 : Int) == (s[k].toNat : Int)) = true := by assumption
            have hv := Hx.out hb
            clear hb
            go_roundw
            case rel => exact ⟨3, by omega, by omega, by go_num, by rw [hv], hdr.trans (Dr.of _ _)⟩
            case measure => simp [intOf]
          · have hb : ((43 : Int) == (s[k].toNat : Int)) = false := by assumption
            have hv := Hy.out hb
            clear hb
            go_roundw
            case rel => exact ⟨3, by omega, by omega, by go_num, by rw [hv], hdr.trans (Dr.of _ _)⟩
            case measure => simp [intOf]
        · by_cases hx : valOf s[k] = -2
          · have HR := Lib.hid (rp_f (s := s) (fun h => h.2 k hlt hx))
            have hv : valTo s[k] 3 = -2 := hv3.out.trans hx
            rw [hv]
            clear hx hv
            go_wp2
            go_ret2
            refine ⟨_, ret2v rfl HR.out.2.symm, ?_, (hB.trans (hdr.below.mono hB.size)).alloc (hB.trans (hdr.below.mono hB.size)).size _⟩
            rw [HR.out.1]
            exact OwnV.nil _ _ _ _ _
          · have hb : (valOf s[k] == -2) = false := by simpa using hx
            rw [hv3.out]
            have HX := Lib.hid hx
            have Hst := Lib.hid (valsTo_step s k hlt)
            have hbd := valOf_bd s[k]
            have HG2 := Lib.hid (show ∀ j (h : j < s.size), j < k + 1 → valOf s[j] ≠ -2 from fun j h hj => by
              by_cases e : j = k
              · subst e; exact hx
              · exact Hg.out j h (by omega))
            clear hx
            generalize valOf s[k] = x at *
            obtain ⟨q, rfl⟩ := hdr
            have hown2 : (wo.drewN q).ownsRow w.heap.size 51 1 u4 k ((valsTo s k).map (Value.int .i8)) := hown
            have hB2 : Below w.heap.size w (wo.drewN q) := below_drewN hB q
            generalize wo.drewN q = wq at *
            go_wp2_with (first
              | (at_builtin; refine wpList_append_own _ rfl _ _ 24 rfl w.heap.size 51 i0 (.int .i8 0) 1 1 Try.underlying24 hi hz0 hz1 hz2 rfl (by decide) _ _ _ rfl (hown2.alloc _) ⟨wq.heap.size, 0, none⟩ 1 1 [.int .i8 x] rfl rfl ?c1 ?c2 ?c3 ?c4 ?c5 ?_)
              | go_in)
            case c1 =>
              intro j u hj
              match j, hj with
              | 0, hj => simp at hj; subst hj; simp [Addr.add]
            case c2 => intro u hu; simp at hu; subst hu; rfl
            case c3 => unfold maxLen; omega
            case c4 => omega
            case c5 => have := hB2.size; simp; omega
            · intro v' w1 hown' hgrow _
              have hB3 : Below w.heap.size w w1 := (hB2.alloc hB2.size _).grown hgrow (by have := hB2.size; simp; omega) (fun j hj => (hown2.lt j hj).1)
              clear hgrow
              go_wp2
              go_roundw
              case rel => exact ⟨k + 1, by omega, by go_num, by rw [Hst.out, List.map_append]; exact hown', HG2.out, hB3⟩
              case measure => simp [intOf]; omega
    · have HK := Lib.hid (show k = s.size by omega)
      have HR := Lib.hid (rp_t (s := s) ⟨⟨h1, h2⟩, fun j h => Hg.out j h (by omega)⟩)
      go_wp2
      go_ret2
      refine ⟨_, ret2v rfl HR.out.2.symm, ?_, hB⟩
      rw [HR.out.1]
      refine OwnV.ofOwns (t := 51) (n := k) (by rw [valsTo_length _ _ (Nat.le_refl _)]; exact HK.out) ?_
      rw [← HK.out]
      exact hown
theorem specReadPlacing_any (s : ByteArray) (w : World) :
    Calls Try.prog 11 #[.string s] w fun e w' => ∃ v, e = .returned (.tuple #[v, .int .i64 (rpC s)]) ∧ OwnV .i8 w.heap.size w' v (rpV s) ∧ Below w.heap.size w w' := by
  by_cases h : 1 ≤ s.size ∧ s.size ≤ 16
  · exact specReadPlacing_in s w h.1 h.2
  · have HR := Lib.hid (rp_f (s := s) (fun k => h k.1))
    have hh : ¬ (1 ≤ (s.size : Int) ∧ (s.size : Int) ≤ 16) := by omega
    have H1 := Lib.hid hh
    clear h hh
    go_enter Try.func11, Try.ntmps11
    go_wp2_with fail
    refine (l00In_f _ _ _ _ H1.out).mono ?_
    rintro e w' ⟨rfl, rfl⟩
    go_wp2
    go_ret2
    refine ⟨_, ret2v rfl HR.out.2.symm, ?_, (Below.refl _ _).alloc (Nat.le_refl _) _⟩
    rw [HR.out.1]
    exact OwnV.nil _ _ _ _ _

set_option maxRecDepth 100000 in
theorem readPlacing_in (s : ByteArray) (w : World) (h1 : 1 ≤ s.size) (h2 : s.size ≤ 16) :
    Calls Try.prog 12 #[.string s] w fun e w' => ∃ v, e = .returned (.tuple #[v, .int .i64 (rpC s)]) ∧ OwnV .i8 w.heap.size w' v (rpV s) ∧ Below w.heap.size w w' := by
  have hmk := run_make_row' (P := Try.prog) 24 51 (.int .i8 0) 1 Try.underlying24 Try.info_i8 rfl .i64 .i64 s.size (by omega) (by omega)
  have hd1 : decide ((s.size : Int) < 1) = false := by simp; omega
  have hd2 : decide ((16 : Int) < (s.size : Int)) = false := by simp; omega
  go_enter Try.func12, Try.ntmps12
  go_wp2_with fail
  clear hmk
  go_loopw [20] (fun i wr => ∃ k : Nat, k ≤ s.size ∧ i = .int .i64 k ∧ wr.rowIs w.heap.size 51 s.size (fun j => if j < k then .int .i8 ((valsTo s s.size).getD j 0) else .int .i8 0) ∧ (∀ j (h : j < s.size), j < k → valOf s[j] ≠ -2) ∧ Below w.heap.size w wr) (fun i _ => s.size - (intOf i).toNat)
  case atStart =>
    refine ⟨0, Nat.zero_le _, rfl, ?_, fun j _ h => absurd h (by omega), (Below.refl _ _).alloc (Nat.le_refl _) _⟩
    simpa using World.rowIs_made w (.int .i8 0) s.size 51
  case round =>
    obtain ⟨k, hk, rfl, hr, hgood, hB⟩ := hrel
    have Hg := Lib.hid hgood
    clear hgood
    by_cases hlt : k < s.size
    · have hI : ∀ W, Calls Try.prog 35 #[.string ⟨#[45, 48, 43]⟩, .int .u8 (s[k].toNat : Int)] W fun e w' => e = .returned (.int .i64 (if valOf s[k] = -2 then -1 else valOf s[k] + 1)) ∧ W = w' := fun W => by
        have := indexByte_any (s[k].toNat : Int) W
        rw [show ((s[k].toNat : Int)).toNat.toUInt8 = s[k] from by simp, firstIdx_val] at this
        exact this
      have HI := Lib.hid hI
      clear hI
      have HV := Lib.hid (valsTo_getD s s.size k (Nat.le_refl _) hlt)
      have h2 : wr.cell? ⟨w.heap.size, k, none⟩ = some (.int .i8 0) := by simpa using hr.cell hlt
      have h3 : wr.frozen? ⟨w.heap.size, k, none⟩ = false := hr.frozen k
      by_cases hx : valOf s[k] = -2
      · have HR := Lib.hid (rp_f (s := s) (fun h => h.2 k hlt hx))
        rw [if_pos hx] at HI
        clear hx
        go_wp2_with fail
        refine (HI.out _).mono ?_
        rintro e w' ⟨rfl, rfl⟩
        go_wp2_with fail
        go_ret2
        refine ⟨_, ret2v rfl HR.out.2.symm, ?_, hB⟩
        rw [HR.out.1]
        exact OwnV.nil _ _ _ _ _
      · rw [if_neg hx] at HI
        have hbd := valOf_bd s[k]
        have HG2 := Lib.hid (show ∀ j (h : j < s.size), j < k + 1 → valOf s[j] ≠ -2 from fun j h hj => by
          by_cases e : j = k
          · subst e; exact hx
          · exact Hg.out j h (by omega))
        have hx1 : -1 ≤ valOf s[k] := by omega
        have Hst := Lib.hid (show ∀ v : Value, v = .int .i8 (valOf s[k]) → (wr.setCell ⟨w.heap.size, k, none⟩ v).rowIs w.heap.size 51 s.size (fun j => if j < k + 1 then .int .i8 ((valsTo s s.size).getD j 0) else .int .i8 0) from fun v hv => by
          refine (hr.set k v).congr ?_
          intro i hi
          by_cases e : i = k
          · subst e; rw [if_pos rfl, if_pos (Nat.lt_succ_self _), HV.out, hv]
          · by_cases e2 : i < k
            · simp [e, e2, Nat.lt_succ_of_lt e2]
            · simp [e, e2, show ¬ i < k + 1 by omega])
        clear hx
        generalize valOf s[k] = x at *
        go_wp2_with fail
        refine (HI.out _).mono ?_
        rintro e w' ⟨rfl, rfl⟩
        go_wp2_with fail
        go_roundw
        case rel => exact ⟨k + 1, by omega, by go_num, Hst.out _ (by first | rfl | (congr 1; omega)), HG2.out, hB.setCell (Nat.le_refl _) _⟩
        case measure => simp [intOf]; omega
    · have HK := Lib.hid (show k = s.size by omega)
      have HR := Lib.hid (rp_t (s := s) ⟨⟨h1, h2⟩, fun j h => Hg.out j h (by omega)⟩)
      have Hrow := Lib.hid (show RowOf .i8 51 wr w.heap.size (valsTo s s.size) from by
        unfold RowOf
        rw [valsTo_length _ _ (Nat.le_refl _)]
        exact hr.congr (fun i hi => by rw [HK.out, if_pos hi]))
      go_wp2
      go_ret2
      refine ⟨_, ret2v rfl HR.out.2.symm, ?_, hB⟩
      rw [HR.out.1]
      have := OwnV.row (c := s.size) Hrow.out (Nat.le_refl w.heap.size)
      rw [valsTo_length _ _ (Nat.le_refl _)] at this
      exact this
theorem readPlacing_any (s : ByteArray) (w : World) :
    Calls Try.prog 12 #[.string s] w fun e w' => ∃ v, e = .returned (.tuple #[v, .int .i64 (rpC s)]) ∧ OwnV .i8 w.heap.size w' v (rpV s) ∧ Below w.heap.size w w' := by
  by_cases h : 1 ≤ s.size ∧ s.size ≤ 16
  · exact readPlacing_in s w h.1 h.2
  · have HR := Lib.hid (rp_f (s := s) (fun k => h k.1))
    by_cases h3 : s.size < 1
    · have hd1 : decide ((s.size : Int) < 1) = true := by simp; omega
      have hd2 : (s.size : Int) < 1 := by omega
      clear h h3
      go_enter Try.func12, Try.ntmps12
      go_wp2
      go_ret2
      refine ⟨_, ret2v rfl HR.out.2.symm, ?_, Below.refl _ _⟩
      rw [HR.out.1]
      exact OwnV.nil _ _ _ _ _
    · have hd1 : decide ((s.size : Int) < 1) = false := by simp; omega
      have hd2 : decide ((16 : Int) < (s.size : Int)) = true := by simp; omega
      have hd3 : (16 : Int) < (s.size : Int) := by omega
      clear h h3
      go_enter Try.func12, Try.ntmps12
      go_wp2
      go_ret2
      refine ⟨_, ret2v rfl HR.out.2.symm, ?_, Below.refl _ _⟩
      rw [HR.out.1]
      exact OwnV.nil _ _ _ _ _
end Go.Proofs.Ytmngeloenchpdaa
