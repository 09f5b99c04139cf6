/-
  A text cut at a byte: the numbers and the model's way.
-/
import Derived.Test.YteicfelaelhaiaaDoorOwn
import Derived.Test.YteicfelaelhaiaaDoorC1
import Derived.Lib.SplitLaws
import Derived.Lib.CutLaws
import Derived.Deep.OwnRows
namespace Go.Proofs.YteicfelaelhaiaaDoor
open Go.RowKit
set_option maxRecDepth 100000
set_option linter.unusedVariables false

/-- The parts of a text between the bytes c. -/
def spl (c : UInt8) : List UInt8 → List (List UInt8)
  | [] => [[]]
  | b :: l => if b = c then [] :: spl c l else (b :: (spl c l).headD []) :: (spl c l).tail
theorem spl_app (c : UInt8) (l1 l2 : List UInt8) (h : ∀ b ∈ l1, b ≠ c) : spl c (l1 ++ l2) = (l1 ++ (spl c l2).headD []) :: (spl c l2).tail := by
  induction l1 with
  | nil =>
    have : spl c l2 ≠ [] := by
      cases l2 with
      | nil => simp [spl]
      | cons b l => unfold spl; by_cases e : b = c <;> simp [e]
    simp only [List.nil_append]
    cases hs : spl c l2 with
    | nil => exact absurd hs this
    | cons p r => rfl
  | cons b l1 ih =>
    have hb := h b List.mem_cons_self
    have e : spl c (b :: (l1 ++ l2)) = (b :: (spl c (l1 ++ l2)).headD []) :: (spl c (l1 ++ l2)).tail := by
      rw [spl, if_neg hb]
    rw [List.cons_append, e, ih (fun x hx => h x (List.mem_cons_of_mem _ hx))]
    simp only [List.headD_cons, List.tail_cons, List.cons_append]
theorem spl_hit (c : UInt8) (l1 l2 : List UInt8) (h : ∀ b ∈ l1, b ≠ c) : spl c (l1 ++ c :: l2) = l1 :: spl c l2 := by
  rw [spl_app c l1 _ h]
  have : spl c (c :: l2) = [] :: spl c l2 := by simp [spl]
  rw [this]; simp
theorem spl_end (c : UInt8) (l : List UInt8) (h : ∀ b ∈ l, b ≠ c) : spl c l = [l] := by
  have := spl_app c l [] h
  rw [List.append_nil] at this
  rw [this]; simp [spl]
theorem spl_len (c : UInt8) (l : List UInt8) : 1 ≤ (spl c l).length ∧ (spl c l).length ≤ l.length + 1 := by
  induction l with
  | nil => simp [spl]
  | cons b l ih =>
    unfold spl
    by_cases e : b = c
    · rw [if_pos e]; simp; omega
    · rw [if_neg e]; simp; omega
/-- The value of a part. -/
def sV (l : List UInt8) : Value := .string ⟨l.toArray⟩
theorem Tryd.infoS : (Tryd.prog.info? 9).map (fun i => (i.zero, i.size, i.bytes)) = some (some (.string ⟨#[]⟩), 1, 16) := by kernel_rfl
theorem row_nxt {w w' : World} {base : Nat} {e : TypeId} {size : Nat} {v : Value} {n : Nat} {xs : List Value} (h : w.ownsRow base e size v n xs) (hb : Below w.heap.size w w') : w'.ownsRow base e size v n xs := by
  refine ⟨h.1, ?_⟩
  rcases h.2 with hn | ⟨g, cap, cur, rfl, hB, hg, rest⟩
  · exact .inl hn
  · exact .inr ⟨g, cap, cur, rfl, hB, (hb.block g (Array.getElem?_eq_some_iff.1 hg).1).trans hg, rest⟩
theorem sV_ext (s : ByteArray) (a b : Nat) : Value.string (s.extract a b) = sV ((s.data.toList.drop a).take (b - a)) := by
  unfold sV; rw [Lib.extract_eq]
theorem drop_get (s : ByteArray) (k : Nat) (h : k < s.size) : s.data.toList.drop k = s[k] :: s.data.toList.drop (k + 1) := by
  rw [List.drop_eq_getElem_cons (by rw [Array.length_toList]; exact h)]
  rfl
theorem take_mid (l : List UInt8) (a k : Nat) (h : a ≤ k) : l.drop a = (l.drop a).take (k - a) ++ l.drop k := by
  have h1 := (List.take_append_drop (k - a) (l.drop a)).symm
  rw [List.drop_drop, show a + (k - a) = k by omega] at h1
  exact h1
theorem take_next (s : ByteArray) (a k : Nat) (ha : a ≤ k) (h : k < s.size) : (s.data.toList.drop a).take (k + 1 - a) = (s.data.toList.drop a).take (k - a) ++ [s[k]] := by
  have hl : s.data.toList.length = s.size := Array.length_toList
  rw [show k + 1 - a = (k - a) + 1 by omega, List.take_add_one, List.getElem?_drop, show a + (k - a) = k by omega, List.getElem?_eq_getElem (by omega)]
  rfl
theorem spl_at {c : UInt8} {s : ByteArray} {a k : Nat} {D : List (List UInt8)} (ha : a ≤ k) (h : k < s.size) (hsp : spl c s.data.toList = D ++ spl c (s.data.toList.drop a)) (hno : ∀ b ∈ (s.data.toList.drop a).take (k - a), b ≠ c) (hc : s[k] = c) :
    spl c s.data.toList = (D ++ [(s.data.toList.drop a).take (k - a)]) ++ spl c (s.data.toList.drop (k + 1)) := by
  have e : s.data.toList.drop a = (s.data.toList.drop a).take (k - a) ++ c :: s.data.toList.drop (k + 1) := (take_mid _ a k ha).trans (by rw [drop_get s k h, hc])
  have e3 := (congrArg (spl c) e).trans (spl_hit c _ _ hno)
  rw [hsp, e3, List.append_assoc]; rfl
theorem spl_last {c : UInt8} {s : ByteArray} {a : Nat} {D : List (List UInt8)} (ha : a ≤ s.size) (hsp : spl c s.data.toList = D ++ spl c (s.data.toList.drop a)) (hno : ∀ b ∈ (s.data.toList.drop a).take (s.size - a), b ≠ c) :
    spl c s.data.toList = D ++ [s.data.toList.drop a] := by
  have hl : s.data.toList.length = s.size := Array.length_toList
  have e : (s.data.toList.drop a).take (s.size - a) = s.data.toList.drop a := List.take_of_length_le (by rw [List.length_drop]; omega)
  rw [e] at hno
  rw [hsp, spl_end c _ hno]
set_option maxHeartbeats 2000000 in
theorem l01Split_any (s : ByteArray) (c : UInt8) (w : World) (hs : s.size ≤ 1048576) :
    Calls Tryd.prog 18 #[.string s, .int .u8 c.toNat] w fun e w' => ∃ v, e = .returned v ∧ w'.ownsRow w.heap.size 9 1 v (spl c s.data.toList).length ((spl c s.data.toList).map sV) ∧ Below w.heap.size w w' := by
  obtain ⟨i0, hi0, hz0, hz1, hz2⟩ := info_parts Tryd.infoS
  have hOW := World.ownsRow_made (base := w.heap.size) (e := 9) (size := 1) w #[] 0 (Nat.le_refl _) (by unfold maxLen; omega) (by simp)
  have hsl : s.data.toList.length = s.size := Array.length_toList
  go_enter Tryd.func18, Tryd.ntmps18
  go_wp2
  have hB0 := (Below.refl w.heap.size w).alloc (Nat.le_refl _) (.cells #[] 9)
  generalize hg : w.alloc (.cells #[] 9) = wb at *
  clear hg
  go_loopw [5, 6, 7] (fun v bg iv wr => ∃ (k a : Nat) (D : List (List UInt8)), iv = .int .i64 k ∧ bg = .int .i64 a ∧ a ≤ k ∧ k ≤ s.size ∧ wr.ownsRow w.heap.size 9 1 v D.length (D.map sV) ∧ Below w.heap.size w wr ∧ D.length ≤ k ∧ spl c s.data.toList = D ++ spl c (s.data.toList.drop a) ∧ ∀ b ∈ (s.data.toList.drop a).take (k - a), b ≠ c) (fun _ _ iv _ => s.size - (intOf iv).toNat)
  case atStart => exact ⟨0, 0, [], rfl, rfl, Nat.le_refl _, Nat.zero_le _, hOW, hB0, Nat.le_refl _, by simp, by simp⟩
  case round =>
    clear hB0 hOW
    obtain ⟨k, a, D, rfl, rfl, ha, hk, hown, hB, hD, hsp, hno⟩ := hrel
    by_cases hlt : k < s.size
    · have hkl : (k : Int) < (s.size : Int) := by omega
      have hki : (a : Int) ≤ (k : Int) := by omega
      by_cases hc : s[k] = c
      · have HSP := Lib.hid (spl_at ha hlt hsp hno hc)
        have hbq : ((s[k].toNat : Int) == (c.toNat : Int)) = true := by rw [hc]; simp
        have HB := Lib.hid hB
        have HV := Lib.hid (sV_ext s a k)
        have hszq := hB.size
        clear hsp hno hB hc
        obtain ⟨wq, rfl⟩ : ∃ wq : World, wq = wr := ⟨_, rfl⟩
        go_wp2_with (first
          | (at_builtin; refine wpList_append_own _ rfl _ _ 34 rfl w.heap.size 9 i0 (.string ⟨#[]⟩) 1 16 Tryd.underlying34 hi0 hz0 hz1 hz2 rfl (by decide) _ _ _ rfl (hown.alloc _) ⟨wq.heap.size, 0, none⟩ 1 1 [.string (s.extract a k)] rfl rfl ?c1 ?c2 ?c3 ?c4 ?c5 ?_)
          | go_in)
        case c1 =>
          intro j u hj
          match j, hj with
          | 0, hj => simp at hj; subst hj; simp [Addr.add]
        case c2 => intro u hu; simp at hu; subst hu; rfl
        case c3 => unfold maxLen; omega
        case c4 => omega
        case c5 => simp; omega
        intro u' w5 hown' hgrow _
        have hB5 : Below w.heap.size w w5 := (HB.out.alloc HB.out.size _).grown hgrow (by simp; have := HB.out.size; omega) (fun j hj => (hown.lt j hj).1)
        have HO5 := Lib.hid hown'
        clear hown' hgrow hown
        go_wp2
        go_roundw
        case rel => exact ⟨k + 1, k + 1, D ++ [(s.data.toList.drop a).take (k - a)], by go_num, by go_num, Nat.le_refl _, by omega, by rw [List.length_append, List.map_append]; simpa [HV.out] using HO5.out, hB5, by rw [List.length_append]; simp; omega, HSP.out, by simp⟩
        case measure => simp [intOf]; omega
      · have HNO := Lib.hid (show ∀ b ∈ (s.data.toList.drop a).take (k + 1 - a), b ≠ c from by
          rw [take_next s a k ha hlt]
          intro b hb
          rcases List.mem_append.1 hb with h | h
          · exact hno b h
          · rw [List.mem_singleton.1 h]; exact hc)
        have hbq : ((s[k].toNat : Int) == (c.toNat : Int)) = false := by
          simp only [beq_eq_false_iff_ne, ne_eq]
          intro e
          exact hc (UInt8.toNat_inj.1 (by exact_mod_cast e))
        have HB := Lib.hid hB
        have HO := Lib.hid hown
        have HSP := Lib.hid hsp
        clear hsp hno hB hc hown
        go_wp2
        go_roundw
        case rel => exact ⟨k + 1, a, D, by go_num, rfl, by omega, by omega, HO.out, HB.out, by omega, HSP.out, HNO.out⟩
        case measure => simp [intOf]; omega
    · obtain rfl : k = s.size := by omega
      have HSP := Lib.hid (spl_last ha hsp hno)
      have HB := Lib.hid hB
      have HV := Lib.hid (show Value.string (s.extract a s.size) = sV (s.data.toList.drop a) from by
        rw [sV_ext]
        congr 1
        exact List.take_of_length_le (by rw [List.length_drop, hsl]; omega))
      have hai : (a : Int) ≤ (s.size : Int) := by omega
      have hszq := hB.size
      clear hsp hno hB hsl
      obtain ⟨wq, rfl⟩ : ∃ wq : World, wq = wr := ⟨_, rfl⟩
      go_wp2_with (first
          | (at_builtin; refine wpList_append_own _ rfl _ _ 34 rfl w.heap.size 9 i0 (.string ⟨#[]⟩) 1 16 Tryd.underlying34 hi0 hz0 hz1 hz2 rfl (by decide) _ _ _ rfl (hown.alloc _) ⟨wq.heap.size, 0, none⟩ 1 1 [.string (s.extract a s.size)] rfl rfl ?c1 ?c2 ?c3 ?c4 ?c5 ?_)
          | go_in)
      case c1 =>
        intro j u hj
        match j, hj with
        | 0, hj => simp at hj; subst hj; simp [Addr.add]
      case c2 => intro u hu; simp at hu; subst hu; rfl
      case c3 => unfold maxLen; omega
      case c4 => omega
      case c5 => simp; omega
      intro u' w5 hown' hgrow _
      have hB5 : Below w.heap.size w w5 := (HB.out.alloc HB.out.size _).grown hgrow (by simp; have := HB.out.size; omega) (fun j hj => (hown.lt j hj).1)
      have HO5 := Lib.hid hown'
      clear hown' hgrow hown
      go_wp2
      go_ret
      exact ⟨_, rfl, by rw [HSP.out, List.length_append, List.map_append]; simpa [HV.out] using HO5.out, hB5⟩
end Go.Proofs.YteicfelaelhaiaaDoor
