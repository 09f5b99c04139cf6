/-
  The model's reading of a number.
-/
import Derived.Test.YteicfelaelhaiaaDoorNM
import Derived.Test.YteicfelaelhaiaaDoorSP0
namespace Go.Proofs.YteicfelaelhaiaaDoor
open Go.RowKit
set_option maxRecDepth 100000
set_option linter.unusedVariables false

theorem tl_f' {a b : ByteArray} (h : a ≠ b) : (a.toList == b.toList) = false := by
  rw [beq_eq_false_iff_ne]
  intro e
  rw [ByteArray.toList_eq, ByteArray.toList_eq] at e
  exact h (ByteArray.ext (Array.toList_inj.1 e))
theorem nm_lt : ∀ (l : List UInt8) (a : Nat), (∀ b ∈ l, isD b = true) → nmL a l < (a + 1) * 10 ^ l.length
  | [], a, _ => by rw [nm_nil]; simp
  | b :: l, a, h => by
    have h1 := isD_t (h b List.mem_cons_self)
    have h2 := nm_lt l (a * 10 + (b.toNat - 48)) (fun x hx => h x (List.mem_cons_of_mem _ hx))
    have h3 : (a * 10 + (b.toNat - 48) + 1) * 10 ^ l.length ≤ (a * 10 + 10) * 10 ^ l.length := Nat.mul_le_mul_right _ (by omega)
    have h4 : (a + 1) * 10 ^ (b :: l).length = (a * 10 + 10) * 10 ^ l.length := by
      rw [List.length_cons, Nat.pow_succ, Nat.mul_comm (10 ^ l.length) 10, ← Nat.mul_assoc, Nat.add_mul]
    rw [nm_cons, h4]; omega
theorem nm_small (l : List UInt8) (h : ∀ b ∈ l, isD b = true) (hl : l.length ≤ 10) : nmL 0 l < 10000000000 := by
  have h1 := nm_lt l 0 h
  have h2 : 10 ^ l.length ≤ 10 ^ 10 := Nat.pow_le_pow_right (by decide) hl
  have h3 : (0 + 1) * 10 ^ l.length = 10 ^ l.length := by omega
  have h4 : (10 : Nat) ^ 10 = 10000000000 := by decide
  omega
noncomputable def okN (l : List UInt8) : Bool := cb (Cn l ∧ l.length ≤ 10)
theorem byte_at (s : ByteArray) (k : Nat) (h : k < s.size) : s.data.toList[k]? = some s[k] := by
  have hsl : s.data.toList.length = s.size := Array.length_toList
  rw [List.getElem?_eq_getElem (by omega)]
  rfl
theorem take_snoc (s : ByteArray) (k : Nat) (h : k < s.size) : s.data.toList.take (k + 1) = s.data.toList.take k ++ [s[k]] := by
  rw [List.take_add_one, byte_at s k h]; rfl
theorem retib {a b : Int} {p q : Bool} (h : a = b) (h2 : p = q) : Ending.returned (.tuple #[.int .i64 a, .bool p]) = .returned (.tuple #[.int .i64 b, .bool q]) := by rw [h, h2]
theorem u8_ne {a b : UInt8} (h : a ≠ b) : ((a.toNat : Int) == (b.toNat : Int)) = false := by
  simp only [beq_eq_false_iff_ne, ne_eq]
  intro e
  exact h (UInt8.toNat_inj.1 (by exact_mod_cast e))
theorem l01Number_any (s : ByteArray) (w : World) (hs : s.size ≤ 1048576) :
    Calls Tryd.prog 19 #[.string s] w fun e w' => ∃ v : Int, e = .returned (.tuple #[.int .i64 v, .bool (okN s.data.toList)]) ∧ (okN s.data.toList = true → v = (nmL 0 s.data.toList : Nat)) ∧ w = w' := by
  by_cases hd : s = ⟨#[]⟩
  · subst hd
    have HF := Lib.hid (show okN (⟨#[]⟩ : ByteArray).data.toList = false from cb_f (fun h => h.1.1 rfl))
    go_enter Tryd.func19, Tryd.ntmps19
    go_wp2
    go_ret2
    exact ⟨0, retib rfl HF.out.symm, fun h => absurd (h.symm.trans HF.out) (by decide), rfl⟩
  have e1 : (s.toList == []) = false := by have h := tl_f' hd; rwa [ByteArray.toList_eq (ByteArray.mk #[])] at h
  have hsl : s.data.toList.length = s.size := Array.length_toList
  have hpos : 0 < s.size := by
    rcases Nat.eq_zero_or_pos s.size with h | h
    · exfalso
      apply hd
      apply ByteArray.ext
      exact Array.eq_empty_of_size_eq_zero h
    · exact h
  have hbyte := byte_at s 0 hpos
  have hp0 : (0 : Int) < (s.size : Int) := by omega
  by_cases h10 : 10 < s.size
  · have HF := Lib.hid (show okN s.data.toList = false from cb_f (fun h => by have := h.2; omega))
    have d1 : decide ((10 : Int) < (s.size : Int)) = true := by simp; omega
    have d1' : (10 : Int) < (s.size : Int) := by omega
    clear hbyte hsl hd h10
    generalize okN s.data.toList = r at *
    go_enter Tryd.func19, Tryd.ntmps19
    go_wp2
    go_ret2
    exact ⟨0, retib rfl HF.out.symm, fun h => absurd (h.symm.trans HF.out) (by decide), rfl⟩
  have d1 : decide ((10 : Int) < (s.size : Int)) = false := by simp; omega
  have d1' : ¬ (10 : Int) < (s.size : Int) := by omega
  by_cases h48 : s[0] = 48 ∧ 1 < s.size
  · have HF := Lib.hid (show okN s.data.toList = false from cb_f (fun h => by
      have := h.1.2.1 (by rw [List.head?_eq_getElem?, hbyte, h48.1]); omega))
    have hb0 : ((s[0].toNat : Int) == 48) = true := by rw [h48.1]; rfl
    have d2 : decide ((1 : Int) < (s.size : Int)) = true := by have := h48.2; simp; omega
    have d2' : (1 : Int) < (s.size : Int) := by have := h48.2; omega
    clear hbyte hsl hd h48
    go_enter Tryd.func19, Tryd.ntmps19
    go_wp2
    go_ret2
    exact ⟨0, retib rfl HF.out.symm, fun h => absurd (h.symm.trans HF.out) (by decide), rfl⟩
  have HNE := Lib.hid hd
  have HBY := Lib.hid (show s.data.toList.head? = some 48 → s.data.toList.length = 1 from fun h => by
    rw [List.head?_eq_getElem?, hbyte] at h
    have h1 : s[0] = 48 := Option.some.inj h
    by_cases h2 : 1 < s.size
    · exact absurd ⟨h1, h2⟩ h48
    · omega)
  by_cases e48 : s[0] = 48
  · have hb0 : ((s[0].toNat : Int) == 48) = true := by rw [e48]; rfl
    have d2 : decide ((1 : Int) < (s.size : Int)) = false := by have : ¬ 1 < s.size := fun h => h48 ⟨e48, h⟩; simp; omega
    have d2' : ¬ (1 : Int) < (s.size : Int) := by have : ¬ 1 < s.size := fun h => h48 ⟨e48, h⟩; omega
    clear hbyte h48 e48 hd
    go_enter Tryd.func19, Tryd.ntmps19
    go_wp2
    go_loop [4, 5] (fun n i => ∃ k : Nat, i = .int .i64 k ∧ n = .int .i64 (nmL 0 (s.data.toList.take k) : Nat) ∧ k ≤ s.size ∧ ∀ b ∈ s.data.toList.take k, isD b = true) (fun _ i => s.size - (intOf i).toNat)
    case atStart => exact ⟨0, rfl, rfl, Nat.zero_le _, fun b hb => absurd hb (by simp)⟩
    case round =>
      obtain ⟨k, rfl, rfl, hk, hall⟩ := hrel
      by_cases hlt : k < s.size
      · have hki : (k : Int) < (s.size : Int) := by omega
        have hsm := nm_small (s.data.toList.take k) hall (by rw [List.length_take]; omega)
        have HTK := Lib.hid (take_snoc s k hlt)
        have HSN := Lib.hid (show nmL 0 (s.data.toList.take (k + 1)) = nmL 0 (s.data.toList.take k) * 10 + (s[k].toNat - 48) from by rw [take_snoc s k hlt, nmL_app, nm_cons, nm_nil])
        have HAL := Lib.hid hall
        have HMEM := Lib.hid (show s[k] ∈ s.data.toList from List.mem_of_getElem? (byte_at s k hlt))
        have hu8 : s[k].toNat < 256 := s[k].toNat_lt
        clear hall
        by_cases hdg : isD s[k] = true
        · have h1 := isD_t hdg
          have HDG := Lib.hid hdg
          clear hdg
          have hd3 : decide ((s[k].toNat : Int) < 48) = false := by simp; omega
          have hd4 : decide ((57 : Int) < (s[k].toNat : Int)) = false := by simp; omega
          have hd3' : ¬ (s[k].toNat : Int) < 48 := by omega
          have hd4' : ¬ (57 : Int) < (s[k].toNat : Int) := by omega
          generalize nmL 0 (s.data.toList.take k) = m at *
          go_wp2
          go_round
          case rel =>
            refine ⟨k + 1, by go_num, ?_, by omega, fun b hb => ?_⟩
            · rw [HSN.out]; first | rfl | (apply congrArg; omega) | (apply congrArg; push_cast; omega)
            · rw [HTK.out] at hb
              rcases List.mem_append.1 hb with h | h
              · exact HAL.out b h
              · rw [List.mem_singleton.1 h]; exact HDG.out
          case measure => simp [intOf]; omega
        · have HF := Lib.hid (show okN s.data.toList = false from cb_f (fun h => hdg (h.1.2.2 _ HMEM.out)))
          have h1 : s[k].toNat < 48 ∨ 57 < s[k].toNat := by
            by_cases h : 48 ≤ s[k].toNat ∧ s[k].toNat ≤ 57
            · exact absurd (decide_eq_true h) hdg
            · omega
          clear hdg
          generalize nmL 0 (s.data.toList.take k) = m at *
          rcases h1 with h1 | h1
          · have hd3 : decide ((s[k].toNat : Int) < 48) = true := by simp; omega
            have hd3' : (s[k].toNat : Int) < 48 := by omega
            go_wp2
            go_ret2
            exact ⟨0, retib rfl HF.out.symm, fun h => absurd (h.symm.trans HF.out) (by decide), rfl⟩
          · have hd3 : decide ((s[k].toNat : Int) < 48) = false := by simp; omega
            have hd4 : decide ((57 : Int) < (s[k].toNat : Int)) = true := by simp; omega
            have hd3' : ¬ (s[k].toNat : Int) < 48 := by omega
            have hd4' : (57 : Int) < (s[k].toNat : Int) := by omega
            go_wp2
            go_ret2
            exact ⟨0, retib rfl HF.out.symm, fun h => absurd (h.symm.trans HF.out) (by decide), rfl⟩
      · have hall2 : ∀ b ∈ s.data.toList, isD b = true := by rw [List.take_of_length_le (by omega)] at hall; exact hall
        have HF := Lib.hid (show okN s.data.toList = true from cb_t ⟨⟨fun e => HNE.out (ByteArray.ext (Array.toList_inj.1 e)), HBY.out, hall2⟩, by omega⟩)
        have HTK := Lib.hid (show s.data.toList.take k = s.data.toList from List.take_of_length_le (by omega))
        rw [HTK.out]
        clear hall hall2
        go_wp2
        go_ret2
        exact ⟨_, retib rfl HF.out.symm, fun _ => rfl, rfl⟩
  · have hb0 : ((s[0].toNat : Int) == 48) = false := u8_ne (b := 48) e48
    clear hbyte h48 e48 hd
    go_enter Tryd.func19, Tryd.ntmps19
    go_wp2
    go_loop [4, 5] (fun n i => ∃ k : Nat, i = .int .i64 k ∧ n = .int .i64 (nmL 0 (s.data.toList.take k) : Nat) ∧ k ≤ s.size ∧ ∀ b ∈ s.data.toList.take k, isD b = true) (fun _ i => s.size - (intOf i).toNat)
    case atStart => exact ⟨0, rfl, rfl, Nat.zero_le _, fun b hb => absurd hb (by simp)⟩
    case round =>
      obtain ⟨k, rfl, rfl, hk, hall⟩ := hrel
      by_cases hlt : k < s.size
      · have hki : (k : Int) < (s.size : Int) := by omega
        have hsm := nm_small (s.data.toList.take k) hall (by rw [List.length_take]; omega)
        have HTK := Lib.hid (take_snoc s k hlt)
        have HSN := Lib.hid (show nmL 0 (s.data.toList.take (k + 1)) = nmL 0 (s.data.toList.take k) * 10 + (s[k].toNat - 48) from by rw [take_snoc s k hlt, nmL_app, nm_cons, nm_nil])
        have HAL := Lib.hid hall
        have HMEM := Lib.hid (show s[k] ∈ s.data.toList from List.mem_of_getElem? (byte_at s k hlt))
        have hu8 : s[k].toNat < 256 := s[k].toNat_lt
        clear hall
        by_cases hdg : isD s[k] = true
        · have h1 := isD_t hdg
          have HDG := Lib.hid hdg
          clear hdg
          have hd3 : decide ((s[k].toNat : Int) < 48) = false := by simp; omega
          have hd4 : decide ((57 : Int) < (s[k].toNat : Int)) = false := by simp; omega
          have hd3' : ¬ (s[k].toNat : Int) < 48 := by omega
          have hd4' : ¬ (57 : Int) < (s[k].toNat : Int) := by omega
          generalize nmL 0 (s.data.toList.take k) = m at *
          go_wp2
          go_round
          case rel =>
            refine ⟨k + 1, by go_num, ?_, by omega, fun b hb => ?_⟩
            · rw [HSN.out]; first | rfl | (apply congrArg; omega) | (apply congrArg; push_cast; omega)
            · rw [HTK.out] at hb
              rcases List.mem_append.1 hb with h | h
              · exact HAL.out b h
              · rw [List.mem_singleton.1 h]; exact HDG.out
          case measure => simp [intOf]; omega
        · have HF := Lib.hid (show okN s.data.toList = false from cb_f (fun h => hdg (h.1.2.2 _ HMEM.out)))
          have h1 : s[k].toNat < 48 ∨ 57 < s[k].toNat := by
            by_cases h : 48 ≤ s[k].toNat ∧ s[k].toNat ≤ 57
            · exact absurd (decide_eq_true h) hdg
            · omega
          clear hdg
          generalize nmL 0 (s.data.toList.take k) = m at *
          rcases h1 with h1 | h1
          · have hd3 : decide ((s[k].toNat : Int) < 48) = true := by simp; omega
            have hd3' : (s[k].toNat : Int) < 48 := by omega
            go_wp2
            go_ret2
            exact ⟨0, retib rfl HF.out.symm, fun h => absurd (h.symm.trans HF.out) (by decide), rfl⟩
          · have hd3 : decide ((s[k].toNat : Int) < 48) = false := by simp; omega
            have hd4 : decide ((57 : Int) < (s[k].toNat : Int)) = true := by simp; omega
            have hd3' : ¬ (s[k].toNat : Int) < 48 := by omega
            have hd4' : (57 : Int) < (s[k].toNat : Int) := by omega
            go_wp2
            go_ret2
            exact ⟨0, retib rfl HF.out.symm, fun h => absurd (h.symm.trans HF.out) (by decide), rfl⟩
      · have hall2 : ∀ b ∈ s.data.toList, isD b = true := by rw [List.take_of_length_le (by omega)] at hall; exact hall
        have HF := Lib.hid (show okN s.data.toList = true from cb_t ⟨⟨fun e => HNE.out (ByteArray.ext (Array.toList_inj.1 e)), HBY.out, hall2⟩, by omega⟩)
        have HTK := Lib.hid (show s.data.toList.take k = s.data.toList from List.take_of_length_le (by omega))
        rw [HTK.out]
        clear hall hall2
        go_wp2
        go_ret2
        exact ⟨_, retib rfl HF.out.symm, fun _ => rfl, rfl⟩
end Go.Proofs.YteicfelaelhaiaaDoor
