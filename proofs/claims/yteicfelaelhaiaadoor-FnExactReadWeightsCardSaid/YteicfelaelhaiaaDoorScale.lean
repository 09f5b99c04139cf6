/-
  The walks of the functions on weights and placings that only read: validity and sums.
-/
import Derived.Test.YteicfelaelhaiaaDoorBase
namespace Go.Proofs.YteicfelaelhaiaaDoor
open Go.RowKit

/-- A proposition as a Bool. -/
noncomputable def cb (p : Prop) : Bool := @decide p (Classical.propDecidable p)
theorem cb_t {p : Prop} (h : p) : cb p = true := by unfold cb; exact @decide_eq_true _ (_) h
theorem cb_f {p : Prop} (h : ¬ p) : cb p = false := by unfold cb; exact @decide_eq_false _ (_) h
theorem of_cb {p : Prop} (h : cb p = true) : p := by unfold cb at h; exact @of_decide_eq_true _ (_) h
theorem not_cb {p : Prop} (h : cb p = false) : ¬ p := by unfold cb at h; exact @of_decide_eq_false _ (_) h

theorem Calls.quiet_same {P : Program} {f : FuncId} {args : Array Value} {w : World} {n : Nat} {v : Value}
    (h : Calls P f args (w.drewN n) fun e w' => e = .returned v ∧ w.drewN n = w') : Calls P f args (w.drewN n) fun e w'' => e = .returned v ∧ ∃ m, w'' = w.drewN m :=
  h.mono fun _ _ ⟨he, hm⟩ => ⟨he, n, hm.symm⟩
theorem Calls.quiet_dr {P : Program} {f : FuncId} {args : Array Value} {w : World} {n : Nat} {v : Value}
    (h : Calls P f args (w.drewN n) fun e w' => e = .returned v ∧ Dr (w.drewN n) w') : Calls P f args (w.drewN n) fun e w'' => e = .returned v ∧ ∃ m, w'' = w.drewN m :=
  Calls.quiet_of h
theorem At.drewN {k : IntKind} {w : World} {b off : Nat} {xs : List Int} (h : At k w b off xs) (q : Nat) : At k (w.drewN q) b off xs := h
theorem Dr.at {k : IntKind} {w w' : World} {b off : Nat} {xs : List Int} (h : Dr w w') (hc : At k w b off xs) : At k w' b off xs := by obtain ⟨q, rfl⟩ := h; exact hc
theorem Dr.trans {a b c : World} (h : Dr a b) (k : Dr b c) : Dr a c := by
  obtain ⟨q, rfl⟩ := h; obtain ⟨r, rfl⟩ := k; exact ⟨q + r, by rw [World.drewN_drewN]⟩

/-! ### within, l00In -/
theorem l00In_t (n a b : Int) (w : World) (h : a ≤ n ∧ n ≤ b) : Calls Tryd.prog 22 #[.int .i64 n, .int .i64 a, .int .i64 b] w fun e w' => e = .returned (.bool true) ∧ w = w' := by
  obtain ⟨h1, h2⟩ := h
  go_enter Tryd.func22, Tryd.ntmps22
  go_wp2
  go_ret
  exact ⟨rfl, rfl⟩
theorem l00In_f (n a b : Int) (w : World) (h : ¬ (a ≤ n ∧ n ≤ b)) : Calls Tryd.prog 22 #[.int .i64 n, .int .i64 a, .int .i64 b] w fun e w' => e = .returned (.bool false) ∧ w = w' := by
  by_cases h1 : a ≤ n
  · have h2 : ¬ n ≤ b := fun h3 => h ⟨h1, h3⟩
    clear h
    go_enter Tryd.func22, Tryd.ntmps22
    go_wp2
    go_ret
    exact ⟨rfl, rfl⟩
  · clear h
    go_enter Tryd.func22, Tryd.ntmps22
    go_wp2
    go_ret
    exact ⟨rfl, rfl⟩
noncomputable def inB (n a b : Int) : Bool := cb (a ≤ n ∧ n ≤ b)
theorem l00In_any (n a b : Int) (w : World) : Calls Tryd.prog 22 #[.int .i64 n, .int .i64 a, .int .i64 b] w fun e w' => e = .returned (.bool (inB n a b)) ∧ w = w' := by
  by_cases h : a ≤ n ∧ n ≤ b
  · rw [show inB n a b = true from cb_t h]; exact l00In_t n a b w h
  · rw [show inB n a b = false from cb_f h]; exact l00In_f n a b w h
/-! ### sums -/
def sumI (xs : List Int) : Int := xs.foldl (· + ·) 0
theorem sumI_snoc (xs : List Int) (x : Int) : sumI (xs ++ [x]) = sumI xs + x := by simp [sumI]
def I16 (xs : List Int) : Prop := ∀ j, -32768 ≤ xs.getD j 0 ∧ xs.getD j 0 ≤ 32767
def I8 (xs : List Int) : Prop := ∀ j, -128 ≤ xs.getD j 0 ∧ xs.getD j 0 ≤ 127
theorem sumI_bd (xs : List Int) (h : I16 xs) (k : Nat) (hk : k ≤ xs.length) : -32768 * (k : Int) ≤ sumI (xs.take k) ∧ sumI (xs.take k) ≤ 32767 * (k : Int) := by
  induction k with
  | zero => simp [sumI]
  | succ k ih =>
    have := ih (by omega)
    have h2 := h k
    rw [take_getD xs k (by omega), sumI_snoc]
    omega

theorem l01Sum_any (b off c : Nat) (xs : List Int) (w : World) (hn : xs.length ≤ 1048576) (hc : At .i16 w b off xs) (hwf : I16 xs) :
    Calls Tryd.prog 23 #[.slice (some ⟨b, off, none⟩) xs.length c] w fun e w' => e = .returned (.int .i64 (sumI xs)) ∧ w = w' := by
  go_enter Tryd.func23, Tryd.ntmps23
  go_wp2
  go_loop [3, 4] (fun s i => ∃ k : Nat, k ≤ xs.length ∧ i = .int .i64 k ∧ s = .int .i64 (sumI (xs.take k))) (fun _ i => xs.length - (intOf i).toNat)
  case atStart => exact ⟨0, Nat.zero_le _, rfl, rfl⟩
  case round =>
    obtain ⟨k, hk, rfl, rfl⟩ := hrel
    by_cases hlt : k < xs.length
    · have hcell := hc k hlt
      have hx := hwf k
      have hs := sumI_bd xs hwf k hk
      have H := Lib.hid (take_getD xs k hlt)
      generalize xs.getD k 0 = x at *
      generalize hS : sumI (xs.take k) = S at *
      have HS := Lib.hid hS
      clear hS
      go_wp2
      go_round
      case rel => exact ⟨k + 1, by omega, by go_num, by rw [H.out, sumI_snoc, HS.out]⟩
      case measure => simp [intOf]; omega
    · have ht := Lib.hid (List.take_of_length_le (l := xs) (i := k) (by omega))
      go_wp2
      go_ret
      exact ⟨reti (by rw [ht.out]), rfl⟩
theorem sum_any (b off c : Nat) (xs : List Int) (w : World) (hn : xs.length ≤ 1048576) (hc : At .i16 w b off xs) (hwf : I16 xs) :
    Calls Tryd.prog 26 #[.slice (some ⟨b, off, none⟩) xs.length c] w fun e w' => e = .returned (.int .i64 (sumI xs)) ∧ w = w' := by
  go_enter Tryd.func26, Tryd.ntmps26
  go_wp2
  go_loop [3, 8] (fun s i => ∃ k : Nat, k ≤ xs.length ∧ i = .int .i64 k ∧ s = .int .i64 (sumI (xs.take k))) (fun _ i => xs.length - (intOf i).toNat)
  case atStart => exact ⟨0, Nat.zero_le _, rfl, rfl⟩
  case round =>
    obtain ⟨k, hk, rfl, rfl⟩ := hrel
    by_cases hlt : k < xs.length
    · have hcell := hc k hlt
      have hx := hwf k
      have hs := sumI_bd xs hwf k hk
      have H := Lib.hid (take_getD xs k hlt)
      generalize xs.getD k 0 = x at *
      generalize hS : sumI (xs.take k) = S at *
      have HS := Lib.hid hS
      clear hS
      go_wp2
      go_round
      case rel => exact ⟨k + 1, by omega, by go_num, by rw [H.out, sumI_snoc, HS.out]⟩
      case measure => simp [intOf]; omega
    · have ht := Lib.hid (List.take_of_length_le (l := xs) (i := k) (by omega))
      go_wp2
      go_ret
      exact ⟨reti (by rw [ht.out]), rfl⟩

/-! ### validity of weights -/
def OkW (xs : List Int) : Prop := 1 ≤ xs.length ∧ xs.length ≤ 16 ∧ (∀ j, j < xs.length → 1 ≤ xs.getD j 0 ∧ (0 < j → xs.getD (j - 1) 0 ≤ xs.getD j 0)) ∧ sumI xs ≤ 2000
noncomputable def okW (xs : List Int) : Bool := cb (OkW xs)

theorem l01Ok_any (b off c : Nat) (xs : List Int) (w : World) (hn : xs.length ≤ 1048576) (hc : At .i16 w b off xs) (hwf : I16 xs) :
    Calls Tryd.prog 13 #[.slice (some ⟨b, off, none⟩) xs.length c] w fun e w' => e = .returned (.bool (okW xs)) ∧ Dr w w' := by
  by_cases hl : 1 ≤ xs.length ∧ xs.length ≤ 16
  · go_enter Tryd.func13, Tryd.ntmps13
    go_wp2_with fail
    refine (l00In_t _ _ _ _ (by omega)).mono ?_
    rintro e w' ⟨rfl, rfl⟩
    go_wp2_with fail
    go_loopw [3] (fun i wr => ∃ k : Nat, k ≤ xs.length ∧ i = .int .i64 k ∧ (∀ j, j < k → 1 ≤ xs.getD j 0 ∧ (0 < j → xs.getD (j - 1) 0 ≤ xs.getD j 0)) ∧ Dr w wr) (fun i _ => xs.length - (intOf i).toNat)
    case atStart => exact ⟨0, Nat.zero_le _, rfl, fun j h => absurd h (by omega), Dr.refl _⟩
    case round =>
      obtain ⟨k, hk, rfl, hg, q, rfl⟩ := hrel
      have Hg := Lib.hid hg
      clear hg
      by_cases hlt : k < xs.length
      · have hcell := hc k hlt
        by_cases h1 : xs.getD k 0 < 1
        · have Hr := Lib.hid (show okW xs = false from cb_f (p := OkW xs) (fun h => by have := (h.2.2.1 k hlt).1; omega))
          generalize xs.getD k 0 = x at *
          have hd : decide (x < 1) = true := by simpa using h1
          go_wp2
          go_quiet (fail)
          go_wp2
          go_ret
          exact ⟨retb Hr.out.symm, (Dr.of _ _).trans (Dr.of _ _)⟩
        · have hd : decide (xs.getD k 0 < 1) = false := by simpa using h1
          by_cases h0 : k = 0
          · subst h0
            have Hn := Lib.hid (show ∀ j, j < 0 + 1 → 1 ≤ xs.getD j 0 ∧ (0 < j → xs.getD (j - 1) 0 ≤ xs.getD j 0) from fun j hj => by
              rw [show j = 0 by omega]
              exact ⟨by omega, fun h => absurd h (by omega)⟩)
            simp only [Nat.add_zero] at hcell
            generalize xs.getD 0 0 = x at *
            go_wp2
            go_quiet (fail)
            go_wp2
            go_roundw
            case rel => exact ⟨1, by omega, by go_num, Hn.out, Dr.of _ _⟩
            case measure => simp [intOf]; omega
          · obtain ⟨m, rfl⟩ : ∃ m, k = m + 1 := ⟨k - 1, by omega⟩
            have hcell' := hc m (by omega)
            have hk0 : (0 : Int) < ((m + 1 : Nat) : Int) := by omega
            by_cases h2 : xs.getD (m + 1) 0 < xs.getD m 0
            · have Hr := Lib.hid (show okW xs = false from cb_f (p := OkW xs) (fun h => by have := (h.2.2.1 (m + 1) hlt).2 (by omega); simp at this; simp at h2; omega))
              generalize xs.getD (m + 1) 0 = x at *
              generalize xs.getD m 0 = y at *
              have hd2 : decide (x < y) = true := by simpa using h2
              have e1 : ((m : Int) + 1 - 1) = (m : Int) := by omega
              go_wp2
              go_quiet (fail)
              go_wp2
              go_ret
              exact ⟨retb Hr.out.symm, (Dr.of _ _).trans (Dr.of _ _)⟩
            · have Hn := Lib.hid (show ∀ j, j < m + 1 + 1 → 1 ≤ xs.getD j 0 ∧ (0 < j → xs.getD (j - 1) 0 ≤ xs.getD j 0) from fun j hj => by
                by_cases e : j = m + 1
                · subst e; exact ⟨by omega, fun _ => by simp only [Nat.add_sub_cancel]; omega⟩
                · exact Hg.out j (by omega))
              generalize xs.getD (m + 1) 0 = x at *
              generalize xs.getD m 0 = y at *
              have hd2 : decide (x < y) = false := by simpa using h2
              go_wp2
              go_quiet (fail)
              go_wp2
              go_roundw
              case rel => exact ⟨m + 1 + 1, by omega, by go_num, Hn.out, Dr.of _ _⟩
              case measure => simp [intOf]; omega
      · have Hr := Lib.hid (show okW xs = decide (sumI xs ≤ 2000) from by
          by_cases hs : sumI xs ≤ 2000
          · rw [show okW xs = true from cb_t (p := OkW xs) ⟨hl.1, hl.2, fun j hj => Hg.out j (by omega), hs⟩]; simp [hs]
          · rw [show okW xs = false from cb_f (p := OkW xs) (fun h => hs h.2.2.2)]; simp [hs])
        go_wp2_with fail
        refine (l01Sum_any b off c xs _ hn (hc.drewN q) hwf).mono ?_
        rintro e w' ⟨rfl, rfl⟩
        go_wp2_with fail
        go_ret
        exact ⟨retb Hr.out.symm, Dr.of _ _⟩
  · have Hr := Lib.hid (show okW xs = false from cb_f (p := OkW xs) (fun h => hl ⟨h.1, h.2.1⟩))
    go_enter Tryd.func13, Tryd.ntmps13
    go_wp2_with fail
    refine (l00In_f _ _ _ _ (by omega)).mono ?_
    rintro e w' ⟨rfl, rfl⟩
    go_wp2_with fail
    go_ret
    exact ⟨retb Hr.out.symm, Dr.refl _⟩
end Go.Proofs.YteicfelaelhaiaaDoor
