/-
  An amount in some jug: the program's closure, and the model's loop.
-/
import Derived.Test.YtjmgalmndpjcoaaWW4
namespace Go.Proofs.Ytjmgalmndpjcoaa
open Go.RowKit
set_option maxRecDepth 100000
set_option linter.unusedVariables false

/-- One of the first k jugs holds the amount. -/
def hasN (y : Nat → Int) (am : Int) : Nat → Bool
  | 0 => false
  | k + 1 => hasN y am k || decide (y k = am)
theorem hasN_no {y : Nat → Int} {am : Int} : ∀ k, (∀ j, j < k → y j ≠ am) → hasN y am k = false
  | 0, _ => rfl
  | k + 1, h => by
    show (hasN y am k || decide (y k = am)) = false
    rw [hasN_no k (fun j hj => h j (by omega))]
    simpa using h k (by omega)
theorem hasN_yes {y : Nat → Int} {am : Int} {i : Nat} : ∀ k, i < k → y i = am → hasN y am k = true
  | 0, h, _ => absurd h (by omega)
  | k + 1, h, e => by
    show (hasN y am k || decide (y k = am)) = true
    by_cases hk : i = k
    · subst hk; simp [e]
    · rw [hasN_yes k (by omega) e]; rfl
abbrev hasF (BB : Nat) : Value := .func (.func 69) #[] #[.pointer (some ⟨BB, 0, none⟩)]
theorem has1_any (BB : Nat) (v am : Int) (w : World) (hv : -32768 ≤ v ∧ v ≤ 32767) (hb : w.cell? ⟨BB, 0, none⟩ = some (.int .i64 am)) :
    Calls Try.prog 69 #[.int .i16 v, .pointer (some ⟨BB, 0, none⟩)] w fun e w' => e = .returned (.bool (decide (v = am))) ∧ w = w' := by
  by_cases h : v = am
  · have hd : decide (v = am) = true := by simpa using h
    rw [hd]
    subst h
    go_enter Try.func69, Try.ntmps69
    go_wp2
    go_ret
    exact ⟨rfl, rfl⟩
  · have hd : decide (v = am) = false := by simpa using h
    rw [hd]
    go_enter Try.func69, Try.ntmps69
    go_wp2
    go_ret
    exact ⟨by simp [h], rfl⟩
theorem indexI_any (g c n BB : Nat) (y : Nat → Int) (am : Int) (w : World) (hn : n ≤ 4) (hy : ∀ j, j < n → -32768 ≤ y j ∧ y j ≤ 32767) (hc : ∀ j, j < n → w.cell? ⟨g, j, none⟩ = some (.int .i16 (y j))) (hb : w.cell? ⟨BB, 0, none⟩ = some (.int .i64 am)) :
    Calls Try.prog 73 #[.slice (some ⟨g, 0, none⟩) n c, hasF BB] w fun e w' => ∃ r : Int, e = .returned (.int .i64 r) ∧ decide (0 ≤ r) = hasN y am n ∧ w = w' := by
  go_enter Try.func73, Try.ntmps73
  go_wp2
  go_loop [8] (fun i => ∃ k : Nat, i = .int .i64 k ∧ k ≤ n ∧ ∀ j, j < k → y j ≠ am) (fun i => n - (intOf i).toNat)
  case atStart => exact ⟨0, rfl, Nat.zero_le _, fun j h => absurd h (by omega)⟩
  case round =>
    obtain ⟨k, rfl, hk, hno⟩ := hrel
    have HN := Lib.hid hno
    clear hno
    by_cases hlt : k < n
    · have c0 := hc k hlt
      have hkl : (k : Int) < (n : Int) := by omega
      have HC := Lib.hid (has1_any BB (y k) am w (hy k hlt) hb)
      go_wp2_with fail
      refine HC.out.mono ?_
      rintro e w2 ⟨rfl, rfl⟩
      by_cases h : y k = am
      · have hd : decide (y k = am) = true := by simpa using h
        have HH := Lib.hid (hasN_yes n hlt h)
        rw [hd]
        clear hc c0
        go_wp2
        go_ret
        exact ⟨k, rfl, by rw [HH.out]; simp, rfl⟩
      · have hd : decide (y k = am) = false := by simpa using h
        have HH := Lib.hid (show ∀ j, j < k + 1 → y j ≠ am from fun j hj => by
          by_cases e : j = k
          · subst e; exact h
          · exact HN.out j (by omega))
        rw [hd]
        clear c0
        go_wp2
        go_round
        case rel => exact ⟨k + 1, by go_num, by omega, HH.out⟩
        case measure => simp [intOf]; omega
    · have HH := Lib.hid (hasN_no n (y := y) (am := am) (fun j hj => HN.out j (by omega)))
      have hkl : ¬ (k : Int) < (n : Int) := by omega
      clear hc
      go_wp2
      go_ret
      exact ⟨-1, rfl, by rw [HH.out]; rfl, rfl⟩
theorem containsI_any (g c n BB : Nat) (y : Nat → Int) (am : Int) (w : World) (hn : n ≤ 4) (hy : ∀ j, j < n → -32768 ≤ y j ∧ y j ≤ 32767) (hc : ∀ j, j < n → w.cell? ⟨g, j, none⟩ = some (.int .i16 (y j))) (hb : w.cell? ⟨BB, 0, none⟩ = some (.int .i64 am)) :
    Calls Try.prog 68 #[.slice (some ⟨g, 0, none⟩) n c, hasF BB] w fun e w' => e = .returned (.bool (hasN y am n)) ∧ w = w' := by
  have HH := Lib.hid (indexI_any g c n BB y am w hn hy hc hb)
  clear hc hb hy
  generalize hasN y am n = r0 at *
  go_enter Try.func68, Try.ntmps68
  go_wp2_with fail
  refine HH.out.mono ?_
  rintro e w2 ⟨r, rfl, hr, rfl⟩
  have HR := Lib.hid hr
  clear hr
  go_wp2
  go_ret
  exact ⟨by rw [← HR.out]; rfl, rfl⟩
theorem hasAmount_any (b off c : Nat) (J : List Int) (x y : Nat → Int) (t : Bool) (am : Int) (w : World) (hJ : 1 ≤ J.length ∧ J.length ≤ 4) (hy : ∀ j, j < 4 → -32768 ≤ y j ∧ y j ≤ 32767) :
    Calls Try.prog 53 #[puzV (some ⟨b, off, none⟩) J.length c x t, watV y, .int .i64 am] w fun e w' => e = .returned (.bool (hasN y am J.length)) ∧ Below w.heap.size w w' := by
  have k0 := ((blk_new w #[.slice (some ⟨b, off, none⟩) J.length c, .int .i16 (x 0), .int .i16 (x 1), .int .i16 (x 2), .int .i16 (x 3), .bool t] 32).alloc (.cells #[.int .i16 (y 0), .int .i16 (y 1), .int .i16 (y 2), .int .i16 (y 3)] 30)).alloc (.cells #[.int .i64 am] 2)
  have k1 := (blk_new (w.alloc (.cells #[.slice (some ⟨b, off, none⟩) J.length c, .int .i16 (x 0), .int .i16 (x 1), .int .i16 (x 2), .int .i16 (x 3), .bool t] 32)) #[.int .i16 (y 0), .int .i16 (y 1), .int .i16 (y 2), .int .i16 (y 3)] 30).alloc (.cells #[.int .i64 am] 2)
  have k2 := blk_new ((w.alloc (.cells #[.slice (some ⟨b, off, none⟩) J.length c, .int .i16 (x 0), .int .i16 (x 1), .int .i16 (x 2), .int .i16 (x 3), .bool t] 32)).alloc (.cells #[.int .i16 (y 0), .int .i16 (y 1), .int .i16 (y 2), .int .i16 (y 3)] 30)) #[.int .i64 am] 2
  have HB := Lib.hid ((((Below.refl w.heap.size w).alloc (Nat.le_refl _) (.cells #[.slice (some ⟨b, off, none⟩) J.length c, .int .i16 (x 0), .int .i16 (x 1), .int .i16 (x 2), .int .i16 (x 3), .bool t] 32)).alloc (by simp) (.cells #[.int .i16 (y 0), .int .i16 (y 1), .int .i16 (y 2), .int .i16 (y 3)] 30)).alloc (by simp <;> omega) (.cells #[.int .i64 am] 2))
  simp only [World.size_alloc] at k1 k2
  obtain ⟨q0, q1, q2, q3, -⟩ := k1.four
  have q4 := k2.cell 0
  have HC := Lib.hid (containsI_any (w.heap.size + 1) 4 J.length (w.heap.size + 1 + 1) y am _ hJ.2 (fun j hj => hy j (by omega)) (fun j hj => by
    have : j = 0 ∨ j = 1 ∨ j = 2 ∨ j = 3 := by omega
    rcases this with rfl | rfl | rfl | rfl
    · exact q0
    · exact q1
    · exact q2
    · exact q3) q4)
  have hJ4 : J.length ≤ 4 := hJ.2
  have hJi : (J.length : Int) ≤ 4 := by omega
  clear q0 q1 q2 q3 q4 k0 k1 k2 hy
  generalize hasN y am J.length = r0 at *
  go_enter Try.func53, Try.ntmps53
  go_wp2_with fail
  refine HC.out.mono ?_
  rintro e w2 ⟨rfl, rfl⟩
  go_wp2
  go_ret
  exact ⟨rfl, HB.out⟩
theorem l02Has_any (p b off c : Nat) (J : List Int) (x y : Nat → Int) (t : Bool) (am : Int) (w : World) (hJ : 1 ≤ J.length ∧ J.length ≤ 4) (hy : ∀ j, j < 4 → -32768 ≤ y j ∧ y j ≤ 32767) (hp : Blk w p #[.slice (some ⟨b, off, none⟩) J.length c, .int .i16 (x 0), .int .i16 (x 1), .int .i16 (x 2), .int .i16 (x 3), .bool t] 32) :
    Calls Try.prog 50 #[.pointer (some ⟨p, 0, none⟩), watV y, .int .i64 am] w fun e w' => e = .returned (.bool (hasN y am J.length)) ∧ Below w.heap.size w w' := by
  have k1 := blk_new w #[.int .i16 (y 0), .int .i16 (y 1), .int .i16 (y 2), .int .i16 (y 3)] 30
  have HB := Lib.hid ((Below.refl w.heap.size w).alloc (Nat.le_refl _) (.cells #[.int .i16 (y 0), .int .i16 (y 1), .int .i16 (y 2), .int .i16 (y 3)] 30))
  obtain ⟨q0, q1, q2, q3, -⟩ := k1.four
  obtain ⟨c0, -, -, -, -, -, -⟩ := (hp.alloc (.cells #[.int .i16 (y 0), .int .i16 (y 1), .int .i16 (y 2), .int .i16 (y 3)] 30)).six
  have HQ := Lib.hid (show ∀ j, j < 4 → (w.alloc (.cells #[.int .i16 (y 0), .int .i16 (y 1), .int .i16 (y 2), .int .i16 (y 3)] 30)).cell? ⟨w.heap.size, j, none⟩ = some (.int .i16 (y j)) from fun j hj => by
    have : j = 0 ∨ j = 1 ∨ j = 2 ∨ j = 3 := by omega
    rcases this with rfl | rfl | rfl | rfl
    · exact q0
    · exact q1
    · exact q2
    · exact q3)
  have HY := Lib.hid hy
  clear q0 q1 q2 q3 k1 hp hy
  go_enter Try.func50, Try.ntmps50
  go_wp2
  go_loop [7] (fun i => ∃ k : Nat, i = .int .i64 k ∧ k ≤ J.length ∧ ∀ j, j < k → y j ≠ am) (fun i => J.length - (intOf i).toNat)
  case atStart => exact ⟨0, rfl, Nat.zero_le _, fun j h => absurd h (by omega)⟩
  case round =>
    obtain ⟨k, rfl, hk, hno⟩ := hrel
    have HN := Lib.hid hno
    clear hno
    by_cases hlt : k < J.length
    · have d0 := HQ.out k (by omega)
      have hkl : (k : Int) < (J.length : Int) := by omega
      have hk4 : (k : Int) < 4 := by omega
      have hyk := HY.out k (by omega)
      by_cases h : y k = am
      · have HH := Lib.hid (hasN_yes J.length hlt h)
        go_wp2
        go_ret
        exact ⟨by rw [HH.out]; rfl, HB.out⟩
      · have HH := Lib.hid (show ∀ j, j < k + 1 → y j ≠ am from fun j hj => by
          by_cases e : j = k
          · subst e; exact h
          · exact HN.out j (by omega))
        go_wp2
        go_round
        case rel => exact ⟨k + 1, by go_num, by omega, HH.out⟩
        case measure => simp [intOf]; omega
    · have HH := Lib.hid (hasN_no J.length (y := y) (am := am) (fun j hj => HN.out j (by omega)))
      have hkl : ¬ (k : Int) < (J.length : Int) := by omega
      go_wp2
      go_ret
      exact ⟨by rw [HH.out]; rfl, HB.out⟩
end Go.Proofs.Ytjmgalmndpjcoaa
