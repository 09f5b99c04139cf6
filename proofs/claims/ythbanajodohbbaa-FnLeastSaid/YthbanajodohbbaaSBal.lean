/-
  The walk of BalancedDigits in its model.
-/
import Derived.Test.YthbanajodohbbaaBal
namespace Go.Proofs.Ythbanajodohbbaa
open Go.RowKit

set_option maxRecDepth 100000 in
theorem specBalancedDigits_in (n : Int) (w : World) (hn : -1000000000 ≤ n ∧ n ≤ 1000000000) :
    Calls Try.prog 13 #[.int .i64 n] w fun e w' => ∃ v, e = .returned (.tuple #[v, .int .i64 0]) ∧ OwnV .i8 w.heap.size w' v (digs n) ∧ Below w.heap.size w w' := by
  obtain ⟨i0, hi, hz0, hz1, hz2⟩ := info_parts Try.info_b8
  have hL : (digs n).length ≤ 1000000000 := by have := digs_length _ n (Nat.le_refl _); omega
  go_enter Try.func13, Try.ntmps13
  go_wp2_with fail
  refine (l00In_t _ _ _ _ hn).mono ?_
  rintro e w' ⟨rfl, rfl⟩
  go_wp2_with fail
  go_loopw [0, 4] (fun p v wr => ∃ (pre : List Int) (m : Int), p = .int .i64 m ∧ (-1000000000 ≤ m ∧ m ≤ 1000000000) ∧ digs n = pre ++ digs m ∧ wr.ownsRow w.heap.size 39 1 v pre.length (pre.map (Value.int .i8)) ∧ Below w.heap.size w wr) (fun p _ _ => (intOf p).natAbs)
  case atStart =>
    exact ⟨[], n, rfl, hn, rfl, World.ownsRow_made w #[] 0 (Nat.le_refl _) (by unfold maxLen; omega) (by simp), (Below.refl _ _).alloc (Nat.le_refl _) _⟩
  case round =>
    obtain ⟨pre, m, rfl, hm, hx, hown, hB⟩ := hrel
    by_cases hz : m = 0
    · subst hz
      have Hx := Lib.hid (show digs n = pre by rw [hx, digs_zero, List.append_nil])
      clear hx
      go_wp2
      go_ret2
      exact ⟨_, rfl, by rw [Hx.out]; exact OwnV.ofOwns rfl hown, hB⟩
    · have hb : (m != 0) = true := by simpa using hz
      have hb2 : (m == 0) = false := by simpa using hz
      obtain ⟨_, -, ht1, ht2⟩ := tmod3 (m + 1)
      have hd := dg_spec m
      have hg := dg_bd m
      have ht3 : ((m + 1).tmod 3 + 3).tmod 3 = dg m + 1 := by omega
      have hw0 : wrap64 (m + 1) = m + 1 := IntWalk.wrap64_in _ (by omega)
      have hw : wrap64 ((m + 1).tmod 3 + 3) = (m + 1).tmod 3 + 3 := IntWalk.wrap64_in _ (by omega)
      have HL := Lib.hid (nx_less m hz)
      have hnb : -1000000000 ≤ nx m ∧ nx m ≤ 1000000000 := by have := HL.out; omega
      have hN := nx_go m
      have Hx := Lib.hid (show digs n = (pre ++ [dg m]) ++ digs (nx m) by rw [hx, digs_step hz]; simp)
      have hpl : pre.length ≤ 1000000000 := by rw [hx, List.length_append] at hL; omega
      have hpl2 : pre.length + 1 ≤ 1000000000 := by rw [hx, digs_step hz, List.length_append, List.length_cons] at hL; omega
      clear hx hd
      generalize dg m = d at *
      generalize nx m = m' at *
      obtain ⟨wq, rfl⟩ : ∃ wq : World, wq = wr := ⟨_, rfl⟩
      go_wp2_with (first
        | (at_builtin; refine wpList_append_own _ rfl _ _ 34 rfl w.heap.size 39 i0 (.int .i8 0) 1 1 Try.underlying34 hi hz0 hz1 hz2 rfl (by decide) _ _ _ rfl (hown.alloc _) ⟨wq.heap.size, 0, none⟩ 1 1 [.int .i8 d] rfl rfl ?c1 ?c2 ?c3 ?c4 ?c5 ?_)
        | go_in)
      case c1 =>
        intro j u hj
        match j, hj with
        | 0, hj => simp at hj; subst hj; simp [Addr.add]
      case c2 => intro u hu; simp at hu; subst hu; rfl
      case c3 => unfold maxLen; omega
      case c4 => omega
      case c5 => have := hB.size; simp; omega
      · intro v' w1 hown' hgrow _
        have hB3 : Below w.heap.size w w1 := (hB.alloc hB.size _).grown hgrow (by have := hB.size; simp; omega) (fun j hj => (hown.lt j hj).1)
        clear hgrow
        go_wp2
        go_roundw
        case rel => exact ⟨pre ++ [d], m', rfl, hnb, Hx.out, by simpa using hown', hB3⟩
        case measure => have := HL.out; simp [intOf]; exact this
theorem specBalancedDigits_any (n : Int) (w : World) :
    Calls Try.prog 13 #[.int .i64 n] w fun e w' => ∃ v, e = .returned (.tuple #[v, .int .i64 (bdC n)]) ∧ OwnV .i8 w.heap.size w' v (bdV n) ∧ Below w.heap.size w w' := by
  by_cases h : -1000000000 ≤ n ∧ n ≤ 1000000000
  · rw [(bd_t h).1, (bd_t h).2]
    exact specBalancedDigits_in n w h
  · rw [(bd_f h).1, (bd_f h).2]
    have H := Lib.hid h
    clear h
    go_enter Try.func13, Try.ntmps13
    go_wp2_with fail
    refine (l00In_f _ _ _ _ H.out).mono ?_
    rintro e w' ⟨rfl, rfl⟩
    go_wp2
    go_ret2
    exact ⟨_, rfl, OwnV.nil _ _ _ _ _, (Below.refl _ _).alloc (Nat.le_refl _) _⟩
theorem digs_short (k : Nat) : ∀ n : Int, n.natAbs < 2 ^ k → (digs n).length ≤ k := by
  induction k with
  | zero => intro n h; have : n = 0 := by simp at h; omega
            subst this; rw [digs_zero]; simp
  | succ k ih =>
    intro n h
    by_cases e : n = 0
    · subst e; rw [digs_zero]; simp
    · have h1 := nx_eq n
      have h3 := dg_bd n
      rw [Nat.pow_succ] at h
      have h2 := ih (nx n) (by omega)
      rw [digs_step e, List.length_cons]
      omega
theorem bdV_len (n : Int) : (bdV n).length ≤ 1048576 := by
  by_cases h : -1000000000 ≤ n ∧ n ≤ 1000000000
  · rw [(bd_t h).1]
    have h2 : (2 : Nat) ^ 30 = 1073741824 := by decide
    have := digs_short 30 n (by omega)
    omega
  · rw [(bd_f h).1]; simp
end Go.Proofs.Ythbanajodohbbaa
