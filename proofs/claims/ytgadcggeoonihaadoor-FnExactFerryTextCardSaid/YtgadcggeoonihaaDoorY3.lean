/-
  The library's search through a list of sets, at any closure over one captured variable.
-/
import Derived.Test.YtgadcggeoonihaaDoorY2
namespace Go.Proofs.YtgadcggeoonihaaDoor
open Go.RowKit
set_option maxRecDepth 100000
set_option linter.unusedVariables false

theorem any_t {xs : List Int} {p : Int → Bool} {k : Nat} (hk : k < xs.length) (h : p (xs.getD k 0) = true) : xs.any p = true := by
  rw [List.any_eq_true]
  refine ⟨xs.getD k 0, ?_, h⟩
  rw [List.getD_eq_getElem?_getD, List.getElem?_eq_getElem hk]
  exact List.getElem_mem hk
theorem any_f {xs : List Int} {p : Int → Bool} (h : ∀ j, j < xs.length → p (xs.getD j 0) = false) : xs.any p = false := by
  rw [List.any_eq_false]
  intro x hx
  obtain ⟨j, hj, rfl⟩ := List.getElem_of_mem hx
  have := h j hj
  rw [List.getD_eq_getElem?_getD, List.getElem?_eq_getElem hj] at this
  simpa using this
/-- A closure over one variable. -/
abbrev cloV (f : FuncId) (cap : Value) : Value := .func (.func f) #[] #[cap]
set_option maxHeartbeats 2000000 in
theorem indexU_some (f : FuncId) (hF : ∀ args W, (callFunc f args).run Tryd.prog W = .ok (.enter f args) W) (cap : Value) (p : Int → Bool) (b off c : Nat) (xs : List Int) (w : World) (hn : xs.length ≤ 1048576) (hb : b < w.heap.size) (hc : At .u16 w b off xs) (hw : U16 xs)
    (hC : ∀ x W, Below w.heap.size w W → 0 ≤ x ∧ x ≤ 65535 → Calls Tryd.prog f #[.int .u16 x, cap] W fun e w' => e = .returned (.bool (p x)) ∧ Below W.heap.size W w') :
    Calls Tryd.prog 50 #[.slice (some ⟨b, off, none⟩) xs.length c, cloV f cap] w fun e w' => ∃ r : Int, e = .returned (.int .i64 r) ∧ (decide (0 ≤ r) = xs.any p) ∧ Below w.heap.size w w' := by
  have HC := Lib.hid hC
  have HW := Lib.hid hw
  clear hw hC
  go_enter Tryd.func50, Tryd.ntmps50
  go_wp2
  go_loopw [8] (fun i wr => ∃ k : Nat, i = .int .i64 k ∧ k ≤ xs.length ∧ (∀ j, j < k → p (xs.getD j 0) = false) ∧ Below w.heap.size w wr) (fun i _ => xs.length - (intOf i).toNat)
  case atStart => exact ⟨0, rfl, Nat.zero_le _, fun j h => absurd h (by omega), Below.refl _ _⟩
  case round =>
    obtain ⟨k, rfl, hk, hno, hB⟩ := hrel
    have HN := Lib.hid hno
    clear hno
    by_cases hlt : k < xs.length
    · have c0 := (hc.below hB hb) k hlt
      have hkl : (k : Int) < (xs.length : Int) := by omega
      have HCk := Lib.hid (HC.out (xs.getD k 0) wr hB (HW.out k))
      have HNk := Lib.hid (fun (h : p (xs.getD k 0) = false) => (show ∀ j, j < k + 1 → p (xs.getD j 0) = false from fun j hj => by
        by_cases e : j = k
        · subst e; exact h
        · exact HN.out j (by omega)))
      have HFk := Lib.hid (fun (h : p (xs.getD k 0) = true) => any_t hlt h)
      generalize xs.getD k 0 = x at *
      cases hok : p x
      · rw [hok] at HCk
        have HNN := Lib.hid (HNk.out hok)
        clear hok HFk HNk
        go_wp2_with fail
        refine HCk.out.mono ?_
        rintro e w2 ⟨rfl, hb2⟩
        have HB2 := Lib.hid (hB.trans (hb2.mono hB.size))
        clear hb2 c0 HCk hB
        go_wp2
        go_roundw
        case rel => exact ⟨k + 1, by go_num, by omega, HNN.out, HB2.out⟩
        case measure => simp [intOf]; omega
      · rw [hok] at HCk
        have HR := Lib.hid (HFk.out hok)
        clear hok HFk HNk
        go_wp2_with fail
        refine HCk.out.mono ?_
        rintro e w2 ⟨rfl, hb2⟩
        have HB2 := Lib.hid (hB.trans (hb2.mono hB.size))
        clear hb2 c0 HCk hB
        go_wp2
        go_ret
        exact ⟨k, rfl, by rw [HR.out]; simp, HB2.out⟩
    · have HR := Lib.hid (show xs.any p = false from any_f (fun j hj => HN.out j (by omega)))
      go_wp2
      go_ret
      exact ⟨-1, rfl, by rw [HR.out]; rfl, hB⟩
theorem indexU_nil (f : FuncId) (cap : Value) (p : Int → Bool) (a : Option Addr) (c : Nat) (w : World) :
    Calls Tryd.prog 50 #[.slice a 0 c, cloV f cap] w fun e w' => ∃ r : Int, e = .returned (.int .i64 r) ∧ (decide (0 ≤ r) = [].any p) ∧ Below w.heap.size w w' := by
  go_enter Tryd.func50, Tryd.ntmps50
  go_wp2
  refine wp_loop_rounds 1 ?_
  rw [rounds_succ]
  go_wp2
  go_ret
  exact ⟨-1, rfl, rfl, Below.refl _ _⟩
theorem containsU_any (f : FuncId) (hF : ∀ args W, (callFunc f args).run Tryd.prog W = .ok (.enter f args) W) (cap : Value) (p : Int → Bool) (a : Option Addr) (c : Nat) (xs : List Int) (w : World) (hn : xs.length ≤ 1048576) (hs : Sl .u16 w.heap.size w a xs) (hw : U16 xs)
    (hC : ∀ x W, Below w.heap.size w W → 0 ≤ x ∧ x ≤ 65535 → Calls Tryd.prog f #[.int .u16 x, cap] W fun e w' => e = .returned (.bool (p x)) ∧ Below W.heap.size W w') :
    Calls Tryd.prog 37 #[.slice a xs.length c, cloV f cap] w fun e w' => e = .returned (.bool (xs.any p)) ∧ Below w.heap.size w w' := by
  have H : Calls Tryd.prog 50 #[.slice a xs.length c, cloV f cap] w fun e w' => ∃ r : Int, e = .returned (.int .i64 r) ∧ (decide (0 ≤ r) = xs.any p) ∧ Below w.heap.size w w' := by
    rcases hs with rfl | ⟨b, off, rfl, hb, hc⟩
    · exact indexU_nil f cap p a c w
    · exact indexU_some f hF cap p b off c xs w hn hb hc hw hC
  have HH := Lib.hid H
  clear H hC hw hs
  generalize xs.any p = r0 at *
  generalize xs.length = n at *
  go_enter Tryd.func37, Tryd.ntmps37
  go_wp2_with fail
  refine HH.out.mono ?_
  rintro e w2 ⟨r, rfl, hr, hb⟩
  have HR := Lib.hid hr
  have HB := Lib.hid hb
  clear hr hb
  go_wp2
  go_ret
  exact ⟨retb HR.out, HB.out⟩
end Go.Proofs.YtgadcggeoonihaaDoor
