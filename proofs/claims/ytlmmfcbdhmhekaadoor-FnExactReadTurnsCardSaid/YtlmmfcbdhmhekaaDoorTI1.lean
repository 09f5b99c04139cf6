/-
  The walks of TurnsIn, in the program and in its model: plans as lists of numbers, how many glasses a set has.
-/
import Derived.Test.YtlmmfcbdhmhekaaDoorH1
import Derived.Test.YtlmmfcbdhmhekaaDoorS1
import Derived.Deep.Slices
namespace Go.Proofs.YtlmmfcbdhmhekaaDoor
open Go.RowKit
set_option maxRecDepth 100000

def U8L (xs : List Int) : Prop := ∀ j, 0 ≤ xs.getD j 0 ∧ xs.getD j 0 ≤ 255
/-- A set among the first k that has a glass that is none. -/
def bigTo (P : List Int) (k : Nat) : Prop := ∃ j, j < k ∧ 16 ≤ P.getD j 0
noncomputable def plC (P : List Int) : Int := if cb (bigTo P P.length) = true then 2 else if 60 < P.length then 3 else 0
/-- How many glasses the first k sets turn. -/
def tsTo (P : List Int) : Nat → Nat
  | 0 => 0
  | k + 1 => tsTo P k + sz (P.getD k 0).toNat
noncomputable def tiV (P : List Int) : Int := if plC P = 0 then ((tsTo P P.length : Nat) : Int) else 0
theorem tsTo_le (P : List Int) (k : Nat) : tsTo P k ≤ 16 * k := by
  induction k with
  | zero => simp [tsTo]
  | succ k ih => simp only [tsTo]; have := sz_le (P.getD k 0).toNat; omega
theorem plC_big {P : List Int} (h : bigTo P P.length) : plC P = 2 := by unfold plC; rw [cb_t h]; rfl
theorem plC_long {P : List Int} (h : ¬ bigTo P P.length) (hl : 60 < P.length) : plC P = 3 := by unfold plC; rw [cb_f h]; simp [hl]
theorem plC_ok {P : List Int} (h : ¬ bigTo P P.length) (hl : ¬ 60 < P.length) : plC P = 0 := by unfold plC; rw [cb_f h]; simp [hl]
theorem plC_cases (P : List Int) : plC P = 2 ∨ plC P = 3 ∨ plC P = 0 := by
  by_cases h : bigTo P P.length
  · exact .inl (plC_big h)
  · by_cases hl : 60 < P.length
    · exact .inr (.inl (plC_long h hl))
    · exact .inr (.inr (plC_ok h hl))
theorem pop8_get (i : Nat) (h : i < Lib.pop8tab.size) : ((Lib.pop8tab[i]'h).toNat : Int) = Lib.pop8 (i : Int) := by
  simp only [Lib.pop8, Int.toNat_natCast, ByteArray.getElem?_lt' _ _ h, Option.getD_some]
theorem onesCount8_any (x : Int) (w : World) (h : 0 ≤ x ∧ x ≤ 255) :
    Calls Tryd.prog 29 #[.int .u8 x] w fun e w' => e = .returned (.int .i64 (sz x.toNat)) ∧ w = w' := by
  have e1 := Lib.pop8_eq ⟨x.toNat, by omega⟩
  dsimp only at e1
  have hz : Lib.pop8tab.size = 256 := Lib.pop8tab_size
  have hs : (Lib.pop8 x : Int) = sz x.toNat := by
    rw [show ((x.toNat : Nat) : Int) = x by omega] at e1
    rw [e1, sz_bytes _ (by omega)]
    have h1 : x.toNat / 256 = 0 := by omega
    have h2 : x.toNat % 256 = x.toNat := by omega
    rw [h1, h2, show Lib.onesCount 0 = 0 by rfl]
    simp
  have hle := sz_le x.toNat
  have HS := Lib.hid hs
  have hp : 0 ≤ Lib.pop8 x ∧ Lib.pop8 x ≤ 16 := by omega
  clear e1 hs hle
  go_enter Tryd.func29, Tryd.ntmps29
  go_wp2
  generalize hS : (ByteArray.mk _) = S
  have hT : S = Lib.pop8tab := by subst hS; rfl
  subst hT
  clear hS
  go_wp2
  go_ret
  exact ⟨reti HS.out, rfl⟩
theorem glassesIn_any (x : Int) (w : World) (h : 0 ≤ x ∧ x ≤ 255) :
    Calls Tryd.prog 21 #[.int .u8 x] w fun e w' => e = .returned (.int .i64 (sz x.toNat)) ∧ w = w' := by
  have HO := Lib.hid (onesCount8_any x w h)
  have hle := sz_le x.toNat
  generalize sz x.toNat = s at *
  go_enter Tryd.func21, Tryd.ntmps21
  go_wp2_with fail
  refine HO.out.mono ?_
  rintro e w' ⟨rfl, rfl⟩
  go_wp2
  go_ret
  exact ⟨rfl, rfl⟩
theorem isBig_any (x : Int) (w : World) :
    Calls Tryd.prog 20 #[.int .u8 x] w fun e w' => e = .returned (.bool (decide (16 ≤ x))) ∧ w = w' := by
  go_enter Tryd.func20, Tryd.ntmps20
  go_wp2
  go_ret
  exact ⟨rfl, rfl⟩
theorem indexBig_some (b off c : Nat) (P : List Int) (w : World) (hn : P.length ≤ 1048576) (hc : At .u8 w b off P) :
    Calls Tryd.prog 28 #[.slice (some ⟨b, off, none⟩) P.length c, .func (.func 20) #[] #[]] w fun e w' => ∃ r : Int, e = .returned (.int .i64 r) ∧ (decide (0 ≤ r) = cb (bigTo P P.length)) ∧ w = w' := by
  go_enter Tryd.func28, Tryd.ntmps28
  go_wp2
  go_loop [8] (fun i => ∃ k : Nat, i = .int .i64 k ∧ k ≤ P.length ∧ ¬ bigTo P k) (fun i => P.length - (intOf i).toNat)
  case atStart => exact ⟨0, rfl, Nat.zero_le _, fun ⟨j, hj, _⟩ => absurd hj (by omega)⟩
  case round =>
    obtain ⟨k, rfl, hk, hno⟩ := hrel
    have HN := Lib.hid hno
    clear hno
    by_cases hlt : k < P.length
    · have hcell := hc k hlt
      have hkl : (k : Int) < (P.length : Int) := by omega
      by_cases h16 : 16 ≤ P.getD k 0
      · have HR := Lib.hid (show cb (bigTo P P.length) = true from cb_t ⟨k, hlt, h16⟩)
        generalize P.getD k 0 = x at *
        have hd : decide (16 ≤ x) = true := by simpa using h16
        go_wp2_with fail
        refine (isBig_any x _).mono ?_
        rintro e w2 ⟨rfl, rfl⟩
        go_wp2
        go_ret
        exact ⟨k, rfl, by rw [HR.out]; simp, rfl⟩
      · have HS := Lib.hid (show ¬ bigTo P (k + 1) from fun ⟨j, hj, h⟩ => by
          by_cases e : j = k
          · subst e; exact h16 h
          · exact HN.out ⟨j, by omega, h⟩)
        generalize P.getD k 0 = x at *
        have hd : decide (16 ≤ x) = false := by simpa using h16
        go_wp2_with fail
        refine (isBig_any x _).mono ?_
        rintro e w2 ⟨rfl, rfl⟩
        go_wp2
        go_round
        case rel => exact ⟨k + 1, by go_num, by omega, HS.out⟩
        case measure => simp [intOf]; omega
    · obtain rfl : k = P.length := by omega
      have HR := Lib.hid (show cb (bigTo P P.length) = false from cb_f HN.out)
      go_wp2
      go_ret
      exact ⟨-1, rfl, by rw [HR.out]; rfl, rfl⟩
theorem indexBig_nil (a : Option Addr) (c : Nat) (w : World) :
    Calls Tryd.prog 28 #[.slice a 0 c, .func (.func 20) #[] #[]] w fun e w' => ∃ r : Int, e = .returned (.int .i64 r) ∧ (decide (0 ≤ r) = false) ∧ w = w' := by
  go_enter Tryd.func28, Tryd.ntmps28
  go_wp2
  refine wp_loop_rounds 1 ?_
  rw [rounds_succ]
  go_wp2
  go_ret
  exact ⟨-1, rfl, rfl, rfl⟩
theorem containsBig_any (a : Option Addr) (c : Nat) (P : List Int) (w : World) (hn : P.length ≤ 1048576) (hs : Sl .u8 w.heap.size w a P) :
    Calls Tryd.prog 19 #[.slice a P.length c, .func (.func 20) #[] #[]] w fun e w' => e = .returned (.bool (cb (bigTo P P.length))) ∧ w = w' := by
  have H : Calls Tryd.prog 28 #[.slice a P.length c, .func (.func 20) #[] #[]] w fun e w' => ∃ r : Int, e = .returned (.int .i64 r) ∧ (decide (0 ≤ r) = cb (bigTo P P.length)) ∧ w = w' := by
    rcases hs with rfl | ⟨b, off, rfl, hb, hc⟩
    · rw [show cb (bigTo [] ([] : List Int).length) = false from cb_f (fun ⟨j, hj, _⟩ => by simp at hj)]
      exact indexBig_nil a c w
    · exact indexBig_some b off c P w hn hc
  have HH := Lib.hid H
  clear H hs
  generalize cb (bigTo P P.length) = r0 at *
  generalize P.length = n at *
  go_enter Tryd.func19, Tryd.ntmps19
  go_wp2_with fail
  refine HH.out.mono ?_
  rintro e w2 ⟨r, rfl, hr, rfl⟩
  have HR := Lib.hid hr
  clear hr
  go_wp2
  go_ret
  exact ⟨retb HR.out, rfl⟩
theorem l07Planned_any (a : Option Addr) (c : Nat) (P : List Int) (w : World) (hn : P.length ≤ 1048576) (hs : Sl .u8 w.heap.size w a P) :
    Calls Tryd.prog 11 #[.slice a P.length c] w fun e w' => e = .returned (.int .i64 (plC P)) ∧ w = w' := by
  rcases hs with rfl | ⟨b, off, rfl, hb, hc⟩
  · rw [show plC [] = 0 from plC_ok (fun ⟨j, hj, _⟩ => by simp at hj) (by simp)]
    simp only [List.length_nil]
    go_enter Tryd.func11, Tryd.ntmps11
    go_wp2
    refine wp_loop_rounds 1 ?_
    rw [rounds_succ]
    go_wp2
    go_ret
    exact ⟨rfl, rfl⟩
  go_enter Tryd.func11, Tryd.ntmps11
  go_wp2
  go_loop [3] (fun i => ∃ k : Nat, i = .int .i64 k ∧ k ≤ P.length ∧ ¬ bigTo P k) (fun i => P.length - (intOf i).toNat)
  case atStart => exact ⟨0, rfl, Nat.zero_le _, fun ⟨j, hj, _⟩ => absurd hj (by omega)⟩
  case round =>
    obtain ⟨k, rfl, hk, hno⟩ := hrel
    have HN := Lib.hid hno
    clear hno
    by_cases hlt : k < P.length
    · have hcell := hc k hlt
      have hkl : (k : Int) < (P.length : Int) := by omega
      by_cases h16 : 16 ≤ P.getD k 0
      · have HR := Lib.hid (plC_big ⟨k, hlt, h16⟩)
        generalize P.getD k 0 = x at *
        have hd : decide (16 ≤ x) = true := by simpa using h16
        go_wp2
        go_ret
        exact ⟨reti HR.out.symm, rfl⟩
      · have HS := Lib.hid (show ¬ bigTo P (k + 1) from fun ⟨j, hj, h⟩ => by
          by_cases e : j = k
          · subst e; exact h16 h
          · exact HN.out ⟨j, by omega, h⟩)
        generalize P.getD k 0 = x at *
        have hd : decide (16 ≤ x) = false := by simpa using h16
        go_wp2
        go_round
        case rel => exact ⟨k + 1, by go_num, by omega, HS.out⟩
        case measure => simp [intOf]; omega
    · obtain rfl : k = P.length := by omega
      by_cases hl : 60 < P.length
      · have HR := Lib.hid (plC_long HN.out hl)
        have hd : decide ((60 : Int) < (P.length : Int)) = true := by simp; omega
        go_wp2
        go_ret
        exact ⟨reti HR.out.symm, rfl⟩
      · have HR := Lib.hid (plC_ok HN.out hl)
        have hd : decide ((60 : Int) < (P.length : Int)) = false := by simp; omega
        go_wp2
        go_ret
        exact ⟨reti HR.out.symm, rfl⟩
end Go.Proofs.YtlmmfcbdhmhekaaDoor
