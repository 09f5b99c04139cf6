/-
  Sets of a ferry's things: all of them, how many, and whether a set is one of them.
-/
import Derived.Test.YtgadcggeoonihaaDoorY1
import Derived.Test.YtgadcggeoonihaaDoorS2
namespace Go.Proofs.YtgadcggeoonihaaDoor
open Go.RowKit
set_option maxRecDepth 100000
set_option linter.unusedVariables false

/-- All things. -/
def allI (l : Int) : Int := 2 ^ l.toNat - 1
theorem l8 {l : Int} (h : 1 ≤ l ∧ l ≤ 8) : l = 1 ∨ l = 2 ∨ l = 3 ∨ l = 4 ∨ l = 5 ∨ l = 6 ∨ l = 7 ∨ l = 8 := by omega
theorem allI_le {l : Int} (h : 1 ≤ l ∧ l ≤ 8) : 1 ≤ allI l ∧ allI l ≤ 255 := by
  rcases l8 h with rfl | rfl | rfl | rfl | rfl | rfl | rfl | rfl <;> decide
theorem l05All_any (fb : Nat) (l : Int) (v1 v2 : Value) (w : World) (K : Blk w fb #[.int .i8 l, v1, v2] 28) (hl : 1 ≤ l ∧ l ≤ 8) :
    Calls Tryd.prog 32 #[.pointer (some ⟨fb, 0, none⟩)] w fun e w' => e = .returned (.int .u16 (allI l)) ∧ w = w' := by
  obtain ⟨c0, -, -, -⟩ := K.three
  clear K
  rcases l8 hl with rfl | rfl | rfl | rfl | rfl | rfl | rfl | rfl
  all_goals
    go_enter Tryd.func32, Tryd.ntmps32
    go_wp2
    go_ret
    exact ⟨rfl, rfl⟩
theorem everything_any (l k : Int) (a : Option Addr) (n c : Nat) (w : World) (hl : 1 ≤ l ∧ l ≤ 8) :
    Calls Tryd.prog 51 #[ferV l k a n c] w fun e w' => e = .returned (.int .u16 (allI l)) ∧ Below w.heap.size w w' := by
  have HB := Lib.hid ((FR.start w).box #[.int .i8 l, .int .i8 k, .slice a n c] 28).below
  rcases l8 hl with rfl | rfl | rfl | rfl | rfl | rfl | rfl | rfl
  all_goals
    go_enter Tryd.func51, Tryd.ntmps51
    go_wp2
    go_ret
    exact ⟨rfl, HB.out⟩
theorem hasAll_any (l k : Int) (a : Option Addr) (n c : Nat) (x : Int) (w : World) (hl : 1 ≤ l ∧ l ≤ 8) :
    Calls Tryd.prog 39 #[ferV l k a n c, .int .u16 x] w fun e w' => e = .returned (.bool (bits .andNot .u16 x (allI l) == 0)) ∧ Below w.heap.size w w' := by
  have F0 := (FR.start w).box #[.int .i8 l, .int .i8 k, .slice a n c] 28
  have HE := Lib.hid (fun W => everything_any l k a n c W hl)
  obtain ⟨c0, c1, c2, -⟩ := (F0.blk _ List.mem_cons_self).three
  generalize allI l = al at *
  clear hl
  go_enter Tryd.func39, Tryd.ntmps39
  go_wp2_with fail
  refine (HE.out _).mono ?_
  rintro e w2 ⟨rfl, hb⟩
  have HF := Lib.hid (F0.next hb).below
  clear hb F0 c0 c1 c2
  go_wp2
  go_ret
  exact ⟨rfl, HF.out⟩
theorem pop_sum (x : Int) (h : 0 ≤ x ∧ x ≤ 65535) : (sz x.toNat : Int) = ((Lib.pop8 (x / 256) + Lib.pop8 (x % 256)) % 256) ∧ 0 ≤ ((Lib.pop8 (x / 256) + Lib.pop8 (x % 256)) % 256) := by
  have e1 := Lib.pop8_eq ⟨x.toNat / 256, by omega⟩
  have e2 := Lib.pop8_eq ⟨x.toNat % 256, by omega⟩
  have l1 := Lib.onesCount_le8 ⟨x.toNat / 256, by omega⟩
  have l2 := Lib.onesCount_le8 ⟨x.toNat % 256, by omega⟩
  dsimp only at e1 e2 l1 l2
  rw [show ((x.toNat / 256 : Nat) : Int) = x / 256 by omega] at e1
  rw [show ((x.toNat % 256 : Nat) : Int) = x % 256 by omega] at e2
  rw [e1, e2, sz_bytes _ (by omega)]
  omega
theorem pop8_get (i : Nat) (h : i < Lib.pop8tab.size) (h2 : Lib.pop8tab.size = 256) : ((Lib.pop8tab[i]'h).toNat : Int) = Lib.pop8 (i : Int) := by
  simp only [Lib.pop8, Int.toNat_natCast, ByteArray.getElem?_lt' _ _ h, Option.getD_some]
theorem onesCount16_any (x : Int) (w : World) (h : 0 ≤ x ∧ x ≤ 65535) :
    Calls Tryd.prog 40 #[.int .u16 x] w fun e w' => e = .returned (.int .i64 (sz x.toNat)) ∧ Dr w w' := by
  have HS := Lib.hid (pop_sum x h)
  have hb : bits .and .u16 x 255 = x % 256 := by go_bits2
  have h1 : 0 ≤ x / 256 ∧ x / 256 < 256 := by omega
  have h2 : 0 ≤ x % 256 ∧ x % 256 < 256 := by omega
  have hz : Lib.pop8tab.size = 256 := Lib.pop8tab_size
  obtain ⟨p1, hp1⟩ : ∃ p, Lib.pop8 (x / 256) = p := ⟨_, rfl⟩
  obtain ⟨p2, hp2⟩ : ∃ p, Lib.pop8 (x % 256) = p := ⟨_, rfl⟩
  have g1 : ∀ h : (x / 256).toNat < Lib.pop8tab.size, ((Lib.pop8tab[(x / 256).toNat]'h).toNat : Int) = p1 := fun h => by rw [pop8_get _ _ hz, Int.toNat_of_nonneg h1.1]; exact hp1
  have g2 : ∀ h : (x % 256).toNat < Lib.pop8tab.size, ((Lib.pop8tab[(x % 256).toNat]'h).toNat : Int) = p2 := fun h => by rw [pop8_get _ _ hz, Int.toNat_of_nonneg h2.1]; exact hp2
  rw [hp1, hp2] at HS
  have HP := Lib.hid hp2
  clear hp1 hp2
  have hle := sz_le x.toNat
  go_enter Tryd.func40, Tryd.ntmps40
  go_wp2
  generalize hS : (ByteArray.mk _) = S
  have hT : S = Lib.pop8tab := by rw [← hS]; rfl
  subst hT
  clear hS
  go_quiet (fail)
  go_wp2
  go_ret
  refine ⟨?_, Dr.of _ _⟩
  rw [HS.out.1, ← HP.out]
  rfl
theorem l05Size_any (x : Int) (w : World) (h : 0 ≤ x ∧ x ≤ 65535) :
    Calls Tryd.prog 33 #[.int .u16 x] w fun e w' => e = .returned (.int .i64 (sz x.toNat)) ∧ w = w' := by
  go_enter Tryd.func33, Tryd.ntmps33
  go_wp2
  go_loop [0, 3] (fun t n => ∃ (y : Nat) (m : Nat), t = .int .u16 y ∧ y ≤ 65535 ∧ n = .int .i64 m ∧ m + sz y = sz x.toNat) (fun t _ => (intOf t).toNat)
  case atStart => exact ⟨x.toNat, 0, by rw [Int.toNat_of_nonneg h.1], by omega, rfl, by omega⟩
  case round =>
    obtain ⟨y, m, rfl, hy, rfl, hm⟩ := hrel
    have HM := Lib.hid hm
    have hm16 : m ≤ 16 := by have := sz_le x.toNat; omega
    clear hm
    by_cases h0 : 0 < y
    · have hyi : (0 : Int) < (y : Int) := by omega
      go_wp2
      go_round
      case rel =>
        refine ⟨y / 2, m + y % 2, by simp, by omega, by simp, ?_⟩
        have := HM.out
        rw [sz_half y (by omega)] at this
        omega
      case measure => simp [intOf]; omega
    · obtain rfl : y = 0 := by omega
      have HR := Lib.hid (show m = sz x.toNat by have := HM.out; rw [sz_zero] at this; omega)
      go_wp2
      go_ret
      exact ⟨by rw [HR.out]; rfl, rfl⟩
end Go.Proofs.YtgadcggeoonihaaDoor
