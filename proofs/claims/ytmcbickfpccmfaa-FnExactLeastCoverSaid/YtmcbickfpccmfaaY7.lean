/-
  The walks of IsSafe and IsCover, and of their models.
-/
import Derived.Test.YtmcbickfpccmfaaY6
namespace Go.Proofs.Ytmcbickfpccmfaa
open Go.RowKit
set_option maxRecDepth 100000
set_option linter.unusedVariables false

theorem cov_eq {l k : Int} {xs : List Int} (x : Int) (h : okY l k xs = true) : safeX xs (bits .andNot .u16 (allI l) x) = covX xs x := by
  have hb := (okY_t h).2.2.2
  rw [List.any_eq_false] at hb
  have e : ∀ r ∈ xs, inS (bits .andNot .u16 (allI l) x) r = offS x r := by
    intro r hr
    have h1 := hb r hr
    have h2 : bits .andNot .u16 r (allI l) = 0 := by
      unfold badR at h1
      simp only [Bool.or_eq_true, Bool.not_eq_true', beq_eq_false_iff_ne, not_or] at h1
      exact Classical.byContradiction fun h => h1.1 h
    rw [bits_andNot, toNat_eq_zero] at h2
    unfold inS offS
    rw [bits_andNot, bits_andNot, bv_toNat, cover_eq _ _ _ h2, bits_and]
  unfold safeX covX
  congr 1
  rw [Bool.eq_iff_iff, List.any_eq_true, List.any_eq_true]
  constructor
  · rintro ⟨r, h1, h2⟩
    exact ⟨r, h1, by rw [← e r h1]; exact h2⟩
  · rintro ⟨r, h1, h2⟩
    exact ⟨r, h1, by rw [e r h1]; exact h2⟩
theorem cT_c {l k : Int} {xs : List Int} {x : Int} : cT l k xs x = 0 ∨ cT l k xs x = 1 ∨ cT l k xs x = 2 := by
  unfold cT
  by_cases h : okY l k xs = true
  · rw [if_pos h]
    by_cases h2 : bits .andNot .u16 x (allI l) = 0
    · rw [if_pos h2]; exact .inl rfl
    · rw [if_neg h2]; exact .inr (.inr rfl)
  · rw [if_neg h]; exact .inr (.inl rfl)
theorem cT_ok {l k : Int} {xs : List Int} {x : Int} (h : cT l k xs x = 0) : okY l k xs = true := by
  unfold cT at h
  by_cases h2 : okY l k xs = true
  · exact h2
  · rw [if_neg h2] at h; exact absurd h (by decide)
/-- What is said of a set: nothing where there is a code. -/
def saidX (code : Int) (b : Bool) : Bool := decide (code = 0) && b
theorem saidX_0 (b : Bool) : saidX 0 b = b := rfl
theorem saidX_n {code : Int} (b : Bool) (h : code ≠ 0) : saidX code b = false := by unfold saidX; rw [decide_eq_false h]; rfl
theorem retbi {a b : Bool} {m n : Int} (h : a = b) (h2 : m = n) : Ending.returned (.tuple #[.bool a, .int .i64 m]) = .returned (.tuple #[.bool b, .int .i64 n]) := by rw [h, h2]
/-- The model's search through the rules for a cover. -/
theorem l05Cover_any (fb : Nat) (l k : Int) (a : Option Addr) (c : Nat) (xs : List Int) (x : Int) (w : World) (K : Blk w fb #[.int .i8 l, .int .i8 k, .slice a xs.length c] 30) (hs : Sl .u16 w.heap.size w a xs) (hn : xs.length ≤ 1048576) (hok : okY l k xs = true) :
    Calls Try.prog 12 #[.pointer (some ⟨fb, 0, none⟩), .int .u16 x] w fun e w' => e = .returned (.bool (covX xs x)) ∧ w = w' := by
  have HA := Lib.hid (fun W (h : w = W) => l05All_any fb l _ _ W (h ▸ K) (okY_t hok).1)
  have HS := Lib.hid (l05Safe_any fb _ _ a c xs (bits .andNot .u16 (allI l) x) w K hs hn)
  rw [cov_eq x hok] at HS
  clear hok hs K
  generalize allI l = al at *
  generalize covX xs x = b at *
  go_enter Try.func12, Try.ntmps12
  go_wp2_with fail
  refine (HA.out _ rfl).mono ?_
  rintro e w2 ⟨rfl, rfl⟩
  go_wp2_with fail
  refine HS.out.mono ?_
  rintro e w2 ⟨rfl, rfl⟩
  go_wp2
  go_ret
  exact ⟨rfl, rfl⟩
end Go.Proofs.Ytmcbickfpccmfaa
