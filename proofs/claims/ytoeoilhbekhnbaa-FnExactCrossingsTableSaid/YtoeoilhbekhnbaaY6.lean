/-
  Safe sets and covers, and what a ferry that is asked about a set of things answers.
-/
import Derived.Test.YtoeoilhbekhnbaaY5
namespace Go.Proofs.Ytoeoilhbekhnbaa
open Go.RowKit
set_option maxRecDepth 100000
set_option linter.unusedVariables false

/-- A rule lies in a set; a rule has nothing in it. -/
def inS (x r : Int) : Bool := bits .andNot .u16 r x == 0
def offS (x r : Int) : Bool := bits .and .u16 r x == 0
def safeX (xs : List Int) (x : Int) : Bool := !(xs.any (inS x))
def covX (xs : List Int) (x : Int) : Bool := !(xs.any (offS x))
theorem Blk.one {w : World} {b : Nat} {a0 : Value} {t : TypeId} (h : Blk w b #[a0] t) : w.cell? ⟨b, 0, none⟩ = some a0 ∧ ∀ i, w.frozen? ⟨b, i, none⟩ = false := ⟨h.cell 0, h.free⟩
theorem is1_any (fb : Nat) (x r : Int) (w : World) (K : Blk w fb #[.int .u16 x] 62) :
    Calls Try.prog 77 #[.int .u16 r, .pointer (some ⟨fb, 0, none⟩)] w fun e w' => e = .returned (.bool (inS x r)) ∧ Below w.heap.size w w' := by
  obtain ⟨c0, -⟩ := K.one
  clear K
  go_enter Try.func77, Try.ntmps77
  go_wp2
  go_ret
  exact ⟨rfl, Below.refl _ _⟩
theorem call_is1 (args : Array Value) (W : World) : (callFunc 77 args).run Try.prog W = .ok (.enter 77 args) W := by go_simp
theorem isSafe_any (l k : Int) (a : Option Addr) (c : Nat) (xs : List Int) (x : Int) (w : World) (hs : Sl .u16 w.heap.size w a xs) (hn : xs.length ≤ 1048576) (hw : U16 xs) :
    Calls Try.prog 76 #[ferV l k a xs.length c, .int .u16 x] w fun e w' => e = .returned (.bool (safeX xs x)) ∧ Below w.heap.size w w' := by
  have F0 := ((FR.start w).box #[.int .i8 l, .int .i8 k, .slice a xs.length c] 30).box #[.int .u16 x] 62
  simp only [World.size_alloc] at F0
  have HB := Lib.hid F0.below
  have HK := Lib.hid (F0.blk _ List.mem_cons_self)
  have HC := Lib.hid (containsU_any 77 call_is1 (.pointer (some ⟨w.heap.size + 1, 0, none⟩)) (inS x) a c xs _ hn (hs.up HB.out (Nat.le_refl _)) hw (fun r W hW _ => is1_any (w.heap.size + 1) x r W (HK.out.below hW HK.out.lt)))
  have HR := Lib.hid (show safeX xs x = !(xs.any (inS x)) from rfl)
  generalize xs.any (inS x) = r at *
  clear hw hs F0
  generalize xs.length = n at *
  go_enter Try.func76, Try.ntmps76
  go_wp2_with fail
  refine HC.out.mono ?_
  rintro e w3 ⟨rfl, hb3⟩
  have HB3 := Lib.hid (HB.out.trans (hb3.mono HB.out.size))
  clear hb3
  go_wp2
  go_ret
  exact ⟨retb HR.out.symm, HB3.out⟩
/-- The model's search for a rule that lies in a set. -/
theorem l05Safe_any (fb : Nat) (v0 v1 : Value) (a : Option Addr) (c : Nat) (xs : List Int) (x : Int) (w : World) (K : Blk w fb #[v0, v1, .slice a xs.length c] 30) (hs : Sl .u16 w.heap.size w a xs) (hn : xs.length ≤ 1048576) :
    Calls Try.prog 73 #[.pointer (some ⟨fb, 0, none⟩), .int .u16 x] w fun e w' => e = .returned (.bool (safeX xs x)) ∧ w = w' := by
  obtain ⟨c0, c1, c2, -⟩ := K.three
  have hs' : xs = [] ∨ ∃ b off, a = some ⟨b, off, none⟩ ∧ At .u16 w b off xs := by
    rcases hs with h | ⟨b, off, e, _, h⟩
    · exact .inl h
    · exact .inr ⟨b, off, e, h⟩
  have HS := Lib.hid hs'
  have HT := Lib.hid (show safeX xs x = !(xs.any (inS x)) from rfl)
  obtain ⟨n, hnn⟩ : ∃ n, xs.length = n := ⟨_, rfl⟩
  have HNN := Lib.hid hnn
  rw [hnn] at c2 hn
  clear hnn hs hs' K
  go_enter Try.func73, Try.ntmps73
  go_wp2
  go_loop [5] (fun i => ∃ j : Nat, i = .int .i64 j ∧ j ≤ n ∧ (∀ m, m < j → inS x (xs.getD m 0) = false)) (fun i => n - (intOf i).toNat)
  case atStart => exact ⟨0, rfl, Nat.zero_le _, fun j h => absurd h (by omega)⟩
  case round =>
    obtain ⟨j, rfl, hj, ha⟩ := hrel
    have HAL := Lib.hid ha
    clear ha
    by_cases hlt : j < n
    case neg =>
      have HR := Lib.hid (show safeX xs x = true by rw [HT.out, any_f (fun i hi => HAL.out i (by rw [HNN.out] at hi; omega))]; rfl)
      go_wp2
      go_ret
      exact ⟨retb HR.out.symm, rfl⟩
    have hkl : (j : Int) < (n : Int) := by omega
    rcases HS.out with h0 | ⟨b, off, rfl, hc⟩
    · have := HNN.out; subst h0; simp at this; omega
    have p0 := hc j (by rw [HNN.out]; exact hlt)
    have HF := Lib.hid (fun (h : inS x (xs.getD j 0) = true) => (show safeX xs x = false by rw [HT.out, any_t (by rw [HNN.out]; exact hlt) h]; rfl))
    have HN := Lib.hid (fun (h : inS x (xs.getD j 0) = false) => (show ∀ m, m < j + 1 → inS x (xs.getD m 0) = false from fun m hm => by
        by_cases e : m = j
        · subst e; exact h
        · exact HAL.out m (by omega)))
    generalize xs.getD j 0 = r at *
    clear hc HS
    by_cases hq : bits .andNot .u16 r x = 0
    · have HR := Lib.hid (HF.out (by unfold inS; rw [hq]; rfl))
      clear HF HN
      go_wp2
      go_ret
      exact ⟨retb HR.out.symm, rfl⟩
    · have HR := Lib.hid (HN.out (by unfold inS; simpa using hq))
      clear HF HN
      go_wp2
      go_round
      case rel => exact ⟨j + 1, by go_num, by omega, HR.out⟩
      case measure => simp [intOf]; omega
/-- The code of a ferry that is asked about a set. -/
def cT (l k : Int) (xs : List Int) (x : Int) : Int := if okY l k xs = true then (if bits .andNot .u16 x (allI l) = 0 then 0 else 2) else 1
end Go.Proofs.Ytoeoilhbekhnbaa
