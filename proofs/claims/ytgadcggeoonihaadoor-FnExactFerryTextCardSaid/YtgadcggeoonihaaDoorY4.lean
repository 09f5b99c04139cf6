/-
  The walks of ValidFerry and its model.
-/
import Derived.Test.YtgadcggeoonihaaDoorY3
import Derived.StillTailTactics
namespace Go.Proofs.YtgadcggeoonihaaDoor
open Go.RowKit
set_option maxRecDepth 100000
set_option linter.unusedVariables false

/-- A rule that is none. -/
def badR (l r : Int) : Bool := !(bits .andNot .u16 r (allI l) == 0) || decide ((sz r.toNat : Int) < 2)
def okY (l k : Int) (xs : List Int) : Bool := decide (1 ≤ l ∧ l ≤ 8) && decide (0 ≤ k ∧ k ≤ l) && decide ((xs.length : Int) ≤ 20) && !(xs.any (badR l))
theorem okY_t {l k : Int} {xs : List Int} (h : okY l k xs = true) : (1 ≤ l ∧ l ≤ 8) ∧ (0 ≤ k ∧ k ≤ l) ∧ xs.length ≤ 20 ∧ xs.any (badR l) = false := by
  unfold okY at h
  simp only [Bool.and_eq_true, decide_eq_true_eq, Bool.not_eq_true'] at h
  exact ⟨h.1.1.1, h.1.1.2, by omega, h.2⟩
theorem okY_n1 {l k : Int} {xs : List Int} (h : ¬ (1 ≤ l ∧ l ≤ 8)) : okY l k xs = false := by unfold okY; rw [decide_eq_false h]; rfl
theorem okY_n2 {l k : Int} {xs : List Int} (h : ¬ (0 ≤ k ∧ k ≤ l)) : okY l k xs = false := by unfold okY; rw [decide_eq_false h]; simp
theorem okY_n3 {l k : Int} {xs : List Int} (h : ¬ ((xs.length : Int) ≤ 20)) : okY l k xs = false := by unfold okY; rw [decide_eq_false h]; simp
theorem okY_y {l k : Int} {xs : List Int} (h1 : 1 ≤ l ∧ l ≤ 8) (h2 : 0 ≤ k ∧ k ≤ l) (h3 : (xs.length : Int) ≤ 20) : okY l k xs = !(xs.any (badR l)) := by unfold okY; rw [decide_eq_true h1, decide_eq_true h2, decide_eq_true h3]; rfl
theorem i64_b8 {n : Int} (h : B8 n) : -9223372036854775808 ≤ n ∧ n ≤ 9223372036854775807 := by unfold B8 at h; omega
/-- The closure that looks for a rule that is none. -/
theorem vy1_any (fb : Nat) (l k : Int) (v2 : Value) (x : Int) (w : World) (K : Blk w fb #[.int .i8 l, .int .i8 k, v2] 28) (hv : ∃ a n c, v2 = .slice a n c) (hl : 1 ≤ l ∧ l ≤ 8) (hx : 0 ≤ x ∧ x ≤ 65535) :
    Calls Tryd.prog 38 #[.int .u16 x, .pointer (some ⟨fb, 0, none⟩)] w fun e w' => e = .returned (.bool (badR l x)) ∧ Below w.heap.size w w' := by
  obtain ⟨a, n, c, rfl⟩ := hv
  have HH := Lib.hid (fun W => hasAll_any l k a n c x W hl)
  have HO := Lib.hid (fun W => onesCount16_any x W hx)
  obtain ⟨c0, c1, c2, -⟩ := K.three
  have HR := Lib.hid (show badR l x = (!(bits .andNot .u16 x (allI l) == 0) || decide ((sz x.toNat : Int) < 2)) from rfl)
  have hz := sz_le x.toNat
  generalize sz x.toNat = z at *
  generalize (bits .andNot .u16 x (allI l) == 0) = q at *
  clear K hl
  cases q
  · go_enter Tryd.func38, Tryd.ntmps38
    go_wp2_with fail
    refine (HH.out _).mono ?_
    rintro e w2 ⟨rfl, hb⟩
    have HB := Lib.hid hb
    clear hb c0 c1 c2
    go_wp2
    go_ret
    exact ⟨retb (by rw [HR.out]; rfl), HB.out⟩
  · go_enter Tryd.func38, Tryd.ntmps38
    go_wp2_with fail
    refine (HH.out _).mono ?_
    rintro e w2 ⟨rfl, hb⟩
    go_wp2_with fail
    refine (HO.out _).mono ?_
    rintro e w3 ⟨rfl, hd⟩
    have HB := Lib.hid (hb.trans (hd.below.mono hb.size))
    clear hb hd c0 c1 c2
    go_wp2
    go_ret
    exact ⟨retb (by rw [HR.out]; simp), HB.out⟩
theorem call_vy1 (args : Array Value) (W : World) : (callFunc 38 args).run Tryd.prog W = .ok (.enter 38 args) W := by go_simp
set_option maxHeartbeats 2000000 in
theorem validFerry_any (l k : Int) (a : Option Addr) (c : Nat) (xs : List Int) (w : World) (hs : Sl .u16 w.heap.size w a xs) (hl : B8 l) (hk : B8 k) (hn : xs.length ≤ 1048576) (hw : U16 xs) :
    Calls Tryd.prog 18 #[ferV l k a xs.length c] w fun e w' => e = .returned (.bool (okY l k xs)) ∧ Below w.heap.size w w' := by
  have F0 := (FR.start w).box #[.int .i8 l, .int .i8 k, .slice a xs.length c] 28
  have HL := Lib.hid (fun W => within_any l 1 8 W)
  have HK := Lib.hid (fun W => within_any k 0 l W)
  unfold B8 at hl hk
  have HB := Lib.hid F0.below
  have HKK := Lib.hid (F0.blk _ List.mem_cons_self)
  obtain ⟨c0, c1, c2, -⟩ := (F0.blk _ List.mem_cons_self).three
  clear F0
  by_cases h8 : 1 ≤ l ∧ l ≤ 8
  case neg =>
    have HR := Lib.hid (okY_n1 (k := k) (xs := xs) h8)
    rw [show inB l 1 8 = false from cb_f h8] at HL
    clear h8
    go_enter Tryd.func18, Tryd.ntmps18
    go_wp2_with fail
    refine (HL.out _).mono ?_
    rintro e w2 ⟨rfl, rfl⟩
    go_wp2
    go_ret
    exact ⟨retb HR.out.symm, HB.out⟩
  rw [show inB l 1 8 = true from cb_t h8] at HL
  by_cases h2 : 0 ≤ k ∧ k ≤ l
  case neg =>
    have HR := Lib.hid (okY_n2 (l := l) (xs := xs) h2)
    rw [show inB k 0 l = false from cb_f h2] at HK
    clear h8 h2
    go_enter Tryd.func18, Tryd.ntmps18
    go_wp2_with fail
    refine (HL.out _).mono ?_
    rintro e w2 ⟨rfl, rfl⟩
    go_wp2_with fail
    refine (HK.out _).mono ?_
    rintro e w2 ⟨rfl, rfl⟩
    go_wp2
    go_ret
    exact ⟨retb HR.out.symm, HB.out⟩
  rw [show inB k 0 l = true from cb_t h2] at HK
  by_cases h20 : (xs.length : Int) ≤ 20
  case neg =>
    have HR := Lib.hid (okY_n3 (l := l) (k := k) h20)
    clear h8 h2
    go_enter Tryd.func18, Tryd.ntmps18
    go_wp2_with fail
    refine (HL.out _).mono ?_
    rintro e w2 ⟨rfl, rfl⟩
    go_wp2_with fail
    refine (HK.out _).mono ?_
    rintro e w2 ⟨rfl, rfl⟩
    go_wp2
    go_ret
    exact ⟨retb HR.out.symm, HB.out⟩
  have HR := Lib.hid (okY_y h8 h2 h20)
  have HC := Lib.hid (containsU_any 38 call_vy1 (.pointer (some ⟨w.heap.size, 0, none⟩)) (badR l) a c xs _ hn (hs.up HB.out (Nat.le_refl _)) hw (fun x W hW hx => vy1_any w.heap.size l k _ x W (HKK.out.below hW HKK.out.lt) ⟨_, _, _, rfl⟩ h8 hx))
  generalize xs.any (badR l) = r at *
  clear hw h8 h2 hs
  generalize xs.length = n at *
  go_enter Tryd.func18, Tryd.ntmps18
  go_wp2_with fail
  refine (HL.out _).mono ?_
  rintro e w2 ⟨rfl, rfl⟩
  go_wp2_with fail
  refine (HK.out _).mono ?_
  rintro e w2 ⟨rfl, rfl⟩
  go_wp2_with fail
  refine HC.out.mono ?_
  rintro e w3 ⟨rfl, hb3⟩
  have HB3 := Lib.hid (HB.out.trans (hb3.mono HB.out.size))
  clear hb3
  go_wp2
  go_ret
  exact ⟨retb HR.out.symm, HB3.out⟩
end Go.Proofs.YtgadcggeoonihaaDoor
