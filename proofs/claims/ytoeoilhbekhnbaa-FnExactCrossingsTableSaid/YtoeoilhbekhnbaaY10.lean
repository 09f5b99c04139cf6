/-
  Banks: their values; copies; the walks of ValidBank and its model.
-/
import Derived.Test.YtoeoilhbekhnbaaY6
import Derived.Deep.RegionHeld3
import Derived.Deep.DeepCutAuto
namespace Go.Proofs.Ytoeoilhbekhnbaa
open Go.RowKit
set_option maxRecDepth 100000
set_option linter.unusedVariables false

/-- The value of a bank. -/
abbrev bankV (n : Int) (f : Bool) : Value := .agg #[.int .u16 n, .bool f]
/-- What is left alone. -/
def aloI (l : Int) (n : Int) (f : Bool) : Int := if f = true then n else bits .andNot .u16 (allI l) n
theorem alone_any (l k : Int) (a : Option Addr) (n c : Nat) (x : Int) (f : Bool) (w : World) (hl : 1 ≤ l ∧ l ≤ 8) :
    Calls Try.prog 75 #[ferV l k a n c, bankV x f] w fun e w' => e = .returned (.int .u16 (aloI l x f)) ∧ Below w.heap.size w w' := by
  have F0 := ((FR.start w).box #[.int .i8 l, .int .i8 k, .slice a n c] 30).box #[.int .u16 x, .bool f] 64
  simp only [World.size_alloc] at F0
  obtain ⟨c0, c1, c2, -⟩ := (F0.blk _ (List.mem_cons_of_mem _ List.mem_cons_self)).three
  obtain ⟨d0, d1, -⟩ := (F0.blk _ List.mem_cons_self).two
  have HE := Lib.hid (fun W => everything_any l k a n c W hl)
  cases f
  · have HR := Lib.hid (show aloI l x false = bits .andNot .u16 (allI l) x from rfl)
    generalize allI l = al at *
    clear hl
    go_enter Try.func75, Try.ntmps75
    go_wp2_with fail
    have F1 := F0.drew
    go_region_held3 (fun w' => w'.cell? ⟨w.heap.size, 0, none⟩ = some (.int .i8 l) ∧ w'.cell? ⟨w.heap.size, 1, none⟩ = some (.int .i8 k) ∧ w'.cell? ⟨w.heap.size, 2, none⟩ = some (.slice a n c) ∧ w'.cell? ⟨w.heap.size + 1, 0, none⟩ = some (.int .u16 x) ∧ w'.cell? ⟨w.heap.size + 1, 1, none⟩ = some (.bool false))
      (first
        | exact ⟨(F2.blk _ (List.mem_cons_of_mem _ List.mem_cons_self)).cell 0, (F2.blk _ (List.mem_cons_of_mem _ List.mem_cons_self)).cell 1, (F2.blk _ (List.mem_cons_of_mem _ List.mem_cons_self)).cell 2, (F2.blk _ List.mem_cons_self).cell 0, (F2.blk _ List.mem_cons_self).cell 1⟩
        | exact ⟨(F1.blk _ (List.mem_cons_of_mem _ List.mem_cons_self)).cell 0, (F1.blk _ (List.mem_cons_of_mem _ List.mem_cons_self)).cell 1, (F1.blk _ (List.mem_cons_of_mem _ List.mem_cons_self)).cell 2, (F1.blk _ List.mem_cons_self).cell 0, (F1.blk _ List.mem_cons_self).cell 1⟩)
      (first
        | (go_at_call 67; with_reducible refine (Calls.fr F1 (HE.out _)).mono ?_; rintro e w2 ⟨rfl, F2⟩))
    clear F1
    have HB := Lib.hid F2.below
    clear F2
    go_wp2
    go_ret
    exact ⟨reti HR.out.symm, HB.out⟩
  · have HB := Lib.hid F0.below
    clear F0
    go_enter Try.func75, Try.ntmps75
    go_wp2
    go_ret
    exact ⟨rfl, HB.out⟩
/-- A bank is valid, for a valid ferry. -/
def bkX (l : Int) (xs : List Int) (n : Int) (f : Bool) : Bool := (bits .andNot .u16 n (allI l) == 0) && safeX xs (aloI l n f)
set_option maxHeartbeats 2000000 in
theorem allows_any (l k : Int) (a : Option Addr) (c : Nat) (xs : List Int) (x : Int) (f : Bool) (w : World) (hs : Sl .u16 w.heap.size w a xs) (hn : xs.length ≤ 1048576) (hw : U16 xs) (hl : 1 ≤ l ∧ l ≤ 8) :
    Calls Try.prog 74 #[ferV l k a xs.length c, bankV x f] w fun e w' => e = .returned (.bool (bkX l xs x f)) ∧ Below w.heap.size w w' := by
  have F0 := ((FR.start w).box #[.int .i8 l, .int .i8 k, .slice a xs.length c] 30).box #[.int .u16 x, .bool f] 64
  simp only [World.size_alloc] at F0
  obtain ⟨c0, c1, c2, -⟩ := (F0.blk _ (List.mem_cons_of_mem _ List.mem_cons_self)).three
  obtain ⟨d0, d1, -⟩ := (F0.blk _ List.mem_cons_self).two
  have HH := Lib.hid (fun W => hasAll_any l k a xs.length c x W hl)
  have HA := Lib.hid (fun W => alone_any l k a xs.length c x f W hl)
  have HS := Lib.hid (fun (W : World) (y : Int) (hb : Below w.heap.size w W) => isSafe_any l k a c xs y W (hs.up hb (Nat.le_refl _)) hn hw)
  have HR := Lib.hid (show bkX l xs x f = ((bits .andNot .u16 x (allI l) == 0) && safeX xs (aloI l x f)) from rfl)
  clear hs hw hl
  generalize (bits .andNot .u16 x (allI l) == 0) = q at *
  generalize aloI l x f = al at *
  have HS2 := Lib.hid (fun W h => HS.out W al h)
  clear HS
  generalize safeX xs al = r at *
  cases q
  · go_enter Try.func74, Try.ntmps74
    go_wp2_with fail
    have F1 := F0.drew
    go_region_with (first
      | (go_at_call 57; with_reducible refine (Calls.fr F1 (HH.out _)).mono ?_; rintro e w2 ⟨rfl, F2⟩))
    all_goals
      have HB := Lib.hid F2.below
      clear F1 F2
      go_wp2
      go_ret
      exact ⟨retb (by rw [HR.out]; rfl), HB.out⟩
  · go_enter Try.func74, Try.ntmps74
    go_wp2_with fail
    have F1 := F0.drew
    go_region_held3 (fun w' => w'.cell? ⟨w.heap.size, 0, none⟩ = some (.int .i8 l) ∧ w'.cell? ⟨w.heap.size, 1, none⟩ = some (.int .i8 k) ∧ w'.cell? ⟨w.heap.size, 2, none⟩ = some (.slice a xs.length c) ∧ w'.cell? ⟨w.heap.size + 1, 0, none⟩ = some (.int .u16 x) ∧ w'.cell? ⟨w.heap.size + 1, 1, none⟩ = some (.bool f))
      (first
        | exact ⟨(F4.blk _ (List.mem_cons_of_mem _ List.mem_cons_self)).cell 0, (F4.blk _ (List.mem_cons_of_mem _ List.mem_cons_self)).cell 1, (F4.blk _ (List.mem_cons_of_mem _ List.mem_cons_self)).cell 2, (F4.blk _ List.mem_cons_self).cell 0, (F4.blk _ List.mem_cons_self).cell 1⟩
        | exact ⟨(F3.blk _ (List.mem_cons_of_mem _ List.mem_cons_self)).cell 0, (F3.blk _ (List.mem_cons_of_mem _ List.mem_cons_self)).cell 1, (F3.blk _ (List.mem_cons_of_mem _ List.mem_cons_self)).cell 2, (F3.blk _ List.mem_cons_self).cell 0, (F3.blk _ List.mem_cons_self).cell 1⟩
        | exact ⟨(F2.blk _ (List.mem_cons_of_mem _ List.mem_cons_self)).cell 0, (F2.blk _ (List.mem_cons_of_mem _ List.mem_cons_self)).cell 1, (F2.blk _ (List.mem_cons_of_mem _ List.mem_cons_self)).cell 2, (F2.blk _ List.mem_cons_self).cell 0, (F2.blk _ List.mem_cons_self).cell 1⟩
        | exact ⟨(F1.blk _ (List.mem_cons_of_mem _ List.mem_cons_self)).cell 0, (F1.blk _ (List.mem_cons_of_mem _ List.mem_cons_self)).cell 1, (F1.blk _ (List.mem_cons_of_mem _ List.mem_cons_self)).cell 2, (F1.blk _ List.mem_cons_self).cell 0, (F1.blk _ List.mem_cons_self).cell 1⟩)
      (first
        | (go_at_call 57; with_reducible refine (Calls.fr F1 (HH.out _)).mono ?_; rintro e w2 ⟨rfl, F2⟩)
        | (go_at_call 75; with_reducible refine (Calls.fr F2 (HA.out _)).mono ?_; rintro e w3 ⟨rfl, F3⟩)
        | (go_at_call 76; with_reducible refine (Calls.fr F3 (HS2.out _ F3.below)).mono ?_; rintro e w4 ⟨rfl, F4⟩))
    clear F1 F2 F3
    have HB := Lib.hid F4.below
    clear F4
    go_wp2
    go_ret
    exact ⟨retb (by rw [HR.out]; rfl), HB.out⟩
theorem l05Bank_any (fb : Nat) (l k : Int) (a : Option Addr) (c : Nat) (xs : List Int) (x : Int) (f : Bool) (w : World) (K : Blk w fb #[.int .i8 l, .int .i8 k, .slice a xs.length c] 30) (hs : Sl .u16 w.heap.size w a xs) (hn : xs.length ≤ 1048576) (hl : 1 ≤ l ∧ l ≤ 8) :
    Calls Try.prog 62 #[.pointer (some ⟨fb, 0, none⟩), bankV x f] w fun e w' => e = .returned (.bool (bkX l xs x f)) ∧ Below w.heap.size w w' := by
  have F0 := (FR.start w).box #[.int .u16 x, .bool f] 64
  obtain ⟨d0, d1, -⟩ := (F0.blk _ List.mem_cons_self).two
  have HK := Lib.hid (K.below F0.below K.lt)
  have HSl := Lib.hid (hs.up F0.below (Nat.le_refl _))
  have HB := Lib.hid F0.below
  have HA := Lib.hid (fun (W : World) (h : Blk W fb #[.int .i8 l, .int .i8 k, .slice a xs.length c] 30) => l05All_any fb l _ _ W h hl)
  have HS := Lib.hid (fun (W : World) (y : Int) (h : Blk W fb #[.int .i8 l, .int .i8 k, .slice a xs.length c] 30) (h2 : Sl .u16 W.heap.size W a xs) => l05Safe_any fb _ _ a c xs y W h h2 hn)
  have HR := Lib.hid (show bkX l xs x f = ((bits .andNot .u16 x (allI l) == 0) && safeX xs (aloI l x f)) from rfl)
  clear hs hl K F0
  by_cases hq : bits .andNot .u16 x (allI l) = 0
  case neg =>
    have HR2 := Lib.hid (show bkX l xs x f = false by rw [HR.out, show (bits .andNot .u16 x (allI l) == 0) = false by simpa using hq]; rfl)
    clear HR HS HSl
    generalize allI l = al at *
    go_enter Try.func62, Try.ntmps62
    go_wp2
    go_quiet ((go_at_call 48; exact Calls.quiet_same (HA.out _ (blk_dr HK.out _))))
    go_wp2
    go_ret
    exact ⟨retb HR2.out.symm, below_drewN HB.out _⟩
  cases f
  · have HR2 := Lib.hid (show bkX l xs x false = safeX xs (bits .andNot .u16 (allI l) x) by rw [HR.out, hq]; rfl)
    clear HR
    generalize allI l = al at *
    generalize hy : bits .andNot .u16 al x = y at *
    have HS2 := Lib.hid (fun W h h2 => HS.out W y h h2)
    clear HS
    generalize safeX xs y = r at *
    go_enter Try.func62, Try.ntmps62
    go_wp2
    go_quiet ((go_at_call 48; exact Calls.quiet_same (HA.out _ (blk_dr HK.out _))))
    have HK1 := Lib.hid (blk_dr HK.out nq)
    have HSl1 := Lib.hid (show Sl .u16 ((w.alloc (.cells #[.int .u16 x, .bool false] 64)).drewN nq).heap.size ((w.alloc (.cells #[.int .u16 x, .bool false] 64)).drewN nq) a xs from HSl.out)
    have HB1 := Lib.hid (below_drewN HB.out nq)
    have e0 : ((w.alloc (.cells #[.int .u16 x, .bool false] 64)).drewN nq).cell? ⟨w.heap.size, 0, none⟩ = some (.int .u16 x) := d0
    have e1 : ((w.alloc (.cells #[.int .u16 x, .bool false] 64)).drewN nq).cell? ⟨w.heap.size, 1, none⟩ = some (.bool false) := d1
    clear HK HSl HB d0 d1
    generalize (w.alloc (.cells #[.int .u16 x, .bool false] 64)).drewN nq = W1 at *
    go_wp2
    go_quiet ((first | (go_at_call 48; exact Calls.quiet_same (HA.out _ (blk_dr HK1.out _))) | (go_at_call 73; exact Calls.quiet_same (HS2.out _ (blk_dr HK1.out _) (by exact HSl1.out)))))
    go_wp2
    go_ret
    exact ⟨retb HR2.out.symm, below_drewN HB1.out _⟩
  · have HR2 := Lib.hid (show bkX l xs x true = safeX xs x by rw [HR.out, hq]; rfl)
    clear HR
    generalize allI l = al at *
    have HS2 := Lib.hid (fun W h h2 => HS.out W x h h2)
    clear HS
    generalize safeX xs x = r at *
    go_enter Try.func62, Try.ntmps62
    go_wp2
    go_quiet ((go_at_call 48; exact Calls.quiet_same (HA.out _ (blk_dr HK.out _))))
    go_wp2_with fail
    refine (HS2.out _ (blk_dr HK.out _) (by exact HSl.out)).mono ?_
    rintro e w3 ⟨rfl, rfl⟩
    go_wp2
    go_ret
    exact ⟨retb HR2.out.symm, below_drewN HB.out _⟩
end Go.Proofs.Ytoeoilhbekhnbaa
