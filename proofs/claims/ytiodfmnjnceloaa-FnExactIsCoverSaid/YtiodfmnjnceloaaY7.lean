/-
  The walks of IsSafe and IsCover, and of their models.
-/
import Derived.Test.YtiodfmnjnceloaaY6
namespace Go.Proofs.Ytiodfmnjnceloaa
open Go.RowKit
set_option maxRecDepth 100000
set_option linter.unusedVariables false

theorem cov_eq {l k : Int} {xs : List Int} (x : Int) (h : okY l k xs = true) : safeX xs (bits .andNot .u16 (allI l) x) = covX xs x := by
  have hb := (okY_t h).2.2.2
  rw [List.any_eq_false] at hb
  have e : ∀ r ∈ xs, inS (bits .andNot .u16 (allI l) x) r = offS x r := by
    intro r hr
    have h1 := hb r hr
    have h2 : bits .andNot .u16 r (allI l) = 0 := by
      unfold badR at h1
      simp only [Bool.or_eq_true, Bool.not_eq_true', beq_eq_false_iff_ne, not_or] at h1
      exact Classical.byContradiction fun h => h1.1 h
    rw [bits_andNot, toNat_eq_zero] at h2
    unfold inS offS
    rw [bits_andNot, bits_andNot, bv_toNat, cover_eq _ _ _ h2, bits_and]
  unfold safeX covX
  congr 1
  rw [Bool.eq_iff_iff, List.any_eq_true, List.any_eq_true]
  constructor
  · rintro ⟨r, h1, h2⟩
    exact ⟨r, h1, by rw [← e r h1]; exact h2⟩
  · rintro ⟨r, h1, h2⟩
    exact ⟨r, h1, by rw [e r h1]; exact h2⟩
theorem cT_c {l k : Int} {xs : List Int} {x : Int} : cT l k xs x = 0 ∨ cT l k xs x = 1 ∨ cT l k xs x = 2 := by
  unfold cT
  by_cases h : okY l k xs = true
  · rw [if_pos h]
    by_cases h2 : bits .andNot .u16 x (allI l) = 0
    · rw [if_pos h2]; exact .inl rfl
    · rw [if_neg h2]; exact .inr (.inr rfl)
  · rw [if_neg h]; exact .inr (.inl rfl)
theorem cT_ok {l k : Int} {xs : List Int} {x : Int} (h : cT l k xs x = 0) : okY l k xs = true := by
  unfold cT at h
  by_cases h2 : okY l k xs = true
  · exact h2
  · rw [if_neg h2] at h; exact absurd h (by decide)
/-- What is said of a set: nothing where there is a code. -/
def saidX (code : Int) (b : Bool) : Bool := decide (code = 0) && b
theorem saidX_0 (b : Bool) : saidX 0 b = b := rfl
theorem saidX_n {code : Int} (b : Bool) (h : code ≠ 0) : saidX code b = false := by unfold saidX; rw [decide_eq_false h]; rfl
theorem retbi {a b : Bool} {m n : Int} (h : a = b) (h2 : m = n) : Ending.returned (.tuple #[.bool a, .int .i64 m]) = .returned (.tuple #[.bool b, .int .i64 n]) := by rw [h, h2]
theorem isSafe_i (l k : Int) (a : Option Addr) (c : Nat) (xs : List Int) (x : Int) (w : World) (hs : Sl .u16 w.heap.size w a xs) (hl : B8 l) (hk : B8 k) (hn : xs.length ≤ 1048576) (hw : U16 xs) :
    Calls Try.prog 17 #[ferV l k a xs.length c, .int .u16 x] w fun e w' => e = .returned (.tuple #[.bool (saidX (cT l k xs x) (safeX xs x)), .int .i64 (cT l k xs x)]) ∧ Below w.heap.size w w' := by
  have F0 := (FR.start w).box #[.int .i8 l, .int .i8 k, .slice a xs.length c] 28
  obtain ⟨c0, c1, c2, -⟩ := (F0.blk _ List.mem_cons_self).three
  have HV := Lib.hid (codeOfThings_any l k a c xs x _ (hs.up F0.below (Nat.le_refl _)) hl hk hn hw)
  have HS := Lib.hid (fun W (hb : Below w.heap.size w W) => isSafe_any l k a c xs x W (hs.up hb (Nat.le_refl _)) hn hw)
  have hC := cT_c (l := l) (k := k) (xs := xs) (x := x)
  clear hl hk hw hs
  generalize safeX xs x = b at *
  generalize cT l k xs x = co at *
  generalize xs.length = n at *
  by_cases h0 : co = 0
  · subst h0
    clear hC
    go_enter Try.func17, Try.ntmps17
    go_wp2_with fail
    refine HV.out.mono ?_
    rintro e w2 ⟨rfl, hb⟩
    have F1 := F0.next hb
    obtain ⟨d0, d1, d2, -⟩ := (F1.blk _ List.mem_cons_self).three
    clear hb F0 c0 c1 c2 HV
    go_wp2_with fail
    refine (HS.out _ F1.below).mono ?_
    rintro e w3 ⟨rfl, hb⟩
    have HB := Lib.hid (F1.next hb).below
    clear hb F1 d0 d1 d2 HS
    go_wp2
    go_ret2
    exact ⟨retbi (saidX_0 _).symm rfl, HB.out⟩
  · have HR := Lib.hid (saidX_n b h0)
    go_enter Try.func17, Try.ntmps17
    go_wp2_with fail
    refine HV.out.mono ?_
    rintro e w2 ⟨rfl, hb⟩
    have HB := Lib.hid (F0.next hb).below
    clear hb F0 c0 c1 c2 HV HS hC
    go_wp2
    go_ret2
    exact ⟨retbi HR.out.symm rfl, HB.out⟩
theorem isCover_i (l k : Int) (a : Option Addr) (c : Nat) (xs : List Int) (x : Int) (w : World) (hs : Sl .u16 w.heap.size w a xs) (hl : B8 l) (hk : B8 k) (hn : xs.length ≤ 1048576) (hw : U16 xs) :
    Calls Try.prog 22 #[ferV l k a xs.length c, .int .u16 x] w fun e w' => e = .returned (.tuple #[.bool (saidX (cT l k xs x) (covX xs x)), .int .i64 (cT l k xs x)]) ∧ Below w.heap.size w w' := by
  have F0 := (FR.start w).box #[.int .i8 l, .int .i8 k, .slice a xs.length c] 28
  obtain ⟨c0, c1, c2, -⟩ := (F0.blk _ List.mem_cons_self).three
  have HV := Lib.hid (codeOfThings_any l k a c xs x _ (hs.up F0.below (Nat.le_refl _)) hl hk hn hw)
  have HS := Lib.hid (fun W (hb : Below w.heap.size w W) => isCover_any l k a c xs x W (hs.up hb (Nat.le_refl _)) hn hw)
  have hC := cT_c (l := l) (k := k) (xs := xs) (x := x)
  clear hl hk hw hs
  generalize covX xs x = b at *
  generalize cT l k xs x = co at *
  generalize xs.length = n at *
  by_cases h0 : co = 0
  · subst h0
    clear hC
    go_enter Try.func22, Try.ntmps22
    go_wp2_with fail
    refine HV.out.mono ?_
    rintro e w2 ⟨rfl, hb⟩
    have F1 := F0.next hb
    obtain ⟨d0, d1, d2, -⟩ := (F1.blk _ List.mem_cons_self).three
    clear hb F0 c0 c1 c2 HV
    go_wp2_with fail
    refine (HS.out _ F1.below).mono ?_
    rintro e w3 ⟨rfl, hb⟩
    have HB := Lib.hid (F1.next hb).below
    clear hb F1 d0 d1 d2 HS
    go_wp2
    go_ret2
    exact ⟨retbi (saidX_0 _).symm rfl, HB.out⟩
  · have HR := Lib.hid (saidX_n b h0)
    go_enter Try.func22, Try.ntmps22
    go_wp2_with fail
    refine HV.out.mono ?_
    rintro e w2 ⟨rfl, hb⟩
    have HB := Lib.hid (F0.next hb).below
    clear hb F0 c0 c1 c2 HV HS hC
    go_wp2
    go_ret2
    exact ⟨retbi HR.out.symm rfl, HB.out⟩
/-- The model's search through the rules for a cover. -/
theorem l05Cover_any (fb : Nat) (l k : Int) (a : Option Addr) (c : Nat) (xs : List Int) (x : Int) (w : World) (K : Blk w fb #[.int .i8 l, .int .i8 k, .slice a xs.length c] 28) (hs : Sl .u16 w.heap.size w a xs) (hn : xs.length ≤ 1048576) (hok : okY l k xs = true) :
    Calls Try.prog 42 #[.pointer (some ⟨fb, 0, none⟩), .int .u16 x] w fun e w' => e = .returned (.bool (covX xs x)) ∧ w = w' := by
  have HA := Lib.hid (fun W (h : w = W) => l05All_any fb l _ _ W (h ▸ K) (okY_t hok).1)
  have HS := Lib.hid (l05Safe_any fb _ _ a c xs (bits .andNot .u16 (allI l) x) w K hs hn)
  rw [cov_eq x hok] at HS
  clear hok hs K
  generalize allI l = al at *
  generalize covX xs x = b at *
  go_enter Try.func42, Try.ntmps42
  go_wp2_with fail
  refine (HA.out _ rfl).mono ?_
  rintro e w2 ⟨rfl, rfl⟩
  go_wp2_with fail
  refine HS.out.mono ?_
  rintro e w2 ⟨rfl, rfl⟩
  go_wp2
  go_ret
  exact ⟨rfl, rfl⟩
theorem specIsSafe_i (l k : Int) (a : Option Addr) (c : Nat) (xs : List Int) (x : Int) (w : World) (hs : Sl .u16 w.heap.size w a xs) (hl : B8 l) (hk : B8 k) (hn : xs.length ≤ 1048576) (hw : U16 xs) :
    Calls Try.prog 16 #[ferV l k a xs.length c, .int .u16 x] w fun e w' => e = .returned (.tuple #[.bool (saidX (cT l k xs x) (safeX xs x)), .int .i64 (cT l k xs x)]) ∧ Below w.heap.size w w' := by
  have F0 := (FR.start w).box #[.int .i8 l, .int .i8 k, .slice a xs.length c] 28
  have K0 := F0.blk _ List.mem_cons_self
  have hsW := fun (W : World) (hb : Below w.heap.size w W) => hs.up hb (Nat.le_refl _)
  have HV := Lib.hid (l05Asked_any w.heap.size l k a c xs x _ K0 (hsW _ F0.below) hl hk hn hw)
  have HS := Lib.hid (fun (W : World) (h : Dr (w.alloc (.cells #[.int .i8 l, .int .i8 k, .slice a xs.length c] 28)) W) (_ : cT l k xs x = 0) => l05Safe_any w.heap.size _ _ a c xs x W (h.blk K0) (hsW W (F0.next h.below).below) hn)
  have HB := Lib.hid F0.below
  have hC := cT_c (l := l) (k := k) (xs := xs) (x := x)
  clear hl hk hw hs F0 K0 hsW
  by_cases h0 : cT l k xs x = 0
  · have HS2 := Lib.hid (fun W h => HS.out W h h0)
    rw [h0] at HV ⊢
    clear HS h0 hC
    generalize safeX xs x = b at *
    generalize xs.length = n at *
    go_enter Try.func16, Try.ntmps16
    go_wp2_with fail
    refine HV.out.mono ?_
    rintro e w2 ⟨rfl, hb⟩
    have HB2 := Lib.hid (HB.out.trans (hb.below.mono HB.out.size))
    have HC2 := Lib.hid (HS2.out _ hb)
    clear hb HV HS2
    go_wp2_with fail
    refine HC2.out.mono ?_
    rintro e w3 ⟨rfl, rfl⟩
    go_wp2
    go_ret2
    exact ⟨retbi (saidX_0 _).symm rfl, HB2.out⟩
  · clear HS
    generalize safeX xs x = b at *
    generalize cT l k xs x = co at *
    generalize xs.length = n at *
    have HR := Lib.hid (saidX_n b h0)
    go_enter Try.func16, Try.ntmps16
    go_wp2_with fail
    refine HV.out.mono ?_
    rintro e w2 ⟨rfl, hb⟩
    have HB2 := Lib.hid (HB.out.trans (hb.below.mono HB.out.size))
    clear hb HV hC
    go_wp2
    go_ret2
    exact ⟨retbi HR.out.symm rfl, HB2.out⟩
theorem specIsCover_i (l k : Int) (a : Option Addr) (c : Nat) (xs : List Int) (x : Int) (w : World) (hs : Sl .u16 w.heap.size w a xs) (hl : B8 l) (hk : B8 k) (hn : xs.length ≤ 1048576) (hw : U16 xs) :
    Calls Try.prog 21 #[ferV l k a xs.length c, .int .u16 x] w fun e w' => e = .returned (.tuple #[.bool (saidX (cT l k xs x) (covX xs x)), .int .i64 (cT l k xs x)]) ∧ Below w.heap.size w w' := by
  have F0 := (FR.start w).box #[.int .i8 l, .int .i8 k, .slice a xs.length c] 28
  have K0 := F0.blk _ List.mem_cons_self
  have hsW := fun (W : World) (hb : Below w.heap.size w W) => hs.up hb (Nat.le_refl _)
  have HV := Lib.hid (l05Asked_any w.heap.size l k a c xs x _ K0 (hsW _ F0.below) hl hk hn hw)
  have HS := Lib.hid (fun (W : World) (h : Dr (w.alloc (.cells #[.int .i8 l, .int .i8 k, .slice a xs.length c] 28)) W) (h0 : cT l k xs x = 0) => l05Cover_any w.heap.size l k a c xs x W (h.blk K0) (hsW W (F0.next h.below).below) hn (cT_ok h0))
  have HB := Lib.hid F0.below
  have hC := cT_c (l := l) (k := k) (xs := xs) (x := x)
  clear hl hk hw hs F0 K0 hsW
  by_cases h0 : cT l k xs x = 0
  · have HS2 := Lib.hid (fun W h => HS.out W h h0)
    rw [h0] at HV ⊢
    clear HS h0 hC
    generalize covX xs x = b at *
    generalize xs.length = n at *
    go_enter Try.func21, Try.ntmps21
    go_wp2_with fail
    refine HV.out.mono ?_
    rintro e w2 ⟨rfl, hb⟩
    have HB2 := Lib.hid (HB.out.trans (hb.below.mono HB.out.size))
    have HC2 := Lib.hid (HS2.out _ hb)
    clear hb HV HS2
    go_wp2_with fail
    refine HC2.out.mono ?_
    rintro e w3 ⟨rfl, rfl⟩
    go_wp2
    go_ret2
    exact ⟨retbi (saidX_0 _).symm rfl, HB2.out⟩
  · clear HS
    generalize covX xs x = b at *
    generalize cT l k xs x = co at *
    generalize xs.length = n at *
    have HR := Lib.hid (saidX_n b h0)
    go_enter Try.func21, Try.ntmps21
    go_wp2_with fail
    refine HV.out.mono ?_
    rintro e w2 ⟨rfl, hb⟩
    have HB2 := Lib.hid (HB.out.trans (hb.below.mono HB.out.size))
    clear hb HV hC
    go_wp2
    go_ret2
    exact ⟨retbi HR.out.symm rfl, HB2.out⟩
end Go.Proofs.Ytiodfmnjnceloaa
