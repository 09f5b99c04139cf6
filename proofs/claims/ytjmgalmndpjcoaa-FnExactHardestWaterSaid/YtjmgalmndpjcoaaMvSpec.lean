/-
  The walk of l02Move: the water behind a move, in the model.
-/
import Derived.Test.YtjmgalmndpjcoaaMvMath
import Derived.Test.YtjmgalmndpjcoaaEqWat
import Derived.Test.YtjmgalmndpjcoaaAfter
namespace Go.Proofs.Ytjmgalmndpjcoaa
open Go.RowKit
set_option maxRecDepth 100000
set_option linter.unusedVariables false

theorem l02Move_nok (p b off c : Nat) (J : List Int) (x y : Nat → Int) (t : Bool) (k f g : Int) (w : World) (hJ : OkJ J) (hkb : -128 ≤ k ∧ k ≤ 127) (hfb : -128 ≤ f ∧ f ≤ 127) (hgb : -128 ≤ g ∧ g ≤ 127) (hb : b < w.heap.size) (hc : At .i16 w b off J) (hp : Blk w p #[.slice (some ⟨b, off, none⟩) J.length c, .int .i16 (x 0), .int .i16 (x 1), .int .i16 (x 2), .int .i16 (x 3), .bool t] 32) (h : ¬ (0 ≤ k ∧ k ≤ 2)) :
    Calls Try.prog 59 #[.pointer (some ⟨p, 0, none⟩), watV y, movV k f g] w fun e w' => e = .returned (.tuple #[watV (fun _ => 0), .int .i64 2]) ∧ Below w.heap.size w w' := by
  have k0 := ((blk_new w #[.int .i16 (y 0), .int .i16 (y 1), .int .i16 (y 2), .int .i16 (y 3)] 30).alloc (.cells #[.int .i8 k, .int .i8 f, .int .i8 g] 78)).alloc (.cells #[.int .i16 0, .int .i16 0, .int .i16 0, .int .i16 0] 30)
  have k1 := (blk_new (w.alloc (.cells #[.int .i16 (y 0), .int .i16 (y 1), .int .i16 (y 2), .int .i16 (y 3)] 30)) #[.int .i8 k, .int .i8 f, .int .i8 g] 78).alloc (.cells #[.int .i16 0, .int .i16 0, .int .i16 0, .int .i16 0] 30)
  have k2 := blk_new ((w.alloc (.cells #[.int .i16 (y 0), .int .i16 (y 1), .int .i16 (y 2), .int .i16 (y 3)] 30)).alloc (.cells #[.int .i8 k, .int .i8 f, .int .i8 g] 78)) #[.int .i16 0, .int .i16 0, .int .i16 0, .int .i16 0] 30
  have hB := (((Below.refl w.heap.size w).alloc (Nat.le_refl _) (.cells #[.int .i16 (y 0), .int .i16 (y 1), .int .i16 (y 2), .int .i16 (y 3)] 30)).alloc (by simp) (.cells #[.int .i8 k, .int .i8 f, .int .i8 g] 78)).alloc (by simp <;> omega) (.cells #[.int .i16 0, .int .i16 0, .int .i16 0, .int .i16 0] 30)
  have hsz : w.heap.size + 3 = (((w.alloc (.cells #[.int .i16 (y 0), .int .i16 (y 1), .int .i16 (y 2), .int .i16 (y 3)] 30)).alloc (.cells #[.int .i8 k, .int .i8 f, .int .i8 g] 78)).alloc (.cells #[.int .i16 0, .int .i16 0, .int .i16 0, .int .i16 0] 30)).heap.size := by simp
  simp only [World.size_alloc] at k1 k2
  have kp := ((hp.alloc (.cells #[.int .i16 (y 0), .int .i16 (y 1), .int .i16 (y 2), .int .i16 (y 3)] 30)).alloc (.cells #[.int .i8 k, .int .i8 f, .int .i8 g] 78)).alloc (.cells #[.int .i16 0, .int .i16 0, .int .i16 0, .int .i16 0] 30)
  obtain ⟨p0, p1, p2, p3, p4, p5, -⟩ := kp.six
  obtain ⟨q0, q1, q2, q3, -⟩ := k0.four
  obtain ⟨r0, r1, r2, -⟩ := k1.three
  have hl1 := hJ.1.1
  have hl4 := hJ.1.2
  have HIK := Lib.hid (fun W => l00In_f k 0 2 W (by omega))
  have HIF := Lib.hid (fun W : World => HIK.out W)
  have HIG := Lib.hid (fun W : World => HIK.out W)
  clear h
  have HB := Lib.hid hB
  clear hB hc hp kp
  go_enter Try.func59, Try.ntmps59
  obtain ⟨z0, z1, z2, z3, z4⟩ := k2.four
  go_wp2_with (first | (go_at_call 67; with_reducible refine (HIK.out _).mono ?_; rintro e w' ⟨rfl, rfl⟩) | (go_at_call 67; with_reducible refine (HIF.out _).mono ?_; rintro e w' ⟨rfl, rfl⟩) | (go_at_call 67; with_reducible refine (HIG.out _).mono ?_; rintro e w' ⟨rfl, rfl⟩))
  refine bodyPost_ret (v := .tuple #[watV (fun _ => 0), .int .i64 2]) (by simp [results, Try.results59, go_sem, z0, z1, z2, z3]) rfl ⟨rfl, ?_⟩
  exact HB.out
theorem l02Move_nof (p b off c : Nat) (J : List Int) (x y : Nat → Int) (t : Bool) (k f g : Int) (w : World) (hJ : OkJ J) (hkb : -128 ≤ k ∧ k ≤ 127) (hfb : -128 ≤ f ∧ f ≤ 127) (hgb : -128 ≤ g ∧ g ≤ 127) (hb : b < w.heap.size) (hc : At .i16 w b off J) (hp : Blk w p #[.slice (some ⟨b, off, none⟩) J.length c, .int .i16 (x 0), .int .i16 (x 1), .int .i16 (x 2), .int .i16 (x 3), .bool t] 32) (h0 : 0 ≤ k ∧ k ≤ 2) (h : ¬ (0 ≤ f ∧ f ≤ (J.length : Int) - 1)) :
    Calls Try.prog 59 #[.pointer (some ⟨p, 0, none⟩), watV y, movV k f g] w fun e w' => e = .returned (.tuple #[watV (fun _ => 0), .int .i64 2]) ∧ Below w.heap.size w w' := by
  have k0 := ((blk_new w #[.int .i16 (y 0), .int .i16 (y 1), .int .i16 (y 2), .int .i16 (y 3)] 30).alloc (.cells #[.int .i8 k, .int .i8 f, .int .i8 g] 78)).alloc (.cells #[.int .i16 0, .int .i16 0, .int .i16 0, .int .i16 0] 30)
  have k1 := (blk_new (w.alloc (.cells #[.int .i16 (y 0), .int .i16 (y 1), .int .i16 (y 2), .int .i16 (y 3)] 30)) #[.int .i8 k, .int .i8 f, .int .i8 g] 78).alloc (.cells #[.int .i16 0, .int .i16 0, .int .i16 0, .int .i16 0] 30)
  have k2 := blk_new ((w.alloc (.cells #[.int .i16 (y 0), .int .i16 (y 1), .int .i16 (y 2), .int .i16 (y 3)] 30)).alloc (.cells #[.int .i8 k, .int .i8 f, .int .i8 g] 78)) #[.int .i16 0, .int .i16 0, .int .i16 0, .int .i16 0] 30
  have hB := (((Below.refl w.heap.size w).alloc (Nat.le_refl _) (.cells #[.int .i16 (y 0), .int .i16 (y 1), .int .i16 (y 2), .int .i16 (y 3)] 30)).alloc (by simp) (.cells #[.int .i8 k, .int .i8 f, .int .i8 g] 78)).alloc (by simp <;> omega) (.cells #[.int .i16 0, .int .i16 0, .int .i16 0, .int .i16 0] 30)
  have hsz : w.heap.size + 3 = (((w.alloc (.cells #[.int .i16 (y 0), .int .i16 (y 1), .int .i16 (y 2), .int .i16 (y 3)] 30)).alloc (.cells #[.int .i8 k, .int .i8 f, .int .i8 g] 78)).alloc (.cells #[.int .i16 0, .int .i16 0, .int .i16 0, .int .i16 0] 30)).heap.size := by simp
  simp only [World.size_alloc] at k1 k2
  have kp := ((hp.alloc (.cells #[.int .i16 (y 0), .int .i16 (y 1), .int .i16 (y 2), .int .i16 (y 3)] 30)).alloc (.cells #[.int .i8 k, .int .i8 f, .int .i8 g] 78)).alloc (.cells #[.int .i16 0, .int .i16 0, .int .i16 0, .int .i16 0] 30)
  obtain ⟨p0, p1, p2, p3, p4, p5, -⟩ := kp.six
  obtain ⟨q0, q1, q2, q3, -⟩ := k0.four
  obtain ⟨r0, r1, r2, -⟩ := k1.three
  have hl1 := hJ.1.1
  have hl4 := hJ.1.2
  have HIK := Lib.hid (fun W => l00In_t k 0 2 W (by omega))
  have HIF := Lib.hid (fun W => l00In_f f 0 ((J.length : Int) - 1) W (by omega))
  have HIG := Lib.hid (fun W : World => HIK.out W)
  clear h h0
  have HB := Lib.hid hB
  clear hB hc hp kp
  go_enter Try.func59, Try.ntmps59
  obtain ⟨z0, z1, z2, z3, z4⟩ := k2.four
  go_wp2_with (first | (go_at_call 67; with_reducible refine (HIK.out _).mono ?_; rintro e w' ⟨rfl, rfl⟩) | (go_at_call 67; with_reducible refine (HIF.out _).mono ?_; rintro e w' ⟨rfl, rfl⟩) | (go_at_call 67; with_reducible refine (HIG.out _).mono ?_; rintro e w' ⟨rfl, rfl⟩))
  refine bodyPost_ret (v := .tuple #[watV (fun _ => 0), .int .i64 2]) (by simp [results, Try.results59, go_sem, z0, z1, z2, z3]) rfl ⟨rfl, ?_⟩
  exact HB.out
theorem l02Move_nog (p b off c : Nat) (J : List Int) (x y : Nat → Int) (t : Bool) (k f g : Int) (w : World) (hJ : OkJ J) (hkb : -128 ≤ k ∧ k ≤ 127) (hfb : -128 ≤ f ∧ f ≤ 127) (hgb : -128 ≤ g ∧ g ≤ 127) (hb : b < w.heap.size) (hc : At .i16 w b off J) (hp : Blk w p #[.slice (some ⟨b, off, none⟩) J.length c, .int .i16 (x 0), .int .i16 (x 1), .int .i16 (x 2), .int .i16 (x 3), .bool t] 32) (h0 : 0 ≤ k ∧ k ≤ 2) (h1 : 0 ≤ f ∧ f ≤ (J.length : Int) - 1) (h : ¬ (0 ≤ g ∧ g ≤ (J.length : Int) - 1)) :
    Calls Try.prog 59 #[.pointer (some ⟨p, 0, none⟩), watV y, movV k f g] w fun e w' => e = .returned (.tuple #[watV (fun _ => 0), .int .i64 2]) ∧ Below w.heap.size w w' := by
  have k0 := ((blk_new w #[.int .i16 (y 0), .int .i16 (y 1), .int .i16 (y 2), .int .i16 (y 3)] 30).alloc (.cells #[.int .i8 k, .int .i8 f, .int .i8 g] 78)).alloc (.cells #[.int .i16 0, .int .i16 0, .int .i16 0, .int .i16 0] 30)
  have k1 := (blk_new (w.alloc (.cells #[.int .i16 (y 0), .int .i16 (y 1), .int .i16 (y 2), .int .i16 (y 3)] 30)) #[.int .i8 k, .int .i8 f, .int .i8 g] 78).alloc (.cells #[.int .i16 0, .int .i16 0, .int .i16 0, .int .i16 0] 30)
  have k2 := blk_new ((w.alloc (.cells #[.int .i16 (y 0), .int .i16 (y 1), .int .i16 (y 2), .int .i16 (y 3)] 30)).alloc (.cells #[.int .i8 k, .int .i8 f, .int .i8 g] 78)) #[.int .i16 0, .int .i16 0, .int .i16 0, .int .i16 0] 30
  have hB := (((Below.refl w.heap.size w).alloc (Nat.le_refl _) (.cells #[.int .i16 (y 0), .int .i16 (y 1), .int .i16 (y 2), .int .i16 (y 3)] 30)).alloc (by simp) (.cells #[.int .i8 k, .int .i8 f, .int .i8 g] 78)).alloc (by simp <;> omega) (.cells #[.int .i16 0, .int .i16 0, .int .i16 0, .int .i16 0] 30)
  have hsz : w.heap.size + 3 = (((w.alloc (.cells #[.int .i16 (y 0), .int .i16 (y 1), .int .i16 (y 2), .int .i16 (y 3)] 30)).alloc (.cells #[.int .i8 k, .int .i8 f, .int .i8 g] 78)).alloc (.cells #[.int .i16 0, .int .i16 0, .int .i16 0, .int .i16 0] 30)).heap.size := by simp
  simp only [World.size_alloc] at k1 k2
  have kp := ((hp.alloc (.cells #[.int .i16 (y 0), .int .i16 (y 1), .int .i16 (y 2), .int .i16 (y 3)] 30)).alloc (.cells #[.int .i8 k, .int .i8 f, .int .i8 g] 78)).alloc (.cells #[.int .i16 0, .int .i16 0, .int .i16 0, .int .i16 0] 30)
  obtain ⟨p0, p1, p2, p3, p4, p5, -⟩ := kp.six
  obtain ⟨q0, q1, q2, q3, -⟩ := k0.four
  obtain ⟨r0, r1, r2, -⟩ := k1.three
  have hl1 := hJ.1.1
  have hl4 := hJ.1.2
  have HIK := Lib.hid (fun W => l00In_t k 0 2 W (by omega))
  have HIF := Lib.hid (fun W => l00In_t f 0 ((J.length : Int) - 1) W (by omega))
  have HIG := Lib.hid (fun W => l00In_f g 0 ((J.length : Int) - 1) W (by omega))
  clear h h0 h1
  have HB := Lib.hid hB
  clear hB hc hp kp
  go_enter Try.func59, Try.ntmps59
  obtain ⟨z0, z1, z2, z3, z4⟩ := k2.four
  go_wp2_with (first | (go_at_call 67; with_reducible refine (HIK.out _).mono ?_; rintro e w' ⟨rfl, rfl⟩) | (go_at_call 67; with_reducible refine (HIF.out _).mono ?_; rintro e w' ⟨rfl, rfl⟩) | (go_at_call 67; with_reducible refine (HIG.out _).mono ?_; rintro e w' ⟨rfl, rfl⟩))
  refine bodyPost_ret (v := .tuple #[watV (fun _ => 0), .int .i64 2]) (by simp [results, Try.results59, go_sem, z0, z1, z2, z3]) rfl ⟨rfl, ?_⟩
  exact HB.out
theorem l02Move_noz (p b off c : Nat) (J : List Int) (x y : Nat → Int) (t : Bool) (k f g : Int) (w : World) (hJ : OkJ J) (hkb : -128 ≤ k ∧ k ≤ 127) (hfb : -128 ≤ f ∧ f ≤ 127) (hgb : -128 ≤ g ∧ g ≤ 127) (hb : b < w.heap.size) (hc : At .i16 w b off J) (hp : Blk w p #[.slice (some ⟨b, off, none⟩) J.length c, .int .i16 (x 0), .int .i16 (x 1), .int .i16 (x 2), .int .i16 (x 3), .bool t] 32) (h0 : 0 ≤ k ∧ k ≤ 2) (h1 : 0 ≤ f ∧ f ≤ (J.length : Int) - 1) (h2 : 0 ≤ g ∧ g ≤ (J.length : Int) - 1) (h : k ≠ 0) (h3 : g ≠ 0) :
    Calls Try.prog 59 #[.pointer (some ⟨p, 0, none⟩), watV y, movV k f g] w fun e w' => e = .returned (.tuple #[watV (fun _ => 0), .int .i64 2]) ∧ Below w.heap.size w w' := by
  have k0 := ((blk_new w #[.int .i16 (y 0), .int .i16 (y 1), .int .i16 (y 2), .int .i16 (y 3)] 30).alloc (.cells #[.int .i8 k, .int .i8 f, .int .i8 g] 78)).alloc (.cells #[.int .i16 0, .int .i16 0, .int .i16 0, .int .i16 0] 30)
  have k1 := (blk_new (w.alloc (.cells #[.int .i16 (y 0), .int .i16 (y 1), .int .i16 (y 2), .int .i16 (y 3)] 30)) #[.int .i8 k, .int .i8 f, .int .i8 g] 78).alloc (.cells #[.int .i16 0, .int .i16 0, .int .i16 0, .int .i16 0] 30)
  have k2 := blk_new ((w.alloc (.cells #[.int .i16 (y 0), .int .i16 (y 1), .int .i16 (y 2), .int .i16 (y 3)] 30)).alloc (.cells #[.int .i8 k, .int .i8 f, .int .i8 g] 78)) #[.int .i16 0, .int .i16 0, .int .i16 0, .int .i16 0] 30
  have hB := (((Below.refl w.heap.size w).alloc (Nat.le_refl _) (.cells #[.int .i16 (y 0), .int .i16 (y 1), .int .i16 (y 2), .int .i16 (y 3)] 30)).alloc (by simp) (.cells #[.int .i8 k, .int .i8 f, .int .i8 g] 78)).alloc (by simp <;> omega) (.cells #[.int .i16 0, .int .i16 0, .int .i16 0, .int .i16 0] 30)
  have hsz : w.heap.size + 3 = (((w.alloc (.cells #[.int .i16 (y 0), .int .i16 (y 1), .int .i16 (y 2), .int .i16 (y 3)] 30)).alloc (.cells #[.int .i8 k, .int .i8 f, .int .i8 g] 78)).alloc (.cells #[.int .i16 0, .int .i16 0, .int .i16 0, .int .i16 0] 30)).heap.size := by simp
  simp only [World.size_alloc] at k1 k2
  have kp := ((hp.alloc (.cells #[.int .i16 (y 0), .int .i16 (y 1), .int .i16 (y 2), .int .i16 (y 3)] 30)).alloc (.cells #[.int .i8 k, .int .i8 f, .int .i8 g] 78)).alloc (.cells #[.int .i16 0, .int .i16 0, .int .i16 0, .int .i16 0] 30)
  obtain ⟨p0, p1, p2, p3, p4, p5, -⟩ := kp.six
  obtain ⟨q0, q1, q2, q3, -⟩ := k0.four
  obtain ⟨r0, r1, r2, -⟩ := k1.three
  have hl1 := hJ.1.1
  have hl4 := hJ.1.2
  have e1 : (k != 0) = true := by simpa using h
  have e2 : (g != 0) = true := by simpa using h3
  have HIK := Lib.hid (fun W => l00In_t k 0 2 W (by omega))
  have HIF := Lib.hid (fun W => l00In_t f 0 ((J.length : Int) - 1) W (by omega))
  have HIG := Lib.hid (fun W => l00In_t g 0 ((J.length : Int) - 1) W (by omega))
  clear h h0 h1 h2 h3
  have HB := Lib.hid hB
  clear hB hc hp kp
  go_enter Try.func59, Try.ntmps59
  obtain ⟨z0, z1, z2, z3, z4⟩ := k2.four
  go_wp2_with (first | (go_at_call 67; with_reducible refine (HIK.out _).mono ?_; rintro e w' ⟨rfl, rfl⟩) | (go_at_call 67; with_reducible refine (HIF.out _).mono ?_; rintro e w' ⟨rfl, rfl⟩) | (go_at_call 67; with_reducible refine (HIG.out _).mono ?_; rintro e w' ⟨rfl, rfl⟩))
  refine bodyPost_ret (v := .tuple #[watV (fun _ => 0), .int .i64 2]) (by simp [results, Try.results59, go_sem, z0, z1, z2, z3]) rfl ⟨rfl, ?_⟩
  exact HB.out
theorem l02Move_tap (p b off c : Nat) (J : List Int) (x y : Nat → Int) (t : Bool) (k f g : Int) (w : World) (hJ : OkJ J) (hkb : -128 ≤ k ∧ k ≤ 127) (hfb : -128 ≤ f ∧ f ≤ 127) (hgb : -128 ≤ g ∧ g ≤ 127) (hb : b < w.heap.size) (hc : At .i16 w b off J) (hp : Blk w p #[.slice (some ⟨b, off, none⟩) J.length c, .int .i16 (x 0), .int .i16 (x 1), .int .i16 (x 2), .int .i16 (x 3), .bool t] 32) (hm : OkM J.length k f g) (hk : k ≠ 0) (ht : t = false) :
    Calls Try.prog 59 #[.pointer (some ⟨p, 0, none⟩), watV y, movV k f g] w fun e w' => e = .returned (.tuple #[watV (fun _ => 0), .int .i64 4]) ∧ Below w.heap.size w w' := by
  subst ht
  have k0 := ((blk_new w #[.int .i16 (y 0), .int .i16 (y 1), .int .i16 (y 2), .int .i16 (y 3)] 30).alloc (.cells #[.int .i8 k, .int .i8 f, .int .i8 g] 78)).alloc (.cells #[.int .i16 0, .int .i16 0, .int .i16 0, .int .i16 0] 30)
  have k1 := (blk_new (w.alloc (.cells #[.int .i16 (y 0), .int .i16 (y 1), .int .i16 (y 2), .int .i16 (y 3)] 30)) #[.int .i8 k, .int .i8 f, .int .i8 g] 78).alloc (.cells #[.int .i16 0, .int .i16 0, .int .i16 0, .int .i16 0] 30)
  have k2 := blk_new ((w.alloc (.cells #[.int .i16 (y 0), .int .i16 (y 1), .int .i16 (y 2), .int .i16 (y 3)] 30)).alloc (.cells #[.int .i8 k, .int .i8 f, .int .i8 g] 78)) #[.int .i16 0, .int .i16 0, .int .i16 0, .int .i16 0] 30
  have hB := (((Below.refl w.heap.size w).alloc (Nat.le_refl _) (.cells #[.int .i16 (y 0), .int .i16 (y 1), .int .i16 (y 2), .int .i16 (y 3)] 30)).alloc (by simp) (.cells #[.int .i8 k, .int .i8 f, .int .i8 g] 78)).alloc (by simp <;> omega) (.cells #[.int .i16 0, .int .i16 0, .int .i16 0, .int .i16 0] 30)
  have hsz : w.heap.size + 3 = (((w.alloc (.cells #[.int .i16 (y 0), .int .i16 (y 1), .int .i16 (y 2), .int .i16 (y 3)] 30)).alloc (.cells #[.int .i8 k, .int .i8 f, .int .i8 g] 78)).alloc (.cells #[.int .i16 0, .int .i16 0, .int .i16 0, .int .i16 0] 30)).heap.size := by simp
  simp only [World.size_alloc] at k1 k2
  have kp := ((hp.alloc (.cells #[.int .i16 (y 0), .int .i16 (y 1), .int .i16 (y 2), .int .i16 (y 3)] 30)).alloc (.cells #[.int .i8 k, .int .i8 f, .int .i8 g] 78)).alloc (.cells #[.int .i16 0, .int .i16 0, .int .i16 0, .int .i16 0] 30)
  obtain ⟨p0, p1, p2, p3, p4, p5, -⟩ := kp.six
  obtain ⟨q0, q1, q2, q3, -⟩ := k0.four
  obtain ⟨r0, r1, r2, -⟩ := k1.three
  have hl1 := hJ.1.1
  have hl4 := hJ.1.2
  have e1 : (k != 0) = true := by simpa using hk
  have e2 : (k == 0) = false := by simpa using hk
  obtain ⟨hm1, hm2⟩ := hm
  have e3 : g = 0 := by rcases hm2 with h | h | h <;> omega
  subst e3
  have hk2 : 0 ≤ k ∧ k ≤ 2 := by rcases hm2 with h | h | h <;> omega
  have HIK := Lib.hid (fun W => l00In_t k 0 2 W (by omega))
  have HIF := Lib.hid (fun W => l00In_t f 0 ((J.length : Int) - 1) W (by omega))
  have HIG := Lib.hid (fun W => l00In_t 0 0 ((J.length : Int) - 1) W (by omega))
  clear hm1 hm2 hk hk2
  have HB := Lib.hid hB
  clear hB hc hp kp
  go_enter Try.func59, Try.ntmps59
  obtain ⟨z0, z1, z2, z3, z4⟩ := k2.four
  go_wp2_with (first | (go_at_call 67; with_reducible refine (HIK.out _).mono ?_; rintro e w' ⟨rfl, rfl⟩) | (go_at_call 67; with_reducible refine (HIF.out _).mono ?_; rintro e w' ⟨rfl, rfl⟩) | (go_at_call 67; with_reducible refine (HIG.out _).mono ?_; rintro e w' ⟨rfl, rfl⟩))
  refine bodyPost_ret (v := .tuple #[watV (fun _ => 0), .int .i64 4]) (by simp [results, Try.results59, go_sem, z0, z1, z2, z3]) rfl ⟨rfl, ?_⟩
  exact HB.out
theorem l02Move_self (p b off c : Nat) (J : List Int) (x y : Nat → Int) (t : Bool) (k f g : Int) (w : World) (hJ : OkJ J) (hkb : -128 ≤ k ∧ k ≤ 127) (hfb : -128 ≤ f ∧ f ≤ 127) (hgb : -128 ≤ g ∧ g ≤ 127) (hb : b < w.heap.size) (hc : At .i16 w b off J) (hp : Blk w p #[.slice (some ⟨b, off, none⟩) J.length c, .int .i16 (x 0), .int .i16 (x 1), .int .i16 (x 2), .int .i16 (x 3), .bool t] 32) (hm : OkM J.length k f g) (hk : k = 0) (hs : f = g) :
    Calls Try.prog 59 #[.pointer (some ⟨p, 0, none⟩), watV y, movV k f g] w fun e w' => e = .returned (.tuple #[watV (fun _ => 0), .int .i64 4]) ∧ Below w.heap.size w w' := by
  subst hk
  subst hs
  have k0 := ((blk_new w #[.int .i16 (y 0), .int .i16 (y 1), .int .i16 (y 2), .int .i16 (y 3)] 30).alloc (.cells #[.int .i8 0, .int .i8 f, .int .i8 f] 78)).alloc (.cells #[.int .i16 0, .int .i16 0, .int .i16 0, .int .i16 0] 30)
  have k1 := (blk_new (w.alloc (.cells #[.int .i16 (y 0), .int .i16 (y 1), .int .i16 (y 2), .int .i16 (y 3)] 30)) #[.int .i8 0, .int .i8 f, .int .i8 f] 78).alloc (.cells #[.int .i16 0, .int .i16 0, .int .i16 0, .int .i16 0] 30)
  have k2 := blk_new ((w.alloc (.cells #[.int .i16 (y 0), .int .i16 (y 1), .int .i16 (y 2), .int .i16 (y 3)] 30)).alloc (.cells #[.int .i8 0, .int .i8 f, .int .i8 f] 78)) #[.int .i16 0, .int .i16 0, .int .i16 0, .int .i16 0] 30
  have hB := (((Below.refl w.heap.size w).alloc (Nat.le_refl _) (.cells #[.int .i16 (y 0), .int .i16 (y 1), .int .i16 (y 2), .int .i16 (y 3)] 30)).alloc (by simp) (.cells #[.int .i8 0, .int .i8 f, .int .i8 f] 78)).alloc (by simp <;> omega) (.cells #[.int .i16 0, .int .i16 0, .int .i16 0, .int .i16 0] 30)
  have hsz : w.heap.size + 3 = (((w.alloc (.cells #[.int .i16 (y 0), .int .i16 (y 1), .int .i16 (y 2), .int .i16 (y 3)] 30)).alloc (.cells #[.int .i8 0, .int .i8 f, .int .i8 f] 78)).alloc (.cells #[.int .i16 0, .int .i16 0, .int .i16 0, .int .i16 0] 30)).heap.size := by simp
  simp only [World.size_alloc] at k1 k2
  have kp := ((hp.alloc (.cells #[.int .i16 (y 0), .int .i16 (y 1), .int .i16 (y 2), .int .i16 (y 3)] 30)).alloc (.cells #[.int .i8 0, .int .i8 f, .int .i8 f] 78)).alloc (.cells #[.int .i16 0, .int .i16 0, .int .i16 0, .int .i16 0] 30)
  obtain ⟨p0, p1, p2, p3, p4, p5, -⟩ := kp.six
  obtain ⟨q0, q1, q2, q3, -⟩ := k0.four
  obtain ⟨r0, r1, r2, -⟩ := k1.three
  have hl1 := hJ.1.1
  have hl4 := hJ.1.2
  obtain ⟨hm1, hm2⟩ := hm
  have HIK := Lib.hid (fun W => l00In_t 0 0 2 W (by omega))
  have HIF := Lib.hid (fun W => l00In_t f 0 ((J.length : Int) - 1) W (by omega))
  have HIG := Lib.hid (fun W => l00In_t f 0 ((J.length : Int) - 1) W (by omega))
  clear hm1 hm2
  have HB := Lib.hid hB
  clear hB hc hp kp
  go_enter Try.func59, Try.ntmps59
  obtain ⟨z0, z1, z2, z3, z4⟩ := k2.four
  go_wp2_with (first | (go_at_call 67; with_reducible refine (HIK.out _).mono ?_; rintro e w' ⟨rfl, rfl⟩) | (go_at_call 67; with_reducible refine (HIF.out _).mono ?_; rintro e w' ⟨rfl, rfl⟩) | (go_at_call 67; with_reducible refine (HIG.out _).mono ?_; rintro e w' ⟨rfl, rfl⟩))
  refine bodyPost_ret (v := .tuple #[watV (fun _ => 0), .int .i64 4]) (by simp [results, Try.results59, go_sem, z0, z1, z2, z3]) rfl ⟨rfl, ?_⟩
  exact HB.out
theorem l00Min_any (a c : Int) (w : World) (ha : -9223372036854775808 ≤ a ∧ a ≤ 9223372036854775807) (hc : -9223372036854775808 ≤ c ∧ c ≤ 9223372036854775807) : Calls Try.prog 70 #[.int .i64 a, .int .i64 c] w fun e w' => e = .returned (.int .i64 (if a < c then a else c)) ∧ w = w' := by
  by_cases h : a < c
  · rw [if_pos h]
    go_enter Try.func70, Try.ntmps70
    go_wp2
    go_ret
    exact ⟨rfl, rfl⟩
  · rw [if_neg h]
    have hd : decide (a < c) = false := by simpa using h
    go_enter Try.func70, Try.ntmps70
    go_wp2
    go_ret
    exact ⟨rfl, rfl⟩
theorem bset {w : World} {b i : Nat} (v : Value) : Below b w (w.setCell ⟨b, i, none⟩ v) := (Below.refl b w).setCell (show b ≤ (⟨b, i, none⟩ : Addr).block from Nat.le_refl _) v
theorem l02Move_pour_same (p b off c : Nat) (J : List Int) (x y : Nat → Int) (t : Bool) (f g : Nat) (w : World) (hJ : OkJ J) (hy : OkX J y) (hf : f < J.length) (hg : g < J.length) (hne : f ≠ g) (hb : b < w.heap.size) (hc : At .i16 w b off J) (hp : Blk w p #[.slice (some ⟨b, off, none⟩) J.length c, .int .i16 (x 0), .int .i16 (x 1), .int .i16 (x 2), .int .i16 (x 3), .bool t] 32) (hs : Same4 (pourX J y f g) y) :
    Calls Try.prog 59 #[.pointer (some ⟨p, 0, none⟩), watV y, movV 0 f g] w fun e w' => e = .returned (.tuple #[watV (fun _ => 0), .int .i64 4]) ∧ Below w.heap.size w w' := by
  have k0 := ((blk_new w #[.int .i16 (y 0), .int .i16 (y 1), .int .i16 (y 2), .int .i16 (y 3)] 30).alloc (.cells #[.int .i8 0, .int .i8 f, .int .i8 g] 78)).alloc (.cells #[.int .i16 0, .int .i16 0, .int .i16 0, .int .i16 0] 30)
  have k1 := (blk_new (w.alloc (.cells #[.int .i16 (y 0), .int .i16 (y 1), .int .i16 (y 2), .int .i16 (y 3)] 30)) #[.int .i8 0, .int .i8 f, .int .i8 g] 78).alloc (.cells #[.int .i16 0, .int .i16 0, .int .i16 0, .int .i16 0] 30)
  have k2 := blk_new ((w.alloc (.cells #[.int .i16 (y 0), .int .i16 (y 1), .int .i16 (y 2), .int .i16 (y 3)] 30)).alloc (.cells #[.int .i8 0, .int .i8 f, .int .i8 g] 78)) #[.int .i16 0, .int .i16 0, .int .i16 0, .int .i16 0] 30
  have hB := (((Below.refl w.heap.size w).alloc (Nat.le_refl _) (.cells #[.int .i16 (y 0), .int .i16 (y 1), .int .i16 (y 2), .int .i16 (y 3)] 30)).alloc (by simp) (.cells #[.int .i8 0, .int .i8 f, .int .i8 g] 78)).alloc (by simp <;> omega) (.cells #[.int .i16 0, .int .i16 0, .int .i16 0, .int .i16 0] 30)
  have hsz : w.heap.size + 3 = (((w.alloc (.cells #[.int .i16 (y 0), .int .i16 (y 1), .int .i16 (y 2), .int .i16 (y 3)] 30)).alloc (.cells #[.int .i8 0, .int .i8 f, .int .i8 g] 78)).alloc (.cells #[.int .i16 0, .int .i16 0, .int .i16 0, .int .i16 0] 30)).heap.size := by simp
  simp only [World.size_alloc] at k1 k2
  have kp := ((hp.alloc (.cells #[.int .i16 (y 0), .int .i16 (y 1), .int .i16 (y 2), .int .i16 (y 3)] 30)).alloc (.cells #[.int .i8 0, .int .i8 f, .int .i8 g] 78)).alloc (.cells #[.int .i16 0, .int .i16 0, .int .i16 0, .int .i16 0] 30)
  obtain ⟨p0, p1, p2, p3, p4, p5, -⟩ := kp.six
  obtain ⟨q0, q1, q2, q3, -⟩ := k0.four
  obtain ⟨r0, r1, r2, -⟩ := k1.three
  have hl1 := hJ.1.1
  have hl4 := hJ.1.2
  have HIK := Lib.hid (fun W => l00In_t 0 0 2 W (by omega))
  have HIF := Lib.hid (fun W => l00In_t f 0 ((J.length : Int) - 1) W (by omega))
  have HIG := Lib.hid (fun W => l00In_t g 0 ((J.length : Int) - 1) W (by omega))
  have e1 : ((f : Int) == (g : Int)) = false := by simp; omega
  have hc1 := hc.below hB hb
  have hbs := Nat.lt_of_lt_of_le hb hB.size
  have HB := Lib.hid hB
  have hpl := kp.lt
  clear hB hc hp
  go_enter Try.func59, Try.ntmps59
  go_upto_region 6 with (first | (go_at_call 67; with_reducible refine (HIK.out _).mono ?_; rintro e w' ⟨rfl, rfl⟩) | (go_at_call 67; with_reducible refine (HIF.out _).mono ?_; rintro e w' ⟨rfl, rfl⟩) | (go_at_call 67; with_reducible refine (HIG.out _).mono ?_; rintro e w' ⟨rfl, rfl⟩))
  generalize hgg : (((w.alloc (.cells #[.int .i16 (y 0), .int .i16 (y 1), .int .i16 (y 2), .int .i16 (y 3)] 30)).alloc (.cells #[.int .i8 0, .int .i8 f, .int .i8 g] 78)).alloc (.cells #[.int .i16 0, .int .i16 0, .int .i16 0, .int .i16 0] 30)) = wb at *
  clear hgg HIK HIF HIG
  go_upto_region 7 with fail
  have hB2 := (Below.refl wb.heap.size wb).alloc (Nat.le_refl _) (.cells #[.int .i16 (y 0), .int .i16 (y 1), .int .i16 (y 2), .int .i16 (y 3)] 30)
  have HB3 := Lib.hid (HB.out.trans (hB2.mono HB.out.size))
  have k3 := blk_new wb #[.int .i16 (y 0), .int .i16 (y 1), .int .i16 (y 2), .int .i16 (y 3)] 30
  replace k0 := k0.below hB2 (by omega)
  replace k1 := k1.below hB2 (by omega)
  replace k2 := k2.below hB2 (by omega)
  replace kp := kp.below hB2 hpl
  replace hc1 := hc1.below hB2 hbs
  have hle := HB.out.size
  clear p0 p1 p2 p3 p4 p5 q0 q1 q2 q3 r0 r1 r2 HB hB2
  generalize wb.heap.size = B3 at *
  generalize hgg : wb.alloc (.cells #[.int .i16 (y 0), .int .i16 (y 1), .int .i16 (y 2), .int .i16 (y 3)] 30) = wc at *
  clear hgg wb
  obtain ⟨p0, p1, p2, p3, p4, p5, -⟩ := kp.six
  obtain ⟨r0, r1, r2, -⟩ := k1.three
  have hr := k3.rows
  have hs0 : w.heap.size < B3 := by omega
  have hs1 : w.heap.size + 1 < B3 := by omega
  have hs2 : w.heap.size + 1 + 1 < B3 := by omega
  have hf4 : f < 4 := by omega
  have hf4' : (f : Int) < 4 := by omega
  have hfl' : (f : Int) < (J.length : Int) := by omega
  have hg4 : g < 4 := by omega
  have hg4' : (g : Int) < 4 := by omega
  have hgl' : (g : Int) < (J.length : Int) := by omega
  have hcell := hc1 g hg
  have hx60 := hy.w16 hJ.2.1
  have hyf := hx60 f (by omega)
  have hyg := hx60 g (by omega)
  have hyg2 := hy g (by omega)
  have hJg := hJ.2.1 g hg
  have ha := amt_bd (J := J) (x := y) (f := f) (t := g) hyf hyg2
  have HA := Lib.hid (show (if y f < J.getD g 0 - y g then y f else J.getD g 0 - y g) = amt J y f g by unfold amt; split <;> split <;> omega)
  have HP := Lib.hid (show ∀ i, pourX J y f g i = y i - (if i = f then amt J y f g else 0) + (if i = g then amt J y f g else 0) from fun i => rfl)
  have HQ := Lib.hid (fun W => eqWat_t hs W)
  have hr0 := k0.rows
  have ywf : wc.cell? ⟨w.heap.size, f, none⟩ = some (.int .i16 (y f)) := hr0.cell hf4
  have ywg : wc.cell? ⟨w.heap.size, g, none⟩ = some (.int .i16 (y g)) := hr0.cell hg4
  have HK := Lib.hid (And.intro k0 (And.intro k1 (And.intro k2 hr)))
  clear hs hx60 hy hJ k0 k1 k2 k3 hr hr0
  generalize amt J y f g = a at *
  generalize J.getD g 0 = v at *
  generalize hxF : y f = yf at *
  generalize hxG : y g = yg at *
  have HXF := Lib.hid hxF
  have HXG := Lib.hid hxG
  clear hxF hxG
  generalize hE : pourX J y f g = E at *
  have HE := Lib.hid hE
  clear hE
  have HM := Lib.hid (fun W => l00Min_any yf (v - yg) W (by omega) (by omega))
  rw [HA.out] at HM
  go_upto_region 9 with fail
  go_quiet ((go_at_call 70; (exact Calls.quiet_same (HM.out _))))
  have HB4 := Lib.hid (below_drewN HB3.out nq)
  have k0 : Blk (wc.drewN nq) _ _ _ := HK.out.1
  have k1 : Blk (wc.drewN nq) _ _ _ := HK.out.2.1
  have k2 : Blk (wc.drewN nq) _ _ _ := HK.out.2.2.1
  have hr0 : (wc.drewN nq).rowIs B3 30 4 (fun i => .int .i16 (y i)) := HK.out.2.2.2
  clear p0 p1 p2 p3 p4 p5 r0 r1 r2 hcell ywf ywg HK HB3 HA HM kp hc1
  generalize wc.drewN nq = wd at *
  clear wc
  have b1 : Below B3 wd (wd.setCell ⟨B3, f, none⟩ (.int .i16 (yf - a))) := bset _
  have HR0 := Lib.hid hr0
  have rf : wd.cell? ⟨B3, f, none⟩ = some (.int .i16 yf) := by rw [← HXF.out]; exact hr0.cell hf4
  have ff : wd.frozen? ⟨B3, f, none⟩ = false := hr0.frozen f
  have hr1 := (hr0.set f (.int .i16 (yf - a))).congr (g := fun i => .int .i16 (y i - (if i = f then a else 0))) (fun i _ => by
    by_cases e : i = f
    · subst e; simp [HXF.out]
    · simp [e])
  have rg : (wd.setCell ⟨B3, f, none⟩ (.int .i16 (yf - a))).cell? ⟨B3, g, none⟩ = some (.int .i16 yg) := by
    rw [hr1.cell hg4, if_neg (fun e => hne e.symm), HXG.out]; simp
  have fg : (wd.setCell ⟨B3, f, none⟩ (.int .i16 (yf - a))).frozen? ⟨B3, g, none⟩ = false := hr1.frozen g
  have hr2 := (hr1.set g (.int .i16 (yg + a))).congr (g := fun i => .int .i16 (E i)) (fun i _ => by
    rw [HP.out i]
    by_cases e : i = g
    · subst e; simp [HXG.out, Ne.symm hne]
    · simp [e])
  have b2 : Below B3 (wd.setCell ⟨B3, f, none⟩ (.int .i16 (yf - a))) ((wd.setCell ⟨B3, f, none⟩ (.int .i16 (yf - a))).setCell ⟨B3, g, none⟩ (.int .i16 (yg + a))) := bset _
  have b3 := b1.trans b2
  obtain ⟨_, r1, _, -⟩ := k1.three
  obtain ⟨-, -, r2, -⟩ := (k1.below b1 hs1).three
  have HK := Lib.hid (And.intro (k0.below b3 hs0) (And.intro (k2.below b3 hs2) (And.intro hr2 (HB4.out.trans (b3.mono hle)))))
  clear k0 k1 k2 hr0 hr1 hr2 b1 b2 b3 HR0 HB4 HXF HXG HP
  go_upto_region 16 with fail
  generalize hgg : (wd.setCell ⟨B3, f, none⟩ (.int .i16 (yf - a))).setCell ⟨B3, g, none⟩ (.int .i16 (yg + a)) = we at *
  clear hgg rf ff rg fg r1 r2
  obtain ⟨e0, e1', e2', e3⟩ := row_four HK.out.2.2.1
  obtain ⟨q0, q1, q2, q3, -⟩ := HK.out.1.four
  obtain ⟨z0, z1, z2, z3, z4⟩ := HK.out.2.1.four
  have HB5 := Lib.hid HK.out.2.2.2
  have hqq := HQ.out
  clear HK
  go_wp2
  refine bodyPost_ret (v := .tuple #[watV (fun _ => 0), .int .i64 4]) (by simp [results, Try.results59, go_sem, z0, z1, z2, z3]) rfl ⟨rfl, ?_⟩
  have hl2 : w.heap.size ≤ w.heap.size + 1 + 1 := by omega
  exact (((HB5.out.setCell hl2 _).setCell hl2 _).setCell hl2 _).setCell hl2 _
theorem l02Move_pour_ok (p b off c : Nat) (J : List Int) (x y : Nat → Int) (t : Bool) (f g : Nat) (w : World) (hJ : OkJ J) (hy : OkX J y) (hf : f < J.length) (hg : g < J.length) (hne : f ≠ g) (hb : b < w.heap.size) (hc : At .i16 w b off J) (hp : Blk w p #[.slice (some ⟨b, off, none⟩) J.length c, .int .i16 (x 0), .int .i16 (x 1), .int .i16 (x 2), .int .i16 (x 3), .bool t] 32) (hs : ¬ Same4 (pourX J y f g) y) :
    Calls Try.prog 59 #[.pointer (some ⟨p, 0, none⟩), watV y, movV 0 f g] w fun e w' => e = .returned (.tuple #[watV (pourX J y f g), .int .i64 0]) ∧ Below w.heap.size w w' := by
  have k0 := ((blk_new w #[.int .i16 (y 0), .int .i16 (y 1), .int .i16 (y 2), .int .i16 (y 3)] 30).alloc (.cells #[.int .i8 0, .int .i8 f, .int .i8 g] 78)).alloc (.cells #[.int .i16 0, .int .i16 0, .int .i16 0, .int .i16 0] 30)
  have k1 := (blk_new (w.alloc (.cells #[.int .i16 (y 0), .int .i16 (y 1), .int .i16 (y 2), .int .i16 (y 3)] 30)) #[.int .i8 0, .int .i8 f, .int .i8 g] 78).alloc (.cells #[.int .i16 0, .int .i16 0, .int .i16 0, .int .i16 0] 30)
  have k2 := blk_new ((w.alloc (.cells #[.int .i16 (y 0), .int .i16 (y 1), .int .i16 (y 2), .int .i16 (y 3)] 30)).alloc (.cells #[.int .i8 0, .int .i8 f, .int .i8 g] 78)) #[.int .i16 0, .int .i16 0, .int .i16 0, .int .i16 0] 30
  have hB := (((Below.refl w.heap.size w).alloc (Nat.le_refl _) (.cells #[.int .i16 (y 0), .int .i16 (y 1), .int .i16 (y 2), .int .i16 (y 3)] 30)).alloc (by simp) (.cells #[.int .i8 0, .int .i8 f, .int .i8 g] 78)).alloc (by simp <;> omega) (.cells #[.int .i16 0, .int .i16 0, .int .i16 0, .int .i16 0] 30)
  have hsz : w.heap.size + 3 = (((w.alloc (.cells #[.int .i16 (y 0), .int .i16 (y 1), .int .i16 (y 2), .int .i16 (y 3)] 30)).alloc (.cells #[.int .i8 0, .int .i8 f, .int .i8 g] 78)).alloc (.cells #[.int .i16 0, .int .i16 0, .int .i16 0, .int .i16 0] 30)).heap.size := by simp
  simp only [World.size_alloc] at k1 k2
  have kp := ((hp.alloc (.cells #[.int .i16 (y 0), .int .i16 (y 1), .int .i16 (y 2), .int .i16 (y 3)] 30)).alloc (.cells #[.int .i8 0, .int .i8 f, .int .i8 g] 78)).alloc (.cells #[.int .i16 0, .int .i16 0, .int .i16 0, .int .i16 0] 30)
  obtain ⟨p0, p1, p2, p3, p4, p5, -⟩ := kp.six
  obtain ⟨q0, q1, q2, q3, -⟩ := k0.four
  obtain ⟨r0, r1, r2, -⟩ := k1.three
  have hl1 := hJ.1.1
  have hl4 := hJ.1.2
  have HIK := Lib.hid (fun W => l00In_t 0 0 2 W (by omega))
  have HIF := Lib.hid (fun W => l00In_t f 0 ((J.length : Int) - 1) W (by omega))
  have HIG := Lib.hid (fun W => l00In_t g 0 ((J.length : Int) - 1) W (by omega))
  have e1 : ((f : Int) == (g : Int)) = false := by simp; omega
  have hc1 := hc.below hB hb
  have hbs := Nat.lt_of_lt_of_le hb hB.size
  have HB := Lib.hid hB
  have hpl := kp.lt
  clear hB hc hp
  go_enter Try.func59, Try.ntmps59
  go_upto_region 6 with (first | (go_at_call 67; with_reducible refine (HIK.out _).mono ?_; rintro e w' ⟨rfl, rfl⟩) | (go_at_call 67; with_reducible refine (HIF.out _).mono ?_; rintro e w' ⟨rfl, rfl⟩) | (go_at_call 67; with_reducible refine (HIG.out _).mono ?_; rintro e w' ⟨rfl, rfl⟩))
  generalize hgg : (((w.alloc (.cells #[.int .i16 (y 0), .int .i16 (y 1), .int .i16 (y 2), .int .i16 (y 3)] 30)).alloc (.cells #[.int .i8 0, .int .i8 f, .int .i8 g] 78)).alloc (.cells #[.int .i16 0, .int .i16 0, .int .i16 0, .int .i16 0] 30)) = wb at *
  clear hgg HIK HIF HIG
  go_upto_region 7 with fail
  have hB2 := (Below.refl wb.heap.size wb).alloc (Nat.le_refl _) (.cells #[.int .i16 (y 0), .int .i16 (y 1), .int .i16 (y 2), .int .i16 (y 3)] 30)
  have HB3 := Lib.hid (HB.out.trans (hB2.mono HB.out.size))
  have k3 := blk_new wb #[.int .i16 (y 0), .int .i16 (y 1), .int .i16 (y 2), .int .i16 (y 3)] 30
  replace k0 := k0.below hB2 (by omega)
  replace k1 := k1.below hB2 (by omega)
  replace k2 := k2.below hB2 (by omega)
  replace kp := kp.below hB2 hpl
  replace hc1 := hc1.below hB2 hbs
  have hle := HB.out.size
  clear p0 p1 p2 p3 p4 p5 q0 q1 q2 q3 r0 r1 r2 HB hB2
  generalize wb.heap.size = B3 at *
  generalize hgg : wb.alloc (.cells #[.int .i16 (y 0), .int .i16 (y 1), .int .i16 (y 2), .int .i16 (y 3)] 30) = wc at *
  clear hgg wb
  obtain ⟨p0, p1, p2, p3, p4, p5, -⟩ := kp.six
  obtain ⟨r0, r1, r2, -⟩ := k1.three
  have hr := k3.rows
  have hs0 : w.heap.size < B3 := by omega
  have hs1 : w.heap.size + 1 < B3 := by omega
  have hs2 : w.heap.size + 1 + 1 < B3 := by omega
  have hf4 : f < 4 := by omega
  have hf4' : (f : Int) < 4 := by omega
  have hfl' : (f : Int) < (J.length : Int) := by omega
  have hg4 : g < 4 := by omega
  have hg4' : (g : Int) < 4 := by omega
  have hgl' : (g : Int) < (J.length : Int) := by omega
  have hcell := hc1 g hg
  have hx60 := hy.w16 hJ.2.1
  have hyf := hx60 f (by omega)
  have hyg := hx60 g (by omega)
  have hyg2 := hy g (by omega)
  have hJg := hJ.2.1 g hg
  have ha := amt_bd (J := J) (x := y) (f := f) (t := g) hyf hyg2
  have HA := Lib.hid (show (if y f < J.getD g 0 - y g then y f else J.getD g 0 - y g) = amt J y f g by unfold amt; split <;> split <;> omega)
  have HP := Lib.hid (show ∀ i, pourX J y f g i = y i - (if i = f then amt J y f g else 0) + (if i = g then amt J y f g else 0) from fun i => rfl)
  have HQ := Lib.hid (fun W => eqWat_f hs W)
  have hr0 := k0.rows
  have ywf : wc.cell? ⟨w.heap.size, f, none⟩ = some (.int .i16 (y f)) := hr0.cell hf4
  have ywg : wc.cell? ⟨w.heap.size, g, none⟩ = some (.int .i16 (y g)) := hr0.cell hg4
  have HK := Lib.hid (And.intro k0 (And.intro k1 (And.intro k2 hr)))
  clear hs hx60 hy hJ k0 k1 k2 k3 hr hr0
  generalize amt J y f g = a at *
  generalize J.getD g 0 = v at *
  generalize hxF : y f = yf at *
  generalize hxG : y g = yg at *
  have HXF := Lib.hid hxF
  have HXG := Lib.hid hxG
  clear hxF hxG
  generalize hE : pourX J y f g = E at *
  have HE := Lib.hid hE
  clear hE
  have HM := Lib.hid (fun W => l00Min_any yf (v - yg) W (by omega) (by omega))
  rw [HA.out] at HM
  go_upto_region 9 with fail
  go_quiet ((go_at_call 70; (exact Calls.quiet_same (HM.out _))))
  have HB4 := Lib.hid (below_drewN HB3.out nq)
  have k0 : Blk (wc.drewN nq) _ _ _ := HK.out.1
  have k1 : Blk (wc.drewN nq) _ _ _ := HK.out.2.1
  have k2 : Blk (wc.drewN nq) _ _ _ := HK.out.2.2.1
  have hr0 : (wc.drewN nq).rowIs B3 30 4 (fun i => .int .i16 (y i)) := HK.out.2.2.2
  clear p0 p1 p2 p3 p4 p5 r0 r1 r2 hcell ywf ywg HK HB3 HA HM kp hc1
  generalize wc.drewN nq = wd at *
  clear wc
  have b1 : Below B3 wd (wd.setCell ⟨B3, f, none⟩ (.int .i16 (yf - a))) := bset _
  have HR0 := Lib.hid hr0
  have rf : wd.cell? ⟨B3, f, none⟩ = some (.int .i16 yf) := by rw [← HXF.out]; exact hr0.cell hf4
  have ff : wd.frozen? ⟨B3, f, none⟩ = false := hr0.frozen f
  have hr1 := (hr0.set f (.int .i16 (yf - a))).congr (g := fun i => .int .i16 (y i - (if i = f then a else 0))) (fun i _ => by
    by_cases e : i = f
    · subst e; simp [HXF.out]
    · simp [e])
  have rg : (wd.setCell ⟨B3, f, none⟩ (.int .i16 (yf - a))).cell? ⟨B3, g, none⟩ = some (.int .i16 yg) := by
    rw [hr1.cell hg4, if_neg (fun e => hne e.symm), HXG.out]; simp
  have fg : (wd.setCell ⟨B3, f, none⟩ (.int .i16 (yf - a))).frozen? ⟨B3, g, none⟩ = false := hr1.frozen g
  have hr2 := (hr1.set g (.int .i16 (yg + a))).congr (g := fun i => .int .i16 (E i)) (fun i _ => by
    rw [HP.out i]
    by_cases e : i = g
    · subst e; simp [HXG.out, Ne.symm hne]
    · simp [e])
  have b2 : Below B3 (wd.setCell ⟨B3, f, none⟩ (.int .i16 (yf - a))) ((wd.setCell ⟨B3, f, none⟩ (.int .i16 (yf - a))).setCell ⟨B3, g, none⟩ (.int .i16 (yg + a))) := bset _
  have b3 := b1.trans b2
  obtain ⟨_, r1, _, -⟩ := k1.three
  obtain ⟨-, -, r2, -⟩ := (k1.below b1 hs1).three
  have HK := Lib.hid (And.intro (k0.below b3 hs0) (And.intro (k2.below b3 hs2) (And.intro hr2 (HB4.out.trans (b3.mono hle)))))
  clear k0 k1 k2 hr0 hr1 hr2 b1 b2 b3 HR0 HB4 HXF HXG HP
  go_upto_region 16 with fail
  generalize hgg : (wd.setCell ⟨B3, f, none⟩ (.int .i16 (yf - a))).setCell ⟨B3, g, none⟩ (.int .i16 (yg + a)) = we at *
  clear hgg rf ff rg fg r1 r2
  obtain ⟨e0, e1', e2', e3⟩ := row_four HK.out.2.2.1
  obtain ⟨q0, q1, q2, q3, -⟩ := HK.out.1.four
  obtain ⟨z0, z1, z2, z3, z4⟩ := HK.out.2.1.four
  have HB5 := Lib.hid HK.out.2.2.2
  have hqq := HQ.out
  clear HK
  go_wp2
  refine bodyPost_ret (v := .tuple #[watV E, .int .i64 0]) (by simp [results, Try.results59, go_sem, z0, z1, z2, z3]) rfl ⟨by rw [HE.out], ?_⟩
  have hl2 : w.heap.size ≤ w.heap.size + 1 + 1 := by omega
  exact (((HB5.out.setCell hl2 _).setCell hl2 _).setCell hl2 _).setCell hl2 _
theorem l02Move_fill_same (p b off c : Nat) (J : List Int) (x y : Nat → Int) (t : Bool) (f : Nat) (w : World) (hJ : OkJ J) (hf : f < J.length) (ht : t = true) (hb : b < w.heap.size) (hc : At .i16 w b off J) (hp : Blk w p #[.slice (some ⟨b, off, none⟩) J.length c, .int .i16 (x 0), .int .i16 (x 1), .int .i16 (x 2), .int .i16 (x 3), .bool t] 32) (hs : Same4 (fillX J y f) y) :
    Calls Try.prog 59 #[.pointer (some ⟨p, 0, none⟩), watV y, movV 1 f 0] w fun e w' => e = .returned (.tuple #[watV (fun _ => 0), .int .i64 4]) ∧ Below w.heap.size w w' := by
  subst ht
  have k0 := ((blk_new w #[.int .i16 (y 0), .int .i16 (y 1), .int .i16 (y 2), .int .i16 (y 3)] 30).alloc (.cells #[.int .i8 1, .int .i8 f, .int .i8 0] 78)).alloc (.cells #[.int .i16 0, .int .i16 0, .int .i16 0, .int .i16 0] 30)
  have k1 := (blk_new (w.alloc (.cells #[.int .i16 (y 0), .int .i16 (y 1), .int .i16 (y 2), .int .i16 (y 3)] 30)) #[.int .i8 1, .int .i8 f, .int .i8 0] 78).alloc (.cells #[.int .i16 0, .int .i16 0, .int .i16 0, .int .i16 0] 30)
  have k2 := blk_new ((w.alloc (.cells #[.int .i16 (y 0), .int .i16 (y 1), .int .i16 (y 2), .int .i16 (y 3)] 30)).alloc (.cells #[.int .i8 1, .int .i8 f, .int .i8 0] 78)) #[.int .i16 0, .int .i16 0, .int .i16 0, .int .i16 0] 30
  have hB := (((Below.refl w.heap.size w).alloc (Nat.le_refl _) (.cells #[.int .i16 (y 0), .int .i16 (y 1), .int .i16 (y 2), .int .i16 (y 3)] 30)).alloc (by simp) (.cells #[.int .i8 1, .int .i8 f, .int .i8 0] 78)).alloc (by simp <;> omega) (.cells #[.int .i16 0, .int .i16 0, .int .i16 0, .int .i16 0] 30)
  have hsz : w.heap.size + 3 = (((w.alloc (.cells #[.int .i16 (y 0), .int .i16 (y 1), .int .i16 (y 2), .int .i16 (y 3)] 30)).alloc (.cells #[.int .i8 1, .int .i8 f, .int .i8 0] 78)).alloc (.cells #[.int .i16 0, .int .i16 0, .int .i16 0, .int .i16 0] 30)).heap.size := by simp
  simp only [World.size_alloc] at k1 k2
  have kp := ((hp.alloc (.cells #[.int .i16 (y 0), .int .i16 (y 1), .int .i16 (y 2), .int .i16 (y 3)] 30)).alloc (.cells #[.int .i8 1, .int .i8 f, .int .i8 0] 78)).alloc (.cells #[.int .i16 0, .int .i16 0, .int .i16 0, .int .i16 0] 30)
  obtain ⟨p0, p1, p2, p3, p4, p5, -⟩ := kp.six
  obtain ⟨q0, q1, q2, q3, -⟩ := k0.four
  obtain ⟨r0, r1, r2, -⟩ := k1.three
  have hl1 := hJ.1.1
  have hl4 := hJ.1.2
  have HIK := Lib.hid (fun W => l00In_t 1 0 2 W (by omega))
  have HIF := Lib.hid (fun W => l00In_t f 0 ((J.length : Int) - 1) W (by omega))
  have HIG := Lib.hid (fun W => l00In_t 0 0 ((J.length : Int) - 1) W (by omega))
  have hc1 := hc.below hB hb
  have hbs := Nat.lt_of_lt_of_le hb hB.size
  have HB := Lib.hid hB
  have hpl := kp.lt
  clear hB hc hp
  go_enter Try.func59, Try.ntmps59
  go_upto_region 6 with (first | (go_at_call 67; with_reducible refine (HIK.out _).mono ?_; rintro e w' ⟨rfl, rfl⟩) | (go_at_call 67; with_reducible refine (HIF.out _).mono ?_; rintro e w' ⟨rfl, rfl⟩) | (go_at_call 67; with_reducible refine (HIG.out _).mono ?_; rintro e w' ⟨rfl, rfl⟩))
  generalize hgg : (((w.alloc (.cells #[.int .i16 (y 0), .int .i16 (y 1), .int .i16 (y 2), .int .i16 (y 3)] 30)).alloc (.cells #[.int .i8 1, .int .i8 f, .int .i8 0] 78)).alloc (.cells #[.int .i16 0, .int .i16 0, .int .i16 0, .int .i16 0] 30)) = wb at *
  clear hgg HIK HIF HIG
  go_upto_region 7 with fail
  have hB2 := (Below.refl wb.heap.size wb).alloc (Nat.le_refl _) (.cells #[.int .i16 (y 0), .int .i16 (y 1), .int .i16 (y 2), .int .i16 (y 3)] 30)
  have HB3 := Lib.hid (HB.out.trans (hB2.mono HB.out.size))
  have k3 := blk_new wb #[.int .i16 (y 0), .int .i16 (y 1), .int .i16 (y 2), .int .i16 (y 3)] 30
  replace k0 := k0.below hB2 (by omega)
  replace k1 := k1.below hB2 (by omega)
  replace k2 := k2.below hB2 (by omega)
  replace kp := kp.below hB2 hpl
  replace hc1 := hc1.below hB2 hbs
  have hle := HB.out.size
  clear p0 p1 p2 p3 p4 p5 q0 q1 q2 q3 r0 r1 r2 HB hB2
  generalize wb.heap.size = B3 at *
  generalize hgg : wb.alloc (.cells #[.int .i16 (y 0), .int .i16 (y 1), .int .i16 (y 2), .int .i16 (y 3)] 30) = wc at *
  clear hgg wb
  obtain ⟨p0, p1, p2, p3, p4, p5, -⟩ := kp.six
  obtain ⟨r0, r1, r2, -⟩ := k1.three
  have hr := k3.rows
  have hs0 : w.heap.size < B3 := by omega
  have hs1 : w.heap.size + 1 < B3 := by omega
  have hs2 : w.heap.size + 1 + 1 < B3 := by omega
  have hf4 : f < 4 := by omega
  have hf4' : (f : Int) < 4 := by omega
  have hfl' : (f : Int) < (J.length : Int) := by omega
  have hcell := hc1 f hf
  have HP := Lib.hid (show ∀ i, fillX J y f i = if i = f then J.getD f 0 else y i from fun i => rfl)
  have HQ := Lib.hid (fun W => eqWat_t hs W)
  clear hs hJ k3
  have hvb : ∃ v, J.getD f 0 = v := ⟨_, rfl⟩
  generalize J.getD f 0 = v at *
  generalize hE : fillX J y f = E at *
  have HE := Lib.hid hE
  clear hE
  have ff : wc.frozen? ⟨B3, f, none⟩ = false := hr.frozen f
  have rf : wc.cell? ⟨B3, f, none⟩ = some (.int .i16 (y f)) := hr.cell hf4
  have hr2 := (hr.set f (.int .i16 v)).congr (g := fun i => .int .i16 (E i)) (fun i _ => by
    rw [HP.out i]
    by_cases e : i = f
    · subst e; simp
    · simp [e])
  have b1 : Below B3 wc (wc.setCell ⟨B3, f, none⟩ (.int .i16 v)).drew := (bset _).drew
  have hr3 : (wc.setCell ⟨B3, f, none⟩ (.int .i16 v)).drew.rowIs B3 30 4 (fun i => .int .i16 (E i)) := hr2
  have HK := Lib.hid (And.intro (k0.below b1 hs0) (And.intro (k2.below b1 hs2) (And.intro hr3 (HB3.out.trans (b1.mono hle)))))
  clear k0 k1 k2 hr hr2 hr3 b1 HB3 HP
  go_upto_region 13 with fail
  go_region
  go_upto_region 16 with fail
  generalize hgg : (wc.setCell ⟨B3, f, none⟩ (.int .i16 v)).drew = we at *
  clear hgg
  obtain ⟨e0, e1', e2', e3⟩ := row_four HK.out.2.2.1
  obtain ⟨q0, q1, q2, q3, -⟩ := HK.out.1.four
  obtain ⟨z0, z1, z2, z3, z4⟩ := HK.out.2.1.four
  have HB5 := Lib.hid HK.out.2.2.2
  have hqq := HQ.out
  clear HK
  go_wp2
  refine bodyPost_ret (v := .tuple #[watV (fun _ => 0), .int .i64 4]) (by simp [results, Try.results59, go_sem, z0, z1, z2, z3]) rfl ⟨rfl, ?_⟩
  have hl2 : w.heap.size ≤ w.heap.size + 1 + 1 := by omega
  exact (((HB5.out.setCell hl2 _).setCell hl2 _).setCell hl2 _).setCell hl2 _
theorem l02Move_fill_ok (p b off c : Nat) (J : List Int) (x y : Nat → Int) (t : Bool) (f : Nat) (w : World) (hJ : OkJ J) (hf : f < J.length) (ht : t = true) (hb : b < w.heap.size) (hc : At .i16 w b off J) (hp : Blk w p #[.slice (some ⟨b, off, none⟩) J.length c, .int .i16 (x 0), .int .i16 (x 1), .int .i16 (x 2), .int .i16 (x 3), .bool t] 32) (hs : ¬ Same4 (fillX J y f) y) :
    Calls Try.prog 59 #[.pointer (some ⟨p, 0, none⟩), watV y, movV 1 f 0] w fun e w' => e = .returned (.tuple #[watV (fillX J y f), .int .i64 0]) ∧ Below w.heap.size w w' := by
  subst ht
  have k0 := ((blk_new w #[.int .i16 (y 0), .int .i16 (y 1), .int .i16 (y 2), .int .i16 (y 3)] 30).alloc (.cells #[.int .i8 1, .int .i8 f, .int .i8 0] 78)).alloc (.cells #[.int .i16 0, .int .i16 0, .int .i16 0, .int .i16 0] 30)
  have k1 := (blk_new (w.alloc (.cells #[.int .i16 (y 0), .int .i16 (y 1), .int .i16 (y 2), .int .i16 (y 3)] 30)) #[.int .i8 1, .int .i8 f, .int .i8 0] 78).alloc (.cells #[.int .i16 0, .int .i16 0, .int .i16 0, .int .i16 0] 30)
  have k2 := blk_new ((w.alloc (.cells #[.int .i16 (y 0), .int .i16 (y 1), .int .i16 (y 2), .int .i16 (y 3)] 30)).alloc (.cells #[.int .i8 1, .int .i8 f, .int .i8 0] 78)) #[.int .i16 0, .int .i16 0, .int .i16 0, .int .i16 0] 30
  have hB := (((Below.refl w.heap.size w).alloc (Nat.le_refl _) (.cells #[.int .i16 (y 0), .int .i16 (y 1), .int .i16 (y 2), .int .i16 (y 3)] 30)).alloc (by simp) (.cells #[.int .i8 1, .int .i8 f, .int .i8 0] 78)).alloc (by simp <;> omega) (.cells #[.int .i16 0, .int .i16 0, .int .i16 0, .int .i16 0] 30)
  have hsz : w.heap.size + 3 = (((w.alloc (.cells #[.int .i16 (y 0), .int .i16 (y 1), .int .i16 (y 2), .int .i16 (y 3)] 30)).alloc (.cells #[.int .i8 1, .int .i8 f, .int .i8 0] 78)).alloc (.cells #[.int .i16 0, .int .i16 0, .int .i16 0, .int .i16 0] 30)).heap.size := by simp
  simp only [World.size_alloc] at k1 k2
  have kp := ((hp.alloc (.cells #[.int .i16 (y 0), .int .i16 (y 1), .int .i16 (y 2), .int .i16 (y 3)] 30)).alloc (.cells #[.int .i8 1, .int .i8 f, .int .i8 0] 78)).alloc (.cells #[.int .i16 0, .int .i16 0, .int .i16 0, .int .i16 0] 30)
  obtain ⟨p0, p1, p2, p3, p4, p5, -⟩ := kp.six
  obtain ⟨q0, q1, q2, q3, -⟩ := k0.four
  obtain ⟨r0, r1, r2, -⟩ := k1.three
  have hl1 := hJ.1.1
  have hl4 := hJ.1.2
  have HIK := Lib.hid (fun W => l00In_t 1 0 2 W (by omega))
  have HIF := Lib.hid (fun W => l00In_t f 0 ((J.length : Int) - 1) W (by omega))
  have HIG := Lib.hid (fun W => l00In_t 0 0 ((J.length : Int) - 1) W (by omega))
  have hc1 := hc.below hB hb
  have hbs := Nat.lt_of_lt_of_le hb hB.size
  have HB := Lib.hid hB
  have hpl := kp.lt
  clear hB hc hp
  go_enter Try.func59, Try.ntmps59
  go_upto_region 6 with (first | (go_at_call 67; with_reducible refine (HIK.out _).mono ?_; rintro e w' ⟨rfl, rfl⟩) | (go_at_call 67; with_reducible refine (HIF.out _).mono ?_; rintro e w' ⟨rfl, rfl⟩) | (go_at_call 67; with_reducible refine (HIG.out _).mono ?_; rintro e w' ⟨rfl, rfl⟩))
  generalize hgg : (((w.alloc (.cells #[.int .i16 (y 0), .int .i16 (y 1), .int .i16 (y 2), .int .i16 (y 3)] 30)).alloc (.cells #[.int .i8 1, .int .i8 f, .int .i8 0] 78)).alloc (.cells #[.int .i16 0, .int .i16 0, .int .i16 0, .int .i16 0] 30)) = wb at *
  clear hgg HIK HIF HIG
  go_upto_region 7 with fail
  have hB2 := (Below.refl wb.heap.size wb).alloc (Nat.le_refl _) (.cells #[.int .i16 (y 0), .int .i16 (y 1), .int .i16 (y 2), .int .i16 (y 3)] 30)
  have HB3 := Lib.hid (HB.out.trans (hB2.mono HB.out.size))
  have k3 := blk_new wb #[.int .i16 (y 0), .int .i16 (y 1), .int .i16 (y 2), .int .i16 (y 3)] 30
  replace k0 := k0.below hB2 (by omega)
  replace k1 := k1.below hB2 (by omega)
  replace k2 := k2.below hB2 (by omega)
  replace kp := kp.below hB2 hpl
  replace hc1 := hc1.below hB2 hbs
  have hle := HB.out.size
  clear p0 p1 p2 p3 p4 p5 q0 q1 q2 q3 r0 r1 r2 HB hB2
  generalize wb.heap.size = B3 at *
  generalize hgg : wb.alloc (.cells #[.int .i16 (y 0), .int .i16 (y 1), .int .i16 (y 2), .int .i16 (y 3)] 30) = wc at *
  clear hgg wb
  obtain ⟨p0, p1, p2, p3, p4, p5, -⟩ := kp.six
  obtain ⟨r0, r1, r2, -⟩ := k1.three
  have hr := k3.rows
  have hs0 : w.heap.size < B3 := by omega
  have hs1 : w.heap.size + 1 < B3 := by omega
  have hs2 : w.heap.size + 1 + 1 < B3 := by omega
  have hf4 : f < 4 := by omega
  have hf4' : (f : Int) < 4 := by omega
  have hfl' : (f : Int) < (J.length : Int) := by omega
  have hcell := hc1 f hf
  have HP := Lib.hid (show ∀ i, fillX J y f i = if i = f then J.getD f 0 else y i from fun i => rfl)
  have HQ := Lib.hid (fun W => eqWat_f hs W)
  clear hs hJ k3
  have hvb : ∃ v, J.getD f 0 = v := ⟨_, rfl⟩
  generalize J.getD f 0 = v at *
  generalize hE : fillX J y f = E at *
  have HE := Lib.hid hE
  clear hE
  have ff : wc.frozen? ⟨B3, f, none⟩ = false := hr.frozen f
  have rf : wc.cell? ⟨B3, f, none⟩ = some (.int .i16 (y f)) := hr.cell hf4
  have hr2 := (hr.set f (.int .i16 v)).congr (g := fun i => .int .i16 (E i)) (fun i _ => by
    rw [HP.out i]
    by_cases e : i = f
    · subst e; simp
    · simp [e])
  have b1 : Below B3 wc (wc.setCell ⟨B3, f, none⟩ (.int .i16 v)).drew := (bset _).drew
  have hr3 : (wc.setCell ⟨B3, f, none⟩ (.int .i16 v)).drew.rowIs B3 30 4 (fun i => .int .i16 (E i)) := hr2
  have HK := Lib.hid (And.intro (k0.below b1 hs0) (And.intro (k2.below b1 hs2) (And.intro hr3 (HB3.out.trans (b1.mono hle)))))
  clear k0 k1 k2 hr hr2 hr3 b1 HB3 HP
  go_upto_region 13 with fail
  go_region
  go_upto_region 16 with fail
  generalize hgg : (wc.setCell ⟨B3, f, none⟩ (.int .i16 v)).drew = we at *
  clear hgg
  obtain ⟨e0, e1', e2', e3⟩ := row_four HK.out.2.2.1
  obtain ⟨q0, q1, q2, q3, -⟩ := HK.out.1.four
  obtain ⟨z0, z1, z2, z3, z4⟩ := HK.out.2.1.four
  have HB5 := Lib.hid HK.out.2.2.2
  have hqq := HQ.out
  clear HK
  go_wp2
  refine bodyPost_ret (v := .tuple #[watV E, .int .i64 0]) (by simp [results, Try.results59, go_sem, z0, z1, z2, z3]) rfl ⟨by rw [HE.out], ?_⟩
  have hl2 : w.heap.size ≤ w.heap.size + 1 + 1 := by omega
  exact (((HB5.out.setCell hl2 _).setCell hl2 _).setCell hl2 _).setCell hl2 _
theorem l02Move_empty_same (p b off c : Nat) (J : List Int) (x y : Nat → Int) (t : Bool) (f : Nat) (w : World) (hJ : OkJ J) (hf : f < J.length) (ht : t = true) (hb : b < w.heap.size) (hc : At .i16 w b off J) (hp : Blk w p #[.slice (some ⟨b, off, none⟩) J.length c, .int .i16 (x 0), .int .i16 (x 1), .int .i16 (x 2), .int .i16 (x 3), .bool t] 32) (hs : Same4 (emptyX y f) y) :
    Calls Try.prog 59 #[.pointer (some ⟨p, 0, none⟩), watV y, movV 2 f 0] w fun e w' => e = .returned (.tuple #[watV (fun _ => 0), .int .i64 4]) ∧ Below w.heap.size w w' := by
  subst ht
  have k0 := ((blk_new w #[.int .i16 (y 0), .int .i16 (y 1), .int .i16 (y 2), .int .i16 (y 3)] 30).alloc (.cells #[.int .i8 2, .int .i8 f, .int .i8 0] 78)).alloc (.cells #[.int .i16 0, .int .i16 0, .int .i16 0, .int .i16 0] 30)
  have k1 := (blk_new (w.alloc (.cells #[.int .i16 (y 0), .int .i16 (y 1), .int .i16 (y 2), .int .i16 (y 3)] 30)) #[.int .i8 2, .int .i8 f, .int .i8 0] 78).alloc (.cells #[.int .i16 0, .int .i16 0, .int .i16 0, .int .i16 0] 30)
  have k2 := blk_new ((w.alloc (.cells #[.int .i16 (y 0), .int .i16 (y 1), .int .i16 (y 2), .int .i16 (y 3)] 30)).alloc (.cells #[.int .i8 2, .int .i8 f, .int .i8 0] 78)) #[.int .i16 0, .int .i16 0, .int .i16 0, .int .i16 0] 30
  have hB := (((Below.refl w.heap.size w).alloc (Nat.le_refl _) (.cells #[.int .i16 (y 0), .int .i16 (y 1), .int .i16 (y 2), .int .i16 (y 3)] 30)).alloc (by simp) (.cells #[.int .i8 2, .int .i8 f, .int .i8 0] 78)).alloc (by simp <;> omega) (.cells #[.int .i16 0, .int .i16 0, .int .i16 0, .int .i16 0] 30)
  have hsz : w.heap.size + 3 = (((w.alloc (.cells #[.int .i16 (y 0), .int .i16 (y 1), .int .i16 (y 2), .int .i16 (y 3)] 30)).alloc (.cells #[.int .i8 2, .int .i8 f, .int .i8 0] 78)).alloc (.cells #[.int .i16 0, .int .i16 0, .int .i16 0, .int .i16 0] 30)).heap.size := by simp
  simp only [World.size_alloc] at k1 k2
  have kp := ((hp.alloc (.cells #[.int .i16 (y 0), .int .i16 (y 1), .int .i16 (y 2), .int .i16 (y 3)] 30)).alloc (.cells #[.int .i8 2, .int .i8 f, .int .i8 0] 78)).alloc (.cells #[.int .i16 0, .int .i16 0, .int .i16 0, .int .i16 0] 30)
  obtain ⟨p0, p1, p2, p3, p4, p5, -⟩ := kp.six
  obtain ⟨q0, q1, q2, q3, -⟩ := k0.four
  obtain ⟨r0, r1, r2, -⟩ := k1.three
  have hl1 := hJ.1.1
  have hl4 := hJ.1.2
  have HIK := Lib.hid (fun W => l00In_t 2 0 2 W (by omega))
  have HIF := Lib.hid (fun W => l00In_t f 0 ((J.length : Int) - 1) W (by omega))
  have HIG := Lib.hid (fun W => l00In_t 0 0 ((J.length : Int) - 1) W (by omega))
  have hc1 := hc.below hB hb
  have hbs := Nat.lt_of_lt_of_le hb hB.size
  have HB := Lib.hid hB
  have hpl := kp.lt
  clear hB hc hp
  go_enter Try.func59, Try.ntmps59
  go_upto_region 6 with (first | (go_at_call 67; with_reducible refine (HIK.out _).mono ?_; rintro e w' ⟨rfl, rfl⟩) | (go_at_call 67; with_reducible refine (HIF.out _).mono ?_; rintro e w' ⟨rfl, rfl⟩) | (go_at_call 67; with_reducible refine (HIG.out _).mono ?_; rintro e w' ⟨rfl, rfl⟩))
  generalize hgg : (((w.alloc (.cells #[.int .i16 (y 0), .int .i16 (y 1), .int .i16 (y 2), .int .i16 (y 3)] 30)).alloc (.cells #[.int .i8 2, .int .i8 f, .int .i8 0] 78)).alloc (.cells #[.int .i16 0, .int .i16 0, .int .i16 0, .int .i16 0] 30)) = wb at *
  clear hgg HIK HIF HIG
  go_upto_region 7 with fail
  have hB2 := (Below.refl wb.heap.size wb).alloc (Nat.le_refl _) (.cells #[.int .i16 (y 0), .int .i16 (y 1), .int .i16 (y 2), .int .i16 (y 3)] 30)
  have HB3 := Lib.hid (HB.out.trans (hB2.mono HB.out.size))
  have k3 := blk_new wb #[.int .i16 (y 0), .int .i16 (y 1), .int .i16 (y 2), .int .i16 (y 3)] 30
  replace k0 := k0.below hB2 (by omega)
  replace k1 := k1.below hB2 (by omega)
  replace k2 := k2.below hB2 (by omega)
  replace kp := kp.below hB2 hpl
  replace hc1 := hc1.below hB2 hbs
  have hle := HB.out.size
  clear p0 p1 p2 p3 p4 p5 q0 q1 q2 q3 r0 r1 r2 HB hB2
  generalize wb.heap.size = B3 at *
  generalize hgg : wb.alloc (.cells #[.int .i16 (y 0), .int .i16 (y 1), .int .i16 (y 2), .int .i16 (y 3)] 30) = wc at *
  clear hgg wb
  obtain ⟨p0, p1, p2, p3, p4, p5, -⟩ := kp.six
  obtain ⟨r0, r1, r2, -⟩ := k1.three
  have hr := k3.rows
  have hs0 : w.heap.size < B3 := by omega
  have hs1 : w.heap.size + 1 < B3 := by omega
  have hs2 : w.heap.size + 1 + 1 < B3 := by omega
  have hf4 : f < 4 := by omega
  have hf4' : (f : Int) < 4 := by omega
  have hfl' : (f : Int) < (J.length : Int) := by omega
  have HP := Lib.hid (show ∀ i, emptyX y f i = if i = f then 0 else y i from fun i => rfl)
  have HQ := Lib.hid (fun W => eqWat_t hs W)
  clear hs hJ k3
  generalize hE : emptyX y f = E at *
  have HE := Lib.hid hE
  clear hE
  have ff : wc.frozen? ⟨B3, f, none⟩ = false := hr.frozen f
  have rf : wc.cell? ⟨B3, f, none⟩ = some (.int .i16 (y f)) := hr.cell hf4
  have hr2 := (hr.set f (.int .i16 0)).congr (g := fun i => .int .i16 (E i)) (fun i _ => by
    rw [HP.out i]
    by_cases e : i = f
    · subst e; simp
    · simp [e])
  have b1 : Below B3 wc (wc.setCell ⟨B3, f, none⟩ (.int .i16 0)) := bset _
  have hr3 : (wc.setCell ⟨B3, f, none⟩ (.int .i16 0)).rowIs B3 30 4 (fun i => .int .i16 (E i)) := hr2
  have HK := Lib.hid (And.intro (k0.below b1 hs0) (And.intro (k2.below b1 hs2) (And.intro hr3 (HB3.out.trans (b1.mono hle)))))
  clear k0 k1 k2 hr hr2 hr3 b1 HB3 HP
  go_upto_region 16 with fail
  generalize hgg : (wc.setCell ⟨B3, f, none⟩ (.int .i16 0)) = we at *
  clear hgg
  obtain ⟨e0, e1', e2', e3⟩ := row_four HK.out.2.2.1
  obtain ⟨q0, q1, q2, q3, -⟩ := HK.out.1.four
  obtain ⟨z0, z1, z2, z3, z4⟩ := HK.out.2.1.four
  have HB5 := Lib.hid HK.out.2.2.2
  have hqq := HQ.out
  clear HK
  go_wp2
  refine bodyPost_ret (v := .tuple #[watV (fun _ => 0), .int .i64 4]) (by simp [results, Try.results59, go_sem, z0, z1, z2, z3]) rfl ⟨rfl, ?_⟩
  have hl2 : w.heap.size ≤ w.heap.size + 1 + 1 := by omega
  exact (((HB5.out.setCell hl2 _).setCell hl2 _).setCell hl2 _).setCell hl2 _
theorem l02Move_empty_ok (p b off c : Nat) (J : List Int) (x y : Nat → Int) (t : Bool) (f : Nat) (w : World) (hJ : OkJ J) (hf : f < J.length) (ht : t = true) (hb : b < w.heap.size) (hc : At .i16 w b off J) (hp : Blk w p #[.slice (some ⟨b, off, none⟩) J.length c, .int .i16 (x 0), .int .i16 (x 1), .int .i16 (x 2), .int .i16 (x 3), .bool t] 32) (hs : ¬ Same4 (emptyX y f) y) :
    Calls Try.prog 59 #[.pointer (some ⟨p, 0, none⟩), watV y, movV 2 f 0] w fun e w' => e = .returned (.tuple #[watV (emptyX y f), .int .i64 0]) ∧ Below w.heap.size w w' := by
  subst ht
  have k0 := ((blk_new w #[.int .i16 (y 0), .int .i16 (y 1), .int .i16 (y 2), .int .i16 (y 3)] 30).alloc (.cells #[.int .i8 2, .int .i8 f, .int .i8 0] 78)).alloc (.cells #[.int .i16 0, .int .i16 0, .int .i16 0, .int .i16 0] 30)
  have k1 := (blk_new (w.alloc (.cells #[.int .i16 (y 0), .int .i16 (y 1), .int .i16 (y 2), .int .i16 (y 3)] 30)) #[.int .i8 2, .int .i8 f, .int .i8 0] 78).alloc (.cells #[.int .i16 0, .int .i16 0, .int .i16 0, .int .i16 0] 30)
  have k2 := blk_new ((w.alloc (.cells #[.int .i16 (y 0), .int .i16 (y 1), .int .i16 (y 2), .int .i16 (y 3)] 30)).alloc (.cells #[.int .i8 2, .int .i8 f, .int .i8 0] 78)) #[.int .i16 0, .int .i16 0, .int .i16 0, .int .i16 0] 30
  have hB := (((Below.refl w.heap.size w).alloc (Nat.le_refl _) (.cells #[.int .i16 (y 0), .int .i16 (y 1), .int .i16 (y 2), .int .i16 (y 3)] 30)).alloc (by simp) (.cells #[.int .i8 2, .int .i8 f, .int .i8 0] 78)).alloc (by simp <;> omega) (.cells #[.int .i16 0, .int .i16 0, .int .i16 0, .int .i16 0] 30)
  have hsz : w.heap.size + 3 = (((w.alloc (.cells #[.int .i16 (y 0), .int .i16 (y 1), .int .i16 (y 2), .int .i16 (y 3)] 30)).alloc (.cells #[.int .i8 2, .int .i8 f, .int .i8 0] 78)).alloc (.cells #[.int .i16 0, .int .i16 0, .int .i16 0, .int .i16 0] 30)).heap.size := by simp
  simp only [World.size_alloc] at k1 k2
  have kp := ((hp.alloc (.cells #[.int .i16 (y 0), .int .i16 (y 1), .int .i16 (y 2), .int .i16 (y 3)] 30)).alloc (.cells #[.int .i8 2, .int .i8 f, .int .i8 0] 78)).alloc (.cells #[.int .i16 0, .int .i16 0, .int .i16 0, .int .i16 0] 30)
  obtain ⟨p0, p1, p2, p3, p4, p5, -⟩ := kp.six
  obtain ⟨q0, q1, q2, q3, -⟩ := k0.four
  obtain ⟨r0, r1, r2, -⟩ := k1.three
  have hl1 := hJ.1.1
  have hl4 := hJ.1.2
  have HIK := Lib.hid (fun W => l00In_t 2 0 2 W (by omega))
  have HIF := Lib.hid (fun W => l00In_t f 0 ((J.length : Int) - 1) W (by omega))
  have HIG := Lib.hid (fun W => l00In_t 0 0 ((J.length : Int) - 1) W (by omega))
  have hc1 := hc.below hB hb
  have hbs := Nat.lt_of_lt_of_le hb hB.size
  have HB := Lib.hid hB
  have hpl := kp.lt
  clear hB hc hp
  go_enter Try.func59, Try.ntmps59
  go_upto_region 6 with (first | (go_at_call 67; with_reducible refine (HIK.out _).mono ?_; rintro e w' ⟨rfl, rfl⟩) | (go_at_call 67; with_reducible refine (HIF.out _).mono ?_; rintro e w' ⟨rfl, rfl⟩) | (go_at_call 67; with_reducible refine (HIG.out _).mono ?_; rintro e w' ⟨rfl, rfl⟩))
  generalize hgg : (((w.alloc (.cells #[.int .i16 (y 0), .int .i16 (y 1), .int .i16 (y 2), .int .i16 (y 3)] 30)).alloc (.cells #[.int .i8 2, .int .i8 f, .int .i8 0] 78)).alloc (.cells #[.int .i16 0, .int .i16 0, .int .i16 0, .int .i16 0] 30)) = wb at *
  clear hgg HIK HIF HIG
  go_upto_region 7 with fail
  have hB2 := (Below.refl wb.heap.size wb).alloc (Nat.le_refl _) (.cells #[.int .i16 (y 0), .int .i16 (y 1), .int .i16 (y 2), .int .i16 (y 3)] 30)
  have HB3 := Lib.hid (HB.out.trans (hB2.mono HB.out.size))
  have k3 := blk_new wb #[.int .i16 (y 0), .int .i16 (y 1), .int .i16 (y 2), .int .i16 (y 3)] 30
  replace k0 := k0.below hB2 (by omega)
  replace k1 := k1.below hB2 (by omega)
  replace k2 := k2.below hB2 (by omega)
  replace kp := kp.below hB2 hpl
  replace hc1 := hc1.below hB2 hbs
  have hle := HB.out.size
  clear p0 p1 p2 p3 p4 p5 q0 q1 q2 q3 r0 r1 r2 HB hB2
  generalize wb.heap.size = B3 at *
  generalize hgg : wb.alloc (.cells #[.int .i16 (y 0), .int .i16 (y 1), .int .i16 (y 2), .int .i16 (y 3)] 30) = wc at *
  clear hgg wb
  obtain ⟨p0, p1, p2, p3, p4, p5, -⟩ := kp.six
  obtain ⟨r0, r1, r2, -⟩ := k1.three
  have hr := k3.rows
  have hs0 : w.heap.size < B3 := by omega
  have hs1 : w.heap.size + 1 < B3 := by omega
  have hs2 : w.heap.size + 1 + 1 < B3 := by omega
  have hf4 : f < 4 := by omega
  have hf4' : (f : Int) < 4 := by omega
  have hfl' : (f : Int) < (J.length : Int) := by omega
  have HP := Lib.hid (show ∀ i, emptyX y f i = if i = f then 0 else y i from fun i => rfl)
  have HQ := Lib.hid (fun W => eqWat_f hs W)
  clear hs hJ k3
  generalize hE : emptyX y f = E at *
  have HE := Lib.hid hE
  clear hE
  have ff : wc.frozen? ⟨B3, f, none⟩ = false := hr.frozen f
  have rf : wc.cell? ⟨B3, f, none⟩ = some (.int .i16 (y f)) := hr.cell hf4
  have hr2 := (hr.set f (.int .i16 0)).congr (g := fun i => .int .i16 (E i)) (fun i _ => by
    rw [HP.out i]
    by_cases e : i = f
    · subst e; simp
    · simp [e])
  have b1 : Below B3 wc (wc.setCell ⟨B3, f, none⟩ (.int .i16 0)) := bset _
  have hr3 : (wc.setCell ⟨B3, f, none⟩ (.int .i16 0)).rowIs B3 30 4 (fun i => .int .i16 (E i)) := hr2
  have HK := Lib.hid (And.intro (k0.below b1 hs0) (And.intro (k2.below b1 hs2) (And.intro hr3 (HB3.out.trans (b1.mono hle)))))
  clear k0 k1 k2 hr hr2 hr3 b1 HB3 HP
  go_upto_region 16 with fail
  generalize hgg : (wc.setCell ⟨B3, f, none⟩ (.int .i16 0)) = we at *
  clear hgg
  obtain ⟨e0, e1', e2', e3⟩ := row_four HK.out.2.2.1
  obtain ⟨q0, q1, q2, q3, -⟩ := HK.out.1.four
  obtain ⟨z0, z1, z2, z3, z4⟩ := HK.out.2.1.four
  have HB5 := Lib.hid HK.out.2.2.2
  have hqq := HQ.out
  clear HK
  go_wp2
  refine bodyPost_ret (v := .tuple #[watV E, .int .i64 0]) (by simp [results, Try.results59, go_sem, z0, z1, z2, z3]) rfl ⟨by rw [HE.out], ?_⟩
  have hl2 : w.heap.size ≤ w.heap.size + 1 + 1 := by omega
  exact (((HB5.out.setCell hl2 _).setCell hl2 _).setCell hl2 _).setCell hl2 _
end Go.Proofs.Ytjmgalmndpjcoaa
