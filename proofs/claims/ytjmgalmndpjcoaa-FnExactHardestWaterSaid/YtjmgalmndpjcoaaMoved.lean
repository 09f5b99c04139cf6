/-
  The walk of moved: the water behind a move.
-/
import Derived.Test.YtjmgalmndpjcoaaAct
import Derived.Test.YtjmgalmndpjcoaaEqWat
namespace Go.Proofs.Ytjmgalmndpjcoaa
open Go.RowKit
set_option maxRecDepth 100000

theorem moved_none (b off c : Nat) (J : List Int) (x y : Nat → Int) (t : Bool) (k f g : Int) (w : World) (hJ : OkJ J) (hf : -128 ≤ f ∧ f ≤ 127) (hg : -128 ≤ g ∧ g ≤ 127) (hb : b < w.heap.size) (hc : At .i16 w b off J) (hm : ¬ OkM J.length k f g) :
    Calls Try.prog 66 #[puzV (some ⟨b, off, none⟩) J.length c x t, watV y, movV k f g] w fun e w' => e = .returned (.tuple #[watV (fun _ => 0), .int .i64 2]) ∧ Below w.heap.size w w' := by
  have k0 := (((blk_new w #[.slice (some ⟨b, off, none⟩) J.length c, .int .i16 (x 0), .int .i16 (x 1), .int .i16 (x 2), .int .i16 (x 3), .bool t] 32).alloc (.cells #[.int .i16 (y 0), .int .i16 (y 1), .int .i16 (y 2), .int .i16 (y 3)] 30)).alloc (.cells #[.int .i8 k, .int .i8 f, .int .i8 g] 78)).alloc (.cells #[.int .i16 0, .int .i16 0, .int .i16 0, .int .i16 0] 30)
  have k1 := ((blk_new (w.alloc (.cells #[.slice (some ⟨b, off, none⟩) J.length c, .int .i16 (x 0), .int .i16 (x 1), .int .i16 (x 2), .int .i16 (x 3), .bool t] 32)) #[.int .i16 (y 0), .int .i16 (y 1), .int .i16 (y 2), .int .i16 (y 3)] 30).alloc (.cells #[.int .i8 k, .int .i8 f, .int .i8 g] 78)).alloc (.cells #[.int .i16 0, .int .i16 0, .int .i16 0, .int .i16 0] 30)
  have k2 := (blk_new ((w.alloc (.cells #[.slice (some ⟨b, off, none⟩) J.length c, .int .i16 (x 0), .int .i16 (x 1), .int .i16 (x 2), .int .i16 (x 3), .bool t] 32)).alloc (.cells #[.int .i16 (y 0), .int .i16 (y 1), .int .i16 (y 2), .int .i16 (y 3)] 30)) #[.int .i8 k, .int .i8 f, .int .i8 g] 78).alloc (.cells #[.int .i16 0, .int .i16 0, .int .i16 0, .int .i16 0] 30)
  have k3 := blk_new (((w.alloc (.cells #[.slice (some ⟨b, off, none⟩) J.length c, .int .i16 (x 0), .int .i16 (x 1), .int .i16 (x 2), .int .i16 (x 3), .bool t] 32)).alloc (.cells #[.int .i16 (y 0), .int .i16 (y 1), .int .i16 (y 2), .int .i16 (y 3)] 30)).alloc (.cells #[.int .i8 k, .int .i8 f, .int .i8 g] 78)) #[.int .i16 0, .int .i16 0, .int .i16 0, .int .i16 0] 30
  have hB := ((((Below.refl w.heap.size w).alloc (Nat.le_refl _) (.cells #[.slice (some ⟨b, off, none⟩) J.length c, .int .i16 (x 0), .int .i16 (x 1), .int .i16 (x 2), .int .i16 (x 3), .bool t] 32)).alloc (by simp) (.cells #[.int .i16 (y 0), .int .i16 (y 1), .int .i16 (y 2), .int .i16 (y 3)] 30)).alloc (by simp <;> omega) (.cells #[.int .i8 k, .int .i8 f, .int .i8 g] 78)).alloc (by simp <;> omega) (.cells #[.int .i16 0, .int .i16 0, .int .i16 0, .int .i16 0] 30)
  have hsz : w.heap.size + 4 = ((((w.alloc (.cells #[.slice (some ⟨b, off, none⟩) J.length c, .int .i16 (x 0), .int .i16 (x 1), .int .i16 (x 2), .int .i16 (x 3), .bool t] 32)).alloc (.cells #[.int .i16 (y 0), .int .i16 (y 1), .int .i16 (y 2), .int .i16 (y 3)] 30)).alloc (.cells #[.int .i8 k, .int .i8 f, .int .i8 g] 78)).alloc (.cells #[.int .i16 0, .int .i16 0, .int .i16 0, .int .i16 0] 30)).heap.size := by simp
  simp only [World.size_alloc] at k1 k2 k3
  have hc1 := hc.below hB hb
  have hb1 := Nat.lt_of_lt_of_le hb hB.size
  clear hc
  have HA := Lib.hid (fun W => actionOf_no k f g J.length W hJ.1.2 hf hg hm)
  clear hm
  obtain ⟨p0, p1, p2, p3, p4, p5, _⟩ := k0.six
  obtain ⟨r0, r1, r2, _⟩ := k2.three
  go_enter Try.func66, Try.ntmps66
  go_wp2_with fail
  refine (HA.out _).mono ?_
  rintro e w2 ⟨rfl, hb2⟩
  have HB2 := Lib.hid (hB.trans (hb2.mono hB.size))
  replace k0 := k0.below hb2 k0.lt
  replace k1 := k1.below hb2 k1.lt
  replace k2 := k2.below hb2 k2.lt
  replace k3 := k3.below hb2 k3.lt
  clear p0 p1 p2 p3 p4 p5 r0 r1 r2 hb2 hB
  obtain ⟨p0, p1, p2, p3, p4, p5, _⟩ := k0.six
  obtain ⟨q0, q1, q2, q3, _⟩ := k1.four
  obtain ⟨r0, r1, r2, _⟩ := k2.three
  obtain ⟨z0, z1, z2, z3, z4⟩ := k3.four
  go_wp2
  refine bodyPost_ret (v := .tuple #[watV (fun _ => 0), .int .i64 2]) (by simp [results, Try.results66, go_sem, z0, z1, z2, z3]) rfl ⟨rfl, ?_⟩
  have hle : w.heap.size ≤ w.heap.size + 1 + 1 + 1 := by omega
  exact (((HB2.out.setCell hle _).setCell hle _).setCell hle _).setCell hle _

theorem moved_tap (b off c : Nat) (J : List Int) (x y : Nat → Int) (t : Bool) (k f g : Int) (w : World) (hJ : OkJ J) (hb : b < w.heap.size) (hc : At .i16 w b off J) (hm : OkM J.length k f g) (hk : k ≠ 0) (ht : t = false) :
    Calls Try.prog 66 #[puzV (some ⟨b, off, none⟩) J.length c x t, watV y, movV k f g] w fun e w' => e = .returned (.tuple #[watV (fun _ => 0), .int .i64 4]) ∧ Below w.heap.size w w' := by
  subst ht
  have k0 := (((blk_new w #[.slice (some ⟨b, off, none⟩) J.length c, .int .i16 (x 0), .int .i16 (x 1), .int .i16 (x 2), .int .i16 (x 3), .bool false] 32).alloc (.cells #[.int .i16 (y 0), .int .i16 (y 1), .int .i16 (y 2), .int .i16 (y 3)] 30)).alloc (.cells #[.int .i8 k, .int .i8 f, .int .i8 g] 78)).alloc (.cells #[.int .i16 0, .int .i16 0, .int .i16 0, .int .i16 0] 30)
  have k1 := ((blk_new (w.alloc (.cells #[.slice (some ⟨b, off, none⟩) J.length c, .int .i16 (x 0), .int .i16 (x 1), .int .i16 (x 2), .int .i16 (x 3), .bool false] 32)) #[.int .i16 (y 0), .int .i16 (y 1), .int .i16 (y 2), .int .i16 (y 3)] 30).alloc (.cells #[.int .i8 k, .int .i8 f, .int .i8 g] 78)).alloc (.cells #[.int .i16 0, .int .i16 0, .int .i16 0, .int .i16 0] 30)
  have k2 := (blk_new ((w.alloc (.cells #[.slice (some ⟨b, off, none⟩) J.length c, .int .i16 (x 0), .int .i16 (x 1), .int .i16 (x 2), .int .i16 (x 3), .bool false] 32)).alloc (.cells #[.int .i16 (y 0), .int .i16 (y 1), .int .i16 (y 2), .int .i16 (y 3)] 30)) #[.int .i8 k, .int .i8 f, .int .i8 g] 78).alloc (.cells #[.int .i16 0, .int .i16 0, .int .i16 0, .int .i16 0] 30)
  have k3 := blk_new (((w.alloc (.cells #[.slice (some ⟨b, off, none⟩) J.length c, .int .i16 (x 0), .int .i16 (x 1), .int .i16 (x 2), .int .i16 (x 3), .bool false] 32)).alloc (.cells #[.int .i16 (y 0), .int .i16 (y 1), .int .i16 (y 2), .int .i16 (y 3)] 30)).alloc (.cells #[.int .i8 k, .int .i8 f, .int .i8 g] 78)) #[.int .i16 0, .int .i16 0, .int .i16 0, .int .i16 0] 30
  have hB := ((((Below.refl w.heap.size w).alloc (Nat.le_refl _) (.cells #[.slice (some ⟨b, off, none⟩) J.length c, .int .i16 (x 0), .int .i16 (x 1), .int .i16 (x 2), .int .i16 (x 3), .bool false] 32)).alloc (by simp) (.cells #[.int .i16 (y 0), .int .i16 (y 1), .int .i16 (y 2), .int .i16 (y 3)] 30)).alloc (by simp <;> omega) (.cells #[.int .i8 k, .int .i8 f, .int .i8 g] 78)).alloc (by simp <;> omega) (.cells #[.int .i16 0, .int .i16 0, .int .i16 0, .int .i16 0] 30)
  have hsz : w.heap.size + 4 = ((((w.alloc (.cells #[.slice (some ⟨b, off, none⟩) J.length c, .int .i16 (x 0), .int .i16 (x 1), .int .i16 (x 2), .int .i16 (x 3), .bool false] 32)).alloc (.cells #[.int .i16 (y 0), .int .i16 (y 1), .int .i16 (y 2), .int .i16 (y 3)] 30)).alloc (.cells #[.int .i8 k, .int .i8 f, .int .i8 g] 78)).alloc (.cells #[.int .i16 0, .int .i16 0, .int .i16 0, .int .i16 0] 30)).heap.size := by simp
  simp only [World.size_alloc] at k1 k2 k3
  have hc1 := hc.below hB hb
  have hb1 := Nat.lt_of_lt_of_le hb hB.size
  clear hc
  have HA := Lib.hid (fun W => actionOf_ok k f g J.length W hJ.1.2 hm)
  have hkne : (k != 0) = true := by simpa using hk
  generalize actV k f g = av at *
  clear hm hk
  obtain ⟨p0, p1, p2, p3, p4, p5, _⟩ := k0.six
  obtain ⟨r0, r1, r2, _⟩ := k2.three
  go_enter Try.func66, Try.ntmps66
  go_wp2_with fail
  refine (HA.out _).mono ?_
  rintro e w2 ⟨rfl, hb2⟩
  have HB2 := Lib.hid (hB.trans (hb2.mono hB.size))
  replace k0 := k0.below hb2 k0.lt
  replace k1 := k1.below hb2 k1.lt
  replace k2 := k2.below hb2 k2.lt
  replace k3 := k3.below hb2 k3.lt
  clear p0 p1 p2 p3 p4 p5 r0 r1 r2 hb2 hB
  obtain ⟨p0, p1, p2, p3, p4, p5, _⟩ := k0.six
  obtain ⟨q0, q1, q2, q3, _⟩ := k1.four
  obtain ⟨r0, r1, r2, _⟩ := k2.three
  obtain ⟨z0, z1, z2, z3, z4⟩ := k3.four
  go_wp2
  refine bodyPost_ret (v := .tuple #[watV (fun _ => 0), .int .i64 4]) (by simp [results, Try.results66, go_sem, z0, z1, z2, z3]) rfl ⟨rfl, ?_⟩
  have hle : w.heap.size ≤ w.heap.size + 1 + 1 + 1 := by omega
  exact (((HB2.out.setCell hle _).setCell hle _).setCell hle _).setCell hle _

theorem method_pour (f g : Int) (w : World) : (method 243 123 (.agg #[.int .i8 f, .int .i8 g]) "loop.example/g01281/impl.after").run Try.prog w = .ok (92, .agg #[.int .i8 f, .int .i8 g]) w := by kernel_rfl
theorem method_fill (f : Int) (w : World) : (method 243 125 (.agg #[.int .i8 f]) "loop.example/g01281/impl.after").run Try.prog w = .ok (93, .agg #[.int .i8 f]) w := by kernel_rfl
theorem method_empty (f : Int) (w : World) : (method 243 126 (.agg #[.int .i8 f]) "loop.example/g01281/impl.after").run Try.prog w = .ok (94, .agg #[.int .i8 f]) w := by kernel_rfl
theorem moved_pour_same (b off c : Nat) (J : List Int) (x y : Nat → Int) (t : Bool) (f g : Nat) (w : World) (hJ : OkJ J) (hy : OkX J y) (hf : f < J.length) (hg : g < J.length) (hb : b < w.heap.size) (hc : At .i16 w b off J) (hs : Same4 (pourX J y f g) y) :
    Calls Try.prog 66 #[puzV (some ⟨b, off, none⟩) J.length c x t, watV y, movV 0 f g] w fun e w' => e = .returned (.tuple #[watV (fun _ => 0), .int .i64 4]) ∧ Below w.heap.size w w' := by

  have k0 := (((blk_new w #[.slice (some ⟨b, off, none⟩) J.length c, .int .i16 (x 0), .int .i16 (x 1), .int .i16 (x 2), .int .i16 (x 3), .bool t] 32).alloc (.cells #[.int .i16 (y 0), .int .i16 (y 1), .int .i16 (y 2), .int .i16 (y 3)] 30)).alloc (.cells #[.int .i8 0, .int .i8 f, .int .i8 g] 78)).alloc (.cells #[.int .i16 0, .int .i16 0, .int .i16 0, .int .i16 0] 30)
  have k1 := ((blk_new (w.alloc (.cells #[.slice (some ⟨b, off, none⟩) J.length c, .int .i16 (x 0), .int .i16 (x 1), .int .i16 (x 2), .int .i16 (x 3), .bool t] 32)) #[.int .i16 (y 0), .int .i16 (y 1), .int .i16 (y 2), .int .i16 (y 3)] 30).alloc (.cells #[.int .i8 0, .int .i8 f, .int .i8 g] 78)).alloc (.cells #[.int .i16 0, .int .i16 0, .int .i16 0, .int .i16 0] 30)
  have k2 := (blk_new ((w.alloc (.cells #[.slice (some ⟨b, off, none⟩) J.length c, .int .i16 (x 0), .int .i16 (x 1), .int .i16 (x 2), .int .i16 (x 3), .bool t] 32)).alloc (.cells #[.int .i16 (y 0), .int .i16 (y 1), .int .i16 (y 2), .int .i16 (y 3)] 30)) #[.int .i8 0, .int .i8 f, .int .i8 g] 78).alloc (.cells #[.int .i16 0, .int .i16 0, .int .i16 0, .int .i16 0] 30)
  have k3 := blk_new (((w.alloc (.cells #[.slice (some ⟨b, off, none⟩) J.length c, .int .i16 (x 0), .int .i16 (x 1), .int .i16 (x 2), .int .i16 (x 3), .bool t] 32)).alloc (.cells #[.int .i16 (y 0), .int .i16 (y 1), .int .i16 (y 2), .int .i16 (y 3)] 30)).alloc (.cells #[.int .i8 0, .int .i8 f, .int .i8 g] 78)) #[.int .i16 0, .int .i16 0, .int .i16 0, .int .i16 0] 30
  have hB := ((((Below.refl w.heap.size w).alloc (Nat.le_refl _) (.cells #[.slice (some ⟨b, off, none⟩) J.length c, .int .i16 (x 0), .int .i16 (x 1), .int .i16 (x 2), .int .i16 (x 3), .bool t] 32)).alloc (by simp) (.cells #[.int .i16 (y 0), .int .i16 (y 1), .int .i16 (y 2), .int .i16 (y 3)] 30)).alloc (by simp <;> omega) (.cells #[.int .i8 0, .int .i8 f, .int .i8 g] 78)).alloc (by simp <;> omega) (.cells #[.int .i16 0, .int .i16 0, .int .i16 0, .int .i16 0] 30)
  have hsz : w.heap.size + 4 = ((((w.alloc (.cells #[.slice (some ⟨b, off, none⟩) J.length c, .int .i16 (x 0), .int .i16 (x 1), .int .i16 (x 2), .int .i16 (x 3), .bool t] 32)).alloc (.cells #[.int .i16 (y 0), .int .i16 (y 1), .int .i16 (y 2), .int .i16 (y 3)] 30)).alloc (.cells #[.int .i8 0, .int .i8 f, .int .i8 g] 78)).alloc (.cells #[.int .i16 0, .int .i16 0, .int .i16 0, .int .i16 0] 30)).heap.size := by simp
  simp only [World.size_alloc] at k1 k2 k3
  have hc1 := hc.below hB hb
  have hb1 := Nat.lt_of_lt_of_le hb hB.size
  clear hc
  have HA := Lib.hid (fun W => actionOf_ok 0 f g J.length W hJ.1.2 ⟨by omega, .inl ⟨rfl, by omega, by omega⟩⟩)
  rw [show actV 0 f g = .iface 123 (.agg #[.int .i8 f, .int .i8 g]) from rfl] at HA
  have HM := Lib.hid (fun W (h1 : b < W.heap.size) (h2 : At .i16 W b off J) => pourAfter_any b off c J y f g W hf hg hJ.1.2 hJ.2.1 hy h1 h2)
  have hmd := fun W => method_pour f g W
  have HQ := Lib.hid (fun W => eqWat_t hs W)
  clear hf hg hy hJ hs
  generalize hE : pourX J y f g = E at *
  have HE := Lib.hid hE
  clear hE
  have hqq := HQ.out
  obtain ⟨p0, p1, p2, p3, p4, p5, _⟩ := k0.six
  obtain ⟨r0, r1, r2, _⟩ := k2.three
  go_enter Try.func66, Try.ntmps66
  go_wp2_with fail
  refine (HA.out _).mono ?_
  rintro e w2 ⟨rfl, hb2⟩
  have HB2 := Lib.hid (hB.trans (hb2.mono hB.size))
  replace k0 := k0.below hb2 k0.lt
  replace k1 := k1.below hb2 k1.lt
  replace k2 := k2.below hb2 k2.lt
  replace k3 := k3.below hb2 k3.lt
  have hc2 := hc1.below hb2 hb1
  have hb3 := Nat.lt_of_lt_of_le hb1 hb2.size
  clear p0 p1 p2 p3 p4 p5 r0 r1 r2 hb2 hB hc1 hb1
  obtain ⟨p0, p1, p2, p3, p4, p5, _⟩ := k0.six
  obtain ⟨q0, q1, q2, q3, _⟩ := k1.four
  obtain ⟨r0, r1, r2, _⟩ := k2.three
  obtain ⟨z0, z1, z2, z3, z4⟩ := k3.four
  go_wp2_with fail
  refine (HM.out _ hb3 hc2).mono ?_
  rintro e w3 ⟨rfl, hb2⟩
  have HB3 := Lib.hid (HB2.out.trans (hb2.mono HB2.out.size))
  replace k0 := k0.below hb2 k0.lt
  replace k1 := k1.below hb2 k1.lt
  replace k2 := k2.below hb2 k2.lt
  replace k3 := k3.below hb2 k3.lt
  clear p0 p1 p2 p3 p4 p5 q0 q1 q2 q3 r0 r1 r2 z0 z1 z2 z3 z4 hb2 HB2 hc2 hb3
  have hs3 := k3.lt
  have hs2 := k2.lt
  have hs1 := k1.lt
  have hs0 := k0.lt
  obtain ⟨p0, p1, p2, p3, p4, p5, _⟩ := k0.six
  obtain ⟨q0, q1, q2, q3, _⟩ := k1.four
  obtain ⟨r0, r1, r2, _⟩ := k2.three
  obtain ⟨z0, z1, z2, z3, z4⟩ := k3.four
  go_wp2
  refine bodyPost_ret (v := .tuple #[watV (fun _ => 0), .int .i64 4]) (by simp [results, Try.results66, go_sem, z0, z1, z2, z3, hs3]) rfl ⟨rfl, ?_⟩
  have hle : w.heap.size ≤ w.heap.size + 1 + 1 + 1 := by omega
  exact ((((HB3.out.setCell hle _).setCell hle _).setCell hle _).setCell hle _).alloc (by simp only [World.size_setCell]; exact HB3.out.size) _
theorem moved_pour_ok (b off c : Nat) (J : List Int) (x y : Nat → Int) (t : Bool) (f g : Nat) (w : World) (hJ : OkJ J) (hy : OkX J y) (hf : f < J.length) (hg : g < J.length) (hb : b < w.heap.size) (hc : At .i16 w b off J) (hs : ¬ Same4 (pourX J y f g) y) :
    Calls Try.prog 66 #[puzV (some ⟨b, off, none⟩) J.length c x t, watV y, movV 0 f g] w fun e w' => e = .returned (.tuple #[watV (pourX J y f g), .int .i64 0]) ∧ Below w.heap.size w w' := by

  have k0 := (((blk_new w #[.slice (some ⟨b, off, none⟩) J.length c, .int .i16 (x 0), .int .i16 (x 1), .int .i16 (x 2), .int .i16 (x 3), .bool t] 32).alloc (.cells #[.int .i16 (y 0), .int .i16 (y 1), .int .i16 (y 2), .int .i16 (y 3)] 30)).alloc (.cells #[.int .i8 0, .int .i8 f, .int .i8 g] 78)).alloc (.cells #[.int .i16 0, .int .i16 0, .int .i16 0, .int .i16 0] 30)
  have k1 := ((blk_new (w.alloc (.cells #[.slice (some ⟨b, off, none⟩) J.length c, .int .i16 (x 0), .int .i16 (x 1), .int .i16 (x 2), .int .i16 (x 3), .bool t] 32)) #[.int .i16 (y 0), .int .i16 (y 1), .int .i16 (y 2), .int .i16 (y 3)] 30).alloc (.cells #[.int .i8 0, .int .i8 f, .int .i8 g] 78)).alloc (.cells #[.int .i16 0, .int .i16 0, .int .i16 0, .int .i16 0] 30)
  have k2 := (blk_new ((w.alloc (.cells #[.slice (some ⟨b, off, none⟩) J.length c, .int .i16 (x 0), .int .i16 (x 1), .int .i16 (x 2), .int .i16 (x 3), .bool t] 32)).alloc (.cells #[.int .i16 (y 0), .int .i16 (y 1), .int .i16 (y 2), .int .i16 (y 3)] 30)) #[.int .i8 0, .int .i8 f, .int .i8 g] 78).alloc (.cells #[.int .i16 0, .int .i16 0, .int .i16 0, .int .i16 0] 30)
  have k3 := blk_new (((w.alloc (.cells #[.slice (some ⟨b, off, none⟩) J.length c, .int .i16 (x 0), .int .i16 (x 1), .int .i16 (x 2), .int .i16 (x 3), .bool t] 32)).alloc (.cells #[.int .i16 (y 0), .int .i16 (y 1), .int .i16 (y 2), .int .i16 (y 3)] 30)).alloc (.cells #[.int .i8 0, .int .i8 f, .int .i8 g] 78)) #[.int .i16 0, .int .i16 0, .int .i16 0, .int .i16 0] 30
  have hB := ((((Below.refl w.heap.size w).alloc (Nat.le_refl _) (.cells #[.slice (some ⟨b, off, none⟩) J.length c, .int .i16 (x 0), .int .i16 (x 1), .int .i16 (x 2), .int .i16 (x 3), .bool t] 32)).alloc (by simp) (.cells #[.int .i16 (y 0), .int .i16 (y 1), .int .i16 (y 2), .int .i16 (y 3)] 30)).alloc (by simp <;> omega) (.cells #[.int .i8 0, .int .i8 f, .int .i8 g] 78)).alloc (by simp <;> omega) (.cells #[.int .i16 0, .int .i16 0, .int .i16 0, .int .i16 0] 30)
  have hsz : w.heap.size + 4 = ((((w.alloc (.cells #[.slice (some ⟨b, off, none⟩) J.length c, .int .i16 (x 0), .int .i16 (x 1), .int .i16 (x 2), .int .i16 (x 3), .bool t] 32)).alloc (.cells #[.int .i16 (y 0), .int .i16 (y 1), .int .i16 (y 2), .int .i16 (y 3)] 30)).alloc (.cells #[.int .i8 0, .int .i8 f, .int .i8 g] 78)).alloc (.cells #[.int .i16 0, .int .i16 0, .int .i16 0, .int .i16 0] 30)).heap.size := by simp
  simp only [World.size_alloc] at k1 k2 k3
  have hc1 := hc.below hB hb
  have hb1 := Nat.lt_of_lt_of_le hb hB.size
  clear hc
  have HA := Lib.hid (fun W => actionOf_ok 0 f g J.length W hJ.1.2 ⟨by omega, .inl ⟨rfl, by omega, by omega⟩⟩)
  rw [show actV 0 f g = .iface 123 (.agg #[.int .i8 f, .int .i8 g]) from rfl] at HA
  have HM := Lib.hid (fun W (h1 : b < W.heap.size) (h2 : At .i16 W b off J) => pourAfter_any b off c J y f g W hf hg hJ.1.2 hJ.2.1 hy h1 h2)
  have hmd := fun W => method_pour f g W
  have HQ := Lib.hid (fun W => eqWat_f hs W)
  clear hf hg hy hJ hs
  generalize hE : pourX J y f g = E at *
  have HE := Lib.hid hE
  clear hE
  have hqq := HQ.out
  obtain ⟨p0, p1, p2, p3, p4, p5, _⟩ := k0.six
  obtain ⟨r0, r1, r2, _⟩ := k2.three
  go_enter Try.func66, Try.ntmps66
  go_wp2_with fail
  refine (HA.out _).mono ?_
  rintro e w2 ⟨rfl, hb2⟩
  have HB2 := Lib.hid (hB.trans (hb2.mono hB.size))
  replace k0 := k0.below hb2 k0.lt
  replace k1 := k1.below hb2 k1.lt
  replace k2 := k2.below hb2 k2.lt
  replace k3 := k3.below hb2 k3.lt
  have hc2 := hc1.below hb2 hb1
  have hb3 := Nat.lt_of_lt_of_le hb1 hb2.size
  clear p0 p1 p2 p3 p4 p5 r0 r1 r2 hb2 hB hc1 hb1
  obtain ⟨p0, p1, p2, p3, p4, p5, _⟩ := k0.six
  obtain ⟨q0, q1, q2, q3, _⟩ := k1.four
  obtain ⟨r0, r1, r2, _⟩ := k2.three
  obtain ⟨z0, z1, z2, z3, z4⟩ := k3.four
  go_wp2_with fail
  refine (HM.out _ hb3 hc2).mono ?_
  rintro e w3 ⟨rfl, hb2⟩
  have HB3 := Lib.hid (HB2.out.trans (hb2.mono HB2.out.size))
  replace k0 := k0.below hb2 k0.lt
  replace k1 := k1.below hb2 k1.lt
  replace k2 := k2.below hb2 k2.lt
  replace k3 := k3.below hb2 k3.lt
  clear p0 p1 p2 p3 p4 p5 q0 q1 q2 q3 r0 r1 r2 z0 z1 z2 z3 z4 hb2 HB2 hc2 hb3
  have hs3 := k3.lt
  have hs2 := k2.lt
  have hs1 := k1.lt
  have hs0 := k0.lt
  obtain ⟨p0, p1, p2, p3, p4, p5, _⟩ := k0.six
  obtain ⟨q0, q1, q2, q3, _⟩ := k1.four
  obtain ⟨r0, r1, r2, _⟩ := k2.three
  obtain ⟨z0, z1, z2, z3, z4⟩ := k3.four
  go_wp2
  refine bodyPost_ret (v := .tuple #[watV (E), .int .i64 0]) (by simp [results, Try.results66, go_sem, z0, z1, z2, z3, hs3]) rfl ⟨rfl, ?_⟩
  have hle : w.heap.size ≤ w.heap.size + 1 + 1 + 1 := by omega
  exact ((((HB3.out.setCell hle _).setCell hle _).setCell hle _).setCell hle _).alloc (by simp only [World.size_setCell]; exact HB3.out.size) _
theorem moved_fill_same (b off c : Nat) (J : List Int) (x y : Nat → Int) (t : Bool) (f : Nat) (w : World) (hJ : OkJ J) (hf : f < J.length) (ht : t = true) (hb : b < w.heap.size) (hc : At .i16 w b off J) (hs : Same4 (fillX J y f) y) :
    Calls Try.prog 66 #[puzV (some ⟨b, off, none⟩) J.length c x t, watV y, movV 1 f 0] w fun e w' => e = .returned (.tuple #[watV (fun _ => 0), .int .i64 4]) ∧ Below w.heap.size w w' := by
  subst ht
  have k0 := (((blk_new w #[.slice (some ⟨b, off, none⟩) J.length c, .int .i16 (x 0), .int .i16 (x 1), .int .i16 (x 2), .int .i16 (x 3), .bool true] 32).alloc (.cells #[.int .i16 (y 0), .int .i16 (y 1), .int .i16 (y 2), .int .i16 (y 3)] 30)).alloc (.cells #[.int .i8 1, .int .i8 f, .int .i8 0] 78)).alloc (.cells #[.int .i16 0, .int .i16 0, .int .i16 0, .int .i16 0] 30)
  have k1 := ((blk_new (w.alloc (.cells #[.slice (some ⟨b, off, none⟩) J.length c, .int .i16 (x 0), .int .i16 (x 1), .int .i16 (x 2), .int .i16 (x 3), .bool true] 32)) #[.int .i16 (y 0), .int .i16 (y 1), .int .i16 (y 2), .int .i16 (y 3)] 30).alloc (.cells #[.int .i8 1, .int .i8 f, .int .i8 0] 78)).alloc (.cells #[.int .i16 0, .int .i16 0, .int .i16 0, .int .i16 0] 30)
  have k2 := (blk_new ((w.alloc (.cells #[.slice (some ⟨b, off, none⟩) J.length c, .int .i16 (x 0), .int .i16 (x 1), .int .i16 (x 2), .int .i16 (x 3), .bool true] 32)).alloc (.cells #[.int .i16 (y 0), .int .i16 (y 1), .int .i16 (y 2), .int .i16 (y 3)] 30)) #[.int .i8 1, .int .i8 f, .int .i8 0] 78).alloc (.cells #[.int .i16 0, .int .i16 0, .int .i16 0, .int .i16 0] 30)
  have k3 := blk_new (((w.alloc (.cells #[.slice (some ⟨b, off, none⟩) J.length c, .int .i16 (x 0), .int .i16 (x 1), .int .i16 (x 2), .int .i16 (x 3), .bool true] 32)).alloc (.cells #[.int .i16 (y 0), .int .i16 (y 1), .int .i16 (y 2), .int .i16 (y 3)] 30)).alloc (.cells #[.int .i8 1, .int .i8 f, .int .i8 0] 78)) #[.int .i16 0, .int .i16 0, .int .i16 0, .int .i16 0] 30
  have hB := ((((Below.refl w.heap.size w).alloc (Nat.le_refl _) (.cells #[.slice (some ⟨b, off, none⟩) J.length c, .int .i16 (x 0), .int .i16 (x 1), .int .i16 (x 2), .int .i16 (x 3), .bool true] 32)).alloc (by simp) (.cells #[.int .i16 (y 0), .int .i16 (y 1), .int .i16 (y 2), .int .i16 (y 3)] 30)).alloc (by simp <;> omega) (.cells #[.int .i8 1, .int .i8 f, .int .i8 0] 78)).alloc (by simp <;> omega) (.cells #[.int .i16 0, .int .i16 0, .int .i16 0, .int .i16 0] 30)
  have hsz : w.heap.size + 4 = ((((w.alloc (.cells #[.slice (some ⟨b, off, none⟩) J.length c, .int .i16 (x 0), .int .i16 (x 1), .int .i16 (x 2), .int .i16 (x 3), .bool true] 32)).alloc (.cells #[.int .i16 (y 0), .int .i16 (y 1), .int .i16 (y 2), .int .i16 (y 3)] 30)).alloc (.cells #[.int .i8 1, .int .i8 f, .int .i8 0] 78)).alloc (.cells #[.int .i16 0, .int .i16 0, .int .i16 0, .int .i16 0] 30)).heap.size := by simp
  simp only [World.size_alloc] at k1 k2 k3
  have hc1 := hc.below hB hb
  have hb1 := Nat.lt_of_lt_of_le hb hB.size
  clear hc
  have HA := Lib.hid (fun W => actionOf_ok 1 f 0 J.length W hJ.1.2 ⟨by omega, .inr (.inl ⟨rfl, rfl⟩)⟩)
  rw [show actV 1 f 0 = .iface 125 (.agg #[.int .i8 f]) from rfl] at HA
  have HM := Lib.hid (fun W (h1 : b < W.heap.size) (h2 : At .i16 W b off J) => fillAfter_any b off c J y f W hf hJ.1.2 h1 h2)
  have hmd := fun W => method_fill f W
  have HQ := Lib.hid (fun W => eqWat_t hs W)
  clear hf hJ hs
  generalize hE : fillX J y f = E at *
  have HE := Lib.hid hE
  clear hE
  have hqq := HQ.out
  obtain ⟨p0, p1, p2, p3, p4, p5, _⟩ := k0.six
  obtain ⟨r0, r1, r2, _⟩ := k2.three
  go_enter Try.func66, Try.ntmps66
  go_wp2_with fail
  refine (HA.out _).mono ?_
  rintro e w2 ⟨rfl, hb2⟩
  have HB2 := Lib.hid (hB.trans (hb2.mono hB.size))
  replace k0 := k0.below hb2 k0.lt
  replace k1 := k1.below hb2 k1.lt
  replace k2 := k2.below hb2 k2.lt
  replace k3 := k3.below hb2 k3.lt
  have hc2 := hc1.below hb2 hb1
  have hb3 := Nat.lt_of_lt_of_le hb1 hb2.size
  clear p0 p1 p2 p3 p4 p5 r0 r1 r2 hb2 hB hc1 hb1
  obtain ⟨p0, p1, p2, p3, p4, p5, _⟩ := k0.six
  obtain ⟨q0, q1, q2, q3, _⟩ := k1.four
  obtain ⟨r0, r1, r2, _⟩ := k2.three
  obtain ⟨z0, z1, z2, z3, z4⟩ := k3.four
  go_wp2_with fail
  refine (HM.out _ hb3 hc2).mono ?_
  rintro e w3 ⟨rfl, hb2⟩
  have HB3 := Lib.hid (HB2.out.trans (hb2.mono HB2.out.size))
  replace k0 := k0.below hb2 k0.lt
  replace k1 := k1.below hb2 k1.lt
  replace k2 := k2.below hb2 k2.lt
  replace k3 := k3.below hb2 k3.lt
  clear p0 p1 p2 p3 p4 p5 q0 q1 q2 q3 r0 r1 r2 z0 z1 z2 z3 z4 hb2 HB2 hc2 hb3
  have hs3 := k3.lt
  have hs2 := k2.lt
  have hs1 := k1.lt
  have hs0 := k0.lt
  obtain ⟨p0, p1, p2, p3, p4, p5, _⟩ := k0.six
  obtain ⟨q0, q1, q2, q3, _⟩ := k1.four
  obtain ⟨r0, r1, r2, _⟩ := k2.three
  obtain ⟨z0, z1, z2, z3, z4⟩ := k3.four
  go_wp2
  refine bodyPost_ret (v := .tuple #[watV (fun _ => 0), .int .i64 4]) (by simp [results, Try.results66, go_sem, z0, z1, z2, z3, hs3]) rfl ⟨rfl, ?_⟩
  have hle : w.heap.size ≤ w.heap.size + 1 + 1 + 1 := by omega
  exact ((((HB3.out.setCell hle _).setCell hle _).setCell hle _).setCell hle _).alloc (by simp only [World.size_setCell]; exact HB3.out.size) _
theorem moved_fill_ok (b off c : Nat) (J : List Int) (x y : Nat → Int) (t : Bool) (f : Nat) (w : World) (hJ : OkJ J) (hf : f < J.length) (ht : t = true) (hb : b < w.heap.size) (hc : At .i16 w b off J) (hs : ¬ Same4 (fillX J y f) y) :
    Calls Try.prog 66 #[puzV (some ⟨b, off, none⟩) J.length c x t, watV y, movV 1 f 0] w fun e w' => e = .returned (.tuple #[watV (fillX J y f), .int .i64 0]) ∧ Below w.heap.size w w' := by
  subst ht
  have k0 := (((blk_new w #[.slice (some ⟨b, off, none⟩) J.length c, .int .i16 (x 0), .int .i16 (x 1), .int .i16 (x 2), .int .i16 (x 3), .bool true] 32).alloc (.cells #[.int .i16 (y 0), .int .i16 (y 1), .int .i16 (y 2), .int .i16 (y 3)] 30)).alloc (.cells #[.int .i8 1, .int .i8 f, .int .i8 0] 78)).alloc (.cells #[.int .i16 0, .int .i16 0, .int .i16 0, .int .i16 0] 30)
  have k1 := ((blk_new (w.alloc (.cells #[.slice (some ⟨b, off, none⟩) J.length c, .int .i16 (x 0), .int .i16 (x 1), .int .i16 (x 2), .int .i16 (x 3), .bool true] 32)) #[.int .i16 (y 0), .int .i16 (y 1), .int .i16 (y 2), .int .i16 (y 3)] 30).alloc (.cells #[.int .i8 1, .int .i8 f, .int .i8 0] 78)).alloc (.cells #[.int .i16 0, .int .i16 0, .int .i16 0, .int .i16 0] 30)
  have k2 := (blk_new ((w.alloc (.cells #[.slice (some ⟨b, off, none⟩) J.length c, .int .i16 (x 0), .int .i16 (x 1), .int .i16 (x 2), .int .i16 (x 3), .bool true] 32)).alloc (.cells #[.int .i16 (y 0), .int .i16 (y 1), .int .i16 (y 2), .int .i16 (y 3)] 30)) #[.int .i8 1, .int .i8 f, .int .i8 0] 78).alloc (.cells #[.int .i16 0, .int .i16 0, .int .i16 0, .int .i16 0] 30)
  have k3 := blk_new (((w.alloc (.cells #[.slice (some ⟨b, off, none⟩) J.length c, .int .i16 (x 0), .int .i16 (x 1), .int .i16 (x 2), .int .i16 (x 3), .bool true] 32)).alloc (.cells #[.int .i16 (y 0), .int .i16 (y 1), .int .i16 (y 2), .int .i16 (y 3)] 30)).alloc (.cells #[.int .i8 1, .int .i8 f, .int .i8 0] 78)) #[.int .i16 0, .int .i16 0, .int .i16 0, .int .i16 0] 30
  have hB := ((((Below.refl w.heap.size w).alloc (Nat.le_refl _) (.cells #[.slice (some ⟨b, off, none⟩) J.length c, .int .i16 (x 0), .int .i16 (x 1), .int .i16 (x 2), .int .i16 (x 3), .bool true] 32)).alloc (by simp) (.cells #[.int .i16 (y 0), .int .i16 (y 1), .int .i16 (y 2), .int .i16 (y 3)] 30)).alloc (by simp <;> omega) (.cells #[.int .i8 1, .int .i8 f, .int .i8 0] 78)).alloc (by simp <;> omega) (.cells #[.int .i16 0, .int .i16 0, .int .i16 0, .int .i16 0] 30)
  have hsz : w.heap.size + 4 = ((((w.alloc (.cells #[.slice (some ⟨b, off, none⟩) J.length c, .int .i16 (x 0), .int .i16 (x 1), .int .i16 (x 2), .int .i16 (x 3), .bool true] 32)).alloc (.cells #[.int .i16 (y 0), .int .i16 (y 1), .int .i16 (y 2), .int .i16 (y 3)] 30)).alloc (.cells #[.int .i8 1, .int .i8 f, .int .i8 0] 78)).alloc (.cells #[.int .i16 0, .int .i16 0, .int .i16 0, .int .i16 0] 30)).heap.size := by simp
  simp only [World.size_alloc] at k1 k2 k3
  have hc1 := hc.below hB hb
  have hb1 := Nat.lt_of_lt_of_le hb hB.size
  clear hc
  have HA := Lib.hid (fun W => actionOf_ok 1 f 0 J.length W hJ.1.2 ⟨by omega, .inr (.inl ⟨rfl, rfl⟩)⟩)
  rw [show actV 1 f 0 = .iface 125 (.agg #[.int .i8 f]) from rfl] at HA
  have HM := Lib.hid (fun W (h1 : b < W.heap.size) (h2 : At .i16 W b off J) => fillAfter_any b off c J y f W hf hJ.1.2 h1 h2)
  have hmd := fun W => method_fill f W
  have HQ := Lib.hid (fun W => eqWat_f hs W)
  clear hf hJ hs
  generalize hE : fillX J y f = E at *
  have HE := Lib.hid hE
  clear hE
  have hqq := HQ.out
  obtain ⟨p0, p1, p2, p3, p4, p5, _⟩ := k0.six
  obtain ⟨r0, r1, r2, _⟩ := k2.three
  go_enter Try.func66, Try.ntmps66
  go_wp2_with fail
  refine (HA.out _).mono ?_
  rintro e w2 ⟨rfl, hb2⟩
  have HB2 := Lib.hid (hB.trans (hb2.mono hB.size))
  replace k0 := k0.below hb2 k0.lt
  replace k1 := k1.below hb2 k1.lt
  replace k2 := k2.below hb2 k2.lt
  replace k3 := k3.below hb2 k3.lt
  have hc2 := hc1.below hb2 hb1
  have hb3 := Nat.lt_of_lt_of_le hb1 hb2.size
  clear p0 p1 p2 p3 p4 p5 r0 r1 r2 hb2 hB hc1 hb1
  obtain ⟨p0, p1, p2, p3, p4, p5, _⟩ := k0.six
  obtain ⟨q0, q1, q2, q3, _⟩ := k1.four
  obtain ⟨r0, r1, r2, _⟩ := k2.three
  obtain ⟨z0, z1, z2, z3, z4⟩ := k3.four
  go_wp2_with fail
  refine (HM.out _ hb3 hc2).mono ?_
  rintro e w3 ⟨rfl, hb2⟩
  have HB3 := Lib.hid (HB2.out.trans (hb2.mono HB2.out.size))
  replace k0 := k0.below hb2 k0.lt
  replace k1 := k1.below hb2 k1.lt
  replace k2 := k2.below hb2 k2.lt
  replace k3 := k3.below hb2 k3.lt
  clear p0 p1 p2 p3 p4 p5 q0 q1 q2 q3 r0 r1 r2 z0 z1 z2 z3 z4 hb2 HB2 hc2 hb3
  have hs3 := k3.lt
  have hs2 := k2.lt
  have hs1 := k1.lt
  have hs0 := k0.lt
  obtain ⟨p0, p1, p2, p3, p4, p5, _⟩ := k0.six
  obtain ⟨q0, q1, q2, q3, _⟩ := k1.four
  obtain ⟨r0, r1, r2, _⟩ := k2.three
  obtain ⟨z0, z1, z2, z3, z4⟩ := k3.four
  go_wp2
  refine bodyPost_ret (v := .tuple #[watV (E), .int .i64 0]) (by simp [results, Try.results66, go_sem, z0, z1, z2, z3, hs3]) rfl ⟨rfl, ?_⟩
  have hle : w.heap.size ≤ w.heap.size + 1 + 1 + 1 := by omega
  exact ((((HB3.out.setCell hle _).setCell hle _).setCell hle _).setCell hle _).alloc (by simp only [World.size_setCell]; exact HB3.out.size) _
theorem moved_empty_same (b off c : Nat) (J : List Int) (x y : Nat → Int) (t : Bool) (f : Nat) (w : World) (hJ : OkJ J) (hf : f < J.length) (ht : t = true) (hb : b < w.heap.size) (hc : At .i16 w b off J) (hs : Same4 (emptyX y f) y) :
    Calls Try.prog 66 #[puzV (some ⟨b, off, none⟩) J.length c x t, watV y, movV 2 f 0] w fun e w' => e = .returned (.tuple #[watV (fun _ => 0), .int .i64 4]) ∧ Below w.heap.size w w' := by
  subst ht
  have k0 := (((blk_new w #[.slice (some ⟨b, off, none⟩) J.length c, .int .i16 (x 0), .int .i16 (x 1), .int .i16 (x 2), .int .i16 (x 3), .bool true] 32).alloc (.cells #[.int .i16 (y 0), .int .i16 (y 1), .int .i16 (y 2), .int .i16 (y 3)] 30)).alloc (.cells #[.int .i8 2, .int .i8 f, .int .i8 0] 78)).alloc (.cells #[.int .i16 0, .int .i16 0, .int .i16 0, .int .i16 0] 30)
  have k1 := ((blk_new (w.alloc (.cells #[.slice (some ⟨b, off, none⟩) J.length c, .int .i16 (x 0), .int .i16 (x 1), .int .i16 (x 2), .int .i16 (x 3), .bool true] 32)) #[.int .i16 (y 0), .int .i16 (y 1), .int .i16 (y 2), .int .i16 (y 3)] 30).alloc (.cells #[.int .i8 2, .int .i8 f, .int .i8 0] 78)).alloc (.cells #[.int .i16 0, .int .i16 0, .int .i16 0, .int .i16 0] 30)
  have k2 := (blk_new ((w.alloc (.cells #[.slice (some ⟨b, off, none⟩) J.length c, .int .i16 (x 0), .int .i16 (x 1), .int .i16 (x 2), .int .i16 (x 3), .bool true] 32)).alloc (.cells #[.int .i16 (y 0), .int .i16 (y 1), .int .i16 (y 2), .int .i16 (y 3)] 30)) #[.int .i8 2, .int .i8 f, .int .i8 0] 78).alloc (.cells #[.int .i16 0, .int .i16 0, .int .i16 0, .int .i16 0] 30)
  have k3 := blk_new (((w.alloc (.cells #[.slice (some ⟨b, off, none⟩) J.length c, .int .i16 (x 0), .int .i16 (x 1), .int .i16 (x 2), .int .i16 (x 3), .bool true] 32)).alloc (.cells #[.int .i16 (y 0), .int .i16 (y 1), .int .i16 (y 2), .int .i16 (y 3)] 30)).alloc (.cells #[.int .i8 2, .int .i8 f, .int .i8 0] 78)) #[.int .i16 0, .int .i16 0, .int .i16 0, .int .i16 0] 30
  have hB := ((((Below.refl w.heap.size w).alloc (Nat.le_refl _) (.cells #[.slice (some ⟨b, off, none⟩) J.length c, .int .i16 (x 0), .int .i16 (x 1), .int .i16 (x 2), .int .i16 (x 3), .bool true] 32)).alloc (by simp) (.cells #[.int .i16 (y 0), .int .i16 (y 1), .int .i16 (y 2), .int .i16 (y 3)] 30)).alloc (by simp <;> omega) (.cells #[.int .i8 2, .int .i8 f, .int .i8 0] 78)).alloc (by simp <;> omega) (.cells #[.int .i16 0, .int .i16 0, .int .i16 0, .int .i16 0] 30)
  have hsz : w.heap.size + 4 = ((((w.alloc (.cells #[.slice (some ⟨b, off, none⟩) J.length c, .int .i16 (x 0), .int .i16 (x 1), .int .i16 (x 2), .int .i16 (x 3), .bool true] 32)).alloc (.cells #[.int .i16 (y 0), .int .i16 (y 1), .int .i16 (y 2), .int .i16 (y 3)] 30)).alloc (.cells #[.int .i8 2, .int .i8 f, .int .i8 0] 78)).alloc (.cells #[.int .i16 0, .int .i16 0, .int .i16 0, .int .i16 0] 30)).heap.size := by simp
  simp only [World.size_alloc] at k1 k2 k3
  have hc1 := hc.below hB hb
  have hb1 := Nat.lt_of_lt_of_le hb hB.size
  clear hc
  have HA := Lib.hid (fun W => actionOf_ok 2 f 0 J.length W hJ.1.2 ⟨by omega, .inr (.inr ⟨rfl, rfl⟩)⟩)
  rw [show actV 2 f 0 = .iface 126 (.agg #[.int .i8 f]) from rfl] at HA
  have HM := Lib.hid (fun W (h1 : b < W.heap.size) (h2 : At .i16 W b off J) => emptyAfter_any b off c J y f W (by have := hJ.1.2; omega))
  have hmd := fun W => method_empty f W
  have HQ := Lib.hid (fun W => eqWat_t hs W)
  clear hf hJ hs
  generalize hE : emptyX y f = E at *
  have HE := Lib.hid hE
  clear hE
  have hqq := HQ.out
  obtain ⟨p0, p1, p2, p3, p4, p5, _⟩ := k0.six
  obtain ⟨r0, r1, r2, _⟩ := k2.three
  go_enter Try.func66, Try.ntmps66
  go_wp2_with fail
  refine (HA.out _).mono ?_
  rintro e w2 ⟨rfl, hb2⟩
  have HB2 := Lib.hid (hB.trans (hb2.mono hB.size))
  replace k0 := k0.below hb2 k0.lt
  replace k1 := k1.below hb2 k1.lt
  replace k2 := k2.below hb2 k2.lt
  replace k3 := k3.below hb2 k3.lt
  have hc2 := hc1.below hb2 hb1
  have hb3 := Nat.lt_of_lt_of_le hb1 hb2.size
  clear p0 p1 p2 p3 p4 p5 r0 r1 r2 hb2 hB hc1 hb1
  obtain ⟨p0, p1, p2, p3, p4, p5, _⟩ := k0.six
  obtain ⟨q0, q1, q2, q3, _⟩ := k1.four
  obtain ⟨r0, r1, r2, _⟩ := k2.three
  obtain ⟨z0, z1, z2, z3, z4⟩ := k3.four
  go_wp2_with fail
  refine (HM.out _ hb3 hc2).mono ?_
  rintro e w3 ⟨rfl, hb2⟩
  have HB3 := Lib.hid (HB2.out.trans (hb2.mono HB2.out.size))
  replace k0 := k0.below hb2 k0.lt
  replace k1 := k1.below hb2 k1.lt
  replace k2 := k2.below hb2 k2.lt
  replace k3 := k3.below hb2 k3.lt
  clear p0 p1 p2 p3 p4 p5 q0 q1 q2 q3 r0 r1 r2 z0 z1 z2 z3 z4 hb2 HB2 hc2 hb3
  have hs3 := k3.lt
  have hs2 := k2.lt
  have hs1 := k1.lt
  have hs0 := k0.lt
  obtain ⟨p0, p1, p2, p3, p4, p5, _⟩ := k0.six
  obtain ⟨q0, q1, q2, q3, _⟩ := k1.four
  obtain ⟨r0, r1, r2, _⟩ := k2.three
  obtain ⟨z0, z1, z2, z3, z4⟩ := k3.four
  go_wp2
  refine bodyPost_ret (v := .tuple #[watV (fun _ => 0), .int .i64 4]) (by simp [results, Try.results66, go_sem, z0, z1, z2, z3, hs3]) rfl ⟨rfl, ?_⟩
  have hle : w.heap.size ≤ w.heap.size + 1 + 1 + 1 := by omega
  exact ((((HB3.out.setCell hle _).setCell hle _).setCell hle _).setCell hle _).alloc (by simp only [World.size_setCell]; exact HB3.out.size) _
theorem moved_empty_ok (b off c : Nat) (J : List Int) (x y : Nat → Int) (t : Bool) (f : Nat) (w : World) (hJ : OkJ J) (hf : f < J.length) (ht : t = true) (hb : b < w.heap.size) (hc : At .i16 w b off J) (hs : ¬ Same4 (emptyX y f) y) :
    Calls Try.prog 66 #[puzV (some ⟨b, off, none⟩) J.length c x t, watV y, movV 2 f 0] w fun e w' => e = .returned (.tuple #[watV (emptyX y f), .int .i64 0]) ∧ Below w.heap.size w w' := by
  subst ht
  have k0 := (((blk_new w #[.slice (some ⟨b, off, none⟩) J.length c, .int .i16 (x 0), .int .i16 (x 1), .int .i16 (x 2), .int .i16 (x 3), .bool true] 32).alloc (.cells #[.int .i16 (y 0), .int .i16 (y 1), .int .i16 (y 2), .int .i16 (y 3)] 30)).alloc (.cells #[.int .i8 2, .int .i8 f, .int .i8 0] 78)).alloc (.cells #[.int .i16 0, .int .i16 0, .int .i16 0, .int .i16 0] 30)
  have k1 := ((blk_new (w.alloc (.cells #[.slice (some ⟨b, off, none⟩) J.length c, .int .i16 (x 0), .int .i16 (x 1), .int .i16 (x 2), .int .i16 (x 3), .bool true] 32)) #[.int .i16 (y 0), .int .i16 (y 1), .int .i16 (y 2), .int .i16 (y 3)] 30).alloc (.cells #[.int .i8 2, .int .i8 f, .int .i8 0] 78)).alloc (.cells #[.int .i16 0, .int .i16 0, .int .i16 0, .int .i16 0] 30)
  have k2 := (blk_new ((w.alloc (.cells #[.slice (some ⟨b, off, none⟩) J.length c, .int .i16 (x 0), .int .i16 (x 1), .int .i16 (x 2), .int .i16 (x 3), .bool true] 32)).alloc (.cells #[.int .i16 (y 0), .int .i16 (y 1), .int .i16 (y 2), .int .i16 (y 3)] 30)) #[.int .i8 2, .int .i8 f, .int .i8 0] 78).alloc (.cells #[.int .i16 0, .int .i16 0, .int .i16 0, .int .i16 0] 30)
  have k3 := blk_new (((w.alloc (.cells #[.slice (some ⟨b, off, none⟩) J.length c, .int .i16 (x 0), .int .i16 (x 1), .int .i16 (x 2), .int .i16 (x 3), .bool true] 32)).alloc (.cells #[.int .i16 (y 0), .int .i16 (y 1), .int .i16 (y 2), .int .i16 (y 3)] 30)).alloc (.cells #[.int .i8 2, .int .i8 f, .int .i8 0] 78)) #[.int .i16 0, .int .i16 0, .int .i16 0, .int .i16 0] 30
  have hB := ((((Below.refl w.heap.size w).alloc (Nat.le_refl _) (.cells #[.slice (some ⟨b, off, none⟩) J.length c, .int .i16 (x 0), .int .i16 (x 1), .int .i16 (x 2), .int .i16 (x 3), .bool true] 32)).alloc (by simp) (.cells #[.int .i16 (y 0), .int .i16 (y 1), .int .i16 (y 2), .int .i16 (y 3)] 30)).alloc (by simp <;> omega) (.cells #[.int .i8 2, .int .i8 f, .int .i8 0] 78)).alloc (by simp <;> omega) (.cells #[.int .i16 0, .int .i16 0, .int .i16 0, .int .i16 0] 30)
  have hsz : w.heap.size + 4 = ((((w.alloc (.cells #[.slice (some ⟨b, off, none⟩) J.length c, .int .i16 (x 0), .int .i16 (x 1), .int .i16 (x 2), .int .i16 (x 3), .bool true] 32)).alloc (.cells #[.int .i16 (y 0), .int .i16 (y 1), .int .i16 (y 2), .int .i16 (y 3)] 30)).alloc (.cells #[.int .i8 2, .int .i8 f, .int .i8 0] 78)).alloc (.cells #[.int .i16 0, .int .i16 0, .int .i16 0, .int .i16 0] 30)).heap.size := by simp
  simp only [World.size_alloc] at k1 k2 k3
  have hc1 := hc.below hB hb
  have hb1 := Nat.lt_of_lt_of_le hb hB.size
  clear hc
  have HA := Lib.hid (fun W => actionOf_ok 2 f 0 J.length W hJ.1.2 ⟨by omega, .inr (.inr ⟨rfl, rfl⟩)⟩)
  rw [show actV 2 f 0 = .iface 126 (.agg #[.int .i8 f]) from rfl] at HA
  have HM := Lib.hid (fun W (h1 : b < W.heap.size) (h2 : At .i16 W b off J) => emptyAfter_any b off c J y f W (by have := hJ.1.2; omega))
  have hmd := fun W => method_empty f W
  have HQ := Lib.hid (fun W => eqWat_f hs W)
  clear hf hJ hs
  generalize hE : emptyX y f = E at *
  have HE := Lib.hid hE
  clear hE
  have hqq := HQ.out
  obtain ⟨p0, p1, p2, p3, p4, p5, _⟩ := k0.six
  obtain ⟨r0, r1, r2, _⟩ := k2.three
  go_enter Try.func66, Try.ntmps66
  go_wp2_with fail
  refine (HA.out _).mono ?_
  rintro e w2 ⟨rfl, hb2⟩
  have HB2 := Lib.hid (hB.trans (hb2.mono hB.size))
  replace k0 := k0.below hb2 k0.lt
  replace k1 := k1.below hb2 k1.lt
  replace k2 := k2.below hb2 k2.lt
  replace k3 := k3.below hb2 k3.lt
  have hc2 := hc1.below hb2 hb1
  have hb3 := Nat.lt_of_lt_of_le hb1 hb2.size
  clear p0 p1 p2 p3 p4 p5 r0 r1 r2 hb2 hB hc1 hb1
  obtain ⟨p0, p1, p2, p3, p4, p5, _⟩ := k0.six
  obtain ⟨q0, q1, q2, q3, _⟩ := k1.four
  obtain ⟨r0, r1, r2, _⟩ := k2.three
  obtain ⟨z0, z1, z2, z3, z4⟩ := k3.four
  go_wp2_with fail
  refine (HM.out _ hb3 hc2).mono ?_
  rintro e w3 ⟨rfl, hb2⟩
  have HB3 := Lib.hid (HB2.out.trans (hb2.mono HB2.out.size))
  replace k0 := k0.below hb2 k0.lt
  replace k1 := k1.below hb2 k1.lt
  replace k2 := k2.below hb2 k2.lt
  replace k3 := k3.below hb2 k3.lt
  clear p0 p1 p2 p3 p4 p5 q0 q1 q2 q3 r0 r1 r2 z0 z1 z2 z3 z4 hb2 HB2 hc2 hb3
  have hs3 := k3.lt
  have hs2 := k2.lt
  have hs1 := k1.lt
  have hs0 := k0.lt
  obtain ⟨p0, p1, p2, p3, p4, p5, _⟩ := k0.six
  obtain ⟨q0, q1, q2, q3, _⟩ := k1.four
  obtain ⟨r0, r1, r2, _⟩ := k2.three
  obtain ⟨z0, z1, z2, z3, z4⟩ := k3.four
  go_wp2
  refine bodyPost_ret (v := .tuple #[watV (E), .int .i64 0]) (by simp [results, Try.results66, go_sem, z0, z1, z2, z3, hs3]) rfl ⟨rfl, ?_⟩
  have hle : w.heap.size ≤ w.heap.size + 1 + 1 + 1 := by omega
  exact ((((HB3.out.setCell hle _).setCell hle _).setCell hle _).setCell hle _).alloc (by simp only [World.size_setCell]; exact HB3.out.size) _
theorem moved_any (b off c : Nat) (J : List Int) (x y : Nat → Int) (t : Bool) (k f g : Int) (w : World) (hJ : OkJ J) (hy : OkX J y) (hf : -128 ≤ f ∧ f ≤ 127) (hg : -128 ≤ g ∧ g ≤ 127) (hb : b < w.heap.size) (hc : At .i16 w b off J) :
    Calls Try.prog 66 #[puzV (some ⟨b, off, none⟩) J.length c x t, watV y, movV k f g] w fun e w' => e = .returned (.tuple #[watV (movX J t y k f g), .int .i64 (movC J t y k f g)]) ∧ Below w.heap.size w w' := by
  unfold movX
  by_cases hm : OkM J.length k f g
  rotate_left
  · rw [movC_bad hm]
    exact moved_none b off c J x y t k f g w hJ hf hg hb hc hm
  by_cases h2 : k ≠ 0 ∧ t = false
  · rw [movC_tap hm h2]
    exact moved_tap b off c J x y t k f g w hJ hb hc hm h2.1 h2.2
  by_cases hs : Same4 (nextX J y k f g) y
  · rw [movC_same hm hs]
    obtain ⟨hf0, hm2⟩ := hm
    obtain ⟨fn, rfl⟩ : ∃ fn : Nat, f = fn := ⟨f.toNat, by omega⟩
    rcases hm2 with ⟨rfl, hg0⟩ | ⟨rfl, rfl⟩ | ⟨rfl, rfl⟩
    · obtain ⟨gn, rfl⟩ : ∃ gn : Nat, g = gn := ⟨g.toNat, by omega⟩
      exact moved_pour_same b off c J x y t fn gn w hJ hy (by omega) (by omega) hb hc (by simpa [nextX] using hs)
    · exact moved_fill_same b off c J x y t fn w hJ (by omega) (by cases t <;> simp_all) hb hc (by simpa [nextX] using hs)
    · exact moved_empty_same b off c J x y t fn w hJ (by omega) (by cases t <;> simp_all) hb hc (by simpa [nextX] using hs)
  · rw [movC_ok hm h2 hs]
    rw [if_pos rfl]
    obtain ⟨hf0, hm2⟩ := hm
    obtain ⟨fn, rfl⟩ : ∃ fn : Nat, f = fn := ⟨f.toNat, by omega⟩
    rcases hm2 with ⟨rfl, hg0⟩ | ⟨rfl, rfl⟩ | ⟨rfl, rfl⟩
    · obtain ⟨gn, rfl⟩ : ∃ gn : Nat, g = gn := ⟨g.toNat, by omega⟩
      rw [show nextX J y 0 fn gn = pourX J y fn gn by simp [nextX]] at hs ⊢
      exact moved_pour_ok b off c J x y t fn gn w hJ hy (by omega) (by omega) hb hc hs
    · rw [show nextX J y 1 fn 0 = fillX J y fn by simp [nextX]] at hs ⊢
      exact moved_fill_ok b off c J x y t fn w hJ (by omega) (by cases t <;> simp_all) hb hc hs
    · rw [show nextX J y 2 fn 0 = emptyX y fn by simp [nextX]] at hs ⊢
      exact moved_empty_ok b off c J x y t fn w hJ (by omega) (by cases t <;> simp_all) hb hc hs
end Go.Proofs.Ytjmgalmndpjcoaa
