/-
  ReachedStates, both sides.
-/
import Derived.Test.YtjmgalmndpjcoaaJS5
namespace Go.Proofs.Ytjmgalmndpjcoaa
open Go.RowKit
set_option maxRecDepth 100000
set_option linter.unusedVariables false

/-- The search of a puzzle. -/
noncomputable def gsJ (J : List Int) (x : Nat → Int) (t : Bool) : GS := GS.all (nxJ J t) (allM J.length).length (nW J) (ixN J x)
theorem gsJ_inv {J : List Int} {x : Nat → Int} {t : Bool} (hJ : OkJ J) (hx : OkX J x) : GInv (nW J) (allM J.length).length (gsJ J x t) := GInv.all (ixN_eq hJ hx).2 (nxJ_lt hJ)
theorem gsJ_pos {J : List Int} {x : Nat → Int} {t : Bool} (hJ : OkJ J) (hx : OkX J x) : 0 < (gsJ J x t).q.length := by
  have h := ((GInv.first (N := nW J) (M := (allM J.length).length) (ixN_eq hJ hx).2).run (nxJ_lt (t := t) hJ) (nW J)).2.length_le
  exact Nat.lt_of_lt_of_le (by decide : 0 < 1) h
theorem okZ_X {J : List Int} {x : Nat → Int} (h : okZ J x = true) : OkX J x := (of_cb (p := OkZ J x) h).2
theorem field_res0 (a : Option Addr) (n c : Nat) (m : Option Nat) (w : World) : (Instr.field 74 (.agg #[.slice a n c, .map m]) 0).run Try.prog w = .ok (.slice a n c) w := by kernel_rfl
theorem field_res1 (a : Option Addr) (n c : Nat) (m : Option Nat) (w : World) : (Instr.field 74 (.agg #[.slice a n c, .map m]) 1).run Try.prog w = .ok (.map m) w := by kernel_rfl
noncomputable def rsV (J : List Int) (x : Nat → Int) (t : Bool) : Int := if okZ J x = true then ((gsJ J x t).q.length : Nat) else 0
theorem specReachedStates_any (b off c : Nat) (J : List Int) (x : Nat → Int) (t : Bool) (w : World) (hn : J.length ≤ 1048576) (hb : b < w.heap.size) (hc : At .i16 w b off J) :
    Calls Try.prog 34 #[puzV (some ⟨b, off, none⟩) J.length c x t] w fun e w' => e = .returned (.tuple #[.int .i64 (rsV J x t), .int .i64 (codZ J x)]) ∧ Below w.heap.size w w' := by
  have hB := (Below.refl w.heap.size w).alloc (Nat.le_refl _) (.cells #[.slice (some ⟨b, off, none⟩) J.length c, .int .i16 (x 0), .int .i16 (x 1), .int .i16 (x 2), .int .i16 (x 3), .bool t] 32)
  have k0 := blk_new w #[.slice (some ⟨b, off, none⟩) J.length c, .int .i16 (x 0), .int .i16 (x 1), .int .i16 (x 2), .int .i16 (x 3), .bool t] 32
  have hb1 := Nat.lt_of_lt_of_le hb hB.size
  have hc1 := hc.below hB hb
  have HO := Lib.hid (l02Ok_any w.heap.size b off c J x t _ hn hb1 hc1 k0)
  have HB := Lib.hid hB
  have HX := Lib.hid (And.intro k0 hc1)
  clear hB hc k0 hc1
  unfold codZ rsV
  cases hok : okZ J x
  · rw [hok] at HO
    clear hok
    simp only [Bool.false_eq_true, if_false]
    go_enter Try.func34, Try.ntmps34
    go_wp2_with fail
    refine HO.out.mono ?_
    rintro e w2 ⟨rfl, hb2⟩
    have HB2 := Lib.hid (HB.out.trans (hb2.mono HB.out.size))
    clear hb2
    go_wp2
    go_ret2
    exact ⟨rfl, HB2.out⟩
  · rw [hok] at HO
    have hJ := okZ_J hok
    have hx := okZ_X hok
    have hpos := gsJ_pos (t := t) hJ hx
    have hsh := (gsJ_inv (t := t) hJ hx).short
    have hnw := (nW_eq hJ).2.2
    have HJ := Lib.hid (And.intro hJ hx)
    clear hok hJ hx
    have HFD := Lib.hid (fun W2 (h1 : b < W2.heap.size) (h2 : At .i16 W2 b off J) (h3 : Blk W2 w.heap.size _ _) => (show Calls Try.prog 38 _ W2 fun e w' => ∃ S T Z U v, e = .returned (.pointer (some ⟨S, 0, none⟩)) ∧ JMem J.length (nW J) [] W2 S T Z U v (gsJ J x t) w' from l02Find_any w.heap.size b off c J x t W2 HJ.out.1 HJ.out.2 h1 h2 h3))
    simp only [if_true]
    generalize gsJ J x t = s at *
    go_enter Try.func34, Try.ntmps34
    go_wp2_with fail
    refine HO.out.mono ?_
    rintro e w2 ⟨rfl, hb2⟩
    have HB2 := Lib.hid (HB.out.trans (hb2.mono HB.out.size))
    have HF := Lib.hid (HFD.out w2 (Nat.lt_of_lt_of_le hb1 hb2.size) (HX.out.2.below hb2 hb1) (HX.out.1.below hb2 HX.out.1.lt))
    clear hb2 hb1
    go_wp2_with fail
    refine HF.out.mono ?_
    rintro e w3 ⟨S, T, Z, U, v, rfl, hM⟩
    obtain ⟨g, cap, rfl, -, -⟩ := hM.own.form hpos
    obtain ⟨s0, s1, s2, s3, -⟩ := hM.bS.four
    have HB3 := Lib.hid (HB2.out.trans (hM.below.mono HB2.out.size))
    clear hM HF
    go_wp2
    go_ret2
    exact ⟨rfl, HB3.out⟩
theorem reachedStates_any (b off c : Nat) (J : List Int) (x : Nat → Int) (t : Bool) (w : World) (hn : J.length ≤ 1048576) (hb : b < w.heap.size) (hc : At .i16 w b off J) (hi : I16 J) :
    Calls Try.prog 35 #[puzV (some ⟨b, off, none⟩) J.length c x t] w fun e w' => e = .returned (.tuple #[.int .i64 (rsV J x t), .int .i64 (codZ J x)]) ∧ Below w.heap.size w w' := by
  have hB := (Below.refl w.heap.size w).alloc (Nat.le_refl _) (.cells #[.slice (some ⟨b, off, none⟩) J.length c, .int .i16 (x 0), .int .i16 (x 1), .int .i16 (x 2), .int .i16 (x 3), .bool t] 32)
  have k0 := blk_new w #[.slice (some ⟨b, off, none⟩) J.length c, .int .i16 (x 0), .int .i16 (x 1), .int .i16 (x 2), .int .i16 (x 3), .bool t] 32
  have hb1 := Nat.lt_of_lt_of_le hb hB.size
  have hc1 := hc.below hB hb
  have HO := Lib.hid (validPuzzle_any b off c J x t _ hn hb1 hc1 hi)
  have HB := Lib.hid hB
  have HX := Lib.hid (And.intro k0 hc1)
  clear hB hc k0 hc1
  unfold codZ rsV
  cases hok : okZ J x
  · rw [hok] at HO
    clear hok
    simp only [Bool.false_eq_true, if_false]
    go_enter Try.func35, Try.ntmps35
    go_wp2_with fail
    refine HO.out.mono ?_
    rintro e w2 ⟨rfl, hb2⟩
    have HB2 := Lib.hid (HB.out.trans (hb2.mono HB.out.size))
    clear hb2
    go_wp2
    go_ret2
    exact ⟨rfl, HB2.out⟩
  · rw [hok] at HO
    have hJ := okZ_J hok
    have hx := okZ_X hok
    have hsh := (gsJ_inv (t := t) hJ hx).short
    have hnw := (nW_eq hJ).2.2
    have HJ := Lib.hid (And.intro hJ hx)
    clear hok hJ hx
    have HFD := Lib.hid (fun W2 (h1 : b < W2.heap.size) (h2 : At .i16 W2 b off J) => (show Calls Try.prog 46 _ W2 fun e w' => ∃ R mb g cap, e = .returned (.agg #[.slice (some ⟨g, 0, none⟩) (gsJ J x t).q.length cap, .map (some mb)]) ∧ PMem J [] W2 R mb (.slice (some ⟨g, 0, none⟩) (gsJ J x t).q.length cap) (gsJ J x t) (gsJ J x t).q w' from search_any b off c J x t W2 HJ.out.1 HJ.out.2 h1 h2))
    simp only [if_true]
    generalize gsJ J x t = s at *
    go_enter Try.func35, Try.ntmps35
    go_wp2_with fail
    refine HO.out.mono ?_
    rintro e w2 ⟨rfl, hb2⟩
    have HB2 := Lib.hid (HB.out.trans (hb2.mono HB.out.size))
    have HF := Lib.hid (HFD.out w2 (Nat.lt_of_lt_of_le hb1 hb2.size) (HX.out.2.below hb2 hb1))
    obtain ⟨c0, c1, c2, c3, c4, c5, -⟩ := (HX.out.1.below hb2 HX.out.1.lt).six
    clear hb2 hb1
    have hfl := field_res0
    go_wp2_with fail
    refine HF.out.mono ?_
    rintro e w3 ⟨R, mb, g, cap, rfl, hM⟩
    have HB3 := Lib.hid (HB2.out.trans (hM.below.mono HB2.out.size))
    clear hM HF
    go_wp2
    go_ret2
    exact ⟨rfl, HB3.out⟩
end Go.Proofs.Ytjmgalmndpjcoaa
