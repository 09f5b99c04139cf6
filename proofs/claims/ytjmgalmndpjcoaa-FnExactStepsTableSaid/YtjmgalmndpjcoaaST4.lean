/-
  StepsTable, both sides.
-/
import Derived.Test.YtjmgalmndpjcoaaST3
import Derived.Test.YtjmgalmndpjcoaaOwn
namespace Go.Proofs.Ytjmgalmndpjcoaa
open Go.RowKit
set_option maxRecDepth 100000
set_option linter.unusedVariables false

noncomputable def stL (J : List Int) (x : Nat → Int) (t : Bool) : List Int := if okZ J x = true then (gsJ J x t).tb else []
theorem ownV_of_blk {B T c n : Nat} {W : World} {t : TypeId} {xs : List Int} (h : Blk W T (ncells .i16 xs) t) (hB : B ≤ T) (hn : n = xs.length) : OwnV .i16 B W (.slice (some ⟨T, 0, none⟩) n c) xs := by
  subst hn
  exact .inr ⟨T, c, rfl, hB, h.lt, fun j hj => by rw [Nat.zero_add]; exact (h.cell j).trans (ncells_get _ _ _ hj), h.free⟩
theorem specStepsTable_any (b off c : Nat) (J : List Int) (x : Nat → Int) (t : Bool) (w : World) (hn : J.length ≤ 1048576) (hb : b < w.heap.size) (hc : At .i16 w b off J) :
    Calls Try.prog 10 #[puzV (some ⟨b, off, none⟩) J.length c x t] w fun e w' => ∃ v, e = .returned (.tuple #[v, .int .i64 (codZ J x)]) ∧ OwnV .i16 w.heap.size w' v (stL J x t) ∧ Below w.heap.size w w' := by
  have k0 := blk_new w #[.slice (some ⟨b, off, none⟩) J.length c, .int .i16 (x 0), .int .i16 (x 1), .int .i16 (x 2), .int .i16 (x 3), .bool t] 32
  have hB := (Below.refl w.heap.size w).alloc (Nat.le_refl _) (.cells #[.slice (some ⟨b, off, none⟩) J.length c, .int .i16 (x 0), .int .i16 (x 1), .int .i16 (x 2), .int .i16 (x 3), .bool t] 32)
  have hc1 := hc.below hB hb
  have hb1 := Nat.lt_of_lt_of_le hb hB.size
  have HO := Lib.hid (l02Ok_any w.heap.size b off c J x t _ hn hb1 hc1 k0)
  unfold stL codZ
  clear hc
  cases hok : okZ J x
  · rw [hok] at HO
    simp only [Bool.false_eq_true, if_false]
    clear hok
    go_enter Try.func10, Try.ntmps10
    go_wp2_with fail
    refine HO.out.mono ?_
    rintro e w2 ⟨rfl, hb2⟩
    have HB2 := Lib.hid (hB.trans (hb2.mono hB.size))
    clear hb2 hB HO
    go_wp2
    go_ret2
    exact ⟨_, rfl, OwnV.nil _ _ _ _ _, HB2.out.alloc HB2.out.size _⟩
  · rw [hok] at HO
    simp only [if_true]
    have hJ := okZ_J hok
    have hx := okZ_X hok
    clear hok
    have hI := gsJ_inv (t := t) hJ hx
    have HFD := Lib.hid (fun W2 (h1 : b < W2.heap.size) (h2 : At .i16 W2 b off J) (h3 : Blk W2 w.heap.size _ _) => (show Calls Try.prog 38 _ W2 fun e w' => ∃ S T Z U v, e = .returned (.pointer (some ⟨S, 0, none⟩)) ∧ JMem J.length (nW J) [] W2 S T Z U v (gsJ J x t) w' from l02Find_any w.heap.size b off c J x t W2 hJ hx h1 h2 h3))
    generalize gsJ J x t = s at *
    have HI := Lib.hid hI.tb
    clear hI hx hJ
    go_enter Try.func10, Try.ntmps10
    go_wp2_with fail
    refine HO.out.mono ?_
    rintro e w2 ⟨rfl, hb2⟩
    have hB2 := hB.trans (hb2.mono hB.size)
    replace k0 := k0.below hb2 k0.lt
    replace hc1 := hc1.below hb2 hb1
    replace hb1 := Nat.lt_of_lt_of_le hb1 hb2.size
    clear hb2 hB HO
    go_wp2_with fail
    refine (HFD.out _ hb1 hc1 k0).mono ?_
    rintro e w4 ⟨S, T, Z, U, v, rfl, hM⟩
    have HB4 := Lib.hid (hB2.trans (hM.below.mono hB2.size))
    have HV := Lib.hid (ownV_of_blk (c := nW J) hM.bT (Nat.le_trans hB2.size hM.lo.2.1) HI.out.symm)
    obtain ⟨s0, s1, s2, s3, -⟩ := hM.bS.four
    clear hM k0 hc1 hb1 HFD hB2
    go_wp2
    go_ret2
    exact ⟨_, rfl, HV.out, HB4.out⟩
theorem stepsTableI_any (b off c : Nat) (J : List Int) (x : Nat → Int) (t : Bool) (w : World) (hn : J.length ≤ 1048576) (hb : b < w.heap.size) (hc : At .i16 w b off J) (hi : I16 J) :
    Calls Try.prog 12 #[puzV (some ⟨b, off, none⟩) J.length c x t] w fun e w' => ∃ v, e = .returned (.tuple #[v, .int .i64 (codZ J x)]) ∧ OwnV .i16 w.heap.size w' v (stL J x t) ∧ Below w.heap.size w w' := by
  have k0 := blk_new w #[.slice (some ⟨b, off, none⟩) J.length c, .int .i16 (x 0), .int .i16 (x 1), .int .i16 (x 2), .int .i16 (x 3), .bool t] 32
  have hB := (Below.refl w.heap.size w).alloc (Nat.le_refl _) (.cells #[.slice (some ⟨b, off, none⟩) J.length c, .int .i16 (x 0), .int .i16 (x 1), .int .i16 (x 2), .int .i16 (x 3), .bool t] 32)
  have hc1 := hc.below hB hb
  have hb1 := Nat.lt_of_lt_of_le hb hB.size
  have HO := Lib.hid (validPuzzle_any b off c J x t _ hn hb1 hc1 hi)
  unfold stL codZ
  clear hc
  obtain ⟨c0, c1, c2, c3, c4, c5, -⟩ := k0.six
  cases hok : okZ J x
  · rw [hok] at HO
    simp only [Bool.false_eq_true, if_false]
    clear hok
    go_enter Try.func12, Try.ntmps12
    go_wp2_with fail
    refine HO.out.mono ?_
    rintro e w2 ⟨rfl, hb2⟩
    have HB2 := Lib.hid (hB.trans (hb2.mono hB.size))
    clear hb2 hB HO c0 c1 c2 c3 c4 c5
    go_wp2
    go_ret2
    exact ⟨_, rfl, OwnV.nil _ _ _ _ _, HB2.out⟩
  · rw [hok] at HO
    simp only [if_true]
    have hJ := okZ_J hok
    have hx := okZ_X hok
    clear hok
    have HI := Lib.hid (gsJ_inv (t := t) hJ hx).tb
    have HFD := Lib.hid (fun W2 (h1 : b < W2.heap.size) (h2 : At .i16 W2 b off J) => stepsTable_any b off c J x t W2 hJ hx h1 h2)
    generalize gsJ J x t = s at *
    clear hx hJ
    go_enter Try.func12, Try.ntmps12
    go_wp2_with fail
    refine HO.out.mono ?_
    rintro e w2 ⟨rfl, hb2⟩
    have hB2 := hB.trans (hb2.mono hB.size)
    replace k0 := k0.below hb2 k0.lt
    replace hc1 := hc1.below hb2 hb1
    replace hb1 := Nat.lt_of_lt_of_le hb1 hb2.size
    clear hb2 hB HO c0 c1 c2 c3 c4 c5
    obtain ⟨c0, c1, c2, c3, c4, c5, -⟩ := k0.six
    go_wp2_with fail
    refine (HFD.out _ hb1 hc1).mono ?_
    rintro e w4 ⟨h, rfl, hh, hT, hb4⟩
    have HB4 := Lib.hid (hB2.trans (hb4.mono hB2.size))
    have HV := Lib.hid (ownV_of_blk (c := nW J) hT (Nat.le_trans hB2.size hh) HI.out.symm)
    clear hT k0 hc1 hb1 HFD hB2 hb4 c0 c1 c2 c3 c4 c5
    go_wp2
    go_ret2
    exact ⟨_, rfl, HV.out, HB4.out⟩
end Go.Proofs.Ytjmgalmndpjcoaa
