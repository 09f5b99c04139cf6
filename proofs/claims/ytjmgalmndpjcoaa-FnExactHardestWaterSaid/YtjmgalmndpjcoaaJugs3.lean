/-
  The walks of ValidPuzzle and ValidWater, in the program and in its model.
-/
import Derived.Test.YtjmgalmndpjcoaaJugs2
import Derived.StillTailTactics
namespace Go.Proofs.Ytjmgalmndpjcoaa
open Go.RowKit
set_option maxRecDepth 100000

theorem Calls.still_same {P : Program} {f : FuncId} {args : Array Value} {w : World} {v : Ending} (h : Calls P f args w fun e w' => e = v ∧ w = w') : Calls P f args w fun e w' => e = v ∧ w' = w :=
  h.mono fun _ _ ⟨a, b⟩ => ⟨a, b.symm⟩
theorem validPuzzle_any (b off c : Nat) (J : List Int) (x : Nat → Int) (t : Bool) (w : World) (hn : J.length ≤ 1048576) (hb : b < w.heap.size) (hc : At .i16 w b off J) (hi : I16 J) :
    Calls Try.prog 40 #[puzV (some ⟨b, off, none⟩) J.length c x t] w fun e w' => e = .returned (.bool (okZ J x)) ∧ Below w.heap.size w w' := by
  have hB := (Below.refl w.heap.size w).alloc (Nat.le_refl _) (.cells #[.slice (some ⟨b, off, none⟩) J.length c, .int .i16 (x 0), .int .i16 (x 1), .int .i16 (x 2), .int .i16 (x 3), .bool t] 32)
  have HC := Lib.hid (hc.below hB hb)
  have HV := Lib.hid (fun W (h : At .i16 W b off J) => validJugs_any b off c J W hn h hi)
  rw [okZ_eq]
  clear hc hi
  cases hok : okJ J
  · rw [hok] at HV
    clear hok
    simp only [Bool.false_and]
    have HB := Lib.hid hB
    clear hB
    go_enter Try.func40, Try.ntmps40
    go_wp2_with (go_at_call 60; refine (HV.out _ HC.out).mono ?_; rintro e w' ⟨rfl, rfl⟩)
    go_ret
    exact ⟨rfl, HB.out⟩
  · rw [hok] at HV
    have hl := (of_okJ hok).1.2
    have HH := Lib.hid (canHold_any b off c J x _ hl (Nat.lt_of_lt_of_le hb hB.size) HC.out)
    have HB := Lib.hid hB
    clear hok hB
    simp only [Bool.true_and]
    go_enter Try.func40, Try.ntmps40
    go_wp2_with (go_at_call 60; refine (HV.out _ HC.out).mono ?_; rintro e w' ⟨rfl, rfl⟩)
    refine HH.out.mono ?_
    rintro e w2 ⟨rfl, hb2⟩
    have HB2 := Lib.hid (HB.out.trans (hb2.mono HB.out.size))
    clear hb2
    go_wp2
    go_ret
    exact ⟨rfl, HB2.out⟩
theorem l02Ok_any (g b off c : Nat) (J : List Int) (x : Nat → Int) (t : Bool) (w : World) (hn : J.length ≤ 1048576) (hb : b < w.heap.size) (hc : At .i16 w b off J)
    (hg : Blk w g #[.slice (some ⟨b, off, none⟩) J.length c, .int .i16 (x 0), .int .i16 (x 1), .int .i16 (x 2), .int .i16 (x 3), .bool t] 32) :
    Calls Try.prog 37 #[.pointer (some ⟨g, 0, none⟩)] w fun e w' => e = .returned (.bool (okZ J x)) ∧ Below w.heap.size w w' := by
  have HV := Lib.hid (fun W (h : At .i16 W b off J) => l02States_any b off c J W hn h)
  rw [okZ_eq]
  clear hn
  obtain ⟨c0, c1, c2, c3, c4, c5, _⟩ := hg.six
  cases hok : okJ J
  · have hs : ¬ 0 < stV J := fun h => by rw [okJ_of (stV_pos.1 h)] at hok; cases hok
    clear hok
    simp only [Bool.false_and]
    generalize stV J = S at *
    have hd : decide (0 < S) = false := by simpa using hs
    have HC := Lib.hid hc
    clear hc
    go_enter Try.func37, Try.ntmps37
    go_wp2
    go_quiet ((go_at_call 57; (exact Calls.quiet_same (HV.out _ (HC.out.drewN _)))))
    go_wp2
    go_ret
    exact ⟨rfl, below_drewN (Below.refl _ _) _⟩
  · have hs : 0 < stV J := stV_pos.2 (of_okJ hok)
    have hl := (of_okJ hok).1.2
    clear hok
    simp only [Bool.true_and]
    have HW := Lib.hid (fun W (hW : b < W.heap.size) (h : At .i16 W b off J) => l02Water_any b off c J x W hW h)
    generalize stV J = S at *
    generalize okX J x = R at *
    have hd : decide (0 < S) = true := by simpa using hs
    have HD := Lib.hid (show At .i16 w.drew b off J from hc)
    clear hc
    go_enter Try.func37, Try.ntmps37
    go_wp2
    refine wp_region_still_tail 15 (by kernel_rfl) (by kernel_rfl) ?_
    simp only [List.take_succ_cons, List.take_zero, List.drop_succ_cons, List.drop_zero]
    iterate 4 still_step
    still_call (Calls.still_same (HV.out w.drew HD.out))
    repeat still_step
    refine wpStill_nil ?_
    have HB := Lib.hid (show Below w.heap.size w w.drew from (Below.refl _ _).drew)
    have hb' : b < w.drew.heap.size := hb
    clear c0 c1 c2 c3 c4 c5 HV hg hb
    change wpList _ _ _ _ _ w.drew
    generalize w.drew = w2 at *
    go_wp2_with fail
    refine (HW.out w2 hb' HD.out).mono ?_
    rintro e w3 ⟨rfl, hb3⟩
    have HB2 := Lib.hid (HB.out.trans (hb3.mono HB.out.size))
    clear hb3
    go_wp2
    go_ret
    exact ⟨rfl, HB2.out⟩
end Go.Proofs.Ytjmgalmndpjcoaa
