/-
  The walks of MovesFrom, in the program and in its model.
-/
import Derived.Test.YtodbbdfgbkbfbaaMvDel
import Derived.Test.YtodbbdfgbkbfbaaDoMoves
namespace Go.Proofs.Ytodbbdfgbkbfbaa
open Go.RowKit
set_option maxRecDepth 100000
set_option linter.unusedVariables false

noncomputable def mfL (J : List Int) (x y : Nat → Int) (t : Bool) : List Mv := if okW2 J x y = true then kp J t y (allM J.length) else []
noncomputable def mfC (J : List Int) (x y : Nat → Int) : Int := if okW2 J x y = true then 0 else 1
/-- A list of moves that a call has made, or an empty one. -/
def OwnX (B : Nat) (w : World) (v : Value) (ms : List Mv) : Prop := ∃ a c, v = .slice a ms.length c ∧ (ms = [] ∨ ∃ g, a = some ⟨g, 0, none⟩ ∧ B ≤ g ∧ g < w.heap.size ∧ MAt w g 0 ms ∧ ∀ j, w.frozen? ⟨g, j, none⟩ = false)
def fits (m : Mv) : Bool := decide (-128 ≤ m.1 ∧ m.1 ≤ 127) && decide (-128 ≤ m.2.1 ∧ m.2.1 ≤ 127) && decide (-128 ≤ m.2.2 ∧ m.2.2 ≤ 127)
theorem allM_fits : (allM 1).all fits = true ∧ (allM 2).all fits = true ∧ (allM 3).all fits = true ∧ (allM 4).all fits = true := by decide
theorem mall_of {ms : List Mv} (h : ms.all fits = true) : Mall ms := fun j => by
  by_cases hj : j < ms.length
  · have e : mvI ms j = ms[j] := by simp [mvI, List.getD_eq_getElem?_getD, List.getElem?_eq_getElem hj]
    have := List.all_eq_true.1 h ms[j] (List.getElem_mem hj)
    rw [e]
    simp only [fits, Bool.and_eq_true, decide_eq_true_eq] at this
    exact ⟨this.1.1, this.1.2, this.2⟩
  · have e : mvI ms j = (0, 0, 0) := by simp [mvI, List.getD_eq_getElem?_getD, List.getElem?_eq_none (show ms.length ≤ j by omega)]
    rw [e]
    exact zero_M8
theorem allM_mall {n : Nat} (hn : 1 ≤ n ∧ n ≤ 4) : Mall (allM n) := by
  obtain ⟨a, b, c, d⟩ := allM_fits
  match n, hn with
  | 1, _ => exact mall_of a
  | 2, _ => exact mall_of b
  | 3, _ => exact mall_of c
  | 4, _ => exact mall_of d
theorem movesFrom_any (b off c : Nat) (J : List Int) (x y : Nat → Int) (t : Bool) (w : World) (hn : J.length ≤ 1048576) (hb : b < w.heap.size) (hc : At .i16 w b off J) (hi : I16 J) :
    Calls Try.prog 20 #[puzV (some ⟨b, off, none⟩) J.length c x t, watV y] w fun e w' => ∃ v, e = .returned (.tuple #[v, .int .i64 (mfC J x y)]) ∧ OwnX w.heap.size w' v (mfL J x y t) ∧ Below w.heap.size w w' := by
  have k0 := (blk_new w #[.slice (some ⟨b, off, none⟩) J.length c, .int .i16 (x 0), .int .i16 (x 1), .int .i16 (x 2), .int .i16 (x 3), .bool t] 35).alloc (.cells #[.int .i16 (y 0), .int .i16 (y 1), .int .i16 (y 2), .int .i16 (y 3)] 31)
  have k1 := blk_new (w.alloc (.cells #[.slice (some ⟨b, off, none⟩) J.length c, .int .i16 (x 0), .int .i16 (x 1), .int .i16 (x 2), .int .i16 (x 3), .bool t] 35)) #[.int .i16 (y 0), .int .i16 (y 1), .int .i16 (y 2), .int .i16 (y 3)] 31
  have hB := ((Below.refl w.heap.size w).alloc (Nat.le_refl _) (.cells #[.slice (some ⟨b, off, none⟩) J.length c, .int .i16 (x 0), .int .i16 (x 1), .int .i16 (x 2), .int .i16 (x 3), .bool t] 35)).alloc (by simp) (.cells #[.int .i16 (y 0), .int .i16 (y 1), .int .i16 (y 2), .int .i16 (y 3)] 31)
  have hsz : w.heap.size + 2 = ((w.alloc (.cells #[.slice (some ⟨b, off, none⟩) J.length c, .int .i16 (x 0), .int .i16 (x 1), .int .i16 (x 2), .int .i16 (x 3), .bool t] 35)).alloc (.cells #[.int .i16 (y 0), .int .i16 (y 1), .int .i16 (y 2), .int .i16 (y 3)] 31)).heap.size := by simp
  simp only [World.size_alloc] at k1
  have hc1 := hc.below hB hb
  have hb1 := Nat.lt_of_lt_of_le hb hB.size
  have HV := Lib.hid (fun W (h1 : b < W.heap.size) (h2 : At .i16 W b off J) => validWater_any b off c J x y t W hn h1 h2 hi)
  unfold mfC mfL
  clear hc
  cases hok : okW2 J x y
  · rw [hok] at HV
    clear hok
    simp only [Bool.false_eq_true, if_false]
    obtain ⟨c0, c1, c2, c3, c4, c5, -⟩ := k0.six
    obtain ⟨d0, d1, d2, d3, -⟩ := k1.four
    go_enter Try.func20, Try.ntmps20
    go_wp2_with fail
    refine (HV.out _ hb1 hc1).mono ?_
    rintro e w2 ⟨rfl, hb2⟩
    have HB2 := Lib.hid (hB.trans (hb2.mono hB.size))
    clear hb2 hB hc1 hb1
    go_wp2
    go_ret2
    exact ⟨_, rfl, ⟨none, 0, rfl, .inl rfl⟩, HB2.out⟩
  · rw [hok] at HV
    obtain ⟨hJ, hy⟩ := okW2_ofd hok
    clear hok
    simp only [if_true]
    have hl := hJ.1
    have HE := Lib.hid (fun W => everyMove_any J.length W hl)
    have HD := Lib.hid (fun g cc W (h : MfK w b off c J x y t w.heap.size (w.heap.size + 1) W) (hcc : (allM J.length).length ≤ cc) (hg : g < W.heap.size) (hc : MAt W g 0 (allM J.length)) (hfr : ∀ j, W.frozen? ⟨g, j, none⟩ = false) (h2 : w.heap.size + 1 < g) (h3 : b < g) => deleteFunc_any w b off c J x y t w.heap.size (w.heap.size + 1) g cc (allM J.length) W hJ hy (allM_mall hl) (allM_len _ hl.2) hcc h hg hc hfr (by omega) h2 h3)
    have HJ := Lib.hid (And.intro hJ hy)
    clear hJ hy
    obtain ⟨c0, c1, c2, c3, c4, c5, -⟩ := k0.six
    obtain ⟨d0, d1, d2, d3, -⟩ := k1.four
    go_enter Try.func20, Try.ntmps20
    go_wp2_with fail
    refine (HV.out _ hb1 hc1).mono ?_
    rintro e w2 ⟨rfl, hb2⟩
    have hBB := hB.trans (hb2.mono hB.size)
    replace k0 := k0.below hb2 k0.lt
    replace k1 := k1.below hb2 k1.lt
    replace hc1 := hc1.below hb2 hb1
    replace hb1 := Nat.lt_of_lt_of_le hb1 hb2.size
    clear c0 c1 c2 c3 c4 c5 d0 d1 d2 d3 hb2 hB
    obtain ⟨c0, c1, c2, c3, c4, c5, -⟩ := k0.six
    obtain ⟨d0, d1, d2, d3, -⟩ := k1.four
    go_wp2_with fail
    refine (HE.out w2).mono ?_
    rintro e w3 ⟨v, rfl, hO, hb3⟩
    obtain ⟨g, cc, rfl, hcc, hg0, hg1, hMA, hFR⟩ := hO
    have hK : MfK w b off c J x y t w.heap.size (w.heap.size + 1) w3 := ⟨k0.below hb3 k0.lt, k1.below hb3 k1.lt, Nat.lt_of_lt_of_le hb1 hb3.size, hc1.below hb3 hb1⟩
    have hB3 := hBB.trans (hb3.mono hBB.size)
    have hgw : w.heap.size + 1 < g := Nat.lt_of_lt_of_le k1.lt hg0
    have hbg : b < g := by omega
    have HDD := Lib.hid (HD.out g cc w3 hK hcc hg1 hMA hFR hgw hbg)
    have hs0 := hK.pb.lt
    clear hMA hFR hK c0 c1 c2 c3 c4 c5 d0 d1 d2 d3 k0 k1 hc1 hb1 hb3 hBB
    go_wp2_with fail
    refine HDD.out.mono ?_
    rintro e w4 ⟨rfl, hg4, hM4, hF4, hb4⟩
    have HR := Lib.hid (And.intro hg4 (And.intro hM4 hF4))
    have HB4 := Lib.hid (hB3.trans (hb4.mono (by omega)))
    clear hM4 hF4 hb4
    go_wp2
    go_ret2
    exact ⟨_, rfl, ⟨_, _, rfl, .inr ⟨g, rfl, by omega, HR.out.1, HR.out.2.1, HR.out.2.2⟩⟩, HB4.out⟩
end Go.Proofs.Ytodbbdfgbkbfbaa
