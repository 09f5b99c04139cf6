/-
  The walk of WayToAmount.
-/
import Derived.Test.YtjmgalmndpjcoaaWA2
namespace Go.Proofs.Ytjmgalmndpjcoaa
open Go.RowKit
set_option maxRecDepth 100000
set_option linter.unusedVariables false

set_option maxHeartbeats 2000000 in
theorem wayToAmount_any (b off c : Nat) (J : List Int) (x : Nat → Int) (t : Bool) (am : Int) (w : World) (hn : J.length ≤ 1048576) (hb : b < w.heap.size) (hc : At .i16 w b off J) (hi : I16 J) :
    Calls Try.prog 25 #[puzV (some ⟨b, off, none⟩) J.length c x t, .int .i64 am] w fun e w' => ∃ v, e = .returned (.tuple #[v, .int .i64 (waC J x t am)]) ∧ OwnX w.heap.size w' v (waL J x t am) ∧ Below w.heap.size w w' := by
  have k0 := blk_new w #[.slice (some ⟨b, off, none⟩) J.length c, .int .i16 (x 0), .int .i16 (x 1), .int .i16 (x 2), .int .i16 (x 3), .bool t] 32
  have hB := (Below.refl w.heap.size w).alloc (Nat.le_refl _) (.cells #[.slice (some ⟨b, off, none⟩) J.length c, .int .i16 (x 0), .int .i16 (x 1), .int .i16 (x 2), .int .i16 (x 3), .bool t] 32)
  have hc1 := hc.below hB hb
  have hb1 := Nat.lt_of_lt_of_le hb hB.size
  have HO := Lib.hid (validPuzzle_any b off c J x t _ hn hb1 hc1 hi)
  have HIN := Lib.hid (fun W => within_any am 0 60 W)
  unfold waL waC amC
  clear hc
  cases hok : okZ J x
  · rw [hok] at HO
    simp only [Bool.false_eq_true, if_false, show ¬ (1 : Int) = 0 by decide]
    clear hok HIN
    obtain ⟨c0, c1, c2, c3, c4, c5, -⟩ := k0.six
    go_enter Try.func25, Try.ntmps25
    go_wp2_with fail
    refine HO.out.mono ?_
    rintro e w2 ⟨rfl, hb2⟩
    have HB2 := Lib.hid (hB.trans (hb2.mono hB.size))
    clear hb2 hB HO c0 c1 c2 c3 c4 c5
    go_wp2
    go_ret2
    exact ⟨_, rfl, ⟨none, 0, rfl, .inl rfl⟩, HB2.out⟩
  rw [hok] at HO
  cases hin : inB am 0 60
  · rw [hin] at HIN
    simp only [Bool.false_eq_true, if_false, if_true, show ¬ (2 : Int) = 0 by decide]
    clear hok hin
    obtain ⟨c0, c1, c2, c3, c4, c5, -⟩ := k0.six
    go_enter Try.func25, Try.ntmps25
    go_wp2_with fail
    refine HO.out.mono ?_
    rintro e w2 ⟨rfl, hb2⟩
    have HB2 := Lib.hid (hB.trans (hb2.mono hB.size))
    clear hb2 hB HO c0 c1 c2 c3 c4 c5
    go_wp2_with fail
    refine (HIN.out _).mono ?_
    rintro e w3 ⟨rfl, rfl⟩
    go_wp2
    go_ret2
    exact ⟨_, rfl, ⟨none, 0, rfl, .inl rfl⟩, HB2.out⟩
  · rw [hin] at HIN
    simp only [if_true]
    have hJ := okZ_J hok
    have hx := okZ_X hok
    clear hok hin
    have hI := gsJ_inv (t := t) hJ hx
    have hN := (nW_eq hJ).2.2
    have hpos := gsJ_pos (t := t) hJ hx
    have HFD := Lib.hid (fun W2 (h1 : b < W2.heap.size) (h2 : At .i16 W2 b off J) => (show Calls Try.prog 46 _ W2 fun e w' => ∃ R mb g cap, e = .returned (.agg #[.slice (some ⟨g, 0, none⟩) (gsJ J x t).q.length cap, .map (some mb)]) ∧ PMem J [] W2 R mb (.slice (some ⟨g, 0, none⟩) (gsJ J x t).q.length cap) (gsJ J x t) (gsJ J x t).q w' from search_any b off c J x t W2 hJ hx h1 h2))
    unfold waO
    generalize gsJ J x t = s at *
    obtain ⟨O, hO⟩ : ∃ O : Option Int, O = s.q.find? (waP J am) := ⟨_, rfl⟩
    rw [← hO]
    have HOE := Lib.hid hO
    obtain ⟨LL, hLL⟩ : ∃ LL : List Mv, LL = wyO J.length s O := ⟨_, rfl⟩
    obtain ⟨CC, hCC⟩ : ∃ CC : Int, CC = cdO O := ⟨_, rfl⟩
    rw [← hLL, ← hCC]
    have HLC := Lib.hid (And.intro hLL hCC)
    have HI := Lib.hid hI
    have hsh := hI.short
    have HJ := Lib.hid hJ
    clear hO hLL hCC hI hx hJ
    obtain ⟨c0, c1, c2, c3, c4, c5, -⟩ := k0.six
    go_enter Try.func25, Try.ntmps25
    go_wp2_with fail
    refine HO.out.mono ?_
    rintro e w2 ⟨rfl, hb2⟩
    have hB2 := hB.trans (hb2.mono hB.size)
    replace k0 := k0.below hb2 k0.lt
    replace hc1 := hc1.below hb2 hb1
    replace hb1 := Nat.lt_of_lt_of_le hb1 hb2.size
    clear hb2 hB HO c0 c1 c2 c3 c4 c5
    obtain ⟨c0, c1, c2, c3, c4, c5, -⟩ := k0.six
    go_wp2_with fail
    refine (HIN.out _).mono ?_
    rintro e w2' ⟨rfl, rfl⟩
    go_wp2_with fail
    refine (HFD.out _ hb1 hc1).mono ?_
    rintro e w3 ⟨R, mb, g, cap, rfl, hP⟩
    have hb3 := hP.below
    have HB4 := Lib.hid ((hB2.trans (hb3.mono hB2.size)).alloc (Nat.le_trans hB2.size hb3.size) (.cells #[.slice (some ⟨g, 0, none⟩) s.q.length cap, .map (some mb)] 74))
    have hR4 := blk_new w3 #[.slice (some ⟨g, 0, none⟩) s.q.length cap, .map (some mb)] 74
    have hk4 := (k0.below hb3 k0.lt).alloc (.cells #[.slice (some ⟨g, 0, none⟩) s.q.length cap, .map (some mb)] 74)
    have HM := Lib.hid (hP.next ((Below.refl w3.heap.size w3).alloc (Nat.le_refl _) (.cells #[.slice (some ⟨g, 0, none⟩) s.q.length cap, .map (some mb)] 74)))
    clear c0 c1 c2 c3 c4 c5 k0 hc1 hb1 hb3 hB2 hP HFD HIN
    go_upto_region 6 with fail
    generalize w3.alloc (.cells #[.slice (some ⟨g, 0, none⟩) s.q.length cap, .map (some mb)] 74) = w4 at *
    generalize w3.heap.size = br at *
    have HPZ := Lib.hid (fun W (h : Below w4.heap.size w4 W) => (show Blk W w.heap.size _ _ ∧ Blk W br _ _ from ⟨hk4.below h hk4.lt, hR4.below h hR4.lt⟩))
    obtain ⟨r0, r1, -⟩ := hR4.pair
    clear hk4 hR4
    go_wp2_with fail
    go_loopw [20] (fun iv wr => ∃ k : Nat, iv = .int .i64 k ∧ k ≤ s.q.length ∧ O = (s.q.drop k).find? (waP J am) ∧ Below w4.heap.size w4 wr) (fun iv _ => s.q.length - (intOf iv).toNat)
    case atStart => exact ⟨0, rfl, Nat.zero_le _, by rw [List.drop_zero]; exact HOE.out, Below.refl _ _⟩
    case round =>
      clear r0 r1
      obtain ⟨k, rfl, hk, hfo, hB⟩ := hrel
      by_cases hlt : k < s.q.length
      · have hR := HM.out.next hB
        have hm := gs_mem hlt
        have hh := HI.out.here _ hm
        rw [find_drop hlt] at hfo
        obtain ⟨a, ha⟩ : ∃ a : Nat, s.q.getD k 0 = a := ⟨(s.q.getD k 0).toNat, by omega⟩
        obtain ⟨g0, g1, g2, g3⟩ := wvals_get J s.q k hlt
        rw [ha] at g0 g1 g2 g3
        have o0 := hR.own.cells (g := g) rfl _ _ g0
        have o1 := hR.own.cells (g := g) rfl _ _ g1
        have o2 := hR.own.cells (g := g) rfl _ _ g2
        have o3 := hR.own.cells (g := g) rfl _ _ g3
        have ea : ∀ j, (⟨g, 0, none⟩ : Addr).add j = ⟨g, j, none⟩ := fun j => by unfold Addr.add; split <;> simp_all
        rw [ea] at o0 o1 o2 o3
        rw [ha] at hfo hh
        rw [Int.toNat_natCast] at hh
        have hli : (k : Int) < (s.q.length : Int) := by omega
        have HFO := Lib.hid hfo
        have hBA := hB.alloc hB.size (.cells #[.int .i16 (atV J (a : Int) 0), .int .i16 (atV J (a : Int) 1), .int .i16 (atV J (a : Int) 2), .int .i16 (atV J (a : Int) 3)] 30)
        have hkw := blk_new wr #[.int .i16 (atV J (a : Int) 0), .int .i16 (atV J (a : Int) 1), .int .i16 (atV J (a : Int) 2), .int .i16 (atV J (a : Int) 3)] 30
        clear hfo hR hm ha g0 g1 g2 g3 ea
        go_upto_region 9 with fail
        generalize wr.alloc (.cells #[.int .i16 (atV J (a : Int) 0), .int .i16 (atV J (a : Int) 1), .int .i16 (atV J (a : Int) 2), .int .i16 (atV J (a : Int) 3)] 30) = w5 at *
        generalize wr.heap.size = bx at *
        obtain ⟨hp, hr⟩ := HPZ.out w5 hBA
        obtain ⟨c0, c1, c2, c3, c4, c5, -⟩ := hp.six
        obtain ⟨x0, x1, x2, x3, -⟩ := hkw.four
        have HHA := Lib.hid (hasAmount_any b off c J x (atV J (a : Int)) t am w5 HJ.out.1 (fun j hj => by have := atV_bd (i := j) HJ.out.2.1 (a : Int); omega))
        have HB5 := Lib.hid hBA
        rw [show hasN (atV J (a : Int)) am J.length = waP J am (a : Int) from rfl] at HHA
        clear o0 o1 o2 o3 hBA hp hr hB
        generalize waP J am (a : Int) = r at *
        go_wp2_with fail
        refine HHA.out.mono ?_
        rintro e w6 ⟨rfl, hb6⟩
        have HB6 := Lib.hid (HB5.out.trans (hb6.mono HB5.out.size))
        have hkw6 := hkw.below hb6 hkw.lt
        clear hb6 HB5 HHA c0 c1 c2 c3 c4 c5 x0 x1 x2 x3 hkw
        cases r
        · have HF := Lib.hid (show O = (s.q.drop (k + 1)).find? (waP J am) from HFO.out)
          clear HFO hkw6
          go_wp2
          go_roundw
          case rel => exact ⟨k + 1, by go_num, by omega, HF.out, HB6.out⟩
          case measure => simp [intOf]; omega
        · have HF := Lib.hid (show O = some (a : Int) from HFO.out)
          have HLE := Lib.hid (show LL = wayV J.length s a ∧ CC = 0 by have h := HLC.out; rw [HF.out] at h; exact h)
          obtain ⟨x0, x1, x2, x3, -⟩ := hkw6.four
          obtain ⟨r0, r1, -⟩ := (HPZ.out w6 HB6.out).2.pair
          have HWY := Lib.hid (wayTo_any (g := g) (n := s.q.length) (cap := cap) a w6 HJ.out HI.out (HM.out.next HB6.out).map (by omega) hh.2.2)
          clear HFO hh hkw6
          generalize wayV J.length s a = LW at *
          go_wp2_with fail
          refine HWY.out.mono ?_
          rintro e w7 ⟨v6, rfl, ⟨a6, c6, rfl, hX⟩, hb7⟩
          have HX := Lib.hid hX
          have HB7 := Lib.hid ((HB4.out.trans (HB6.out.mono HB4.out.size)).trans (hb7.mono (Below.size (HB4.out.trans (HB6.out.mono HB4.out.size)))))
          have hs5 := Below.size (HB4.out.trans (HB6.out.mono HB4.out.size))
          clear hX hb7 HWY x0 x1 x2 x3 r0 r1
          go_wp2
          go_ret2
          rw [HLE.out.1, HLE.out.2]
          refine ⟨_, rfl, ⟨a6, c6, rfl, ?_⟩, HB7.out⟩
          rcases HX.out with h | ⟨g, e, h1, h2, h3, h4⟩
          · exact .inl h
          · exact .inr ⟨g, e, Nat.le_trans hs5 h1, h2, h3, h4⟩
      · have HLE := Lib.hid (show LL = [] ∧ CC = 6 by
          have h := HLC.out
          rw [hfo, List.drop_eq_nil_of_le (by omega)] at h
          exact h)
        have HBE := Lib.hid (HB4.out.trans (hB.mono HB4.out.size))
        have hli : ¬ (k : Int) < (s.q.length : Int) := by omega
        clear hfo hB
        go_wp2
        go_ret2
        rw [HLE.out.1, HLE.out.2]
        exact ⟨_, rfl, ⟨none, 0, rfl, .inl rfl⟩, HBE.out⟩
end Go.Proofs.Ytjmgalmndpjcoaa
