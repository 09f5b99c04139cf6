/-
  The walk of the law FnArms.
-/
import Derived.Test.YtmngeloenchpdaaArmsMath
namespace Go.Proofs.Ytmngeloenchpdaa
open Go.RowKit

set_option maxRecDepth 100000 in
set_option maxHeartbeats 2000000 in
theorem walk_FnArms (a0 : Option Addr) (c0 : Nat) (xs0 : List Int) (a1 : Option Addr) (c1 : Nat) (xs1 : List Int) (w : World) (s0 : Sl .u8 w.heap.size w a0 xs0) (f0 : U8 xs0) (s1 : Sl .u8 w.heap.size w a1 xs1) (f1 : U8 xs1) :
    Calls Try.prog 6 #[.slice a0 xs0.length c0, .slice a1 xs1.length c1] w fun e w' => e = .returned (.bool true) ∧ Below w.heap.size w w' := by
  have HL := Lib.hid (a2Long_any a0 a1 xs0.length xs1.length c0 c1 w)
  have F0 := Lib.hid f0
  have F1 := Lib.hid f1
  have S0 := Lib.hid s0
  have S1 := Lib.hid s1
  clear f0 f1 s0 s1
  by_cases hlong : 3000 < xs0.length ∨ 3000 < xs1.length
  · rw [cb_t hlong] at HL
    clear hlong
    go_enter Try.func6, Try.ntmps6
    go_wp2_with fail
    refine HL.out.mono ?_
    rintro e w' ⟨rfl, rfl⟩
    go_wp2
    go_ret
    exact ⟨rfl, Below.refl _ _⟩
  rw [cb_f hlong] at HL
  have n0 : xs0.length ≤ 1048576 := by omega
  have n1 : xs1.length ≤ 1048576 := by omega
  clear hlong
  go_enter Try.func6, Try.ntmps6
  go_wp2_with fail
  refine HL.out.mono ?_
  rintro e w' ⟨rfl, rfl⟩
  go_wp2_with fail
  refine (a2Weights_any a0 c0 xs0 w F0.out n0 S0.out).mono ?_
  rintro e w1 ⟨g, ws, cw, rfl, hg, hgl, hat, hok, hi16, b1⟩
  have h16 : ws.length ≤ 16 := hok.2.1
  have hw1 : 1 ≤ ws.length := hok.1
  have HO := Lib.hid hok
  have HI := Lib.hid hi16
  clear hok hi16
  have s1' : Sl .u8 w1.heap.size w1 a1 xs1 := by
    rcases S1.out with h | ⟨ba, off, h1, h2, h3⟩
    · exact .inl h
    · exact .inr ⟨ba, off, h1, Nat.lt_of_lt_of_le h2 b1.size, h3.below b1 h2⟩
  go_wp2_with fail
  refine (a2Placing_any a1 c1 xs1 _ ws.length cw w1 F1.out n1 s1' h16).mono ?_
  rintro e w2 ⟨v, ps, rfl, hO, hlen, hP, b2⟩
  rcases hO with ⟨h0, _⟩ | ⟨gp, cp, rfl, hgp, hgpl, hatp, _⟩
  · subst h0; simp at hlen; omega
  have HF := Lib.hid (okF_of HO.out hlen hP)
  have hl2 : ps.length ≤ 1048576 := by omega
  have hat2 := hat.below b2 hgl
  have hgl2 : g < w2.heap.size := Nat.lt_of_lt_of_le hgl b2.size
  have B2 := b1.trans (b2.mono b1.size)
  have S0' := Lib.hid (S0.out.below B2)
  have S1' := Lib.hid (S1.out.below B2)
  clear hat hgl hP hlen s1' b1 b2 hgp
  go_wp2_with fail
  refine (a2At_any _ a1 c1 xs1 0 60 w2 F1.out n1 S1'.out (by omega) (by omega)).mono ?_
  rintro e w' ⟨rm, rfl, hrm, rfl⟩
  go_wp2_with fail
  refine (a2At_any _ a1 c1 xs1 1 100 w2 F1.out n1 S1'.out (by omega) (by omega)).mono ?_
  rintro e w' ⟨ra, rfl, hra, rfl⟩
  go_wp2_with fail
  refine (tilt_any g 0 cw gp 0 cp ws ps rm w2 (by omega) hl2 hgl2 hgpl hat2 hatp HI.out).mono ?_
  rintro e w3 ⟨rfl, b3⟩
  rw [codeT_zero HF.out ⟨by omega, by omega, by omega⟩]
  have hat3 := hat2.below b3 hgl2
  have hatp3 := hatp.below b3 hgpl
  have hgl3 : g < w3.heap.size := Nat.lt_of_lt_of_le hgl2 b3.size
  have hgpl3 : gp < w3.heap.size := Nat.lt_of_lt_of_le hgpl b3.size
  have B3 := B2.trans (b3.mono B2.size)
  clear hat2 hatp hgl2 hgpl b3
  go_wp2_with fail
  refine (tiltOfArms_any g 0 cw gp 0 cp ws ps rm (1 + ra) (1 + ra) w3 (by omega) hl2 hgl3 hgpl3 hat3 hatp3 HI.out).mono ?_
  rintro e w4 ⟨rfl, b4⟩
  rw [codeT_zero HF.out ⟨by omega, by omega, by omega⟩, tiltV_same HF.out (by omega) (by omega)]
  have B4 := B3.trans (b4.mono B3.size)
  clear b4 B3 hat3 hatp3 hgl3 hgpl3
  generalize tiltV ws ps rm 1 1 = T
  have S0'' := Lib.hid (S0.out.below B4)
  have S1'' := Lib.hid (S1.out.below B4)
  clear S0' S1' B2
  go_wp2_with fail
  refine (a2At_any _ a0 c0 xs0 0 30 w4 F0.out n0 S0''.out (by omega) (by omega)).mono ?_
  rintro e w' ⟨rl, rfl, hrl, rfl⟩
  go_wp2_with fail
  refine (a2At_any _ a0 c0 xs0 1 30 w4 F0.out n0 S0''.out (by omega) (by omega)).mono ?_
  rintro e w' ⟨rr, rfl, hrr, rfl⟩
  have bp := mul_bd (x := 1 + rl) (y := 1 + rr) (a := 30) (b := 30) (by omega) (by omega)
  obtain ⟨p, e1⟩ : ∃ p, (1 + rl) * (1 + rr) = p := ⟨_, rfl⟩
  rw [e1] at bp
  go_wp2_with fail
  refine (a2At_any _ a1 c1 xs1 2 20 w4 F1.out n1 S1''.out (by omega) (by omega)).mono ?_
  rintro e w' ⟨rk, rfl, hrk, rfl⟩
  obtain ⟨p', o, q1, f1, q2, f2, N⟩ := nums_ex (l := 1 + rl) (r := 1 + rr) (k := 1 + rk) (by omega) (by omega) (by omega)
  obtain rfl : p' = p := N.e1.symm.trans e1
  have e2 := N.e2
  have e3 := N.e3
  have e4 := N.e4
  have e5 := N.e5
  have e6 := N.e6
  have bo := N.bo
  have bq1 := N.b1
  have bq2 := N.b2
  have bf1 := N.bf1
  have bf2 := N.bf2
  have nz1 : (1 + rl == 0) = false := by simp; omega
  have nz2 : (1 + rr == 0) = false := by simp; omega
  have NH := Lib.hid N
  clear N
  have hz : ∃ z, arm1 f1 f2 * (1 + rr) = z ∧ arm2 f1 f2 * (1 + rl) = z := ⟨_, NH.out.arms, rfl⟩
  obtain ⟨z, hz1, hz2⟩ := hz
  generalize hA1 : arm1 f1 f2 = A1 at *
  generalize hA2 : arm2 f1 f2 = A2 at *
  have HA := Lib.hid (And.intro hA1 hA2)
  clear hA1 hA2 bp
  go_wp2_with fail
  refine (massByTwo_any f1 f2 w4).mono ?_
  rintro e w5 ⟨rfl, b5⟩
  rw [NH.out.mbt.1, NH.out.mbt.2]
  have B5 := B4.trans (b5.mono B4.size)
  clear b5 B4
  go_wp2_with fail
  refine (specMassByTwo_any f1 f2 w5).mono ?_
  rintro e w6 ⟨rfl, rfl⟩
  rw [NH.out.mbt.1, NH.out.mbt.2]
  go_wp2_with fail
  refine (armsFrom_any f1 f2 w5).mono ?_
  rintro e w6 ⟨rfl, b6⟩
  rw [NH.out.mbt.2, HA.out.1, HA.out.2]
  have B6 := B5.trans (b6.mono B5.size)
  clear b6 B5
  go_wp2_with fail
  refine (specArmsFrom_any f1 f2 w6).mono ?_
  rintro e w7 ⟨rfl, b7⟩
  rw [NH.out.mbt.2, HA.out.1, HA.out.2]
  have B7 := B6.trans (b7.mono B6.size)
  clear b7 B6
  by_cases hbig : 2000 < f1
  · go_wp2
    go_ret
    exact ⟨rfl, B7⟩
  have hf1 : 1 ≤ f1 ∧ f1 ≤ 2000 := by omega
  have hsm : ¬ 2000 < f1 := by omega
  have hy : ∃ y, f1 * (1 + rr) = y ∧ o * (1 + rl) = y := ⟨_, NH.out.cross, rfl⟩
  obtain ⟨y, hy1, hy2⟩ := hy
  have by' : 1 ≤ y ∧ y ≤ 540000 := by
    have := mul_bd (x := o) (y := 1 + rl) (a := 18000) (b := 30) (by omega) (by omega)
    omega
  have hh1 := heap_new w7 (.cells #[.int .i16 f1] 50)
  have hh2 := heap_new (w7.alloc (.cells #[.int .i16 f1] 50)) (.cells #[.int .i8 1] 51)
  have B8 : Below w.heap.size w ((w7.alloc (.cells #[.int .i16 f1] 50)).alloc (.cells #[.int .i8 1] 51)) := (B7.alloc B7.size _).alloc (by have := B7.size; simp; omega) _
  have hbel : Below (w7.heap.size + 1) (w7.alloc (.cells #[.int .i16 f1] 50)) ((w7.alloc (.cells #[.int .i16 f1] 50)).alloc (.cells #[.int .i8 1] 51)) := (Below.refl _ _).alloc (by simp) _
  have at1 : At .i16 ((w7.alloc (.cells #[.int .i16 f1] 50)).alloc (.cells #[.int .i8 1] 51)) w7.heap.size 0 [f1] := (at_one hh1).below hbel (by omega)
  have at2 : At .i8 ((w7.alloc (.cells #[.int .i16 f1] 50)).alloc (.cells #[.int .i8 1] 51)) (w7.heap.size + 1) 0 [1] := by
    have := at_one hh2
    rw [World.size_alloc] at this
    exact this
  have HH := Lib.hid (And.intro B8 (And.intro at1 at2))
  clear hh1 hh2 B8 hbel at1 at2
  go_wp2_with fail
  refine (tiltOfArms_any w7.heap.size 0 1 (w7.heap.size + 1) 0 1 [f1] [1] o (1 + rl) (1 + rr) _ (by simp) (by simp) (by simp; omega) (by simp) HH.out.2.1 HH.out.2.2 (i16_one (by omega))).mono ?_
  rintro e w8 ⟨rfl, b8⟩
  rw [tiltV_one hf1 ⟨by omega, by omega, by omega⟩, codeT_zero (okF_one hf1) ⟨by omega, by omega, by omega⟩, hy1, hy2, Int.sub_self]
  have B9 := HH.out.1.trans (b8.mono HH.out.1.size)
  clear b8 HH
  go_wp2_with fail
  refine (sign2_any 0 w8).mono ?_
  rintro e w9 ⟨rfl, rfl⟩
  generalize signI 0 = t
  go_wp2
  go_ret
  exact ⟨rfl, B9⟩
end Go.Proofs.Ytmngeloenchpdaa
