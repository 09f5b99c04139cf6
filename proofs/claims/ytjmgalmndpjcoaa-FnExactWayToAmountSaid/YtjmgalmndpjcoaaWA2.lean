/-
  The walk of WayToAmount's model.
-/
import Derived.Test.YtjmgalmndpjcoaaWA1
namespace Go.Proofs.Ytjmgalmndpjcoaa
open Go.RowKit
set_option maxRecDepth 100000
set_option linter.unusedVariables false

noncomputable def waP (J : List Int) (am a : Int) : Bool := hasN (atV J a) am J.length
noncomputable def waO (J : List Int) (x : Nat → Int) (t : Bool) (am : Int) : Option Int := (gsJ J x t).q.find? (waP J am)
noncomputable def wyO (n : Nat) (s : GS) : Option Int → List Mv
  | some a => wayV n s a.toNat
  | none => []
noncomputable def cdO : Option Int → Int
  | some _ => 0
  | none => 6
noncomputable def amC (J : List Int) (x : Nat → Int) (am : Int) : Int := if okZ J x = true then (if inB am 0 60 = true then 0 else 2) else 1
noncomputable def waL (J : List Int) (x : Nat → Int) (t : Bool) (am : Int) : List Mv := if amC J x am = 0 then wyO J.length (gsJ J x t) (waO J x t am) else []
noncomputable def waC (J : List Int) (x : Nat → Int) (t : Bool) (am : Int) : Int := if amC J x am = 0 then cdO (waO J x t am) else amC J x am
theorem amC_bd (J : List Int) (x : Nat → Int) (am : Int) : 0 ≤ amC J x am ∧ amC J x am ≤ 2 := by unfold amC; split <;> (try split) <;> omega
theorem amC_ok {J : List Int} {x : Nat → Int} {am : Int} (h : amC J x am = 0) : okZ J x = true ∧ inB am 0 60 = true := by
  unfold amC at h
  split at h
  · split at h
    · exact ⟨by assumption, by assumption⟩
    · omega
  · omega
theorem find_drop {P : Int → Bool} {q : List Int} {k : Nat} (hk : k < q.length) : (q.drop k).find? P = if P (q.getD k 0) = true then some (q.getD k 0) else (q.drop (k + 1)).find? P := by
  rw [List.drop_eq_getElem_cons hk, List.find?_cons, List.getD_eq_getElem?_getD, List.getElem?_eq_getElem hk, Option.getD_some]
  cases P q[k] <;> rfl
theorem l02Amount_any (g b off c : Nat) (J : List Int) (x : Nat → Int) (t : Bool) (am : Int) (w : World) (hn : J.length ≤ 1048576) (hb : b < w.heap.size) (hc : At .i16 w b off J)
    (hg : Blk w g #[.slice (some ⟨b, off, none⟩) J.length c, .int .i16 (x 0), .int .i16 (x 1), .int .i16 (x 2), .int .i16 (x 3), .bool t] 32) :
    Calls Try.prog 49 #[.pointer (some ⟨g, 0, none⟩), .int .i64 am] w fun e w' => e = .returned (.int .i64 (amC J x am)) ∧ Below w.heap.size w w' := by
  have HO := Lib.hid (l02Ok_any g b off c J x t w hn hb hc hg)
  have HI := Lib.hid (fun W => l00In_any am 0 60 W)
  unfold amC
  clear hg hc hb hn
  generalize okZ J x = r1 at *
  generalize inB am 0 60 = r2 at *
  cases r1
  · simp only [Bool.false_eq_true, if_false]
    go_enter Try.func49, Try.ntmps49
    go_wp2_with fail
    refine HO.out.mono ?_
    rintro e w2 ⟨rfl, hb2⟩
    go_wp2
    go_ret
    exact ⟨rfl, hb2⟩
  · simp only [if_true]
    cases r2
    · simp only [Bool.false_eq_true, if_false]
      go_enter Try.func49, Try.ntmps49
      go_wp2_with fail
      refine HO.out.mono ?_
      rintro e w2 ⟨rfl, hb2⟩
      go_wp2_with fail
      refine (HI.out _).mono ?_
      rintro e w3 ⟨rfl, rfl⟩
      go_wp2
      go_ret
      exact ⟨rfl, hb2⟩
    · simp only [if_true]
      go_enter Try.func49, Try.ntmps49
      go_wp2_with fail
      refine HO.out.mono ?_
      rintro e w2 ⟨rfl, hb2⟩
      go_wp2_with fail
      refine (HI.out _).mono ?_
      rintro e w3 ⟨rfl, rfl⟩
      go_wp2
      go_ret
      exact ⟨rfl, hb2⟩
set_option maxHeartbeats 2000000 in
theorem specWayToAmount_any (b off c : Nat) (J : List Int) (x : Nat → Int) (t : Bool) (am : Int) (w : World) (hn : J.length ≤ 1048576) (hb : b < w.heap.size) (hc : At .i16 w b off J) :
    Calls Try.prog 24 #[puzV (some ⟨b, off, none⟩) J.length c x t, .int .i64 am] w fun e w' => ∃ v, e = .returned (.tuple #[v, .int .i64 (waC J x t am)]) ∧ OwnX w.heap.size w' v (waL J x t am) ∧ Below w.heap.size w w' := by
  have k0 := blk_new w #[.slice (some ⟨b, off, none⟩) J.length c, .int .i16 (x 0), .int .i16 (x 1), .int .i16 (x 2), .int .i16 (x 3), .bool t] 32
  have hB := (Below.refl w.heap.size w).alloc (Nat.le_refl _) (.cells #[.slice (some ⟨b, off, none⟩) J.length c, .int .i16 (x 0), .int .i16 (x 1), .int .i16 (x 2), .int .i16 (x 3), .bool t] 32)
  have hc1 := hc.below hB hb
  have hb1 := Nat.lt_of_lt_of_le hb hB.size
  have HO := Lib.hid (l02Amount_any w.heap.size b off c J x t am _ hn hb1 hc1 k0)
  unfold waL waC
  clear hc
  have hcb := amC_bd J x am
  by_cases hC : amC J x am = 0
  · rw [if_pos hC, if_pos hC]
    rw [hC] at HO
    obtain ⟨hok, _⟩ := amC_ok hC
    have hJ := okZ_J hok
    have hx := okZ_X hok
    clear hok hC hcb
    have hI := gsJ_inv (t := t) hJ hx
    have hN := (nW_eq hJ).2.2
    have hpos := gsJ_pos (t := t) hJ hx
    have HFD := Lib.hid (fun W2 (h1 : b < W2.heap.size) (h2 : At .i16 W2 b off J) (h3 : Blk W2 w.heap.size _ _) => (show Calls Try.prog 38 _ W2 fun e w' => ∃ S T Z U v, e = .returned (.pointer (some ⟨S, 0, none⟩)) ∧ JMem J.length (nW J) [] W2 S T Z U v (gsJ J x t) w' from l02Find_any w.heap.size b off c J x t W2 hJ hx h1 h2 h3))
    unfold waO
    generalize gsJ J x t = s at *
    generalize nW J = N at *
    obtain ⟨O, hO⟩ : ∃ O : Option Int, O = s.q.find? (waP J am) := ⟨_, rfl⟩
    rw [← hO]
    have HOE := Lib.hid hO
    obtain ⟨LL, hLL⟩ : ∃ LL : List Mv, LL = wyO J.length s O := ⟨_, rfl⟩
    obtain ⟨CC, hCC⟩ : ∃ CC : Int, CC = cdO O := ⟨_, rfl⟩
    rw [← hLL, ← hCC]
    have HLC := Lib.hid (And.intro hLL hCC)
    have HI := Lib.hid hI
    have hsh := hI.short
    have HJ := Lib.hid hJ
    clear hO hLL hCC hI hx hJ
    go_enter Try.func24, Try.ntmps24
    go_wp2_with fail
    refine HO.out.mono ?_
    rintro e w2 ⟨rfl, hb2⟩
    have hB2 := hB.trans (hb2.mono hB.size)
    replace k0 := k0.below hb2 k0.lt
    replace hc1 := hc1.below hb2 hb1
    replace hb1 := Nat.lt_of_lt_of_le hb1 hb2.size
    clear hb2 hB HO
    go_wp2_with fail
    refine (HFD.out _ hb1 hc1 k0).mono ?_
    rintro e w4 ⟨S, T, Z, U, v, rfl, hM⟩
    obtain ⟨g, cap, rfl, -, -⟩ := hM.own.form hpos
    have hb4 := hM.below
    have HB4 := Lib.hid (hB2.trans (hb4.mono hB2.size))
    have HPZ := Lib.hid (fun W (h : Below w4.heap.size w4 W) => (show Blk W w.heap.size _ _ ∧ b < W.heap.size ∧ At .i16 W b off J from ⟨(k0.below hb4 k0.lt).below h (k0.below hb4 k0.lt).lt, Nat.lt_of_lt_of_le (Nat.lt_of_lt_of_le hb1 hb4.size) h.size, (hc1.below hb4 hb1).below h (Nat.lt_of_lt_of_le hb1 hb4.size)⟩))
    have HM := Lib.hid hM
    clear hM hb4 hB2 k0 hc1 hb1 HFD
    go_wp2_with fail
    go_loopw [8] (fun iv wr => ∃ k : Nat, iv = .int .i64 k ∧ k ≤ s.q.length ∧ O = (s.q.drop k).find? (waP J am) ∧ Below w4.heap.size w4 wr) (fun iv _ => s.q.length - (intOf iv).toNat)
    case atStart => exact ⟨0, rfl, Nat.zero_le _, by rw [List.drop_zero]; exact HOE.out, Below.refl _ _⟩
    case round =>
      obtain ⟨k, rfl, hk, hfo, hB⟩ := hrel
      have hR := HM.out.next hB
      obtain ⟨s0, s1, s2, s3, -⟩ := hR.bS.four
      by_cases hlt : k < s.q.length
      · have hm := gs_mem hlt
        have hh := HI.out.here _ hm
        rw [find_drop hlt] at hfo
        obtain ⟨a, ha⟩ : ∃ a : Nat, s.q.getD k 0 = a := ⟨(s.q.getD k 0).toNat, by omega⟩
        have HQ := Lib.hid (fun W (h : JMem J.length N [] w2 S T Z U (.slice (some ⟨g, 0, none⟩) s.q.length cap) s W) => (show W.cell? ⟨g, k, none⟩ = some (.int .i64 (a : Int)) by
          have h1 := h.own.cells (g := g) rfl k (.int .i64 (a : Int)) (by rw [List.getElem?_map, List.getElem?_eq_getElem hlt]; rw [List.getD_eq_getElem?_getD, List.getElem?_eq_getElem hlt] at ha; simpa using ha)
          have e : (⟨g, 0, none⟩ : Addr).add k = ⟨g, k, none⟩ := by unfold Addr.add; split <;> simp_all
          rw [← e]; exact h1))
        have o1 := HQ.out wr hR
        rw [ha] at hfo hh
        rw [Int.toNat_natCast] at hh
        have hli : (k : Int) < (s.q.length : Int) := by omega
        have hp := HPZ.out wr hB
        have HAT := Lib.hid (l02At_any w.heap.size b off c J x t (a : Int) wr HJ.out.1.2 HJ.out.2.1 (by omega) hp.2.1 hp.2.2 hp.1)
        have HFO := Lib.hid hfo
        have HB := Lib.hid hB
        clear hfo hp hR hm ha hB
        go_wp2_with fail
        refine HAT.out.mono ?_
        rintro e w5 ⟨rfl, hb5⟩
        have HB5 := Lib.hid (HB.out.trans (hb5.mono HB.out.size))
        have HHA := Lib.hid (l02Has_any w.heap.size b off c J x (atV J (a : Int)) t am w5 HJ.out.1 (fun j hj => by have := atV_bd (i := j) HJ.out.2.1 (a : Int); omega) (HPZ.out w5 HB5.out).1)
        clear hb5 HB HAT s0 s1 s2 s3 o1
        rw [show hasN (atV J (a : Int)) am J.length = waP J am (a : Int) from rfl] at HHA
        generalize waP J am (a : Int) = r at *
        go_wp2_with fail
        refine HHA.out.mono ?_
        rintro e w6 ⟨rfl, hb6⟩
        have HB6 := Lib.hid (HB5.out.trans (hb6.mono HB5.out.size))
        have hR6 := HM.out.next HB6.out
        clear hb6 HB5 HHA
        cases r
        · have HF := Lib.hid (show O = (s.q.drop (k + 1)).find? (waP J am) from HFO.out)
          clear hR6 HFO HQ
          go_wp2
          go_roundw
          case rel => exact ⟨k + 1, by go_num, by omega, HF.out, HB6.out⟩
          case measure => simp [intOf]; omega
        · have HF := Lib.hid (show O = some (a : Int) from HFO.out)
          have HLE := Lib.hid (show LL = wayV J.length s a ∧ CC = 0 by have h := HLC.out; rw [HF.out] at h; exact h)
          obtain ⟨s0, s1, s2, s3, -⟩ := hR6.bS.four
          have o1 := HQ.out w6 hR6
          have HWY := Lib.hid (l02Way_any a w6 HI.out hR6 hN (by omega) hh.2.2)
          clear hR6 HFO HQ hh
          generalize wayV J.length s a = LW at *
          go_wp2_with fail
          refine HWY.out.mono ?_
          rintro e w7 ⟨v6, rfl, ⟨a6, c6, rfl, hX⟩, hb7⟩
          have HX := Lib.hid hX
          have HB7 := Lib.hid ((HB4.out.trans (HB6.out.mono HB4.out.size)).trans (hb7.mono (Below.size (HB4.out.trans (HB6.out.mono HB4.out.size)))))
          have hs5 := Below.size (HB4.out.trans (HB6.out.mono HB4.out.size))
          clear hX hb7 HWY s0 s1 s2 s3 o1
          go_wp2
          go_ret2
          rw [HLE.out.1, HLE.out.2]
          refine ⟨_, rfl, ⟨a6, c6, rfl, ?_⟩, HB7.out⟩
          rcases HX.out with h | ⟨g, e, h1, h2, h3, h4⟩
          · exact .inl h
          · exact .inr ⟨g, e, Nat.le_trans hs5 h1, h2, h3, h4⟩
      · have HLE := Lib.hid (show LL = [] ∧ CC = 6 by
          have h := HLC.out
          rw [hfo, List.drop_eq_nil_of_le (by omega)] at h
          exact h)
        have HBE := Lib.hid (HB4.out.trans (hB.mono HB4.out.size))
        have hli : ¬ (k : Int) < (s.q.length : Int) := by omega
        clear hR hfo hB
        go_wp2
        go_ret2
        rw [HLE.out.1, HLE.out.2]
        exact ⟨_, rfl, ⟨_, _, rfl, .inl rfl⟩, HBE.out.alloc HBE.out.size _⟩
  · rw [if_neg hC, if_neg hC]
    generalize amC J x am = C at *
    go_enter Try.func24, Try.ntmps24
    go_wp2_with fail
    refine HO.out.mono ?_
    rintro e w2 ⟨rfl, hb2⟩
    have HB2 := Lib.hid (hB.trans (hb2.mono hB.size))
    clear hb2 hB HO
    go_wp2
    go_ret2
    exact ⟨_, rfl, ⟨_, _, rfl, .inl rfl⟩, HB2.out.alloc HB2.out.size _⟩
end Go.Proofs.Ytjmgalmndpjcoaa
