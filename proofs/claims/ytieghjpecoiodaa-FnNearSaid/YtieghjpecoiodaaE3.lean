/-
  The walks of ValidFixed and its model.
-/
import Derived.Test.YtieghjpecoiodaaE2
import Derived.Test.YtieghjpecoiodaaD2
namespace Go.Proofs.Ytieghjpecoiodaa
open Go.RowKit
set_option maxRecDepth 100000
set_option linter.unusedVariables false

def AllD (l : Int) (ws : List Wf) (k : Nat) : Prop := ∀ j, j < k → OkD l (wI ws j)
def OkX (l k : Int) (ws : List Wf) : Prop := (1 ≤ l ∧ l ≤ 4) ∧ (0 ≤ k ∧ k ≤ 2) ∧ (1 ≤ (ws.length : Int) ∧ (ws.length : Int) ≤ 80) ∧ AllD l ws ws.length
noncomputable def okX (l k : Int) (ws : List Wf) : Bool := cb (OkX l k ws)
theorem AllD.succ {l : Int} {ws : List Wf} {k : Nat} (h : AllD l ws k) (h2 : okD l (wI ws k) = true) : AllD l ws (k + 1) := fun j hj => by
  by_cases e : j = k
  · subst e; exact of_cb h2
  · exact h j (by omega)
theorem i64_8 {n : Int} (h : B8 n) : -9223372036854775808 ≤ n ∧ n ≤ 9223372036854775807 := by unfold B8 at h; omega
theorem l04Kind_any (k : Int) (w : World) : Calls Try.prog 37 #[.int .i64 k] w fun e w' => e = .returned (.bool (inB k 0 2)) ∧ w = w' := by
  have H := Lib.hid (fun W => l00In_any k 0 2 W)
  generalize inB k 0 2 = r at *
  go_enter Try.func37, Try.ntmps37
  go_wp2_with fail
  refine (H.out _).mono ?_
  rintro e w2 ⟨rfl, rfl⟩
  go_wp2
  go_ret
  exact ⟨rfl, rfl⟩
set_option maxHeartbeats 4000000 in
theorem l04Ok_any (fb : Nat) (l k : Int) (a : Option Addr) (c : Nat) (ws : List Wf) (w : World) (K : Blk w fb #[.int .i8 l, .int .i8 k, .slice a ws.length c] 27) (hs : Slw w.heap.size w a ws) (hl : B8 l) (hk : B8 k) (hn : ws.length ≤ 1048576) (hw : Wall ws) :
    Calls Try.prog 26 #[.pointer (some ⟨fb, 0, none⟩)] w fun e w' => e = .returned (.bool (okX l k ws)) ∧ Below w.heap.size w w' := by
  have HL := Lib.hid (fun W => l04Letters_any l W)
  have HK := Lib.hid (fun W => l04Kind_any k W)
  have HN := Lib.hid (fun W => l00In_any (ws.length : Int) 1 80 W)
  have hl64 := i64_8 hl
  have hk64 := i64_8 hk
  obtain ⟨c0, c1, c2, -⟩ := K.three
  by_cases h4 : 1 ≤ l ∧ l ≤ 4
  case neg =>
    have HR := Lib.hid (show okX l k ws = false from cb_f (fun h => h4 h.1))
    rw [show inB l 1 4 = false from cb_f h4] at HL
    clear h4
    go_enter Try.func26, Try.ntmps26
    go_wp2_with fail
    refine (HL.out _).mono ?_
    rintro e w2 ⟨rfl, rfl⟩
    go_wp2
    go_ret
    exact ⟨retb HR.out.symm, Below.refl _ _⟩
  rw [show inB l 1 4 = true from cb_t h4] at HL
  by_cases h2 : 0 ≤ k ∧ k ≤ 2
  case neg =>
    have HR := Lib.hid (show okX l k ws = false from cb_f (fun h => h2 h.2.1))
    rw [show inB k 0 2 = false from cb_f h2] at HK
    clear h4 h2
    go_enter Try.func26, Try.ntmps26
    go_wp2_with fail
    refine (HL.out _).mono ?_
    rintro e w2 ⟨rfl, rfl⟩
    go_wp2_with fail
    refine (HK.out _).mono ?_
    rintro e w2 ⟨rfl, rfl⟩
    go_wp2
    go_ret
    exact ⟨retb HR.out.symm, Below.refl _ _⟩
  rw [show inB k 0 2 = true from cb_t h2] at HK
  by_cases h80 : 1 ≤ (ws.length : Int) ∧ (ws.length : Int) ≤ 80
  case neg =>
    have HR := Lib.hid (show okX l k ws = false from cb_f (fun h => h80 h.2.2.1))
    rw [show inB (ws.length : Int) 1 80 = false from cb_f h80] at HN
    clear h4 h2 h80
    go_enter Try.func26, Try.ntmps26
    go_wp2_with fail
    refine (HL.out _).mono ?_
    rintro e w2 ⟨rfl, rfl⟩
    go_wp2_with fail
    refine (HK.out _).mono ?_
    rintro e w2 ⟨rfl, rfl⟩
    go_wp2_with fail
    refine (HN.out _).mono ?_
    rintro e w2 ⟨rfl, rfl⟩
    go_wp2
    go_ret
    exact ⟨retb HR.out.symm, Below.refl _ _⟩
  rw [show inB (ws.length : Int) 1 80 = true from cb_t h80] at HN
  rcases hs with hs | ⟨b, off, rfl, hb, hc⟩
  · subst hs; simp at h80
  have HT := Lib.hid (fun h => (cb_t (p := OkX l k ws) ⟨h4, h2, h80, h⟩ : okX l k ws = true))
  have HF := Lib.hid (fun j (hj : j < ws.length) (hq : okD l (wI ws j) = false) => (cb_f (p := OkX l k ws) (fun h => absurd (cb_t (p := OkD l (wI ws j)) (h.2.2.2 j hj)) (by rw [show cb (OkD l (wI ws j)) = false from hq]; simp)) : okX l k ws = false))
  have HD := Lib.hid (fun j W => l04Word_any l (wI ws j) W hl64 (hw j))
  clear h4 h2 hw
  have KH := Lib.hid K
  clear K
  go_enter Try.func26, Try.ntmps26
  go_wp2_with fail
  refine (HL.out _).mono ?_
  rintro e w2 ⟨rfl, rfl⟩
  go_wp2_with fail
  refine (HK.out _).mono ?_
  rintro e w2 ⟨rfl, rfl⟩
  go_wp2_with fail
  refine (HN.out _).mono ?_
  rintro e w2 ⟨rfl, rfl⟩
  go_wp2
  clear c0 c1 c2
  go_loopw [3] (fun i wr => ∃ j : Nat, i = .int .i64 j ∧ j ≤ ws.length ∧ AllD l ws j ∧ Below w.heap.size w wr) (fun i _ => ws.length - (intOf i).toNat)
  case atStart => exact ⟨0, rfl, Nat.zero_le _, fun j h => absurd h (by omega), Below.refl _ _⟩
  case round =>
    obtain ⟨j, rfl, hj, ha, hB⟩ := hrel
    have HA := Lib.hid ha
    have HB := Lib.hid hB
    obtain ⟨c0, c1, c2, -⟩ := (KH.out.below hB KH.out.lt).three
    clear ha
    by_cases hlt : j < ws.length
    case neg =>
      have HR := Lib.hid (HT.out (fun i hi => HA.out i (by omega)))
      clear hB
      go_wp2
      go_ret
      exact ⟨retb HR.out.symm, HB.out⟩
    obtain ⟨p0, p1, p2, p3⟩ := (hc.below hB hb).four j hlt
    have hkl : (j : Int) < (ws.length : Int) := by omega
    have HDj := Lib.hid (HD.out j)
    have HFj := Lib.hid (HF.out j hlt)
    have HAj := Lib.hid (fun h => HA.out.succ (k := j) h)
    generalize wI ws j = x at *
    clear hB hc
    go_wp2_with fail
    go_upto_region 6 with fail
    refine wp_region_still_tail 12 (by kernel_rfl) (by kernel_rfl) ?_
    simp only [List.take_succ_cons, List.take_zero, List.drop_succ_cons, List.drop_zero]
    iterate 12 still_step
    refine wpStill_nil ?_
    have HB2 := Lib.hid (show Below w.heap.size w wr.drew from HB.out.drew)
    change wpList _ _ _ _ _ wr.drew
    clear p0 p1 p2 p3 c0 c1 c2 HB
    generalize wr.drew = w3 at *
    cases hok : okD l x
    · rw [hok] at HDj
      have HR := Lib.hid (HFj.out hok)
      clear hok HFj HAj
      go_wp2_with fail
      refine (HDj.out _).mono ?_
      rintro e w4 ⟨rfl, hb4⟩
      have HB3 := Lib.hid (HB2.out.trans (hb4.mono HB2.out.size))
      clear hb4
      go_wp2
      go_ret
      exact ⟨retb HR.out.symm, HB3.out⟩
    · rw [hok] at HDj
      have HN2 := Lib.hid (HAj.out hok)
      clear hok HFj HAj
      go_wp2_with fail
      refine (HDj.out _).mono ?_
      rintro e w4 ⟨rfl, hb4⟩
      have HB3 := Lib.hid (HB2.out.trans (hb4.mono HB2.out.size))
      clear hb4
      go_wp2
      go_roundw
      case rel => exact ⟨j + 1, by go_num, by omega, HN2.out, HB3.out⟩
      case measure => simp [intOf]; omega
/-- The closure over a fixed plan in block fb. -/
abbrev vfV (fb : Nat) : Value := .func (.func 63) #[] #[.pointer (some ⟨fb, 0, none⟩)]
theorem vf1_any (fb : Nat) (l : Int) (v1 v2 : Value) (x : Wf) (w : World) (K : Blk w fb #[.int .i8 l, v1, v2] 27) (hl : B8 l) (hx : W4 x) :
    Calls Try.prog 63 #[wordV x, .pointer (some ⟨fb, 0, none⟩)] w fun e w' => e = .returned (.bool (!(okD l x))) ∧ Below w.heap.size w w' := by
  have F0 := (FR.start w).box (wordC x) 40
  have HV := Lib.hid (fun W => validWord_any l x W (i64_8 hl) hx)
  obtain ⟨d0, -, -, -⟩ := (K.below F0.below K.lt).three
  obtain ⟨c0, c1, c2, c3, -⟩ := (F0.blk _ List.mem_cons_self).four
  unfold B8 at hl
  clear hx K
  generalize okD l x = r at *
  go_enter Try.func63, Try.ntmps63
  go_wp2_with fail
  refine (HV.out _).mono ?_
  rintro e w2 ⟨rfl, hb⟩
  have HF := Lib.hid (F0.next hb).below
  clear hb F0 c0 c1 c2 c3 d0
  go_wp2
  go_ret
  exact ⟨rfl, HF.out⟩
noncomputable def allD (l : Int) (ws : List Wf) : Bool := cb (AllD l ws ws.length)
set_option maxHeartbeats 2000000 in
theorem indexD_any (fb b off c : Nat) (l : Int) (v1 v2 : Value) (ws : List Wf) (w : World) (K : Blk w fb #[.int .i8 l, v1, v2] 27) (hl : B8 l) (hn : ws.length ≤ 1048576) (hb : b < w.heap.size) (hc : WAt w b off ws) (hw : Wall ws) :
    Calls Try.prog 71 #[.slice (some ⟨b, off, none⟩) ws.length c, vfV fb] w fun e w' => ∃ r : Int, e = .returned (.int .i64 r) ∧ (decide (0 ≤ r) = !(allD l ws)) ∧ Below w.heap.size w w' := by
  have HC := Lib.hid (fun x W (h : Below w.heap.size w W) (hx : W4 x) => vf1_any fb l v1 v2 x W (K.below h K.lt) hl hx)
  have HW := Lib.hid hw
  clear hw K hl
  go_enter Try.func71, Try.ntmps71
  go_wp2
  go_loopw [8] (fun i wr => ∃ k : Nat, i = .int .i64 k ∧ k ≤ ws.length ∧ AllD l ws k ∧ Below w.heap.size w wr) (fun i _ => ws.length - (intOf i).toNat)
  case atStart => exact ⟨0, rfl, Nat.zero_le _, fun j h => absurd h (by omega), Below.refl _ _⟩
  case round =>
    obtain ⟨k, rfl, hk, hno, hB⟩ := hrel
    have HN := Lib.hid hno
    clear hno
    by_cases hlt : k < ws.length
    · obtain ⟨c0, c1, c2, c3⟩ := (hc.below hB hb).four k hlt
      have hkl : (k : Int) < (ws.length : Int) := by omega
      have HCk := Lib.hid (HC.out (wI ws k) wr hB (HW.out k))
      have HNk := Lib.hid (fun h => HN.out.succ (k := k) h)
      have HFk := Lib.hid (fun (hq : okD l (wI ws k) = false) => (show allD l ws = false from cb_f (p := AllD l ws ws.length) (fun h => absurd (cb_t (p := OkD l (wI ws k)) (h k hlt)) (by rw [show cb (OkD l (wI ws k)) = false from hq]; simp))))
      generalize wI ws k = x at *
      cases hok : okD l x
      · rw [hok] at HCk
        have HR := Lib.hid (HFk.out hok)
        clear hok HFk HNk
        go_wp2_with fail
        refine HCk.out.mono ?_
        rintro e w2 ⟨rfl, hb2⟩
        have HB2 := Lib.hid (hB.trans (hb2.mono hB.size))
        clear hb2 c0 c1 c2 c3 HCk hB
        go_wp2
        go_ret
        exact ⟨k, rfl, by rw [HR.out]; simp, HB2.out⟩
      · rw [hok] at HCk
        have HNN := Lib.hid (HNk.out hok)
        clear hok HFk HNk
        go_wp2_with fail
        refine HCk.out.mono ?_
        rintro e w2 ⟨rfl, hb2⟩
        have HB2 := Lib.hid (hB.trans (hb2.mono hB.size))
        clear hb2 c0 c1 c2 c3 HCk hB
        go_wp2
        go_roundw
        case rel => exact ⟨k + 1, by go_num, by omega, HNN.out, HB2.out⟩
        case measure => simp [intOf]; omega
    · have HR := Lib.hid (show allD l ws = true from cb_t (fun j hj => HN.out j (by omega)))
      go_wp2
      go_ret
      exact ⟨-1, rfl, by rw [HR.out]; rfl, hB⟩
theorem containsD_any (fb b off c : Nat) (l : Int) (v1 v2 : Value) (ws : List Wf) (w : World) (K : Blk w fb #[.int .i8 l, v1, v2] 27) (hl : B8 l) (hn : ws.length ≤ 1048576) (hb : b < w.heap.size) (hc : WAt w b off ws) (hw : Wall ws) :
    Calls Try.prog 62 #[.slice (some ⟨b, off, none⟩) ws.length c, vfV fb] w fun e w' => e = .returned (.bool (!(allD l ws))) ∧ Below w.heap.size w w' := by
  have H := Lib.hid (indexD_any fb b off c l v1 v2 ws w K hl hn hb hc hw)
  clear hw hc
  go_enter Try.func62, Try.ntmps62
  go_wp2_with fail
  refine H.out.mono ?_
  rintro e w2 ⟨r, rfl, hr, hb⟩
  have HR := Lib.hid hr
  have HB := Lib.hid hb
  clear hr hb
  go_wp2
  go_ret
  exact ⟨retb HR.out, HB.out⟩
set_option maxHeartbeats 2000000 in
theorem validFixed_any (l k : Int) (a : Option Addr) (c : Nat) (ws : List Wf) (w : World) (hs : Slw w.heap.size w a ws) (hl : B8 l) (hk : B8 k) (hn : ws.length ≤ 1048576) (hw : Wall ws) :
    Calls Try.prog 49 #[fixV l k a ws.length c] w fun e w' => e = .returned (.bool (okX l k ws)) ∧ Below w.heap.size w w' := by
  have F0 := (FR.start w).box #[.int .i8 l, .int .i8 k, .slice a ws.length c] 27
  have HL := Lib.hid (fun W => within_any l 1 4 W)
  have HK := Lib.hid (fun W => within_any k 0 2 W)
  have hl8 := hl
  have hk8 := hk
  unfold B8 at hl hk
  have HB := Lib.hid F0.below
  have HKK := Lib.hid (F0.blk _ List.mem_cons_self)
  clear F0
  by_cases h4 : 1 ≤ l ∧ l ≤ 4
  case neg =>
    have HR := Lib.hid (show okX l k ws = false from cb_f (fun h => h4 h.1))
    rw [show inB l 1 4 = false from cb_f h4] at HL
    clear h4
    go_enter Try.func49, Try.ntmps49
    go_wp2_with fail
    refine (HL.out _).mono ?_
    rintro e w2 ⟨rfl, rfl⟩
    go_wp2
    go_ret
    exact ⟨retb HR.out.symm, HB.out⟩
  rw [show inB l 1 4 = true from cb_t h4] at HL
  by_cases h2 : 0 ≤ k ∧ k ≤ 2
  case neg =>
    have HR := Lib.hid (show okX l k ws = false from cb_f (fun h => h2 h.2.1))
    rw [show inB k 0 2 = false from cb_f h2] at HK
    clear h4 h2
    go_enter Try.func49, Try.ntmps49
    go_wp2_with fail
    refine (HL.out _).mono ?_
    rintro e w2 ⟨rfl, rfl⟩
    go_wp2_with fail
    refine (HK.out _).mono ?_
    rintro e w2 ⟨rfl, rfl⟩
    go_wp2
    go_ret
    exact ⟨retb HR.out.symm, HB.out⟩
  rw [show inB k 0 2 = true from cb_t h2] at HK
  by_cases h1 : (ws.length : Int) < 1
  · have HR := Lib.hid (show okX l k ws = false from cb_f (fun h => by have := h.2.2.1; omega))
    clear h4 h2
    go_enter Try.func49, Try.ntmps49
    go_wp2_with fail
    refine (HL.out _).mono ?_
    rintro e w2 ⟨rfl, rfl⟩
    go_wp2_with fail
    refine (HK.out _).mono ?_
    rintro e w2 ⟨rfl, rfl⟩
    go_wp2
    go_ret
    exact ⟨retb HR.out.symm, HB.out⟩
  by_cases h80 : 80 < (ws.length : Int)
  · have HR := Lib.hid (show okX l k ws = false from cb_f (fun h => by have := h.2.2.1; omega))
    clear h4 h2
    go_enter Try.func49, Try.ntmps49
    go_wp2_with fail
    refine (HL.out _).mono ?_
    rintro e w2 ⟨rfl, rfl⟩
    go_wp2_with fail
    refine (HK.out _).mono ?_
    rintro e w2 ⟨rfl, rfl⟩
    go_wp2
    go_ret
    exact ⟨retb HR.out.symm, HB.out⟩
  rcases hs with hs | ⟨b, off, rfl, hb, hc⟩
  · subst hs; simp at h1
  have HR := Lib.hid (show okX l k ws = allD l ws from by
    unfold okX allD
    by_cases h : AllD l ws ws.length
    · rw [cb_t h, cb_t (p := OkX l k ws) ⟨h4, h2, by omega, h⟩]
    · rw [cb_f h, cb_f (p := OkX l k ws) (fun h' => h h'.2.2.2)])
  have HC := Lib.hid (containsD_any w.heap.size b off c l (.int .i8 k) (.slice (some ⟨b, off, none⟩) ws.length c) ws _ HKK.out hl8 hn (by simp; omega) (hc.below HB.out hb) hw)
  generalize allD l ws = r at *
  clear hw hc hl8 hk8 h4 h2
  go_enter Try.func49, Try.ntmps49
  go_wp2_with fail
  refine (HL.out _).mono ?_
  rintro e w2 ⟨rfl, rfl⟩
  go_wp2_with fail
  refine (HK.out _).mono ?_
  rintro e w2 ⟨rfl, rfl⟩
  go_wp2_with fail
  refine HC.out.mono ?_
  rintro e w3 ⟨rfl, hb3⟩
  have HB3 := Lib.hid (HB.out.trans (hb3.mono HB.out.size))
  clear hb3
  go_wp2
  go_ret
  exact ⟨retb (by simp [HR.out]), HB3.out⟩
end Go.Proofs.Ytieghjpecoiodaa
