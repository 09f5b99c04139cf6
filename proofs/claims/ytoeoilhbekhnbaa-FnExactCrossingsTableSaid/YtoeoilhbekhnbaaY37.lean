/-
  What the functions of the search of ferries answer; the walks of their models.
-/
import Derived.Test.YtoeoilhbekhnbaaY34
import Derived.Test.YtoeoilhbekhnbaaY32
import Derived.Test.YtoeoilhbekhnbaaOwn
import Derived.Laws.AppendOwn
namespace Go.Proofs.Ytoeoilhbekhnbaa
open Go.RowKit
set_option maxRecDepth 100000
set_option linter.unusedVariables false

/-- How many banks have numbers; the number of the last bank. -/
def nB (l : Int) : Nat := (2 * (allI l + 1)).toNat
def laN (l : Int) : Nat := (allI l + 1).toNat
theorem nB_eq {l : Int} (hl : 1 ≤ l ∧ l ≤ 8) : ((nB l : Nat) : Int) = 2 * (allI l + 1) ∧ nB l ≤ 512 ∧ ((laN l : Nat) : Int) = allI l + 1 ∧ laN l < nB l := by
  have h := allI_le hl
  unfold nB laN
  omega
def ctL (l k : Int) (xs : List Int) : List Int := if okY l k xs = true then (stA l k xs (nB l)).tb else []
def ctC (l k : Int) (xs : List Int) : Int := if okY l k xs = true then 0 else 1
theorem ctL_len (l k : Int) (xs : List Int) : (ctL l k xs).length ≤ 512 := by
  unfold ctL
  split
  · rename_i h
    have h1 := (okY_t h).1
    have h2 := nB_eq h1
    rw [(stA_inv h1 h2.1).tb]; exact h2.2.1
  · simp
/-- The bank d crossings ahead of the bank i; the loads of the last d crossings. -/
def pvN (s : St) (i : Nat) : Nat → Nat
  | 0 => i
  | d + 1 => (s.fr.getD (pvN s i d) 0).toNat
def byD (s : St) (i : Nat) : Nat → List Int
  | 0 => []
  | d + 1 => s.by'.getD (pvN s i d) 0 :: byD s i d
def byV (s : St) (i : Nat) : List Int := byD s i (s.tb.getD i 0).toNat
theorem byD_len (s : St) (i : Nat) : ∀ d, (byD s i d).length = d
  | 0 => rfl
  | d + 1 => by show (byD s i d).length + 1 = _; rw [byD_len s i d]
theorem pvN_bd {l : Int} {N : Nat} {s : St} (h : Inv N s) (h2 : Inv2 l N s) {i : Nat} (hi : i < N) : ∀ d : Nat, (d : Int) ≤ s.tb.getD i 0 → pvN s i d < N ∧ s.tb.getD (pvN s i d) 0 = s.tb.getD i 0 - d
  | 0, _ => ⟨hi, by simp [pvN]⟩
  | d + 1, hd => by
    obtain ⟨h3, h4⟩ := pvN_bd h h2 hi d (by omega)
    have h5 := h2.prev _ h3 (by omega)
    have h6 := h2.back _ h3
    exact ⟨by show (s.fr.getD _ 0).toNat < N; omega, by show s.tb.getD (s.fr.getD (pvN s i d) 0).toNat 0 = _; rw [h5, h4]; push_cast; omega⟩
def scF (l k : Int) (xs : List Int) : Bool := decide (0 ≤ (stA l k xs (nB l)).tb.getD (laN l) 0)
def scL (l k : Int) (xs : List Int) : List Int := if okY l k xs = true then (if scF l k xs = true then byV (stA l k xs (nB l)) (laN l) else []) else []
def scC (l k : Int) (xs : List Int) : Int := if okY l k xs = true then (if scF l k xs = true then 0 else 6) else 1
theorem scL_len (l k : Int) (xs : List Int) : (scL l k xs).length ≤ 512 := by
  unfold scL
  split
  · rename_i h
    have h1 := (okY_t h).1
    have h2 := nB_eq h1
    have h3 := stA_inv (k := k) (xs := xs) h1 h2.1
    have h4 := h3.far (laN l) h2.2.2.2
    have h5 := h3.short
    split
    · unfold byV; rw [byD_len]; omega
    · simp
  · simp
theorem ownV_of_blk {k : IntKind} {B T c n : Nat} {W : World} {t : TypeId} {xs : List Int} (h : Blk W T (ncells k xs) t) (hB : B ≤ T) (hn : n = xs.length) : OwnV k B W (.slice (some ⟨T, 0, none⟩) n c) xs := by
  subst hn
  exact .inr ⟨T, c, rfl, hB, h.lt, fun j hj => by rw [Nat.zero_add]; exact (h.cell j).trans (ncells_get _ _ _ hj), h.free⟩
def lenOfV : Value → Nat
  | .slice _ n _ => n
  | _ => 0
theorem uvals_one (xs : List Int) : ∀ u ∈ xs.map (Value.int .u16), u.oneCell' = true := fun u hu => by
  obtain ⟨x, _, rfl⟩ := List.mem_map.1 hu
  rfl
theorem specCrossingsTable_any (l k : Int) (a : Option Addr) (c : Nat) (xs : List Int) (w : World) (hs : Sl .u16 w.heap.size w a xs) (hl : B8 l) (hk : B8 k) (hn : xs.length ≤ 1048576) (hw : U16 xs) :
    Calls Try.prog 10 #[ferV l k a xs.length c] w fun e w' => ∃ v, e = .returned (.tuple #[v, .int .i64 (ctC l k xs)]) ∧ OwnV .i16 w.heap.size w' v (ctL l k xs) ∧ Below w.heap.size w w' := by
  have F0 := (FR.start w).box #[.int .i8 l, .int .i8 k, .slice a xs.length c] 30
  have HO := Lib.hid (l05Ok_any w.heap.size l k a c xs _ (F0.blk _ List.mem_cons_self) (hs.up F0.below (Nat.le_refl _)) hl hk hn hw)
  have HF := Lib.hid F0
  unfold ctL ctC
  cases hok : okY l k xs
  · rw [hok] at HO
    simp only [Bool.false_eq_true, if_false]
    clear hok F0 hs hl hk hw
    go_enter Try.func10, Try.ntmps10
    go_wp2_with fail
    refine HO.out.mono ?_
    rintro e w2 ⟨rfl, hd⟩
    have HB := Lib.hid (HF.out.next hd.below).below
    clear hd HF HO
    go_wp2
    go_ret2
    exact ⟨_, rfl, OwnV.nil _ _ _ _ _, HB.out.alloc HB.out.size _⟩
  · rw [hok] at HO
    simp only [if_true]
    have h8 := (okY_t hok).1
    have hk8 : 0 ≤ k ∧ k ≤ 8 := by have := okY_t hok; omega
    have hN := nB_eq h8
    have HI := Lib.hid (stA_inv (k := k) (xs := xs) h8 hN.1).tb
    have HFD := Lib.hid (fun (W : World) (h : FR w [(w.heap.size, #[.int .i8 l, .int .i8 k, .slice a xs.length c], 30)] W) => l05Find_any w.heap.size l k a c xs (nB l) W (h.blk _ List.mem_cons_self) (hs.up h.below (Nat.le_refl _)) hn h8 hk8 hN.1)
    generalize stA l k xs (nB l) = s at *
    generalize nB l = N at *
    clear hok F0 hs hl hk hw hN h8 hk8
    go_enter Try.func10, Try.ntmps10
    go_wp2_with fail
    refine HO.out.mono ?_
    rintro e w2 ⟨rfl, hd⟩
    have F1 := HF.out.next hd.below
    have HG := Lib.hid (HFD.out _ F1)
    have HB := Lib.hid F1.below
    clear hd HF HO HFD F1
    go_wp2_with fail
    refine HG.out.mono ?_
    rintro e w4 ⟨S, T, Y, Z, U, rfl, hM⟩
    have HB4 := Lib.hid (HB.out.trans (hM.below.mono HB.out.size))
    have HV := Lib.hid (ownV_of_blk (c := N) hM.bT (Nat.le_trans HB.out.size hM.lo.2.1) HI.out.symm)
    obtain ⟨s0, s1, s2, s3, -⟩ := hM.bS.four
    clear hM HG
    go_wp2
    go_ret2
    exact ⟨_, rfl, HV.out, HB4.out⟩
set_option maxHeartbeats 2000000 in
theorem specShortestCrossing_any (l k : Int) (a : Option Addr) (c : Nat) (xs : List Int) (w : World) (hs : Sl .u16 w.heap.size w a xs) (hl : B8 l) (hk : B8 k) (hn : xs.length ≤ 1048576) (hw : U16 xs) :
    Calls Try.prog 18 #[ferV l k a xs.length c] w fun e w' => ∃ v, e = .returned (.tuple #[v, .int .i64 (scC l k xs)]) ∧ OwnV .u16 w.heap.size w' v (scL l k xs) ∧ Below w.heap.size w w' := by
  have F0 := (FR.start w).box #[.int .i8 l, .int .i8 k, .slice a xs.length c] 30
  have HO := Lib.hid (l05Ok_any w.heap.size l k a c xs _ (F0.blk _ List.mem_cons_self) (hs.up F0.below (Nat.le_refl _)) hl hk hn hw)
  have HF := Lib.hid F0
  unfold scL scC scF
  cases hok : okY l k xs
  · rw [hok] at HO
    simp only [Bool.false_eq_true, if_false]
    clear hok F0 hs hl hk hw
    go_enter Try.func18, Try.ntmps18
    go_wp2_with fail
    refine HO.out.mono ?_
    rintro e w2 ⟨rfl, hd⟩
    have HB := Lib.hid (HF.out.next hd.below).below
    clear hd HF HO
    go_wp2
    go_ret2
    exact ⟨_, rfl, OwnV.nil _ _ _ _ _, HB.out.alloc HB.out.size _⟩
  · rw [hok] at HO
    simp only [if_true]
    have h8 := (okY_t hok).1
    have hk8 : 0 ≤ k ∧ k ≤ 8 := by have := okY_t hok; omega
    have hN := nB_eq h8
    have hI := stA_inv (k := k) (xs := xs) h8 hN.1
    have hI2 := stA_inv2 (k := k) (xs := xs) h8 hN.1
    have HFD := Lib.hid (fun (W : World) (h : FR w [(w.heap.size, #[.int .i8 l, .int .i8 k, .slice a xs.length c], 30)] W) => l05Find_any w.heap.size l k a c xs (nB l) W (h.blk _ List.mem_cons_self) (hs.up h.below (Nat.le_refl _)) hn h8 hk8 hN.1)
    have HLA := Lib.hid (fun (W : World) (h : FR w [(w.heap.size, #[.int .i8 l, .int .i8 k, .slice a xs.length c], 30)] W) => (show Calls Try.prog 41 _ W fun e w' => e = .returned (.int .i64 (laN l : Nat)) ∧ W = w' by
      rw [hN.2.2.1]; exact l05Last_any w.heap.size l _ _ W (h.blk _ List.mem_cons_self) h8))
    generalize stA l k xs (nB l) = s at *
    generalize nB l = N at *
    generalize laN l = la at *
    have hlaN := hN.2.2.2
    have hN5 := hN.2.1
    have HBD := Lib.hid (pvN_bd hI hI2 hlaN)
    have hfar := hI.far la hlaN
    have hsh := hI.short
    have HI := Lib.hid (And.intro hI hI2)
    clear hok F0 hs hl hk hw hN h8 hk8 hI hI2
    obtain ⟨vl, hvl⟩ : ∃ vl, s.tb.getD la 0 = vl := ⟨_, rfl⟩
    rw [hvl] at HBD hfar ⊢
    have HVL := Lib.hid hvl
    clear hvl
    obtain ⟨LL, hLL⟩ : ∃ LL : List Int, LL = if decide (0 ≤ vl) = true then byV s la else [] := ⟨_, rfl⟩
    obtain ⟨CC, hCC⟩ : ∃ CC : Int, CC = if decide (0 ≤ vl) = true then 0 else 6 := ⟨_, rfl⟩
    rw [← hLL, ← hCC]
    have HLC := Lib.hid (And.intro hLL hCC)
    clear hLL hCC
    have hlai : (la : Int) < (N : Int) := by omega
    go_enter Try.func18, Try.ntmps18
    go_wp2_with fail
    refine HO.out.mono ?_
    rintro e w2 ⟨rfl, hd⟩
    have F1 := HF.out.next hd.below
    have HG := Lib.hid (HFD.out _ F1)
    have HF1 := Lib.hid F1
    clear hd HF HO HFD F1
    go_wp2_with fail
    refine HG.out.mono ?_
    rintro e w4 ⟨S, T, Y, Z, U, rfl, hM⟩
    have HF4 := Lib.hid (HF1.out.next (hM.below))
    have HM := Lib.hid hM
    have HLA4 := Lib.hid (HLA.out _ HF4.out)
    clear hM HG HLA HF1
    go_wp2_with fail
    refine HLA4.out.mono ?_
    rintro e w5 ⟨rfl, rfl⟩
    obtain ⟨s0, s1, s2, s3, -⟩ := HM.out.bS.four
    have t1 : w4.cell? ⟨T, la, none⟩ = some (.int .i16 vl) := by
      rw [HM.out.bT.cell, ← HVL.out]; exact ncells_get _ _ _ (by rw [HI.out.1.tb]; exact hlaN)
    by_cases hv : 0 ≤ vl
    case neg =>
      have hvm : vl = -1 := by omega
      subst hvm
      have HB := Lib.hid HF4.out.below
      have HL2 := Lib.hid (show LL = [] ∧ CC = 6 from HLC.out)
      go_wp2
      go_ret2
      rw [HL2.out.1, HL2.out.2]
      exact ⟨_, rfl, OwnV.nil _ _ _ _ _, HB.out.alloc HB.out.size _⟩
    obtain ⟨st, hst⟩ : ∃ st : Nat, vl = (st : Int) := ⟨vl.toNat, by omega⟩
    have HL2 := Lib.hid (show LL = byD s la st ∧ CC = 0 by have h := HLC.out; rw [decide_eq_true hv, if_pos rfl, if_pos rfl] at h; rw [h.1, h.2]; unfold byV; rw [HVL.out, hst]; exact ⟨rfl, rfl⟩)
    subst hst
    have hnl : ¬ (st : Int) < 0 := by omega
    obtain ⟨i0, hinf, hz0, hz1, hz2⟩ := info_parts Try.info_u16
    have hzw := HF4.out.below.size
    have hOW := Lib.hid (World.ownsRow_made (base := w.heap.size) (e := 62) (size := 1) w4 #[] 0 hzw (by unfold maxLen; omega) (by simp))
    have hBA := Lib.hid ((Below.refl w4.heap.size w4).alloc (Nat.le_refl _) (.cells #[] 62))
    go_wp2_with fail
    clear s0 s1 s2 s3 t1
    go_loopw [5, 6] (fun iv v wr => ∃ (d g c : Nat), iv = .int .i64 (pvN s la d : Nat) ∧ v = .slice (some ⟨g, 0, none⟩) d c ∧ d ≤ st ∧ wr.ownsRow w.heap.size 62 1 (.slice (some ⟨g, 0, none⟩) d c) d ((byD s la d).map (Value.int .u16)) ∧ Below w4.heap.size w4 wr) (fun _ v _ => st - lenOfV v)
    case atStart => exact ⟨0, _, _, rfl, rfl, Nat.zero_le _, hOW.out, hBA.out⟩
    case round =>
      clear hOW hBA
      obtain ⟨d, g, c, rfl, rfl, hd, hown, hB⟩ := hrel
      obtain ⟨hkN, hkt⟩ := HBD.out d (by omega)
      have hJ := HM.out.next hB
      have hbk := HI.out.2.back _ hkN
      have HNX := Lib.hid (show pvN s la (d + 1) = (s.fr.getD (pvN s la d) 0).toNat from rfl)
      have HWD := Lib.hid (show byD s la (d + 1) = s.by'.getD (pvN s la d) 0 :: byD s la d from rfl)
      have hwl := byD_len s la d
      generalize pvN s la d = p at *
      obtain ⟨s0, s1, s2, s3, -⟩ := hJ.bS.four
      have t1 : wr.cell? ⟨T, p, none⟩ = some (.int .i16 ((st : Int) - d)) := by
        rw [hJ.bT.cell, ← hkt]; exact ncells_get _ _ _ (by rw [HI.out.1.tb]; exact hkN)
      have hki : (p : Int) < (N : Int) := by omega
      by_cases hlt : d < st
      · have u0 : wr.cell? ⟨U, p, none⟩ = some (.int .u16 (s.by'.getD p 0)) := by
          rw [hJ.bU.cell]; exact ncells_get _ _ _ (by rw [HI.out.1.by']; exact hkN)
        generalize s.by'.getD p 0 = x at *
        have hpos : (0 : Int) < (st : Int) - d := by omega
        have hsz := hB.size
        have HOV := Lib.hid (show (wr.alloc (.cells #[.int .u16 x] 62)).ownsRow w.heap.size 62 1 (.slice (some ⟨wr.heap.size, 0, none⟩) 1 1) 1 [.int .u16 x] from ⟨rfl, .inr ⟨wr.heap.size, 1, _, rfl, by omega, heap_alloc_new wr _, Nat.le_refl _, by decide, rfl, rfl⟩⟩)
        have HOL := Lib.hid (show ∀ j u, ((byD s la d).map (Value.int .u16))[j]? = some u → (wr.alloc (.cells #[.int .u16 x] 62)).cell? ((⟨g, 0, none⟩ : Addr).add j) = some u from fun j u hu => (hown.alloc _).cells (g := g) rfl j u hu)
        have HB := Lib.hid hB
        clear hB hJ
        go_wp2_with (at_builtin; refine wpList_append_own _ rfl _ _ 23 rfl w.heap.size 62 i0 (.int .u16 0) 1 2 Try.underlying23 hinf hz0 hz1 hz2 rfl (by decide) (.slice (some ⟨wr.heap.size, 0, none⟩) 1 1) 1 _ rfl HOV.out ⟨g, 0, none⟩ d c ((byD s la d).map (Value.int .u16)) rfl (by rw [List.length_map, hwl]; omega) HOL.out (uvals_one _) (by unfold maxLen; omega) (by omega) (by simp; omega) ?_)
        intro v' w1 hown' hgrow hnil
        obtain ⟨g', cap', rfl, -, -⟩ := hown'.form (by omega)
        have hgl := hgrow
        have HB1 := Lib.hid (show Below w4.heap.size w4 w1 from (HB.out.alloc hsz _).grown hgrow (by simp; omega) (fun j hj => by have e : wr.heap.size = j := Option.some.inj hj; omega))
        have hJ1 := HM.out.next HB1.out
        obtain ⟨s0', s1', s2', s3', -⟩ := hJ1.bS.four
        have t2 : w1.cell? ⟨Z, p, none⟩ = some (.int .i64 (s.fr.getD p 0)) := by
          rw [hJ1.bZ.cell]; exact ncells_get _ _ _ (by rw [HI.out.1.fr]; exact hkN)
        have HON := Lib.hid (show w1.ownsRow w.heap.size 62 1 (.slice (some ⟨g', 0, none⟩) (d + 1) cap') (d + 1) ((byD s la (d + 1)).map (Value.int .u16)) by rw [HWD.out, Nat.add_comm d 1]; exact hown')
        clear hown' hgrow hnil hJ1 HB HOV HOL hown s0 s1 s2 s3 t1 u0 hgl
        have hfe : s.fr.getD p 0 = ((pvN s la (d + 1) : Nat) : Int) := by rw [HNX.out]; omega
        rw [hfe] at t2
        go_wp2
        go_roundw
        case rel => exact ⟨d + 1, g', cap', rfl, by rw [Nat.add_comm], by omega, HON.out, HB1.out⟩
        case measure => simp [lenOfV]; omega
      · obtain rfl : d = st := by omega
        have HO2 := Lib.hid (OwnV.ofOwns (k := .u16) hwl.symm hown)
        have hz : ¬ (0 : Int) < (d : Int) - d := by omega
        have HB := Lib.hid (HF4.out.below.trans (hB.mono HF4.out.below.size))
        clear hJ hown
        go_wp2
        go_ret2
        rw [HL2.out.1, HL2.out.2]
        exact ⟨_, rfl, HO2.out, HB.out⟩
end Go.Proofs.Ytoeoilhbekhnbaa
