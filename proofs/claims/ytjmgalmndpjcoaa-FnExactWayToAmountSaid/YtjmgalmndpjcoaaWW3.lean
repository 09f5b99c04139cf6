/-
  The way to a water: the program's walk.
-/
import Derived.Test.YtjmgalmndpjcoaaWW1
import Derived.StillTailTactics
namespace Go.Proofs.Ytjmgalmndpjcoaa
open Go.RowKit Go.Maps Go.MapKept Go.ChangeMaps
set_option maxRecDepth 100000
set_option linter.unusedVariables false

theorem run_make_mv16 (n : Nat) (hn : n ≤ 1048576) (w : World) : (Instr.makeSlice 39 (.int .i16 n) (.int .i16 n)).run Try.prog w = .ok (.slice (some ⟨w.heap.size, 0, none⟩) n n) (w.alloc (.cells (madeCells #[.int .i8 0, .int .i8 0, .int .i8 0] (n * 3)) 78)) := by
  obtain ⟨i, hi, hzz⟩ := Option.map_eq_some_iff.1 Try.info_mv
  simp only [Prod.mk.injEq] at hzz
  obtain ⟨hz, hs, hb⟩ := hzz
  have hr := run_make (P := Try.prog) w 39 78 i _ Try.underlying39 hi hz .i16 .i16 (n : Int) (n : Int) (by omega) (Int.le_refl _) (by rw [hb]; omega) (by omega)
  rw [hs] at hr
  simp only [Int.toNat_natCast] at hr
  exact hr
/-- What the row of the way holds behind d moves. -/
noncomputable def rowW (n : Nat) (s : GS) (i st d : Nat) : List Mv := List.replicate (st - d) (0, 0, 0) ++ wayD n s i d
theorem rowW_len {n : Nat} {s : GS} {i st d : Nat} (h : d ≤ st) : (rowW n s i st d).length = st := by
  unfold rowW; rw [List.length_append, wayD_len, List.length_replicate]; omega
theorem rowW_zero (n : Nat) (s : GS) (i st : Nat) : rowW n s i st 0 = List.replicate st (0, 0, 0) := by simp [rowW, wayD]
theorem rowW_all (n : Nat) (s : GS) (i st : Nat) : rowW n s i st st = wayD n s i st := by simp [rowW]
theorem rowW_set {n : Nat} {s : GS} {i st d : Nat} (h : d < st) : (rowW n s i st d).set (st - d - 1) (mvI (allM n) (s.mv.getD (bkN s i d) 0).toNat) = rowW n s i st (d + 1) := by
  unfold rowW
  obtain ⟨m, hm⟩ : ∃ m, st - d = m + 1 := ⟨st - d - 1, by omega⟩
  rw [hm, show st - (d + 1) = m by omega, show m + 1 - 1 = m from rfl, List.set_append_left _ _ (by simp)]
  have e : (List.replicate (m + 1) ((0 : Int), (0 : Int), (0 : Int))).set m (mvI (allM n) (s.mv.getD (bkN s i d) 0).toNat) = List.replicate m (0, 0, 0) ++ [mvI (allM n) (s.mv.getD (bkN s i d) 0).toNat] := by
    rw [List.replicate_succ', List.set_append_right _ _ (by simp)]
    simp
  rw [e, List.append_assoc]
  rfl
theorem MapAt.drewn {P : Program} {k : TypeId} {w : World} {b n : Nat} {F : Value → Option Value} (h : MapAt P k w b n F) : MapAt P k w.drew b n F := h.block rfl
/-- What a round of the way stores. -/
noncomputable def stoW (wq : World) (M B p : Nat) (v0 v1 v2 : Int) (E1 : Nat → Int) : World := (((((((wq.setCell ⟨M, p * 3, none⟩ (.int .i8 v0)).setCell ⟨M, p * 3 + 1, none⟩ (.int .i8 v1)).setCell ⟨M, p * 3 + 2, none⟩ (.int .i8 v2)).setCell ⟨B, 0, none⟩ (.int .i16 (E1 0))).setCell ⟨B, 1, none⟩ (.int .i16 (E1 1))).setCell ⟨B, 2, none⟩ (.int .i16 (E1 2))).setCell ⟨B, 3, none⟩ (.int .i16 (E1 3))).drew
theorem way_stored {w wq : World} {L B0 B1 B2 mb nq p : Nat} {F : Value → Option Value} {cs : Array Value} {t0 : TypeId} {E0 E1 : Nat → Int} {ms : List Mv} {v0 v1 v2 : Int}
    (q1 : Blk wq B0 cs t0) (q2 : Blk wq B1 #[.int .i16 (E0 0), .int .i16 (E0 1), .int .i16 (E0 2), .int .i16 (E0 3)] 30) (q3 : Blk wq B2 (mcells ms) 78) (q4 : MapAt Try.prog 30 wq mb nq F) (q5 : Below L w wq)
    (hp : p < ms.length) (n1 : B0 ≠ B1) (n2 : B0 ≠ B2) (n3 : B1 ≠ B2) (n4 : mb ≠ B1) (n5 : mb ≠ B2) (l1 : L ≤ B1) (l2 : L ≤ B2) :
    Blk (stoW wq B2 B1 p v0 v1 v2 E1) B0 cs t0 ∧ Blk (stoW wq B2 B1 p v0 v1 v2 E1) B1 #[.int .i16 (E1 0), .int .i16 (E1 1), .int .i16 (E1 2), .int .i16 (E1 3)] 30 ∧ Blk (stoW wq B2 B1 p v0 v1 v2 E1) B2 (mcells (ms.set p (v0, v1, v2))) 78 ∧ MapAt Try.prog 30 (stoW wq B2 B1 p v0 v1 v2 E1) mb nq F ∧ Below L w (stoW wq B2 B1 p v0 v1 v2 E1) := by
  unfold stoW
  have h3 := ((q3.set (p * 3) (.int .i8 v0)).set (p * 3 + 1) (.int .i8 v1)).set (p * 3 + 2) (.int .i8 v2)
  have e := mcells_set ms p (v0, v1, v2) hp
  dsimp only at e
  rw [e] at h3
  refine ⟨blk_dw ?_, blk_dw ?_, blk_dw ?_, MapAt.drewn ?_, Below.drew ?_⟩
  · exact ((((((q1.setOther n2 _ _).setOther n2 _ _).setOther n2 _ _).setOther n1 _ _).setOther n1 _ _).setOther n1 _ _).setOther n1 _ _
  · have h := ((((((q2.setOther n3 (p * 3) (.int .i8 v0)).setOther n3 (p * 3 + 1) (.int .i8 v1)).setOther n3 (p * 3 + 2) (.int .i8 v2)).set 0 (.int .i16 (E1 0))).set 1 (.int .i16 (E1 1))).set 2 (.int .i16 (E1 2))).set 3 (.int .i16 (E1 3))
    exact h
  · exact (((h3.setOther n3.symm _ _).setOther n3.symm _ _).setOther n3.symm _ _).setOther n3.symm _ _
  · exact ((((((q4.setCell n5 _).setCell n5 _).setCell n5 _).setCell n4 _).setCell n4 _).setCell n4 _).setCell n4 _
  · exact ((((((q5.setCell l2 _).setCell l2 _).setCell l2 _).setCell l1 _).setCell l1 _).setCell l1 _).setCell l1 _
set_option maxHeartbeats 1000000 in
theorem wayTo_any {J : List Int} {M nq g n cap mb : Nat} {s : GS} (i : Nat) (w : World) (hJ : OkJ J) (hI : GInv (nW J) M s) (hMp : ∃ F, MapAt Try.prog 30 w mb nq F ∧ FSp J s F) (hi : i < nW J) (ht : 0 ≤ s.tb.getD i 0) :
    Calls Try.prog 47 #[.agg #[.slice (some ⟨g, 0, none⟩) n cap, .map (some mb)], watV (atV J i)] w fun e w' => ∃ v, e = .returned v ∧ OwnX w.heap.size w' v (wayV J.length s i) ∧ Below w.heap.size w w' := by
  obtain ⟨F, hF, hS⟩ := hMp
  have HBD := Lib.hid (bkN_bd hI hi)
  have HI := Lib.hid hI
  have hsh := hI.short
  have hN := (nW_eq hJ).2.2
  have hfar := hI.far i hi
  have HL := Lib.hid (fun k (hk : k < nW J) (h0 : 0 ≤ s.tb.getD k 0) => (show F (watV (atV J k)) = some (arrV (atV J (s.fr.getD k 0).toNat) (mvI (allM J.length) (s.mv.getD k 0).toNat) (s.tb.getD k 0)) by rw [hS.1 k hk]; unfold arO; rw [if_pos h0]))
  have HK := Lib.hid (fun k : Nat => keyW_mk (atV J k) (fun i hi => by have := atV_bd (i := i) hJ.2.1 (k : Int); omega))
  obtain ⟨st, hst⟩ : ∃ st : Nat, s.tb.getD i 0 = (st : Int) := ⟨(s.tb.getD i 0).toNat, by omega⟩
  have HW := Lib.hid (show wayV J.length s i = wayD J.length s i st by unfold wayV; rw [hst]; rfl)
  rw [hst] at HBD hfar
  have hst5 : st ≤ 5000 := by omega
  have hmk := run_make_mv16 st (by omega)
  simp only [made_mcells] at hmk
  have hfld := field_arr2
  have hR0 := ((blk_new w #[.slice (some ⟨g, 0, none⟩) n cap, .map (some mb)] 74).alloc (.cells #[.int .i16 (atV J i 0), .int .i16 (atV J i 1), .int .i16 (atV J i 2), .int .i16 (atV J i 3)] 30)).alloc (.cells (mcells (List.replicate st (0, 0, 0))) 78)
  have hW0 := (blk_new (w.alloc (.cells #[.slice (some ⟨g, 0, none⟩) n cap, .map (some mb)] 74)) #[.int .i16 (atV J i 0), .int .i16 (atV J i 1), .int .i16 (atV J i 2), .int .i16 (atV J i 3)] 30).alloc (.cells (mcells (List.replicate st (0, 0, 0))) 78)
  have hM0 := blk_new ((w.alloc (.cells #[.slice (some ⟨g, 0, none⟩) n cap, .map (some mb)] 74)).alloc (.cells #[.int .i16 (atV J i 0), .int .i16 (atV J i 1), .int .i16 (atV J i 2), .int .i16 (atV J i 3)] 30)) (mcells (List.replicate st (0, 0, 0))) 78
  have hB0 := (((Below.refl w.heap.size w).alloc (Nat.le_refl _) (.cells #[.slice (some ⟨g, 0, none⟩) n cap, .map (some mb)] 74)).alloc (by simp) (.cells #[.int .i16 (atV J i 0), .int .i16 (atV J i 1), .int .i16 (atV J i 2), .int .i16 (atV J i 3)] 30)).alloc (by simp <;> omega) (.cells (mcells (List.replicate st (0, 0, 0))) 78)
  simp only [World.size_alloc] at hW0 hM0
  have hF2 := (hF.alloc (.cells #[.slice (some ⟨g, 0, none⟩) n cap, .map (some mb)] 74)).alloc (.cells #[.int .i16 (atV J i 0), .int .i16 (atV J i 1), .int .i16 (atV J i 2), .int .i16 (atV J i 3)] 30)
  have HF2 := Lib.hid hF2
  have H0 := Lib.hid (And.intro hR0 (And.intro hW0 (And.intro hM0 (And.intro (hF2.alloc (.cells (mcells (List.replicate st (0, 0, 0))) 78)) hB0))))
  have hmbl := hF.lt
  obtain ⟨kE, hkE⟩ := HK.out i
  have HKE := Lib.hid hkE
  have HV := Lib.hid (show (F (watV (atV J i))).getD (arrV (fun _ => 0) (0, 0, 0) 0) = .agg #[.int .i16 (atV J (s.fr.getD i 0).toNat 0), .int .i16 (atV J (s.fr.getD i 0).toNat 1), .int .i16 (atV J (s.fr.getD i 0).toNat 2), .int .i16 (atV J (s.fr.getD i 0).toNat 3), .int .i8 (mvI (allM J.length) (s.mv.getD i 0).toNat).1, .int .i8 (mvI (allM J.length) (s.mv.getD i 0).toNat).2.1, .int .i8 (mvI (allM J.length) (s.mv.getD i 0).toNat).2.2, .int .i16 (st : Int)] by rw [HL.out i hi ht, hst]; rfl)
  clear hF hF2 hS hkE hI hst ht hR0 hW0 hM0 hB0 hJ
  generalize hA0 : atV J (i : Int) = A at *
  have HA0 := Lib.hid hA0
  clear hA0
  generalize atV J (s.fr.getD i 0).toNat = A' at *
  generalize mvI (allM J.length) (s.mv.getD i 0).toNat = m' at *
  go_enter Try.func47, Try.ntmps47
  go_wp2_with (first | (at_lookup; refine wpList_lookH rfl _ _ 72 rfl 80 keyW Try.underlying72 (zeroArr _) rfl HF2.out (watV A) kE rfl HKE.out _ HV.out ?_) | fail)
  go_loopw [6] (fun iv wr => ∃ d : Nat, iv = .int .i64 ((st : Int) - d - 1) ∧ d ≤ st ∧ Blk wr w.heap.size #[.slice (some ⟨g, 0, none⟩) n cap, .map (some mb)] 74 ∧ Blk wr (w.heap.size + 1) #[.int .i16 (atV J (bkN s i d) 0), .int .i16 (atV J (bkN s i d) 1), .int .i16 (atV J (bkN s i d) 2), .int .i16 (atV J (bkN s i d) 3)] 30 ∧ Blk wr (w.heap.size + 1 + 1) (mcells (rowW J.length s i st d)) 78 ∧ MapAt Try.prog 30 wr mb nq F ∧ Below w.heap.size w wr) (fun iv _ => (intOf iv + 1).toNat)
  case atStart =>
    refine ⟨0, by simp, Nat.zero_le _, H0.out.1, ?_, by rw [rowW_zero]; exact H0.out.2.2.1, H0.out.2.2.2.1, H0.out.2.2.2.2⟩
    show Blk _ _ #[.int .i16 (atV J (i : Int) 0), .int .i16 (atV J (i : Int) 1), .int .i16 (atV J (i : Int) 2), .int .i16 (atV J (i : Int) 3)] _
    rw [HA0.out]
    exact H0.out.2.1
  case round =>
    clear H0 HF2 HV HKE hmk
    obtain ⟨d, rfl, hd, hR, hWb, hMb, hMap, hB⟩ := hrel
    obtain ⟨c0, c1, -⟩ := hR.pair
    have hsz := hB.size
    by_cases hlt : d < st
    · obtain ⟨hkN, hkt⟩ := HBD.out d (by omega)
      obtain ⟨kE, hkE⟩ := HK.out (bkN s i d)
      have HKE := Lib.hid hkE
      have HV := Lib.hid (show (F (watV (atV J (bkN s i d)))).getD (arrV (fun _ => 0) (0, 0, 0) 0) = .agg #[.int .i16 (atV J (bkN s i (d + 1) : Nat) 0), .int .i16 (atV J (bkN s i (d + 1) : Nat) 1), .int .i16 (atV J (bkN s i (d + 1) : Nat) 2), .int .i16 (atV J (bkN s i (d + 1) : Nat) 3), .int .i8 (mvI (allM J.length) (s.mv.getD (bkN s i d) 0).toNat).1, .int .i8 (mvI (allM J.length) (s.mv.getD (bkN s i d) 0).toNat).2.1, .int .i8 (mvI (allM J.length) (s.mv.getD (bkN s i d) 0).toNat).2.2, .int .i16 (s.tb.getD (bkN s i d) 0)] by rw [HL.out _ hkN (by omega)]; rfl)
      have HRS := Lib.hid (rowW_set (n := J.length) (s := s) (i := i) hlt)
      have hrl := rowW_len (n := J.length) (s := s) (i := i) hd
      have HBK := Lib.hid (show ∀ W (A0 : Nat → Int), A0 = atV J (bkN s i (d + 1) : Nat) → Blk W (w.heap.size + 1) #[.int .i16 (A0 0), .int .i16 (A0 1), .int .i16 (A0 2), .int .i16 (A0 3)] 30 → Blk W (w.heap.size + 1) #[.int .i16 (atV J (bkN s i (d + 1) : Nat) 0), .int .i16 (atV J (bkN s i (d + 1) : Nat) 1), .int .i16 (atV J (bkN s i (d + 1) : Nat) 2), .int .i16 (atV J (bkN s i (d + 1) : Nat) 3)] 30 from fun W A0 h hb => h ▸ hb)
      clear hkE
      generalize s.tb.getD (bkN s i d) 0 = z at *
      generalize mvI (allM J.length) (s.mv.getD (bkN s i d) 0).toNat = m3 at *
      obtain ⟨v0, v1, v2⟩ := m3
      generalize hE : atV J (bkN s i d : Nat) = E at *
      generalize hE1 : atV J (bkN s i (d + 1) : Nat) = E1 at *
      have HE := Lib.hid (And.intro hE hE1)
      clear hE hE1 hkt hkN
      simp only at HV HRS
      obtain ⟨p, hp⟩ : ∃ p : Nat, st - d - 1 = p := ⟨_, rfl⟩
      have hpe : (st : Int) - d - 1 = (p : Int) := by omega
      have hps : (p : Int) < (st : Int) := by omega
      have HPE := Lib.hid (And.intro hp hpe)
      rw [hpe]
      rw [hp] at HRS
      have hge : (0 : Int) ≤ (p : Int) := by omega
      obtain ⟨o0, f0⟩ : ∃ o, wr.cell? ⟨w.heap.size + 1 + 1, p * 3, none⟩ = some o := ⟨_, (hMb.cell (p * 3)).trans (mcells_get _ _ (by omega))⟩
      obtain ⟨o1, f1⟩ : ∃ o, wr.cell? ⟨w.heap.size + 1 + 1, p * 3 + 1, none⟩ = some o := ⟨_, (hMb.cell (p * 3 + 1)).trans (mcells_get _ _ (by omega))⟩
      obtain ⟨o2, f2⟩ : ∃ o, wr.cell? ⟨w.heap.size + 1 + 1, p * 3 + 2, none⟩ = some o := ⟨_, (hMb.cell (p * 3 + 2)).trans (mcells_get _ _ (by omega))⟩
      have f3 := hMb.free
      obtain ⟨e0, e1, e2, e3, e4⟩ := hWb.four
      have HMap := Lib.hid hMap
      have HALL := Lib.hid (And.intro hR (And.intro hWb (And.intro hMb (And.intro hMap hB))))
      have hml := hMap.lt
      clear hR hWb hMb hMap hB hp hpe
      go_wp2_with (first | (at_lookup; refine wpList_lookH rfl _ _ 72 rfl 80 keyW Try.underlying72 (zeroArr _) rfl HMap.out (watV E) kE rfl HKE.out _ HV.out ?_) | fail)
      have hbA := (Below.refl wr.heap.size wr).alloc (Nat.le_refl _) (.cells #[.int .i16 (E1 0), .int .i16 (E1 1), .int .i16 (E1 2), .int .i16 (E1 3), .int .i8 v0, .int .i8 v1, .int .i8 v2, .int .i16 z] 80)
      have hT := blk_new wr #[.int .i16 (E1 0), .int .i16 (E1 1), .int .i16 (E1 2), .int .i16 (E1 3), .int .i8 v0, .int .i8 v1, .int .i8 v2, .int .i16 z] 80
      have HA := Lib.hid (show Blk (wr.alloc (.cells #[.int .i16 (E1 0), .int .i16 (E1 1), .int .i16 (E1 2), .int .i16 (E1 3), .int .i8 v0, .int .i8 v1, .int .i8 v2, .int .i16 z] 80)) w.heap.size #[.slice (some ⟨g, 0, none⟩) n cap, .map (some mb)] 74 ∧ Blk (wr.alloc (.cells #[.int .i16 (E1 0), .int .i16 (E1 1), .int .i16 (E1 2), .int .i16 (E1 3), .int .i8 v0, .int .i8 v1, .int .i8 v2, .int .i16 z] 80)) (w.heap.size + 1) #[.int .i16 (E 0), .int .i16 (E 1), .int .i16 (E 2), .int .i16 (E 3)] 30 ∧ Blk (wr.alloc (.cells #[.int .i16 (E1 0), .int .i16 (E1 1), .int .i16 (E1 2), .int .i16 (E1 3), .int .i8 v0, .int .i8 v1, .int .i8 v2, .int .i16 z] 80)) (w.heap.size + 1 + 1) (mcells (rowW J.length s i st d)) 78 ∧ MapAt Try.prog 30 (wr.alloc (.cells #[.int .i16 (E1 0), .int .i16 (E1 1), .int .i16 (E1 2), .int .i16 (E1 3), .int .i8 v0, .int .i8 v1, .int .i8 v2, .int .i16 z] 80)) mb nq F ∧ Below w.heap.size w (wr.alloc (.cells #[.int .i16 (E1 0), .int .i16 (E1 1), .int .i16 (E1 2), .int .i16 (E1 3), .int .i8 v0, .int .i8 v1, .int .i8 v2, .int .i16 z] 80)) from
        ⟨HALL.out.1.alloc _, HALL.out.2.1.alloc _, HALL.out.2.2.1.alloc _, HALL.out.2.2.2.1.alloc _, HALL.out.2.2.2.2.alloc hsz _⟩)
      have hmw : mb < w.heap.size := hmbl
      have hne : wr.heap.size ≠ w.heap.size + 1 ∧ wr.heap.size ≠ w.heap.size + 1 + 1 := by
        have h1 := HALL.out.2.1.lt
        have h2 := HALL.out.2.2.1.lt
        omega
      clear hbA f0 f1 f2 f3 e0 e1 e2 e3 e4 c0 c1 hsz HALL HMap hml HV HKE
      generalize wr.alloc (.cells #[.int .i16 (E1 0), .int .i16 (E1 1), .int .i16 (E1 2), .int .i16 (E1 3), .int .i8 v0, .int .i8 v1, .int .i8 v2, .int .i16 z] 80) = wq at *
      generalize wr.heap.size = bt at *
      obtain ⟨o0, f0⟩ : ∃ o, wq.cell? ⟨w.heap.size + 1 + 1, p * 3, none⟩ = some o := ⟨_, (HA.out.2.2.1.cell (p * 3)).trans (mcells_get _ _ (by omega))⟩
      obtain ⟨o1, f1⟩ : ∃ o, wq.cell? ⟨w.heap.size + 1 + 1, p * 3 + 1, none⟩ = some o := ⟨_, (HA.out.2.2.1.cell (p * 3 + 1)).trans (mcells_get _ _ (by omega))⟩
      obtain ⟨o2, f2⟩ : ∃ o, wq.cell? ⟨w.heap.size + 1 + 1, p * 3 + 2, none⟩ = some o := ⟨_, (HA.out.2.2.1.cell (p * 3 + 2)).trans (mcells_get _ _ (by omega))⟩
      have f3 := HA.out.2.2.1.free (p * 3)
      have f4 := HA.out.2.2.1.free (p * 3 + 1)
      have f5 := HA.out.2.2.1.free (p * 3 + 2)
      obtain ⟨e0, e1, e2, e3, e4⟩ := HA.out.2.1.four
      have x0 := e4 0
      have x1 := e4 1
      have x2 := e4 2
      have x3 := e4 3
      have a0 := hT.cell 0
      have a1 := hT.cell 1
      have a2 := hT.cell 2
      have a3 := hT.cell 3
      have a4 := hT.cell 4
      have a5 := hT.cell 5
      have a6 := hT.cell 6
      have a7 := hT.cell 7
      simp only [List.getElem?_toArray, List.getElem?_cons_zero, List.getElem?_cons_succ] at a0 a1 a2 a3 a4 a5 a6 a7
      obtain ⟨hn1, hn2⟩ := hne
      clear e4 hT
      have HFN := Lib.hid (way_stored (p := p) (v0 := v0) (v1 := v1) (v2 := v2) (E1 := E1) HA.out.1 HA.out.2.1 HA.out.2.2.1 HA.out.2.2.2.1 HA.out.2.2.2.2 (by omega) (by omega) (by omega) (by omega) (by omega) (by omega) (by omega) (by omega))
      rw [HRS.out] at HFN
      go_region
      clear HA a0 a1 a2 a3 a4 a5 a6 a7 e0 e1 e2 e3 x0 x1 x2 x3 f0 f1 f2 f3 f4 f5
      have hsw : stoW wq (w.heap.size + 1 + 1) (w.heap.size + 1) p v0 v1 v2 E1 = ((((((((wq.setCell ⟨w.heap.size + 1 + 1, p * 3, none⟩ (.int .i8 v0)).setCell ⟨w.heap.size + 1 + 1, p * 3 + 1, none⟩ (.int .i8 v1)).setCell ⟨w.heap.size + 1 + 1, p * 3 + 2, none⟩ (.int .i8 v2)).setCell ⟨w.heap.size + 1, 0, none⟩ (.int .i16 (E1 0))).setCell ⟨w.heap.size + 1, 1, none⟩ (.int .i16 (E1 1))).setCell ⟨w.heap.size + 1, 2, none⟩ (.int .i16 (E1 2))).setCell ⟨w.heap.size + 1, 3, none⟩ (.int .i16 (E1 3))).drew) := rfl
      rw [← hsw]
      clear hsw
      generalize stoW wq (w.heap.size + 1 + 1) (w.heap.size + 1) p v0 v1 v2 E1 = wz at *
      go_wp2
      go_roundw
      case rel =>
        refine ⟨d + 1, by have := HPE.out.2; go_num, by omega, HFN.out.1, ?_, HFN.out.2.2.1, HFN.out.2.2.2.1, HFN.out.2.2.2.2⟩
        have e : E1 = atV J (bkN s i (d + 1) : Nat) := HE.out.2.symm
        have h2 := HFN.out.2.1
        rw [e] at h2
        exact h2
      case measure => simp [intOf]
    · obtain rfl : d = st := by omega
      have HO := Lib.hid (show OwnX w.heap.size wr (.slice (some ⟨w.heap.size + 1 + 1, 0, none⟩) d d) (wayD J.length s i d) from by
        rw [rowW_all] at hMb
        exact ⟨some ⟨w.heap.size + 1 + 1, 0, none⟩, d, by rw [wayD_len], .inr ⟨w.heap.size + 1 + 1, rfl, by omega, hMb.lt, hMb.moves, hMb.free⟩⟩)
      have hz : ¬ (0 : Int) ≤ (d : Int) - d - 1 := by omega
      clear hR hWb hMb hMap
      go_wp2
      go_ret
      exact ⟨_, rfl, by rw [HW.out]; exact HO.out, hB⟩
end Go.Proofs.Ytjmgalmndpjcoaa
