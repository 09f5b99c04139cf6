/-
  The model's Confused.
-/
import Derived.Test.YtnleblnikcoaiaaB14
import Derived.Test.YtnleblnikcoaiaaB13
namespace Go.Proofs.Ytnleblnikcoaiaa
open Go.RowKit
set_option maxRecDepth 100000
set_option linter.unusedVariables false

theorem MD.four {fb b off c g : Nat} {l k : Int} {ws : List Wf} {W : World} (h : MD fb b off c g l k ws W) (i j : Nat) (hi : i < (upC k true ws.length).length) (hj : j < (upC k true ws.length).length) :
    W.cell? ⟨g, i * 2, none⟩ = some (.int .i8 ((upC k true ws.length).getD i (0, false)).1) ∧ W.cell? ⟨g, i * 2 + 1, none⟩ = some (.bool ((upC k true ws.length).getD i (0, false)).2) ∧ W.cell? ⟨g, j * 2, none⟩ = some (.int .i8 ((upC k true ws.length).getD j (0, false)).1) ∧ W.cell? ⟨g, j * 2 + 1, none⟩ = some (.bool ((upC k true ws.length).getD j (0, false)).2) :=
  ⟨(h.two i hi).1, (h.two i hi).2, (h.two j hj).1, (h.two j hj).2⟩
/-- What l04Confused hands back. -/
noncomputable def lcA (ws : List Wf) (L : List Cs) : Cs := ((cfR ws L).map Prod.fst).getD (0, false)
noncomputable def lcB (ws : List Wf) (L : List Cs) : Cs := ((cfR ws L).map Prod.snd).getD (0, false)
theorem CI.one {ws : List Wf} {L : List Cs} (h : 1 ≤ L.length) : CI ws L (L.take 1) := by
  rw [take_cs L 0 (by omega)]
  exact (CI.start ws L).next rfl
theorem CI.step {ws : List Wf} {L : List Cs} {j : Nat} (h : CI ws L (L.take j)) (hj : j < L.length) (hn : fcQ ws (L.take j) (wordV (seenV ws (L.getD j (0, false)))) = none) : CI ws L (L.take (j + 1)) := by
  rw [take_cs L j hj]
  exact h.next hn
theorem CI.found {ws : List Wf} {L : List Cs} {i j : Nat} (h : CI ws L (L.take j)) (hj : j < L.length) (hij : i < j) (hn : fcQ ws (L.take i) (wordV (seenV ws (L.getD j (0, false)))) = none) (he : wordV (seenV ws (L.getD i (0, false))) = wordV (seenV ws (L.getD j (0, false)))) : cfR ws L = some (L.getD i (0, false), L.getD j (0, false)) := by
  have hg : (L.take j).getD i (0, false) = L.getD i (0, false) := by simp [List.getD_eq_getElem?_getD, hij]
  have hl : i < (L.take j).length := by simp; omega
  have h1 := fcQ_at (ws := ws) (v := wordV (seenV ws (L.getD j (0, false)))) hl (by rw [List.take_take, Nat.min_eq_left (Nat.le_of_lt hij)]; exact hn) (by rw [hg]; exact he)
  rw [hg] at h1
  refine h.hit ?_ h1
  rw [← take_cs L j hj]
  exact List.take_prefix _ _
set_option maxHeartbeats 8000000 in
theorem l04Confused_any (fb b off c : Nat) (l k : Int) (ws : List Wf) (w : World) (K : Blk w fb #[.int .i8 l, .int .i8 k, .slice (some ⟨b, off, none⟩) ws.length c] 35) (hb : b < w.heap.size) (hc : WAt w b off ws) (hn : ws.length ≤ 80) (hw : Wall ws) (hk : 0 ≤ k ∧ k ≤ 2) :
    Calls Try.prog 40 #[.pointer (some ⟨fb, 0, none⟩)] w fun e w' => e = .returned (.tuple #[caseV (lcA ws (upC k true ws.length)).1 (lcA ws (upC k true ws.length)).2, caseV (lcB ws (upC k true ws.length)).1 (lcB ws (upC k true ws.length)).2, .bool (cfR ws (upC k true ws.length)).isSome]) ∧ Below w.heap.size w w' := by
  have F0 := ((FR.start w).box #[.int .i8 0, .bool false] 37).box #[.int .i8 0, .bool false] 37
  have HC := Lib.hid (fun W K => l04Cases_any fb b off c l k ws W K hn hk)
  have hUL := upC80 k ws.length hn
  simp only [World.size_alloc] at F0
  have HW := Lib.hid (And.intro hw (And.intro hc K))
  clear hw hc K
  go_enter Try.func40, Try.ntmps40
  go_wp2_with fail
  refine (HC.out _ (Blk.below HW.out.2.2 F0.below HW.out.2.2.lt)).mono ?_
  rintro e w4 ⟨g, c', rfl, hg0, hg1, hcs, hfr, hb4⟩
  have F3 := F0.next hb4
  have hM : MD fb b off c g l k ws w4 := ⟨Blk.below HW.out.2.2 F3.below HW.out.2.2.lt, Nat.lt_of_lt_of_le hb F3.below.size, HW.out.2.1.below F3.below hb, hg1, hcs⟩
  have bX := F3.blk _ (List.mem_cons_of_mem _ List.mem_cons_self)
  have bR := F3.blk _ List.mem_cons_self
  dsimp only at bX bR
  have HM := Lib.hid (And.intro hM (And.intro bX (And.intro bR F3.below)))
  have hR4 := Blk.lt bR
  have hX4 := Blk.lt bX
  have hgne : g ≠ w.heap.size ∧ g ≠ w.heap.size + 1 := by have := F0.blk _ List.mem_cons_self |>.lt; dsimp only at this; simp only [World.size_alloc] at hg0 this; omega
  have hL1 : 1 ≤ (upC k true ws.length).length := by unfold upC; rw [if_pos rfl]; simp
  clear hM bX bR F3 F0 hb4 HC hcs hfr hg0 hg1
  generalize hL : upC k true ws.length = L at *
  have HCI1 := Lib.hid (CI.one (ws := ws) hL1)
  go_wp2
  go_loopw [6, 7] (fun jv iv wr => ∃ j : Nat, jv = .int .i64 (j : Int) ∧ j ≤ L.length ∧ CI ws L (L.take j) ∧ Below w4.heap.size w4 wr) (fun jv _ _ => L.length - (intOf jv).toNat)
  case atStart => exact ⟨1, rfl, hL1, HCI1.out, Below.refl _ _⟩
  case round =>
    clear HCI1
    obtain ⟨j, rfl, hj', hci, hB⟩ := hrel
    have HCIj := Lib.hid hci
    clear hci
    by_cases hlt : j < L.length
    case neg =>
      obtain rfl : j = L.length := by omega
      have hcn := (HCIj.out)
      rw [List.take_length] at hcn
      have HF := Lib.hid (show lcA ws (upC k true ws.length) = (0, false) ∧ lcB ws (upC k true ws.length) = (0, false) ∧ (cfR ws (upC k true ws.length)).isSome = false by rw [hL]; unfold lcA lcB; rw [hcn.done]; exact ⟨rfl, rfl, rfl⟩)
      obtain ⟨hM, bX, bR, hB0⟩ := HM.out
      have kB := Lib.hid (hB0.trans (hB.mono hB0.size))
      obtain ⟨f0, f1, f2⟩ := (Blk.below bR hB hR4).two
      obtain ⟨g0, g1, g2⟩ := (Blk.below bX hB hX4).two
      clear bR bX hM hB hB0 hcn
      go_wp2
      exact bodyPost_ret (v := .tuple #[caseV 0 false, caseV 0 false, .bool false]) (by simp [results, Try.results40, go_sem, f0, f1, g0, g1]) rfl ⟨by rw [HF.out.1, HF.out.2.1, HF.out.2.2], by repeat (first | exact kB.out | refine Below.setCell ?_ (by simp <;> omega) _)⟩
    have hltz : (j : Int) < (L.length : Int) := by omega
    have hlL : (L.length : Int) ≤ 161 := by omega
    go_wp2
    go_loopw [7] (fun iv wr => ∃ i : Nat, iv = .int .i64 (i : Int) ∧ i ≤ j ∧ fcQ ws (L.take i) (wordV (seenV ws (L.getD j (0, false)))) = none ∧ Below w4.heap.size w4 wr) (fun iv _ => j - (intOf iv).toNat)
    case atStart => exact ⟨0, rfl, Nat.zero_le _, rfl, hB⟩
    case round =>
      obtain ⟨i, rfl, hi', hno, hB⟩ := hrel
      by_cases hij : i < j
      case neg =>
        obtain rfl : i = j := by omega
        have HN := Lib.hid (HCIj.out.step hlt hno)
        clear hno
        go_wp2
        go_roundw
        case rel => exact ⟨i + 1, by go_num, by omega, HN.out, hB⟩
        case measure => simp [intOf]; omega
      obtain ⟨hM, bX, bR, hB0⟩ := HM.out
      have hijz : (i : Int) < (j : Int) := by omega
      have hli : (i : Int) < (L.length : Int) := by omega
      have hi2 : i < (upC k true ws.length).length := by rw [hL]; omega
      have hj2 : j < (upC k true ws.length).length := by rw [hL]; omega
      have M1 := (hM.below (hB.mono (Nat.le_refl _))).below (Below.refl wr.heap.size wr).drew
      have H4 := Lib.hid (fun W' (h : Below wr.drew.heap.size wr.drew W') => (M1.below h).four i j hi2 hj2)
      have HSi := Lib.hid (fun W' (h : Below wr.drew.heap.size wr.drew W') => (M1.below h).seen hn HW.out.1 i hi2)
      have HSj := Lib.hid (fun W' (h : Below wr.drew.heap.size wr.drew W') => (M1.below h).seen hn HW.out.1 j hj2)
      obtain ⟨p0, p1, p2, p3⟩ := M1.four i j hi2 hj2
      rw [hL] at H4 HSi HSj p0 p1 p2 p3
      have HB1 := Lib.hid (hB.trans ((Below.refl wr.heap.size wr).drew.mono hB.size))
      have HFD := Lib.hid (fun he => HCIj.out.found hlt hij hno he)
      have HNO := Lib.hid (fun he => fcQ_no (v := wordV (seenV ws (L.getD j (0, false)))) (show i < L.length by omega) hno he)
      have HBR := Lib.hid (And.intro bX (And.intro bR hB0))
      clear hB hM bX bR hB0 M1 hi2 hj2 hno p0 p1 p2 p3
      by_cases he : wordV (seenV ws (L.getD i (0, false))) = wordV (seenV ws (L.getD j (0, false)))
      · obtain ⟨q0, q1, q2, q3⟩ := wordV_inj he
        have hE := fun W => eqWd_t (x := seenV ws (L.getD i (0, false))) (y := seenV ws (L.getD j (0, false))) ⟨q0, q1, q2, q3⟩ W
        have hfd := HFD.out he
        have HF := Lib.hid (show lcA ws (upC k true ws.length) = L.getD i (0, false) ∧ lcB ws (upC k true ws.length) = L.getD j (0, false) ∧ (cfR ws (upC k true ws.length)).isSome = true by rw [hL]; unfold lcA lcB; rw [hfd]; exact ⟨rfl, rfl, rfl⟩)
        clear he hfd q0 q1 q2 q3 HFD HNO
        generalize L.getD i (0, false) = y at *
        generalize L.getD j (0, false) = z at *
        generalize seenV ws y = sy at *
        generalize seenV ws z = sz at *
        go_wp2_with fail
        go_region_held3 (fun w' => w'.cell? ⟨g, i * 2, none⟩ = some (.int .i8 y.1) ∧ w'.cell? ⟨g, i * 2 + 1, none⟩ = some (.bool y.2) ∧ w'.cell? ⟨g, j * 2, none⟩ = some (.int .i8 z.1) ∧ w'.cell? ⟨g, j * 2 + 1, none⟩ = some (.bool z.2))
          (first | with_reducible exact H4.out _ (hb5.trans (hb6.mono hb5.size)) | with_reducible exact H4.out _ hb5 | with_reducible exact H4.out _ (Below.refl _ _))
          (first
            | (go_at_call 31; with_reducible refine (HSi.out _ (Below.refl _ _)).mono ?_; rintro e w5 ⟨rfl, hb5⟩)
            | (go_at_call 31; with_reducible refine (HSj.out _ hb5).mono ?_; rintro e w6 ⟨rfl, hb6⟩))
        have hb := hb5.trans (hb6.mono hb5.size)
        have hB6 := HB1.out.trans (hb.mono HB1.out.size)
        obtain ⟨p0, p1, p2, p3⟩ := H4.out _ hb
        have kX := Blk.below HBR.out.1 hB6 hX4
        have kR := Blk.below HBR.out.2.1 hB6 hR4
        have kB := HBR.out.2.2.trans (hB6.mono HBR.out.2.2.size)
        clear hb hb5 hb6 hB6 HSi HSj H4 HB1 HBR hE
        obtain ⟨f0, f1, f2⟩ := kX.two
        obtain ⟨r0, r1, r2⟩ := kR.two
        obtain ⟨hg1, hg2⟩ := hgne
        have KX := Lib.hid kX
        have KR := Lib.hid kR
        have KB := Lib.hid kB
        clear kX kR kB
        go_wp2_with fail
        go_region
        all_goals
          go_wp2
          exact bodyPost_ret (v := .tuple #[caseV y.1 y.2, caseV z.1 z.2, .bool true]) (by simp [results, Try.results40, go_sem, f0, f1, r0, r1]) rfl ⟨by rw [HF.out.1, HF.out.2.1, HF.out.2.2], by repeat (first | exact KB.out | refine Below.drew ?_ | refine Below.setCell ?_ (by simp <;> omega) _)⟩
      · have hE := fun W => eqWd_f (x := seenV ws (L.getD i (0, false))) (y := seenV ws (L.getD j (0, false))) (fun h => he (by show Value.agg _ = Value.agg _; rw [h.1, h.2.1, h.2.2.1, h.2.2.2])) W
        have HN2 := Lib.hid (HNO.out he)
        clear he HFD HNO
        obtain ⟨y, hy⟩ : ∃ y, L.getD i (0, false) = y := ⟨_, rfl⟩
        obtain ⟨z, hz⟩ : ∃ z, L.getD j (0, false) = z := ⟨_, rfl⟩
        have HY := Lib.hid (And.intro hy hz)
        rw [hy] at H4 HSi hE
        rw [hz] at H4 HSj hE
        generalize seenV ws y = sy at *
        generalize seenV ws z = sz at *
        clear hy hz
        go_wp2_with fail
        go_region_held3 (fun w' => w'.cell? ⟨g, i * 2, none⟩ = some (.int .i8 y.1) ∧ w'.cell? ⟨g, i * 2 + 1, none⟩ = some (.bool y.2) ∧ w'.cell? ⟨g, j * 2, none⟩ = some (.int .i8 z.1) ∧ w'.cell? ⟨g, j * 2 + 1, none⟩ = some (.bool z.2))
          (first | with_reducible exact H4.out _ (hb5.trans (hb6.mono hb5.size)) | with_reducible exact H4.out _ hb5 | with_reducible exact H4.out _ (Below.refl _ _))
          (first
            | (go_at_call 31; with_reducible refine (HSi.out _ (Below.refl _ _)).mono ?_; rintro e w5 ⟨rfl, hb5⟩)
            | (go_at_call 31; with_reducible refine (HSj.out _ hb5).mono ?_; rintro e w6 ⟨rfl, hb6⟩))
        have hb := hb5.trans (hb6.mono hb5.size)
        have hB6 := HB1.out.trans (hb.mono HB1.out.size)
        have HB6 := Lib.hid hB6
        clear hb hb5 hb6 hB6 HSi HSj H4 HB1 HBR hE
        go_wp2
        go_roundw
        case rel => exact ⟨i + 1, by go_num, by omega, HN2.out, HB6.out⟩
        case measure => simp [intOf]; omega
set_option maxHeartbeats 4000000 in
theorem specCf_no (l k : Int) (a : Option Addr) (c : Nat) (ws : List Wf) (w : World) (hs : Slw w.heap.size w a ws) (hl : B8 l) (hk : B8 k) (hn : ws.length ≤ 1048576) (hw : Wall ws) (hok : okX l k ws = false) :
    Calls Try.prog 22 #[fixV l k a ws.length c] w fun e w' => e = .returned (.tuple #[caseV 0 false, caseV 0 false, .int .i64 1]) ∧ Below w.heap.size w w' := by
  have F0 := (((FR.start w).box #[.int .i8 l, .int .i8 k, .slice a ws.length c] 35).box #[.int .i8 0, .bool false] 37).box #[.int .i8 0, .bool false] 37
  have HO := Lib.hid (l04Ok_any w.heap.size l k a c ws _ (F0.blk _ (List.mem_cons_of_mem _ (List.mem_cons_of_mem _ List.mem_cons_self))) (slw_up hs F0.below) hl hk hn hw)
  rw [hok] at HO
  simp only [World.size_alloc] at F0
  clear hok hw hs hn hl hk
  go_enter Try.func22, Try.ntmps22
  go_wp2_with fail
  refine HO.out.mono ?_
  rintro e w2 ⟨rfl, hb⟩
  have F1 := F0.next hb
  clear hb F0 HO
  obtain ⟨f0, f1, f2⟩ := (F1.blk _ (List.mem_cons_of_mem _ List.mem_cons_self)).two
  obtain ⟨g0, g1, g2⟩ := (F1.blk _ List.mem_cons_self).two
  dsimp only at f0 f1 f2 g0 g1 g2
  have HB := Lib.hid F1.below
  clear F1
  go_wp2
  exact bodyPost_ret (v := .tuple #[caseV 0 false, caseV 0 false, .int .i64 1]) (by simp [results, Try.results22, go_sem, f0, f1, g0, g1]) rfl ⟨rfl, by repeat (first | exact HB.out | refine Below.setCell ?_ (by simp <;> omega) _)⟩
set_option maxHeartbeats 4000000 in
theorem specCf_in (l k : Int) (b off c : Nat) (ws : List Wf) (w : World) (hb1 : b < w.heap.size) (hc1 : WAt w b off ws) (hl : B8 l) (hk : B8 k) (hw : Wall ws) (hok : okX l k ws = true) :
    Calls Try.prog 22 #[fixV l k (some ⟨b, off, none⟩) ws.length c] w fun e w' => e = .returned (.tuple #[caseV (cnA l k ws).1 (cnA l k ws).2, caseV (cnB l k ws).1 (cnB l k ws).2, .int .i64 (cnC l k ws)]) ∧ Below w.heap.size w w' := by
  have F0 := (((FR.start w).box #[.int .i8 l, .int .i8 k, .slice (some ⟨b, off, none⟩) ws.length c] 35).box #[.int .i8 0, .bool false] 37).box #[.int .i8 0, .bool false] 37
  have hx2 := okX_t hok
  have h80 : ws.length ≤ 80 := by have := hx2.2.2.1.2; omega
  have HO := Lib.hid (l04Ok_any w.heap.size l k (some ⟨b, off, none⟩) c ws _ (F0.blk _ (List.mem_cons_of_mem _ (List.mem_cons_of_mem _ List.mem_cons_self))) (slw_up (.inr ⟨b, off, rfl, hb1, hc1⟩) F0.below) hl hk (by omega) hw)
  rw [hok] at HO
  have HD := Lib.hid (fun W (h : Below w.heap.size w W) K => l04Confused_any w.heap.size b off c l k ws W K (Nat.lt_of_lt_of_le hb1 h.size) (hc1.below h hb1) h80 hw hx2.2.1)
  have HQ := Lib.hid (show (∃ x y : Cs, ∃ r : Bool, ∃ co : Int, cnA l k ws = x ∧ cnB l k ws = y ∧ cnC l k ws = co ∧ lcA ws (upC k true ws.length) = x ∧ lcB ws (upC k true ws.length) = y ∧ (cfR ws (upC k true ws.length)).isSome = r ∧ (r = true ∧ co = 0 ∨ r = false ∧ co = 6 ∧ x = (0, false) ∧ y = (0, false))) from by
    cases hq : cfR ws (upC k true ws.length) with
    | none => exact ⟨_, _, _, _, (cn_none hok hq).1, (cn_none hok hq).2.1, (cn_none hok hq).2.2, by unfold lcA; rw [hq]; rfl, by unfold lcB; rw [hq]; rfl, rfl, .inr ⟨rfl, rfl, rfl, rfl⟩⟩
    | some q => exact ⟨_, _, _, _, (cn_some hok hq).1, (cn_some hok hq).2.1, (cn_some hok hq).2.2, by unfold lcA; rw [hq]; rfl, by unfold lcB; rw [hq]; rfl, rfl, .inl ⟨rfl, rfl⟩⟩)
  simp only [World.size_alloc] at F0
  clear hok hw hk hx2 hc1 hl
  obtain ⟨x, y, r, co, e1, e2, e3, e4, e5, e6, hr⟩ := HQ.out
  rw [e1, e2, e3]
  rw [e4, e5, e6] at HD
  clear e1 e2 e3 e4 e5 e6 HQ
  rcases hr with ⟨rfl, rfl⟩ | ⟨rfl, rfl, rfl, rfl⟩
  · go_enter Try.func22, Try.ntmps22
    go_wp2_with fail
    refine HO.out.mono ?_
    rintro e w2 ⟨rfl, hb⟩
    have F1 := F0.next hb
    clear hb F0 HO
    go_wp2_with fail
    refine (HD.out _ F1.below (F1.blk _ (List.mem_cons_of_mem _ (List.mem_cons_of_mem _ List.mem_cons_self)))).mono ?_
    rintro e w4 ⟨rfl, hb4⟩
    have F3 := F1.next hb4
    clear hb4 F1 HD
    have F5 := (F3.box #[.int .i8 x.1, .bool x.2] 37).box #[.int .i8 y.1, .bool y.2] 37
    simp only [World.size_alloc] at F5
    have hlt := (F3.blk _ List.mem_cons_self).lt
    dsimp only at hlt
    go_upto_region 4 with fail
    clear F3
    generalize (w4.alloc (.cells #[.int .i8 x.1, .bool x.2] 37)).alloc (.cells #[.int .i8 y.1, .bool y.2] 37) = W5 at *
    obtain ⟨f0, f1, f2⟩ := (F5.blk (w.heap.size + 1, #[.int .i8 0, .bool false], 37) (by simp)).two
    obtain ⟨g0, g1, g2⟩ := (F5.blk (w.heap.size + 1 + 1, #[.int .i8 0, .bool false], 37) (by simp)).two
    obtain ⟨p0, p1, p2⟩ := (F5.blk _ (List.mem_cons_of_mem _ List.mem_cons_self)).two
    obtain ⟨q0, q1, q2⟩ := (F5.blk _ List.mem_cons_self).two
    have ne1 : w4.heap.size ≠ w.heap.size + 1 := by omega
    have ne2 : w4.heap.size ≠ w.heap.size + 1 + 1 := by omega
    have ne3 : w4.heap.size + 1 ≠ w.heap.size + 1 := by omega
    have ne4 : w4.heap.size + 1 ≠ w.heap.size + 1 + 1 := by omega
    dsimp only at f0 f1 f2 g0 g1 g2 p0 p1 p2 q0 q1 q2
    have HB := Lib.hid F5.below
    clear F5
    go_wp2_with fail
    go_region
    all_goals
      go_wp2
      exact bodyPost_ret (v := .tuple #[caseV x.1 x.2, caseV y.1 y.2, .int .i64 0]) (by simp [results, Try.results22, go_sem, f0, f1, g0, g1]) rfl ⟨rfl, by repeat (first | exact HB.out | refine Below.drew ?_ | refine Below.setCell ?_ (by simp <;> omega) _)⟩
  · go_enter Try.func22, Try.ntmps22
    go_wp2_with fail
    refine HO.out.mono ?_
    rintro e w2 ⟨rfl, hb⟩
    have F1 := F0.next hb
    clear hb F0 HO
    go_wp2_with fail
    refine (HD.out _ F1.below (F1.blk _ (List.mem_cons_of_mem _ (List.mem_cons_of_mem _ List.mem_cons_self)))).mono ?_
    rintro e w4 ⟨rfl, hb4⟩
    have F3 := F1.next hb4
    clear hb4 F1 HD
    have F5 := (F3.box #[.int .i8 0, .bool false] 37).box #[.int .i8 0, .bool false] 37
    simp only [World.size_alloc] at F5
    have hlt := (F3.blk _ List.mem_cons_self).lt
    dsimp only at hlt
    go_upto_region 4 with fail
    clear F3
    generalize (w4.alloc (.cells #[.int .i8 0, .bool false] 37)).alloc (.cells #[.int .i8 0, .bool false] 37) = W5 at *
    obtain ⟨f0, f1, f2⟩ := (F5.blk (w.heap.size + 1, #[.int .i8 0, .bool false], 37) (by simp)).two
    obtain ⟨g0, g1, g2⟩ := (F5.blk (w.heap.size + 1 + 1, #[.int .i8 0, .bool false], 37) (by simp)).two
    obtain ⟨p0, p1, p2⟩ := (F5.blk _ (List.mem_cons_of_mem _ List.mem_cons_self)).two
    obtain ⟨q0, q1, q2⟩ := (F5.blk _ List.mem_cons_self).two
    have ne1 : w4.heap.size ≠ w.heap.size + 1 := by omega
    have ne2 : w4.heap.size ≠ w.heap.size + 1 + 1 := by omega
    have ne3 : w4.heap.size + 1 ≠ w.heap.size + 1 := by omega
    have ne4 : w4.heap.size + 1 ≠ w.heap.size + 1 + 1 := by omega
    dsimp only at f0 f1 f2 g0 g1 g2 p0 p1 p2 q0 q1 q2
    have HB := Lib.hid F5.below
    clear F5
    go_wp2
    exact bodyPost_ret (v := .tuple #[caseV 0 false, caseV 0 false, .int .i64 6]) (by simp [results, Try.results22, go_sem, f0, f1, g0, g1]) rfl ⟨rfl, by repeat (first | exact HB.out | refine Below.setCell ?_ (by simp <;> omega) _)⟩
theorem specConfused_any (l k : Int) (a : Option Addr) (c : Nat) (ws : List Wf) (w : World) (hs : Slw w.heap.size w a ws) (hl : B8 l) (hk : B8 k) (hn : ws.length ≤ 1048576) (hw : Wall ws) :
    Calls Try.prog 22 #[fixV l k a ws.length c] w fun e w' => e = .returned (.tuple #[caseV (cnA l k ws).1 (cnA l k ws).2, caseV (cnB l k ws).1 (cnB l k ws).2, .int .i64 (cnC l k ws)]) ∧ Below w.heap.size w w' := by
  cases hok : okX l k ws
  · rw [(cn_no hok).1, (cn_no hok).2.1, (cn_no hok).2.2]
    exact specCf_no l k a c ws w hs hl hk hn hw hok
  obtain ⟨b, off, rfl, hb1, hc1⟩ := own_of hs (Below.refl _ _) (okX_t hok).2.2.1.1
  exact specCf_in l k b off c ws w hb1 hc1 hl hk hw hok
end Go.Proofs.Ytnleblnikcoaiaa
