/-
  The model's DecodeNear.
-/
import Derived.Test.YtieghjpecoiodaaB8
import Derived.Test.YtieghjpecoiodaaB7
namespace Go.Proofs.Ytieghjpecoiodaa
open Go.RowKit
set_option maxRecDepth 100000
set_option linter.unusedVariables false

/-- What DecodeNear hands back. -/
noncomputable def dqV (l k : Int) (ws : List Wf) (x : Nat → Int) (wn : Int) : Cs := if okX l k ws = true ∧ okD l x = true ∧ (0 ≤ wn ∧ wn ≤ 4) then dnV ws x wn (upC k true ws.length) else (0, false)
noncomputable def dqC (l k : Int) (ws : List Wf) (x : Nat → Int) (wn : Int) : Int := if okX l k ws = true ∧ okD l x = true then (if 0 ≤ wn ∧ wn ≤ 4 then dnC ws x wn (upC k true ws.length) else 2) else 1
theorem dq_no {l k : Int} {ws : List Wf} {x : Nat → Int} {wn : Int} (h : okX l k ws = false ∨ okD l x = false) : dqV l k ws x wn = (0, false) ∧ dqC l k ws x wn = 1 := by
  have hn : ¬ (okX l k ws = true ∧ okD l x = true) := fun e => by rcases h with h | h <;> simp [h] at e
  exact ⟨if_neg (fun e => hn ⟨e.1, e.2.1⟩), if_neg hn⟩
theorem dq_out {l k : Int} {ws : List Wf} {x : Nat → Int} {wn : Int} (h : okX l k ws = true) (h2 : okD l x = true) (h3 : ¬ (0 ≤ wn ∧ wn ≤ 4)) : dqV l k ws x wn = (0, false) ∧ dqC l k ws x wn = 2 :=
  ⟨if_neg (fun e => h3 e.2.2), by rw [dqC, if_pos ⟨h, h2⟩, if_neg h3]⟩
theorem dq_in {l k : Int} {ws : List Wf} {x : Nat → Int} {wn : Int} (h : okX l k ws = true) (h2 : okD l x = true) (h3 : 0 ≤ wn ∧ wn ≤ 4) : dqV l k ws x wn = dnV ws x wn (upC k true ws.length) ∧ dqC l k ws x wn = dnC ws x wn (upC k true ws.length) :=
  ⟨if_pos ⟨h, h2, h3⟩, by rw [dqC, if_pos ⟨h, h2⟩, if_pos h3]⟩
/-- What the walk of a drawn region over a case and a word reads. -/
theorem MD.six {fb b off c g xb : Nat} {l k : Int} {ws : List Wf} {W : World} {a0 a1 a2 a3 : Value} {t : TypeId} (h : MD fb b off c g l k ws W) (i : Nat) (hi : i < (upC k true ws.length).length) (hx : Blk W xb #[a0, a1, a2, a3] t) :
    W.cell? ⟨g, i * 2, none⟩ = some (.int .i8 ((upC k true ws.length).getD i (0, false)).1) ∧ W.cell? ⟨g, i * 2 + 1, none⟩ = some (.bool ((upC k true ws.length).getD i (0, false)).2) ∧ W.cell? ⟨xb, 0, none⟩ = some a0 ∧ W.cell? ⟨xb, 1, none⟩ = some a1 ∧ W.cell? ⟨xb, 2, none⟩ = some a2 ∧ W.cell? ⟨xb, 3, none⟩ = some a3 :=
  and6 (h.two i hi) hx.fourc
set_option maxHeartbeats 4000000 in
theorem specDn_noF (l k : Int) (a : Option Addr) (c : Nat) (ws : List Wf) (x : Nat → Int) (wn : Int) (w : World) (hs : Slw w.heap.size w a ws) (hl : B8 l) (hk : B8 k) (hn : ws.length ≤ 1048576) (hw : Wall ws) (hx : W4 x) (hok : okX l k ws = false) :
    Calls Try.prog 13 #[fixV l k a ws.length c, wordV x, .int .i64 wn] w fun e w' => e = .returned (.tuple #[caseV 0 false, .int .i64 1]) ∧ Below w.heap.size w w' := by
  have F0 := (((FR.start w).box #[.int .i8 l, .int .i8 k, .slice a ws.length c] 27).box (wordC x) 40).box #[.int .i8 0, .bool false] 37
  have HO := Lib.hid (l04Ok_any w.heap.size l k a c ws _ (F0.blk _ (List.mem_cons_of_mem _ (List.mem_cons_of_mem _ List.mem_cons_self))) (slw_up hs F0.below) hl hk hn hw)
  rw [hok] at HO
  simp only [World.size_alloc] at F0
  clear hok hw hs hn hl hk hx
  go_enter Try.func13, Try.ntmps13
  go_wp2_with fail
  refine HO.out.mono ?_
  rintro e w2 ⟨rfl, hb⟩
  have F1 := F0.next hb
  clear hb F0 HO
  obtain ⟨f0, f1, f2⟩ := (F1.blk _ List.mem_cons_self).two
  dsimp only at f0 f1 f2
  have HB := Lib.hid F1.below
  clear F1
  go_wp2
  exact bodyPost_ret (v := .tuple #[caseV 0 false, .int .i64 1]) (by simp [results, Try.results13, go_sem, f0, f1]) rfl ⟨rfl, by repeat (first | exact HB.out | refine Below.setCell ?_ (by simp <;> omega) _)⟩
set_option maxHeartbeats 4000000 in
theorem specDn_noD (l k : Int) (a : Option Addr) (c : Nat) (ws : List Wf) (x : Nat → Int) (wn : Int) (w : World) (hs : Slw w.heap.size w a ws) (hl : B8 l) (hk : B8 k) (hn : ws.length ≤ 1048576) (hw : Wall ws) (hx : W4 x) (hok : okX l k ws = true) (hd : okD l x = false) :
    Calls Try.prog 13 #[fixV l k a ws.length c, wordV x, .int .i64 wn] w fun e w' => e = .returned (.tuple #[caseV 0 false, .int .i64 1]) ∧ Below w.heap.size w w' := by
  have F0 := (((FR.start w).box #[.int .i8 l, .int .i8 k, .slice a ws.length c] 27).box (wordC x) 40).box #[.int .i8 0, .bool false] 37
  have HO := Lib.hid (l04Ok_any w.heap.size l k a c ws _ (F0.blk _ (List.mem_cons_of_mem _ (List.mem_cons_of_mem _ List.mem_cons_self))) (slw_up hs F0.below) hl hk hn hw)
  rw [hok] at HO
  have HV := Lib.hid (fun W => l04Word_any l x W (i64_8 hl) hx)
  rw [hd] at HV
  simp only [World.size_alloc] at F0
  unfold B8 at hl
  clear hok hd hw hs hn hk hx
  go_enter Try.func13, Try.ntmps13
  go_wp2_with fail
  refine HO.out.mono ?_
  rintro e w2 ⟨rfl, hb⟩
  have F1 := F0.next hb
  clear hb F0 HO
  obtain ⟨c0, c1, c2, c3⟩ := (F1.blk _ (List.mem_cons_of_mem _ (List.mem_cons_of_mem _ List.mem_cons_self))).three
  obtain ⟨x0, x1, x2, x3, x4⟩ := (F1.blk _ (List.mem_cons_of_mem _ List.mem_cons_self)).four
  dsimp only at c0 c1 c2 c3 x0 x1 x2 x3 x4
  go_wp2_with fail
  refine (HV.out _).mono ?_
  rintro e w3 ⟨rfl, hb3⟩
  have F2 := F1.next hb3
  clear hb3 F1 HV c0 c1 c2 c3 x0 x1 x2 x3 x4
  obtain ⟨f0, f1, f2⟩ := (F2.blk _ List.mem_cons_self).two
  dsimp only at f0 f1 f2
  have HB := Lib.hid F2.below
  clear F2
  go_wp2
  exact bodyPost_ret (v := .tuple #[caseV 0 false, .int .i64 1]) (by simp [results, Try.results13, go_sem, f0, f1]) rfl ⟨rfl, by repeat (first | exact HB.out | refine Below.setCell ?_ (by simp <;> omega) _)⟩
set_option maxHeartbeats 4000000 in
theorem specDn_out (l k : Int) (a : Option Addr) (c : Nat) (ws : List Wf) (x : Nat → Int) (wn : Int) (w : World) (hs : Slw w.heap.size w a ws) (hl : B8 l) (hk : B8 k) (hn : ws.length ≤ 1048576) (hw : Wall ws) (hx : W4 x) (hok : okX l k ws = true) (hd : okD l x = true) (hr : ¬ (0 ≤ wn ∧ wn ≤ 4)) :
    Calls Try.prog 13 #[fixV l k a ws.length c, wordV x, .int .i64 wn] w fun e w' => e = .returned (.tuple #[caseV 0 false, .int .i64 2]) ∧ Below w.heap.size w w' := by
  have F0 := (((FR.start w).box #[.int .i8 l, .int .i8 k, .slice a ws.length c] 27).box (wordC x) 40).box #[.int .i8 0, .bool false] 37
  have HO := Lib.hid (l04Ok_any w.heap.size l k a c ws _ (F0.blk _ (List.mem_cons_of_mem _ (List.mem_cons_of_mem _ List.mem_cons_self))) (slw_up hs F0.below) hl hk hn hw)
  rw [hok] at HO
  have HV := Lib.hid (fun W => l04Word_any l x W (i64_8 hl) hx)
  rw [hd] at HV
  have HI := Lib.hid (fun W => l00In_any wn 0 4 W)
  rw [show inB wn 0 4 = false from cb_f hr] at HI
  simp only [World.size_alloc] at F0
  unfold B8 at hl
  clear hok hd hw hs hn hk hx hr
  go_enter Try.func13, Try.ntmps13
  go_wp2_with fail
  refine HO.out.mono ?_
  rintro e w2 ⟨rfl, hb⟩
  have F1 := F0.next hb
  clear hb F0 HO
  obtain ⟨c0, c1, c2, c3⟩ := (F1.blk _ (List.mem_cons_of_mem _ (List.mem_cons_of_mem _ List.mem_cons_self))).three
  obtain ⟨x0, x1, x2, x3, x4⟩ := (F1.blk _ (List.mem_cons_of_mem _ List.mem_cons_self)).four
  dsimp only at c0 c1 c2 c3 x0 x1 x2 x3 x4
  go_wp2_with fail
  refine (HV.out _).mono ?_
  rintro e w3 ⟨rfl, hb3⟩
  have F2 := F1.next hb3
  clear hb3 F1 HV c0 c1 c2 c3 x0 x1 x2 x3 x4
  obtain ⟨f0, f1, f2⟩ := (F2.blk _ List.mem_cons_self).two
  dsimp only at f0 f1 f2
  have HB := Lib.hid F2.below
  clear F2
  go_wp2_with fail
  refine (HI.out _).mono ?_
  rintro e w4 ⟨rfl, rfl⟩
  go_wp2
  exact bodyPost_ret (v := .tuple #[caseV 0 false, .int .i64 2]) (by simp [results, Try.results13, go_sem, f0, f1]) rfl ⟨rfl, by repeat (first | exact HB.out | refine Below.setCell ?_ (by simp <;> omega) _)⟩
set_option maxHeartbeats 8000000 in
theorem specDn_in (l k : Int) (b off c : Nat) (ws : List Wf) (x : Nat → Int) (wn : Int) (w : World) (hb1 : b < w.heap.size) (hc1 : WAt w b off ws) (hl : B8 l) (hk : B8 k) (hw : Wall ws) (hx : W4 x) (hok : okX l k ws = true) (hd : okD l x = true) (hr : 0 ≤ wn ∧ wn ≤ 4) :
    Calls Try.prog 13 #[fixV l k (some ⟨b, off, none⟩) ws.length c, wordV x, .int .i64 wn] w fun e w' => e = .returned (.tuple #[caseV (dnV ws x wn (upC k true ws.length)).1 (dnV ws x wn (upC k true ws.length)).2, .int .i64 (dnC ws x wn (upC k true ws.length))]) ∧ Below w.heap.size w w' := by
  have F0 := (((FR.start w).box #[.int .i8 l, .int .i8 k, .slice (some ⟨b, off, none⟩) ws.length c] 27).box (wordC x) 40).box #[.int .i8 0, .bool false] 37
  have hx2 := okX_t hok
  have h80 : ws.length ≤ 80 := by have := hx2.2.2.1.2; omega
  have hkk := hx2.2.1
  have HO := Lib.hid (l04Ok_any w.heap.size l k (some ⟨b, off, none⟩) c ws _ (F0.blk _ (List.mem_cons_of_mem _ (List.mem_cons_of_mem _ List.mem_cons_self))) (slw_up (.inr ⟨b, off, rfl, hb1, hc1⟩) F0.below) hl hk (by omega) hw)
  rw [hok] at HO
  have HV := Lib.hid (fun W => l04Word_any l x W (i64_8 hl) hx)
  rw [hd] at HV
  have HI := Lib.hid (fun W => l00In_any wn 0 4 W)
  rw [show inB wn 0 4 = true from cb_t hr] at HI
  have HC := Lib.hid (fun W K => l04Cases_any w.heap.size b off c l k ws W K h80 hkk)
  have hUL := upC80 k ws.length h80
  obtain ⟨i0, hi, hz0, hz1, hz2⟩ := info_parts Try.infoC
  simp only [World.size_alloc] at F0
  unfold B8 at hl
  have HW := Lib.hid (And.intro hw hc1)
  clear hok hd hw hk hx hx2 hc1
  go_enter Try.func13, Try.ntmps13
  go_wp2_with fail
  refine HO.out.mono ?_
  rintro e w2 ⟨rfl, hb⟩
  have F1 := F0.next hb
  clear hb F0 HO
  obtain ⟨c0, c1, c2, c3⟩ := (F1.blk _ (List.mem_cons_of_mem _ (List.mem_cons_of_mem _ List.mem_cons_self))).three
  obtain ⟨x0, x1, x2, x3, x4⟩ := (F1.blk _ (List.mem_cons_of_mem _ List.mem_cons_self)).four
  dsimp only at c0 c1 c2 c3 x0 x1 x2 x3 x4
  go_wp2_with fail
  refine (HV.out _).mono ?_
  rintro e w3 ⟨rfl, hb3⟩
  have F2 := F1.next hb3
  clear hb3 F1 HV c0 c1 c2 c3 x0 x1 x2 x3 x4
  go_wp2_with fail
  refine (HI.out _).mono ?_
  rintro e w4 ⟨rfl, rfl⟩
  go_wp2_with fail
  refine (HC.out _ (F2.blk _ (List.mem_cons_of_mem _ (List.mem_cons_of_mem _ List.mem_cons_self)))).mono ?_
  rintro e w4 ⟨g, c', rfl, hg0, hg1, hcs, hfr, hb4⟩
  have F3 := F2.next hb4
  have hM : MD w.heap.size b off c g l k ws w4 := ⟨F3.blk _ (List.mem_cons_of_mem _ (List.mem_cons_of_mem _ List.mem_cons_self)), Nat.lt_of_lt_of_le hb1 F3.below.size, HW.out.2.below F3.below hb1, hg1, hcs⟩
  have bX := F3.blk _ (List.mem_cons_of_mem _ List.mem_cons_self)
  have bR := F3.blk _ List.mem_cons_self
  dsimp only at bX bR
  have HM := Lib.hid (And.intro hM (And.intro bX (And.intro bR F3.below)))
  have hsz4 := F3.below.size
  clear hM bX bR F3 F2 hb4 HC HI hcs hfr hg0 hg1
  have hown := World.ownsRow_made (base := w4.heap.size) (e := 37) (size := 2) w4 #[] 0 (by simp) (by unfold maxLen; omega) (by simp)
  have hB := (Below.refl w4.heap.size w4).alloc (Nat.le_refl _) (.cells #[] 37)
  generalize hL : upC k true ws.length = L at *
  go_wp2
  go_loopw [9, 10] (fun v iv wr => ∃ i : Nat, iv = .int .i64 (i : Int) ∧ i ≤ L.length ∧ wr.ownsRow w4.heap.size 37 2 v (nearL ws x wn (L.take i)).length (cvals (nearL ws x wn (L.take i))) ∧ Below w4.heap.size w4 wr) (fun _ iv _ => L.length - (intOf iv).toNat)
  case atStart => exact ⟨0, rfl, Nat.zero_le _, hown, hB⟩
  case round =>
    obtain ⟨i, rfl, hi', hown, hB⟩ := hrel
    obtain ⟨hM, bX, bR, hB0⟩ := HM.out
    have hR4 := Blk.lt bR
    by_cases hlt : i < L.length
    case neg =>
      obtain rfl : i = L.length := by omega
      rw [List.take_length] at hown
      have hB1 := hB0.trans (hB.mono hB0.size)
      replace bR := bR.below hB bR.lt
      obtain ⟨a, cc, rfl, hx2⟩ := OwnX.ofOwns hown
      have hlen : (nearL ws x wn L).length ≤ 161 := by have := nearL_len ws x wn L; omega
      obtain ⟨N, hN⟩ : ∃ N, nearL ws x wn L = N := ⟨_, rfl⟩
      rw [hN] at hx2 hlen hown ⊢
      by_cases h0 : N.length = 0
      · have HF := Lib.hid (show dnV ws x wn (upC k true ws.length) = (0, false) ∧ dnC ws x wn (upC k true ws.length) = 6 from by unfold dnV dnC; rw [hL, hN, if_pos h0, if_neg (by omega)]; exact ⟨rfl, rfl⟩)
        have h0z : (N.length : Int) = 0 := by omega
        rw [h0]
        clear hlen h0 hx2 hN
        clear hown hB0
        have hBx := hB1
        have kB := Lib.hid (setAt (setAt hBx (show w.heap.size ≤ w.heap.size + 1 + 1 by omega) 0 (.int .i8 0)) (show w.heap.size ≤ w.heap.size + 1 + 1 by omega) 1 (.bool false))
        have HR3 := Lib.hid bR
        obtain ⟨f0, f1, f2⟩ := bR.two
        clear bR bX hM hB hBx
        go_wp2
        exact bodyPost_ret (v := .tuple #[caseV 0 false, .int .i64 6]) (by simp [results, Try.results13, go_sem, f0, f1]) rfl ⟨by rw [HF.out.1, HF.out.2], kB.out⟩
      by_cases h1 : N.length = 1
      · obtain ⟨y, rfl⟩ := List.length_eq_one_iff.1 h1
        have HF := Lib.hid (show dnV ws x wn (upC k true ws.length) = y ∧ dnC ws x wn (upC k true ws.length) = 0 from by unfold dnV dnC; rw [hL, hN, if_pos h1, if_neg h0, if_pos h1]; exact ⟨rfl, rfl⟩)
        obtain ⟨gg, rfl, hg1, hg2, hg3, hg4⟩ := hx2.resolve_left (by simp [cvals])
        have hg := hg3.cs
        have e0 := (hg 0 (by simp)).1
        have e1 := (hg 0 (by simp)).2
        simp at e0 e1
        have e2 := hg4 0
        have hne : gg ≠ w.heap.size + 1 + 1 := by omega
        rw [h1]
        clear hlen h0 h1 hg hg3 hN
        clear hown hB0
        have hBx := hB1
        have kB := Lib.hid (setAt (setAt hBx (show w.heap.size ≤ w.heap.size + 1 + 1 by omega) 0 (.int .i8 y.1)) (show w.heap.size ≤ w.heap.size + 1 + 1 by omega) 1 (.bool y.2))
        have HR3 := Lib.hid bR
        obtain ⟨f0, f1, f2⟩ := bR.two
        clear bR bX hM hB hBx
        go_wp2
        exact bodyPost_ret (v := .tuple #[caseV y.1 y.2, .int .i64 0]) (by simp [results, Try.results13, go_sem, f0, f1]) rfl ⟨by rw [HF.out.1, HF.out.2], kB.out⟩
      · have HF := Lib.hid (show dnV ws x wn (upC k true ws.length) = (0, false) ∧ dnC ws x wn (upC k true ws.length) = 8 from by unfold dnV dnC; rw [hL, hN, if_neg h0, if_neg h1, if_neg h1]; exact ⟨rfl, rfl⟩)
        generalize N.length = m at *
        have hm0 : ¬ (m : Int) = 0 := by omega
        have hm1 : (1 : Int) < (m : Int) := by omega
        clear h0 h1 hx2 hN
        clear hown hB0
        have hBx := hB1
        have kB := Lib.hid (setAt (setAt hBx (show w.heap.size ≤ w.heap.size + 1 + 1 by omega) 0 (.int .i8 0)) (show w.heap.size ≤ w.heap.size + 1 + 1 by omega) 1 (.bool false))
        have HR3 := Lib.hid bR
        obtain ⟨f0, f1, f2⟩ := bR.two
        clear bR bX hM hB hBx
        go_wp2
        exact bodyPost_ret (v := .tuple #[caseV 0 false, .int .i64 8]) (by simp [results, Try.results13, go_sem, f0, f1]) rfl ⟨by rw [HF.out.1, HF.out.2], kB.out⟩
    have hi2 : i < (upC k true ws.length).length := by rw [hL]; exact hlt
    have hltz : (i : Int) < (L.length : Int) := by omega
    have hlL : (L.length : Int) ≤ 161 := by omega
    have HT := Lib.hid (take_cs L i hlt)
    have M1 := (hM.below (hB.mono (Nat.le_refl _))).below (Below.refl wr.heap.size wr).drew
    have X1 := Blk.below (Blk.below bX hB (Nat.lt_of_lt_of_le (Nat.lt_succ_self _) (Nat.le_of_lt hR4))) ((Below.refl wr.heap.size wr).drew) (Blk.lt (Blk.below bX hB (Nat.lt_of_lt_of_le (Nat.lt_succ_self _) (Nat.le_of_lt hR4))))
    have H6 := Lib.hid (fun W' (h : Below wr.drew.heap.size wr.drew W') => (M1.below h).six i hi2 (Blk.below X1 h (Blk.lt X1)))
    have HS := Lib.hid (M1.seen h80 HW.out.1 i hi2)
    obtain ⟨g0, g1⟩ := (M1.two i hi2)
    rw [hL] at H6 HS g0 g1
    have HD := Lib.hid (fun W => l04Distance_any (seenV ws (L.getD i (0, false))) x W)
    have hnl : (nearL ws x wn (L.take i)).length ≤ 161 := by have := nearL_len ws x wn (L.take i); simp at this; omega
    generalize hy : L.getD i (0, false) = y at *
    have g0' := g0
    have HOW := Lib.hid (row_next hown ((Below.refl wr.heap.size wr).drew))
    have HB1 := Lib.hid (hB.trans ((Below.refl wr.heap.size wr).drew.mono hB.size))
    have HG := Lib.hid (And.intro M1 X1)
    have HNL := Lib.hid hnl
    clear hown hB hM bX bR hB0 M1 X1 g0 g1 g0' hi2 hR4 hnl
    cases hq : decide (dist (seenV ws y) x 4 ≤ wn)
    · have HN := Lib.hid (show nearL ws x wn (L.take (i + 1)) = nearL ws x wn (L.take i) by rw [HT.out]; exact nearL_f (of_decide_eq_false hq))
      have HTy := Lib.hid (show ∃ d, d = dist (seenV ws y) x 4 from ⟨_, rfl⟩)
      generalize dist (seenV ws y) x 4 = d at *
      go_wp2_with fail
      go_region_held3 (fun w' => w'.cell? ⟨g, i * 2, none⟩ = some (.int .i8 y.1) ∧ w'.cell? ⟨g, i * 2 + 1, none⟩ = some (.bool y.2) ∧ w'.cell? ⟨w.heap.size + 1, 0, none⟩ = some (.int .i8 (x 0)) ∧ w'.cell? ⟨w.heap.size + 1, 1, none⟩ = some (.int .i8 (x 1)) ∧ w'.cell? ⟨w.heap.size + 1, 2, none⟩ = some (.int .i8 (x 2)) ∧ w'.cell? ⟨w.heap.size + 1, 3, none⟩ = some (.int .i8 (x 3)))
        (first | with_reducible exact H6.out _ (hb5.trans (hb6.mono hb5.size)) | with_reducible exact H6.out _ hb5 | with_reducible exact H6.out _ (Below.refl _ _))
        (first
          | (go_at_call 30; with_reducible refine HS.out.mono ?_; rintro e w5 ⟨rfl, hb5⟩)
          | (go_at_call 29; with_reducible refine (HD.out _).mono ?_; rintro e w6 ⟨rfl, hb6⟩))
      have hb := hb5.trans (hb6.mono hb5.size)
      have HO5 := Lib.hid (row_next HOW.out hb)
      have HB5 := Lib.hid (HB1.out.trans (hb.mono HB1.out.size))
      clear hb hb5 hb6 HS HD H6 HOW HB1 HG
      go_wp2
      go_roundw
      case rel => exact ⟨i + 1, by go_num, by omega, by rw [HN.out]; exact HO5.out, HB5.out⟩
      case measure => simp [intOf]; omega
    · have HN := Lib.hid (show nearL ws x wn (L.take (i + 1)) = nearL ws x wn (L.take i) ++ [y] by rw [HT.out]; exact nearL_t (of_decide_eq_true hq))
      have HTy := Lib.hid (show ∃ d, d = dist (seenV ws y) x 4 from ⟨_, rfl⟩)
      generalize dist (seenV ws y) x 4 = d at *
      go_wp2_with fail
      go_region_held3 (fun w' => w'.cell? ⟨g, i * 2, none⟩ = some (.int .i8 y.1) ∧ w'.cell? ⟨g, i * 2 + 1, none⟩ = some (.bool y.2) ∧ w'.cell? ⟨w.heap.size + 1, 0, none⟩ = some (.int .i8 (x 0)) ∧ w'.cell? ⟨w.heap.size + 1, 1, none⟩ = some (.int .i8 (x 1)) ∧ w'.cell? ⟨w.heap.size + 1, 2, none⟩ = some (.int .i8 (x 2)) ∧ w'.cell? ⟨w.heap.size + 1, 3, none⟩ = some (.int .i8 (x 3)))
        (first | with_reducible exact H6.out _ (hb5.trans (hb6.mono hb5.size)) | with_reducible exact H6.out _ hb5 | with_reducible exact H6.out _ (Below.refl _ _))
        (first
          | (go_at_call 30; with_reducible refine HS.out.mono ?_; rintro e w5 ⟨rfl, hb5⟩)
          | (go_at_call 29; with_reducible refine (HD.out _).mono ?_; rintro e w6 ⟨rfl, hb6⟩))
      have hb := hb5.trans (hb6.mono hb5.size)
      have hO4 := row_next HOW.out hb
      have hB4 := HB1.out.trans (hb.mono HB1.out.size)
      obtain ⟨g0, g1, -⟩ := H6.out _ hb
      have hs4 : w4.heap.size ≤ w6.heap.size := hB4.size
      have hnl := HNL.out
      clear hb hb5 hb6 HS HD H6 HOW HB1 HG
      obtain ⟨wq, rfl⟩ : ∃ wq : World, wq = w6 := ⟨_, rfl⟩
      go_wp2_with (at_builtin; refine wpList_append_own _ rfl _ _ 31 rfl w4.heap.size 37 i0 (.agg #[.int .i8 0, .bool false]) 2 2 Try.underlying31 hi hz0 hz1 hz2 rfl (by decide) _ _ _ rfl (hO4.alloc _) ⟨wq.heap.size, 0, none⟩ 1 1 [.int .i8 y.1, .bool y.2] rfl rfl (World.news_of_block (cs := #[.int .i8 y.1, .bool y.2]) (t := 37) (fr := (0, 0)) (heap_alloc_new wq _)) (by simp [Value.oneCell']) (by unfold maxLen; omega) (by omega) (by simp <;> omega) ?_)
      intro v' w1 hown' hgrow _
      have HB5 := Lib.hid ((hB4.alloc hs4 (.cells #[.int .i8 y.1, .bool y.2] 37)).grown hgrow (by simp; omega) (fun j hj => (hO4.lt j hj).1))
      have HO5 := Lib.hid (show w1.ownsRow w4.heap.size 37 2 v' (nearL ws x wn (L.take i) ++ [y]).length (cvals (nearL ws x wn (L.take i) ++ [y])) from by rw [cvals_snoc]; simpa only [List.length_append, List.length_singleton] using hown')
      clear hown' hgrow hO4 hB4 g0 g1
      go_wp2
      go_roundw
      case rel => exact ⟨i + 1, by go_num, by omega, by rw [HN.out]; exact HO5.out, HB5.out⟩
      case measure => simp [intOf]; omega
theorem specDecodeNear_any (l k : Int) (a : Option Addr) (c : Nat) (ws : List Wf) (x : Nat → Int) (wn : Int) (w : World) (hs : Slw w.heap.size w a ws) (hl : B8 l) (hk : B8 k) (hn : ws.length ≤ 1048576) (hw : Wall ws) (hx : W4 x) :
    Calls Try.prog 13 #[fixV l k a ws.length c, wordV x, .int .i64 wn] w fun e w' => e = .returned (.tuple #[caseV (dqV l k ws x wn).1 (dqV l k ws x wn).2, .int .i64 (dqC l k ws x wn)]) ∧ Below w.heap.size w w' := by
  cases hok : okX l k ws
  · rw [(dq_no (.inl hok)).1, (dq_no (.inl hok)).2]
    exact specDn_noF l k a c ws x wn w hs hl hk hn hw hx hok
  cases hd : okD l x
  · rw [(dq_no (.inr hd)).1, (dq_no (.inr hd)).2]
    exact specDn_noD l k a c ws x wn w hs hl hk hn hw hx hok hd
  by_cases hr : 0 ≤ wn ∧ wn ≤ 4
  · obtain ⟨b, off, rfl, hb1, hc1⟩ := own_of hs (Below.refl _ _) (okX_t hok).2.2.1.1
    rw [(dq_in hok hd hr).1, (dq_in hok hd hr).2]
    exact specDn_in l k b off c ws x wn w hb1 hc1 hl hk hw hx hok hd hr
  · rw [(dq_out hok hd hr).1, (dq_out hok hd hr).2]
    exact specDn_out l k a c ws x wn w hs hl hk hn hw hx hok hd hr
theorem decodeNear_any (l k : Int) (a : Option Addr) (c : Nat) (ws : List Wf) (x : Nat → Int) (wn : Int) (w : World) (hs : Slw w.heap.size w a ws) (hl : B8 l) (hk : B8 k) (hn : ws.length ≤ 1048576) (hw : Wall ws) (hx : W4 x) :
    Calls Try.prog 12 #[fixV l k a ws.length c, wordV x, .int .i64 wn] w fun e w' => e = .returned (.tuple #[caseV (dqV l k ws x wn).1 (dqV l k ws x wn).2, .int .i64 (dqC l k ws x wn)]) ∧ Below w.heap.size w w' := by
  cases hok : okX l k ws
  · rw [(dq_no (.inl hok)).1, (dq_no (.inl hok)).2]
    exact decodeNear_no l k a c ws x wn w hs hl hk hn hw hx (.inl hok)
  cases hd : okD l x
  · rw [(dq_no (.inr hd)).1, (dq_no (.inr hd)).2]
    exact decodeNear_no l k a c ws x wn w hs hl hk hn hw hx (.inr hd)
  by_cases hr : 0 ≤ wn ∧ wn ≤ 4
  · obtain ⟨b, off, rfl, hb1, hc1⟩ := own_of hs (Below.refl _ _) (okX_t hok).2.2.1.1
    rw [(dq_in hok hd hr).1, (dq_in hok hd hr).2]
    exact callsIn_wide.1 (decodeNear_in b off c l k ws x wn w hb1 hc1 hl hk hw hx hok hd hr)
  · rw [(dq_out hok hd hr).1, (dq_out hok hd hr).2]
    exact decodeNear_out l k a c ws x wn w hs hl hk hn hw hx hok hd hr
end Go.Proofs.Ytieghjpecoiodaa
