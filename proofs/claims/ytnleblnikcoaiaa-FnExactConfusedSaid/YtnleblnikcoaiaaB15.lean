/-
  The program's Confused.
-/
import Derived.Test.YtnleblnikcoaiaaB14
import Derived.LoopIn
import Derived.Sort.CutIn
import Derived.Sort.CutIn
import Derived.Sort.CutIn
namespace Go.Proofs.Ytnleblnikcoaiaa
open Go.RowKit Go.Shelf Go.Maps Go.MapKept Go.ChangeMaps
set_option maxRecDepth 100000
set_option linter.unusedVariables false

attribute [local go_sem] Oper.semAt_some

set_option maxHeartbeats 4000000 in
theorem confused_no (l k : Int) (a : Option Addr) (c : Nat) (ws : List Wf) (w : World) (hs : Slw w.heap.size w a ws) (hl : B8 l) (hk : B8 k) (hn : ws.length ≤ 1048576) (hw : Wall ws) (hok : okX l k ws = false) :
    Calls Try.prog 23 #[fixV l k a ws.length c] w fun e w' => e = .returned (.tuple #[caseV 0 false, caseV 0 false, .int .i64 1]) ∧ Below w.heap.size w w' := by
  have F0 := ((((FR.start w).box #[.int .i8 l, .int .i8 k, .slice a ws.length c] 35).box #[.int .i8 0, .bool false] 37).box #[.int .i8 0, .bool false] 37).box #[.int .i64 0] 2
  have HO := Lib.hid (openFixed_f l k a c ws _ (slw_up hs F0.below) hl hk hn hw hok)
  simp only [World.size_alloc] at F0
  clear hok hw hs hn hl hk
  generalize ws.length = n at *
  obtain ⟨c0, c1, c2, c3⟩ := (F0.blk _ (List.mem_cons_of_mem _ (List.mem_cons_of_mem _ (List.mem_cons_of_mem _ List.mem_cons_self)))).three
  go_enter Try.func23, Try.ntmps23
  go_wp2_with fail
  refine HO.out.mono ?_
  rintro e w2 ⟨rfl, hb⟩
  have F1 := (F0.next hb).box nopC 66
  clear hb c0 c1 c2 c3 HO F0
  obtain ⟨f0, f1, f2⟩ := (F1.blk _ (List.mem_cons_of_mem _ (List.mem_cons_of_mem _ (List.mem_cons_of_mem _ List.mem_cons_self)))).two
  obtain ⟨g0, g1, g2⟩ := (F1.blk _ (List.mem_cons_of_mem _ (List.mem_cons_of_mem _ List.mem_cons_self))).two
  have h0 := (F1.blk _ (List.mem_cons_of_mem _ List.mem_cons_self)).cell 0
  have h1 := (F1.blk _ (List.mem_cons_of_mem _ List.mem_cons_self)).free 0
  dsimp only at f0 f1 f2 g0 g1 g2 h0 h1
  have HB := Lib.hid F1.below
  clear F1
  go_wp2
  exact bodyPost_ret (v := .tuple #[caseV 0 false, caseV 0 false, .int .i64 1]) (by simp [results, Try.results23, go_sem, f0, f1, g0, g1, h0]) rfl ⟨rfl, by repeat (first | exact HB.out | refine Below.setCell ?_ (by simp <;> omega) _)⟩
/-- The results of Confused stand in their blocks. -/
def CnX (ws : List Wf) (L : List Cs) (w W : World) : Prop := ∃ p : Cs × Cs, cfR ws L = some p ∧ (Blk W (w.heap.size + 1) #[.int .i8 p.1.1, .bool p.1.2] 37 ∧ Blk W (w.heap.size + 1 + 1) #[.int .i8 p.2.1, .bool p.2.2] 37 ∧ Blk W (w.heap.size + 1 + 1 + 1) #[.int .i64 0] 2) ∧ Below w.heap.size w W
theorem map_own1 {β : Type} {P : Program} {kt : TypeId} {C mb : Nat} (hm : mb < C) (n : Nat) (G : Value → Option Value) : OwnFrom C (fun (_ : β) W => MapAt P kt W mb n G) := fun s X Y row hs hg hr => hs.block (hg.block mb hs.lt (fun e => by have := (hr mb e.symm).1; omega))
set_option maxHeartbeats 8000000 in
theorem confused_in (b off c : Nat) (l k : Int) (ws : List Wf) (w : World) (hb1 : b < w.heap.size) (hc1 : WAt w b off ws) (hl : B8 l) (hk : B8 k) (hw : Wall ws) (hok : okX l k ws = true) :
    CallsIn Fence.wide 9 Try.prog 23 #[fixV l k (some ⟨b, off, none⟩) ws.length c] w fun e w' => e = .returned (.tuple #[caseV (cnA l k ws).1 (cnA l k ws).2, caseV (cnB l k ws).1 (cnB l k ws).2, .int .i64 (cnC l k ws)]) ∧ Below w.heap.size w w' := by
  have F0 := ((((FR.start w).box #[.int .i8 l, .int .i8 k, .slice (some ⟨b, off, none⟩) ws.length c] 35).box #[.int .i8 0, .bool false] 37).box #[.int .i8 0, .bool false] 37).box #[.int .i64 0] 2
  have hx := okX_t hok
  have h80 := hx.2.2.1.2
  have HO := Lib.hid (openFixed_t l k (some ⟨b, off, none⟩) c ws _ (slw_up (.inr ⟨b, off, rfl, hb1, hc1⟩) F0.below) hl hk (by omega) hw hok)
  have HC := Lib.hid (fun W (h : Below w.heap.size w W) => callsIn_wide.1 (firstCases_in b off c l k ws W (Nat.lt_of_lt_of_le hb1 h.size) (hc1.below h hb1) hw (by omega) hx.1 hx.2.1))
  obtain ⟨c0, c1, c2, -⟩ := (F0.blk _ (List.mem_cons_of_mem _ (List.mem_cons_of_mem _ (List.mem_cons_of_mem _ List.mem_cons_self)))).three
  simp only [World.size_alloc] at F0
  have HW := Lib.hid (And.intro hw hc1)
  have HOK := Lib.hid hok
  have hkk := hx.2.1
  clear hx hw hc1 hl hk hok
  refine callsIn_of_wp_marks Try.func23 rfl trivial ?_ rfl
  simp only [Try.ntmps23, List.size_toArray, List.length_cons, List.length_nil, Nat.reduceAdd, Nat.reduceSub, Array.replicate_succ, Array.replicate_zero, List.push_toArray, List.append_toArray, List.nil_append, List.cons_append]
  gi_wp2_with (first
    | (refine ⟨trivial, ?_⟩; gi_at_call 33; refine (callsIn_wide.2 HO.out).mono ?_; rintro e w2 ⟨rfl, hb2⟩; have F2 := (F0.next hb2).box (opC (some ⟨b, off, none⟩) ws.length c l k) 66; obtain ⟨d0, d1, d2, d3, d4, d5, d6⟩ := (F2.blk _ List.mem_cons_self).six; clear hb2 F0 c0 c1 c2 HO)
    | (refine ⟨trivial, ?_⟩; gi_at_call 39; refine (callsIn_wide.2 (firstCases_fr F2 HC.out)).mono ?_; rintro e w3 ⟨mb, n, rfl, hM, F3⟩; have hlt3 := (F3.blk _ List.mem_cons_self).lt; dsimp only at hlt3; clear d0 d1 d2 d3 d4 d5 d6; obtain ⟨d0, d1, d2, d3, d4, d5, d6⟩ := (F3.blk _ List.mem_cons_self).six)
    | (refine ⟨trivial, ?_⟩; gi_at_call 34; refine (seenWords_in Fence.wide 8 trivial rfl _ _ _ _ _ _).mono ?_; rintro e w4 ⟨rfl, rfl⟩))
  -- TAIL
  have hml := hM.lt
  have hM1 := (hM.alloc (.cells #[.map (some mb)] 77)).alloc (.cells (opC (some ⟨b, off, none⟩) ws.length c l k) 66)
  have F4 := (F3.box #[.map (some mb)] 77).box (opC (some ⟨b, off, none⟩) ws.length c l k) 66
  simp only [World.size_alloc] at F4
  have bP := F4.blk _ List.mem_cons_self
  have bV := F4.blk _ (List.mem_cons_of_mem _ List.mem_cons_self)
  have bI := F4.blk (w.heap.size + 1 + 1 + 1, #[.int .i64 0], 2) (by simp)
  have bY := F4.blk (w.heap.size + 1 + 1, #[.int .i8 0, .bool false], 37) (by simp)
  have bX := F4.blk (w.heap.size + 1, #[.int .i8 0, .bool false], 37) (by simp)
  have hB0 := F4.below
  have hz3 : w.heap.size + 1 + 1 + 1 < w3.heap.size := (F3.blk (w.heap.size + 1 + 1 + 1, #[.int .i64 0], 2) (by simp)).lt
  have hsz : ((w3.alloc (.cells #[.map (some mb)] 77)).alloc (.cells (opC (some ⟨b, off, none⟩) ws.length c l k) 66)).heap.size = w3.heap.size + 2 := by simp
  dsimp only at bP bV bI bY bX
  clear d0 d1 d2 d3 d4 d5 d6 F2 F3 F4 hM HC
  obtain ⟨W0, hW0⟩ : ∃ W0, ((w3.alloc (.cells #[.map (some mb)] 77)).alloc (.cells (opC (some ⟨b, off, none⟩) ws.length c l k) 66)) = W0 := ⟨_, rfl⟩
  rw [hW0] at bP bV bI bY bX hB0 hsz hM1 ⊢
  clear hW0
  have hg2 : w2.heap.size < w3.heap.size := hlt3
  generalize w2.heap.size = X2 at *
  refine loop_gives rfl (by decide) (gf := 50) (lb := #[.pointer (some ⟨w3.heap.size + 1, 0, none⟩)]) rfl trivial (enters_of Try.func50 (by kernel_rfl) rfl)
    (encs := fun q : Cs => #[caseV q.1 q.2, wordV (seenV ws q)]) (n₀ := w.heap.size) (S := fun q => q = w3.heap.size + 1 ∨ q = w3.heap.size + 4 ∨ q = w3.heap.size + 5) (L := upC k true ws.length) (by omega)
    (fun W1 h1 h2 => seen1_gives (w3.heap.size + 1) w.heap.size _ b off c ws l k W1 (bP.below h2 bP.lt) hb1 (by omega) (HW.out.2.below (hB0.trans (h2.mono hB0.size)) hb1) HW.out.1 (by omega) hkk ⟨.inl rfl, .inr (.inl (by omega)), .inr (.inr (by omega))⟩ (fun q hq => by omega)) (fun _ => rfl)
    (fun pre W => MapAt Try.prog 30 W mb n (fcF ws (upC k true ws.length)) ∧ (Blk W (w.heap.size + 1) #[.int .i8 0, .bool false] 37 ∧ Blk W (w.heap.size + 1 + 1) #[.int .i8 0, .bool false] 37 ∧ Blk W (w.heap.size + 1 + 1 + 1) #[.int .i64 0] 2) ∧ Blk W w3.heap.size #[.map (some mb)] 77 ∧ Below w.heap.size w W ∧ CI ws (upC k true ws.length) pre)
    (fun pre W => CnX ws (upC k true ws.length) w W)
    (OwnFrom.and (map_own1 (by omega) _ _) (OwnFrom.and (OwnFrom.and (Own.from (blk_own _ _ (fun _ => _)) _) (OwnFrom.and (Own.from (blk_own _ _ (fun _ => _)) _) (Own.from (blk_own _ _ (fun _ => _)) _))) (OwnFrom.and (Own.from (blk_own _ _ (fun _ => _)) _) (OwnFrom.and (ownFrom_below (Nat.le_refl _) (by omega)) (pure_own _ _)))))
    (fun pre X Y row hs hg hr => by
      obtain ⟨p, h1, ⟨h2, h3, h4⟩, h5⟩ := hs
      exact ⟨p, h1, ⟨blk_own _ _ (fun (_ : Unit) => _) () X Y row h2 hg (fun r e => (hr r e).2), blk_own _ _ (fun (_ : Unit) => _) () X Y row h3 hg (fun r e => (hr r e).2), blk_own _ _ (fun (_ : Unit) => _) () X Y row h4 hg (fun r e => (hr r e).2)⟩, ownFrom_below (β := Unit) (Nat.le_refl _) (by omega) () X Y row h5 hg hr⟩)
    ⟨hM1, ⟨bX, bY, bI⟩, bV, hB0, CI.start _ _⟩
    (fun q a' W => ∃ Bx By, w3.heap.size ≤ Bx ∧ Blk W Bx #[.int .i8 q.1, .bool q.2] 37 ∧ Blk W By (wordC (seenV ws q)) 30 ∧ a' = { tmps := #[fixV l k (some ⟨b, off, none⟩) ws.length c, .pointer (some ⟨w.heap.size, 0, none⟩), .pointer (some ⟨w.heap.size + 1, 0, none⟩), .pointer (some ⟨w.heap.size + 1 + 1, 0, none⟩), .pointer (some ⟨w.heap.size + 1 + 1 + 1, 0, none⟩), .pointer (some ⟨X2, 0, none⟩), .int .i64 0, .pointer (some ⟨w3.heap.size, 0, none⟩), .pointer (some ⟨Bx, 0, none⟩), .pointer (some ⟨By, 0, none⟩), undef,
      .tuple #[opV (some ⟨b, off, none⟩) ws.length c l k, .int .i64 0], fixV l k (some ⟨b, off, none⟩) ws.length c, .tuple #[opV (some ⟨b, off, none⟩) ws.length c l k, .int .i64 0], opV (some ⟨b, off, none⟩) ws.length c l k, .int .i64 0, .int .i64 0, .bool false, undef, undef, undef, opV (some ⟨b, off, none⟩) ws.length c l k, .map (some mb), opV (some ⟨b, off, none⟩) ws.length c l k, .func (.func 50) #[] #[.pointer (some ⟨w3.heap.size + 1, 0, none⟩)], caseV q.1 q.2, wordV (seenV ws q), undef, undef, undef, undef, undef, undef, undef, undef, undef, undef], defers := [] })
    (fun q a' _ X Y row hs hg hr => by obtain ⟨Bx, By, h0, h2, h3, h4⟩ := hs; exact ⟨Bx, By, h0, blk_own _ _ (fun (_ : Unit) => _) () X Y row h2 hg (fun r e => (hr r e).2), blk_own _ _ (fun (_ : Unit) => _) () X Y row h3 hg (fun r e => (hr r e).2), h4⟩)
    ?assign ?body ?done ?stop
  case assign =>
    rintro l2 pre q W K ⟨hM, ⟨b1, b2, b3⟩, b4, hB1, hci⟩ hbn hK
    gi_wp2
    exact hK _ _ (((KeepsOthers.alloc _ _).trans (KeepsOthers.alloc _ _)).from _) ((KpS.alloc hB1.size _).t (KpS.alloc (by have := hB1.size; simp; omega) _)) ⟨(hM.alloc _).alloc _, ⟨(b1.alloc _).alloc _, (b2.alloc _).alloc _, (b3.alloc _).alloc _⟩, (b4.alloc _).alloc _, (hB1.alloc hB1.size _).alloc (by have := hB1.size; simp; omega) _, hci⟩ ⟨W.heap.size, W.heap.size + 1, by have := b4.lt; omega, (blk_new W _ _).alloc _, by simpa [World.size_alloc] using blk_new (W.alloc _) _ _, rfl⟩
  case body =>
    have HZ := Lib.hid (And.intro hsz (And.intro hz3 hg2))
    clear hsz hz3 hg2 hlt3
    rintro l2 pre q a' W ⟨hM, ⟨b1, b2, b3⟩, b4, hB1, hci⟩ ⟨Bx, By, hBx3, bX, bY, rfl⟩ hpre hbn
    obtain ⟨x0, x1, x2⟩ := bX.two
    obtain ⟨y0, y1, y2, y3, y4⟩ := bY.four
    have k0 := b4.cell 0
    obtain ⟨kl, hkl⟩ := keyD_mk (seenV ws q) (seenV_W4 HW.out.1 q)
    have HKL := Lib.hid hkl
    have HM := Lib.hid hM
    have l1 := b4.lt
    have l2' := bX.lt
    have l3 := bY.lt
    have l4 := b1.lt
    have l5 := b2.lt
    have l6 := b3.lt
    have hb0 := hB1.size
    have HK := Lib.hid (And.intro b1 (And.intro b2 (And.intro b3 (And.intro b4 (And.intro hB1 hci)))))
    have HP := Lib.hid hpre
    have HBX := Lib.hid bX
    clear b1 b2 b3 b4 bX bY hB1 hbn hpre hM hkl hci
    cases hq : fcQ ws pre (wordV (seenV ws q)) with
    | none =>
      have hL : fcQ ws (upC k true ws.length) (wordV (seenV ws q)) = some q := fcQ_pre HP.out (by rw [fcQ_snoc, hq, if_pos rfl]; rfl)
      have HG := Lib.hid (show (fcF ws (upC k true ws.length) (wordV (seenV ws q))).getD (.agg #[.int .i8 0, .bool false]) = caseV q.1 q.2 from by unfold fcF; rw [hL]; rfl)
      have HCI := Lib.hid (HK.out.2.2.2.2.2.next hq)
      have hE := fun W => eqCs q.1 q.2 q.1 q.2 W
      simp only [beq_self_eq_true, Bool.and_self] at hE
      clear hq hL
      gi_wp2_with (gi_at_lookup; refine wpListIn_lookH rfl _ _ 77 rfl 37 keyD Try.underlying77 (zeroCs _) rfl HM.out (wordV (seenV ws q)) kl rfl HKL.out _ HG.out ?_)
      exact ⟨(KeepsOthers.alloc _ _).from _, KpS.alloc hb0 _, HM.out.alloc _, ⟨HK.out.1.alloc _, HK.out.2.1.alloc _, HK.out.2.2.1.alloc _⟩, HK.out.2.2.2.1.alloc _, HK.out.2.2.2.2.1.alloc hb0 _, HCI.out⟩
    | some q0 =>
      have hL : fcQ ws (upC k true ws.length) (wordV (seenV ws q)) = some q0 := fcQ_pre ((List.prefix_append _ _).trans HP.out) hq
      have HG := Lib.hid (show (fcF ws (upC k true ws.length) (wordV (seenV ws q))).getD (.agg #[.int .i8 0, .bool false]) = caseV q0.1 q0.2 from by unfold fcF; rw [hL]; rfl)
      have HR := Lib.hid (HK.out.2.2.2.2.2.hit HP.out hq)
      have hne := ne_beqC (ne_of_pre HP.out (fcQ_mem hq))
      have hE := fun W => eqCs q0.1 q0.2 q.1 q.2 W
      simp only [hne] at hE
      have bX7 := HBX.out.alloc (.cells #[.int .i8 q0.1, .bool q0.2] 37)
      have bN7 := blk_new W #[.int .i8 q0.1, .bool q0.2] 37
      have b17 := HK.out.1.alloc (.cells #[.int .i8 q0.1, .bool q0.2] 37)
      have b27 := HK.out.2.1.alloc (.cells #[.int .i8 q0.1, .bool q0.2] 37)
      have b37 := HK.out.2.2.1.alloc (.cells #[.int .i8 q0.1, .bool q0.2] 37)
      have hB7 := HK.out.2.2.2.2.1.alloc hb0 (.cells #[.int .i8 q0.1, .bool q0.2] 37)
      have hf7 := (KeepsOthers.alloc W (.cells #[.int .i8 q0.1, .bool q0.2] 37))
      clear hq hL hne
      gi_upto_region 10 with (gi_at_lookup; refine wpListIn_lookH rfl _ _ 77 rfl 37 keyD Try.underlying77 (zeroCs _) rfl HM.out (wordV (seenV ws q)) kl rfl HKL.out _ HG.out ?_)
      generalize W.alloc (.cells #[.int .i8 q0.1, .bool q0.2] 37) = W7 at *
      clear x0 x1 x2 y0 y1 y2 y3 y4 k0 l1 l3 hE
      obtain ⟨x0, x1, x2⟩ := bX7.two
      obtain ⟨n0, n1, n2⟩ := bN7.two
      obtain ⟨f0, f1, f2⟩ := b17.two
      obtain ⟨g0, g1, g2⟩ := b27.two
      have i0 := b37.cell 0
      have i1 := b37.free 0
      have hmx : Try.prog.follows .mixedOrders = true := by kernel_rfl
      have ne1 : Bx ≠ w.heap.size + 1 := by have := HZ.out; omega
      have ne2 : Bx ≠ w.heap.size + 1 + 1 := by have := HZ.out; omega
      have ne3 : W.heap.size ≠ w.heap.size + 1 := by have := HZ.out; omega
      have ne4 : W.heap.size ≠ w.heap.size + 1 + 1 := by have := HZ.out; omega
      have HQ7 := Lib.hid (And.intro b17 (And.intro b27 (And.intro b37 (And.intro hB7 hf7))))
      clear b17 b27 b37 hB7 hf7 bX7 bN7
      gi_region_with_o (fail)
      all_goals
        have HKF := Lib.hid (show KeepsFrom W0.heap.size W (((((W7.setCell ⟨w.heap.size + 1, 0, none⟩ (.int .i8 q0.1)).setCell ⟨w.heap.size + 1, 1, none⟩ (.bool q0.2)).setCell ⟨w.heap.size + 1 + 1, 0, none⟩ (.int .i8 q.1)).setCell ⟨w.heap.size + 1 + 1, 1, none⟩ (.bool q.2)).setCell ⟨w.heap.size + 1 + 1 + 1, 0, none⟩ (.int .i64 0)) from ((((((HQ7.out.2.2.2.2.trans (KeepsOthers.setCell _ _ _)).trans (KeepsOthers.setCell _ _ _)).trans (KeepsOthers.setCell _ _ _)).trans (KeepsOthers.setCell _ _ _)).trans (KeepsOthers.setCell _ _ _))).from _)
        have HCX := Lib.hid (show CnX ws (upC k true ws.length) w (((((W7.setCell ⟨w.heap.size + 1, 0, none⟩ (.int .i8 q0.1)).setCell ⟨w.heap.size + 1, 1, none⟩ (.bool q0.2)).setCell ⟨w.heap.size + 1 + 1, 0, none⟩ (.int .i8 q.1)).setCell ⟨w.heap.size + 1 + 1, 1, none⟩ (.bool q.2)).setCell ⟨w.heap.size + 1 + 1 + 1, 0, none⟩ (.int .i64 0)) from ⟨(q0, q), HR.out, ⟨(((((HQ7.out.1.set 0 _).set 1 _).setOther (by omega) _ _).setOther (by omega) _ _).setOther (by omega) _ _), (((((HQ7.out.2.1.setOther (by omega) _ _).setOther (by omega) _ _).set 0 _).set 1 _).setOther (by omega) _ _), (((((HQ7.out.2.2.1.setOther (by omega) _ _).setOther (by omega) _ _).setOther (by omega) _ _).setOther (by omega) _ _).set 0 _)⟩, setAt (setAt (setAt (setAt (setAt HQ7.out.2.2.2.1 (by omega) _ _) (by omega) _ _) (by omega) _ _) (by omega) _ _) (by omega) _ _⟩)
        gi_wp2
        obtain ⟨p, e1, e2, e3⟩ := HCX.out
        exact ⟨⟨HKF.out.size, HKF.out.same⟩, p, e1, e2, e3.drew⟩
  case done =>
    have HZ := Lib.hid (And.intro hsz (And.intro hz3 hg2))
    clear hsz hz3 hg2 hlt3
    rintro W ⟨hM, ⟨b1, b2, b3⟩, b4, hB1, hci⟩ hK
    have HF := Lib.hid (cn_none HOK.out hci.done)
    obtain ⟨f0, f1, f2⟩ := b1.two
    obtain ⟨g0, g1, g2⟩ := b2.two
    have i0 := b3.cell 0
    have i1 := b3.free 0
    have hK5 : (((((W.setCell ⟨w.heap.size + 1, 0, none⟩ (.int .i8 0)).setCell ⟨w.heap.size + 1, 1, none⟩ (.bool false)).setCell ⟨w.heap.size + 1 + 1, 0, none⟩ (.int .i8 0)).setCell ⟨w.heap.size + 1 + 1, 1, none⟩ (.bool false)).setCell ⟨w.heap.size + 1 + 1 + 1, 0, none⟩ (.int .i64 6)).heap[W0.heap.size]? = some (.deferred (some [])) :=
      (((((KeepsOthers.setCell W _ _).trans (KeepsOthers.setCell _ _ _)).trans (KeepsOthers.setCell _ _ _)).trans (KeepsOthers.setCell _ _ _)).trans (KeepsOthers.setCell _ _ _)).same _ _ hK rfl
    have k1 := ((((b1.set 0 (.int .i8 0)).set 1 (.bool false)).setOther (show w.heap.size + 1 ≠ w.heap.size + 1 + 1 by omega) 0 (.int .i8 0)).setOther (show w.heap.size + 1 ≠ w.heap.size + 1 + 1 by omega) 1 (.bool false)).setOther (show w.heap.size + 1 ≠ w.heap.size + 1 + 1 + 1 by omega) 0 (.int .i64 6)
    have k2 := ((((b2.setOther (show w.heap.size + 1 + 1 ≠ w.heap.size + 1 by omega) 0 (.int .i8 0)).setOther (show w.heap.size + 1 + 1 ≠ w.heap.size + 1 by omega) 1 (.bool false)).set 0 (.int .i8 0)).set 1 (.bool false)).setOther (show w.heap.size + 1 + 1 ≠ w.heap.size + 1 + 1 + 1 by omega) 0 (.int .i64 6)
    have k3 := ((((b3.setOther (show w.heap.size + 1 + 1 + 1 ≠ w.heap.size + 1 by omega) 0 (.int .i8 0)).setOther (show w.heap.size + 1 + 1 + 1 ≠ w.heap.size + 1 by omega) 1 (.bool false)).setOther (show w.heap.size + 1 + 1 + 1 ≠ w.heap.size + 1 + 1 by omega) 0 (.int .i8 0)).setOther (show w.heap.size + 1 + 1 + 1 ≠ w.heap.size + 1 + 1 by omega) 1 (.bool false)).set 0 (.int .i64 6)
    have kB := Lib.hid (setAt (setAt (setAt (setAt (setAt hB1 (show w.heap.size ≤ w.heap.size + 1 by omega) 0 (.int .i8 0)) (show w.heap.size ≤ w.heap.size + 1 by omega) 1 (.bool false)) (show w.heap.size ≤ w.heap.size + 1 + 1 by omega) 0 (.int .i8 0)) (show w.heap.size ≤ w.heap.size + 1 + 1 by omega) 1 (.bool false)) (show w.heap.size ≤ w.heap.size + 1 + 1 + 1 by omega) 0 (.int .i64 6))
    have q1 := Lib.hid ((World.putObj_heap_other (o := .deferred none) (show w.heap.size + 1 ≠ W0.heap.size by have := HZ.out; omega)).trans k1)
    have q2 := Lib.hid ((World.putObj_heap_other (o := .deferred none) (show w.heap.size + 1 + 1 ≠ W0.heap.size by have := HZ.out; omega)).trans k2)
    have q3 := Lib.hid ((World.putObj_heap_other (o := .deferred none) (show w.heap.size + 1 + 1 + 1 ≠ W0.heap.size by have := HZ.out; omega)).trans k3)
    have HK5 := Lib.hid hK5
    clear hM b1 b2 b3 b4 hB1 k1 k2 k3 hK5 hK hci
    gi_wp2
    refine ⟨by simp, .inl ⟨_, _, rfl, run_takeDeferred (b := W0.heap.size) (ds := []) HK5.out, ?_⟩⟩
    have r1 : Blk _ _ _ _ := q1.out
    have r2 : Blk _ _ _ _ := q2.out
    have r3 : Blk _ _ _ _ := q3.out
    obtain ⟨t0, t1, -⟩ := r1.two
    obtain ⟨u0, u1, -⟩ := r2.two
    have r5 := r3.cell 0
    exact ⟨.tuple #[caseV 0 false, caseV 0 false, .int .i64 6], by simp at t0 t1 u0 u1 r5; simp [results, Try.results23, go_sem, t0, t1, u0, u1, r5], by rw [HF.out.1, HF.out.2.1, HF.out.2.2], kB.out.trans (belowK_b (w := w) (Nat.le_refl _) _ W0.heap.size _ _ (by have := HZ.out; omega) HK5.out rfl rfl)⟩
  case stop =>
    have HZ := Lib.hid (And.intro hsz (And.intro hz3 hg2))
    clear hsz hz3 hg2 hlt3
    rintro pre W hpre hcx hK
    obtain ⟨⟨x, y⟩, hp, ⟨b1, b2, b3⟩, hB1⟩ := hcx
    have HF := Lib.hid (cn_some HOK.out hp)
    have q1 := Lib.hid ((World.putObj_heap_other (o := .deferred none) (show w.heap.size + 1 ≠ W0.heap.size by have := HZ.out; omega)).trans b1)
    have q2 := Lib.hid ((World.putObj_heap_other (o := .deferred none) (show w.heap.size + 1 + 1 ≠ W0.heap.size by have := HZ.out; omega)).trans b2)
    have q3 := Lib.hid ((World.putObj_heap_other (o := .deferred none) (show w.heap.size + 1 + 1 + 1 ≠ W0.heap.size by have := HZ.out; omega)).trans b3)
    have kB := Lib.hid hB1
    have HK5 := Lib.hid hK
    clear b1 b2 b3 hB1 hK hp hpre
    gi_wp2
    refine ⟨by simp, .inl ⟨_, _, rfl, run_takeDeferred (b := W0.heap.size) (ds := []) HK5.out, ?_⟩⟩
    have r1 : Blk _ _ _ _ := q1.out
    have r2 : Blk _ _ _ _ := q2.out
    have r3 : Blk _ _ _ _ := q3.out
    obtain ⟨t0, t1, -⟩ := r1.two
    obtain ⟨u0, u1, -⟩ := r2.two
    have r5 := r3.cell 0
    exact ⟨.tuple #[caseV x.1 x.2, caseV y.1 y.2, .int .i64 0], by simp at t0 t1 u0 u1 r5; simp [results, Try.results23, go_sem, t0, t1, u0, u1, r5], by rw [HF.out.1, HF.out.2.1, HF.out.2.2], kB.out.trans (belowK_b (w := w) (Nat.le_refl _) _ W0.heap.size _ _ (by have := HZ.out; omega) HK5.out rfl rfl)⟩
theorem confused_any (l k : Int) (a : Option Addr) (c : Nat) (ws : List Wf) (w : World) (hs : Slw w.heap.size w a ws) (hl : B8 l) (hk : B8 k) (hn : ws.length ≤ 1048576) (hw : Wall ws) :
    Calls Try.prog 23 #[fixV l k a ws.length c] w fun e w' => e = .returned (.tuple #[caseV (cnA l k ws).1 (cnA l k ws).2, caseV (cnB l k ws).1 (cnB l k ws).2, .int .i64 (cnC l k ws)]) ∧ Below w.heap.size w w' := by
  cases hok : okX l k ws
  · rw [(cn_no hok).1, (cn_no hok).2.1, (cn_no hok).2.2]
    exact confused_no l k a c ws w hs hl hk hn hw hok
  obtain ⟨b, off, rfl, hb1, hc1⟩ := own_of hs (Below.refl _ _) (okX_t hok).2.2.1.1
  exact callsIn_wide.1 (confused_in b off c l k ws w hb1 hc1 hl hk hw hok)
end Go.Proofs.Ytnleblnikcoaiaa
