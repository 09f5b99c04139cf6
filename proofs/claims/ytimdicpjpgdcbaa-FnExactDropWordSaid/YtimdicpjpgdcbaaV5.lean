/-
  The walk of impl.DropWord.
-/
import Derived.Test.YtimdicpjpgdcbaaV4
import Derived.StillTailTactics
namespace Go.Proofs.Ytimdicpjpgdcbaa
open Go.RowKit
set_option maxRecDepth 100000
set_option linter.unusedVariables false

theorem res_dropWord {W : World} {b : Nat} {v0 v1 v2 : Value} (K : Blk W b #[v0, v1, v2] 30) (c : Value) (tmps : Array Value) (h4 : tmps.getD 4 undef = .pointer (some ⟨b, 0, none⟩)) (h5 : tmps.getD 5 undef = c) : (results Try.f14 tmps).run Try.prog W = .ok (.tuple #[.agg #[v0, v1, v2], c]) W := by
  have h4' : tmps[4]?.getD undef = .pointer (some ⟨b, 0, none⟩) := by simpa using h4
  have h5' : tmps[5]?.getD undef = c := by simpa using h5
  obtain ⟨e0, e1, e2, -⟩ := K.three
  simp [results, Try.results14, go_sem, e0, e1, e2, h4', h5']
set_option maxHeartbeats 4000000 in
theorem dropWord_any (l k : Int) (g : Nat) (ws : List Wf) (i : Int) (w : World) (hg : g < w.heap.size) (hr : WAt w g 0 ws) (hl : B8 l) (hk : B8 k) (hn : ws.length ≤ 1048576) (hw : Wall ws) (hi64 : -9223372036854775808 ≤ i ∧ i ≤ 9223372036854775807) :
    Calls Try.prog 14 #[fixV l k (some ⟨g, 0, none⟩) ws.length ws.length, .int .i64 i] w fun e w' => ∃ v, e = .returned (.tuple #[.agg #[.int .i8 (dwL l k ws i), .int .i8 (dwK l k ws i), v], .int .i64 (dwC l k ws i)]) ∧ OwnY w.heap.size w' v (dwY l k ws i) ∧ Below w.heap.size w w' := by
  have F0 := ((FR.start w).box #[.int .i8 l, .int .i8 k, .slice (some ⟨g, 0, none⟩) ws.length ws.length] 30).box #[.int .i8 0, .int .i8 0, .slice none 0 0] 30
  simp only [World.size_alloc] at F0
  have hsu : ∀ W, Below w.heap.size w W → Slw W.heap.size W (some ⟨g, 0, none⟩) ws := fun W hb => .inr ⟨g, 0, rfl, Nat.lt_of_lt_of_le hg hb.size, hr.below hb hg⟩
  have HV := Lib.hid (validFixed_any l k (some ⟨g, 0, none⟩) ws.length ws _ (hsu _ F0.below) hl hk hn hw)
  have HI := Lib.hid (fun W => within_any i 0 ((ws.length : Int) - 1) W)
  obtain ⟨c0, c1, c2, -⟩ := (F0.blk _ (List.mem_cons_of_mem _ List.mem_cons_self)).three
  cases h : okX l k ws
  · obtain ⟨e1, e2, e3, e4⟩ := dw_1 (i := i) h
    rw [h] at HV
    rw [e1, e2, e3, e4]
    clear e1 e2 e3 e4 h hr hw hsu HI
    generalize ws.length = n at *
    go_enter Try.func14, Try.ntmps14
    go_wp2_with fail
    refine HV.out.mono ?_
    rintro e w2 ⟨rfl, hb⟩
    have F1 := F0.next hb
    clear hb F0
    clear c0 c1 c2
    have k1 := F1.blk _ List.mem_cons_self
    have HR := Lib.hid (Blk.set3 k1 (.int .i8 0) (.int .i8 0) (.slice none 0 0))
    have HB := Lib.hid (below_set3 F1.below (show w.heap.size ≤ w.heap.size + 1 by omega) (.int .i8 0) (.int .i8 0) (.slice none 0 0))
    obtain ⟨d0, d1, d2, d3⟩ := k1.three
    clear F1 k1
    go_wp2
    exact bodyPost_ret (res_dropWord HR.out _ _ rfl rfl) rfl ⟨_, rfl, .inl ⟨rfl, none, 0, rfl⟩, HB.out⟩
  rw [h] at HV
  have h8 : OkX l k ws := of_cb h
  have h80 := h8.2.2.1
  have hw1 : IntKind.i64.wrap ((ws.length : Int) - 1) = (ws.length : Int) - 1 := IntWalk.i64_in _ (by omega)
  by_cases h2 : 0 ≤ i ∧ i ≤ (ws.length : Int) - 1
  case neg =>
    obtain ⟨e1, e2, e3, e4⟩ := dw_2 h h2
    rw [e1, e2, e3, e4]
    rw [show inB i 0 ((ws.length : Int) - 1) = false from cb_f h2] at HI
    clear e1 e2 e3 e4 h hr hw h8 hsu h2
    generalize ws.length = n at *
    go_enter Try.func14, Try.ntmps14
    go_wp2_with fail
    refine HV.out.mono ?_
    rintro e w2 ⟨rfl, hb⟩
    have F1 := F0.next hb
    clear hb F0
    clear c0 c1 c2
    obtain ⟨c0, c1, c2, c3⟩ := (F1.blk _ (List.mem_cons_of_mem _ List.mem_cons_self)).three
    go_wp2_with fail
    refine (HI.out _).mono ?_
    rintro e w3 ⟨rfl, rfl⟩
    have k1 := F1.blk _ List.mem_cons_self
    have HR := Lib.hid (Blk.set3 k1 (.int .i8 0) (.int .i8 0) (.slice none 0 0))
    have HB := Lib.hid (below_set3 F1.below (show w.heap.size ≤ w.heap.size + 1 by omega) (.int .i8 0) (.int .i8 0) (.slice none 0 0))
    obtain ⟨d0, d1, d2, d3⟩ := k1.three
    clear F1 k1
    go_wp2
    exact bodyPost_ret (res_dropWord HR.out _ _ rfl rfl) rfl ⟨_, rfl, .inl ⟨rfl, none, 0, rfl⟩, HB.out⟩
  rw [show inB i 0 ((ws.length : Int) - 1) = true from cb_t h2] at HI
  by_cases h3 : ws.length = 1
  · obtain ⟨e1, e2, e3, e4⟩ := dw_4 h h2 h3
    rw [e1, e2, e3, e4]
    clear e1 e2 e3 e4 h hr hw h8 hsu h2 hw1
    generalize ws.length = n at *
    subst h3
    rw [show ((1 : Nat) : Int) - 1 = 0 from rfl] at HI
    go_enter Try.func14, Try.ntmps14
    go_wp2_with fail
    refine HV.out.mono ?_
    rintro e w2 ⟨rfl, hb⟩
    have F1 := F0.next hb
    clear hb F0
    clear c0 c1 c2
    obtain ⟨c0, c1, c2, c3⟩ := (F1.blk _ (List.mem_cons_of_mem _ List.mem_cons_self)).three
    go_wp2_with fail
    refine (HI.out _).mono ?_
    rintro e w3 ⟨rfl, rfl⟩
    have k1 := F1.blk _ List.mem_cons_self
    have HR := Lib.hid (Blk.set3 k1 (.int .i8 0) (.int .i8 0) (.slice none 0 0))
    have HB := Lib.hid (below_set3 F1.below (show w.heap.size ≤ w.heap.size + 1 by omega) (.int .i8 0) (.int .i8 0) (.slice none 0 0))
    obtain ⟨d0, d1, d2, d3⟩ := k1.three
    clear F1 k1
    go_wp2
    exact bodyPost_ret (res_dropWord HR.out _ _ rfl rfl) rfl ⟨_, rfl, .inl ⟨rfl, none, 0, rfl⟩, HB.out⟩
  obtain ⟨e1, e2, e3, e4⟩ := dw_0 h h2 h3
  rw [e1, e2, e3, e4]
  have h3' : ¬ (ws.length : Int) = 1 := by omega
  obtain ⟨m, rfl⟩ := Int.eq_ofNat_of_zero_le h2.1
  rw [show ((m : Int).toNat) = m from rfl]
  have hm : m < ws.length := by omega
  have hS := src_split (WAt.src hr hg) hm
  have HS := Lib.hid hS
  have HLN := Lib.hid (dwX_len hm)
  have HLT := Lib.hid (show (ws.take m).length = m by rw [List.length_take]; omega)
  have HLD := Lib.hid (show (ws.drop (m + 1)).length = ws.length - (m + 1) by rw [List.length_drop])
  have hn80 : ws.length ≤ 80 := by omega
  have hn2 : 2 ≤ ws.length := by omega
  have HGL := Lib.hid hg
  clear e1 e2 e3 e4 h hr hw h8 hg hsu hS h2
  have HNN := Lib.hid (Eq.refl ws.length)
  generalize ws.length = n at *
  go_enter Try.func14, Try.ntmps14
  go_wp2_with fail
  refine HV.out.mono ?_
  rintro e w2 ⟨rfl, hb⟩
  have F1 := F0.next hb
  clear hb F0
  clear c0 c1 c2
  obtain ⟨c0, c1, c2, c3⟩ := (F1.blk _ (List.mem_cons_of_mem _ List.mem_cons_self)).three
  go_wp2_with fail
  refine (HI.out _).mono ?_
  rintro e w3 ⟨rfl, rfl⟩
  have hmn : (m : Int) ≤ (n : Int) := by omega
  have hm0 : 0 ≤ (m : Int) := by omega
  have hm1 : (m : Int) + 1 ≤ (n : Int) := by omega
  have hm2 : 0 ≤ (m : Int) + 1 := by omega
  have hmt : ((m : Int) + 1).toNat = m + 1 := by omega
  have hmw : IntKind.i64.wrap ((m : Int) + 1) = (m : Int) + 1 := IntWalk.i64_in _ (by omega)
  go_wp2_with fail
  clear c0 c1 c2 c3
  have F2 := F1.drew
  obtain ⟨c0, c1, c2, c3⟩ := (F2.blk _ (List.mem_cons_of_mem _ List.mem_cons_self)).three
  by_cases he : n = m + 1
  · subst he
    have HFd := Lib.hid F2
    have q1 : (m : Int) ≤ (m : Int) + 1 := by omega
    have q2 : ¬ (m : Int) + 1 < (m : Int) := by omega
    clear F1 F2
    go_still_tail 9, (by kernel_rfl)
    change wpList _ _ _ _ _ w2.drew
    generalize w2.drew = w3 at *
    go_wp2_with fail
    have hto : tailOff m (m + 1) = 0 := by unfold tailOff; rw [if_pos rfl]
    have hgl := HGL.out
    have F4 := HFd.out.box #[.slice (some ⟨g, 0, none⟩) m (m + 1), .slice (some ⟨g, 0, none⟩) 0 0] 28
    have HC := Lib.hid (concat_any w3.heap.size g 0 g (0) ((m + 1)) (0) 2 (ws.take m) (ws.drop (m + 1)) _ (by rw [HLT.out, HLD.out]; omega) (by rw [HLT.out]; omega) (by rw [HLD.out]; omega) (by rw [HLT.out, show (ws.drop (m + 1)).length = 0 by rw [HLD.out]; omega]; exact F4.blk _ List.mem_cons_self) (HS.out.1.below F4.below) (by have h := HS.out.2.below F4.below; rw [hto] at h; exact h))
    have hz3 := (HFd.out.blk _ List.mem_cons_self).lt
    dsimp only at hz3
    refine HC.out.mono ?_
    rintro e w4 ⟨v, rfl, ho, hb⟩
    have F5 := F4.next hb
    obtain ⟨gq, cq, rfl, o1, o2, o3, o4⟩ := ho
    obtain ⟨LN, hLN⟩ : ∃ LN, (ws.take m ++ ws.drop (m + 1)).length = LN := ⟨_, rfl⟩
    have hO : OwnB w.heap.size w4 (.slice (some ⟨gq, 0, none⟩) LN cq) (ws.take m ++ ws.drop (m + 1)) := ⟨gq, cq, by rw [hLN], by rw [World.size_alloc] at o1; omega, o2, o3, o4⟩
    rw [hLN]
    have k0 := F5.blk _ (List.mem_cons_of_mem _ (List.mem_cons_of_mem _ List.mem_cons_self))
    have k1 := F5.blk _ (List.mem_cons_of_mem _ List.mem_cons_self)
    dsimp only at k0 k1
    rw [World.size_alloc] at o1
    have k1' : Blk (w4.setCell ⟨w.heap.size, 2, none⟩ (.slice (some ⟨gq, 0, none⟩) LN cq)) (w.heap.size + 1) #[.int .i8 0, .int .i8 0, .slice none 0 0] 30 := k1.setOther (by omega) 2 _
    have HR := Lib.hid (Blk.set3 k1' (.int .i8 l) (.int .i8 k) (.slice (some ⟨gq, 0, none⟩) LN cq))
    have HB := Lib.hid (below_set3 (F5.below.setCell (p := ⟨w.heap.size, 2, none⟩) (Nat.le_refl _) (.slice (some ⟨gq, 0, none⟩) LN cq)) (show w.heap.size ≤ w.heap.size + 1 by omega) (.int .i8 l) (.int .i8 k) (.slice (some ⟨gq, 0, none⟩) LN cq))
    have HO := Lib.hid ((hO.set (b := w.heap.size) (by omega) 2 (.slice (some ⟨gq, 0, none⟩) LN cq)).set3 (b := w.heap.size + 1) (by omega) (.int .i8 l) (.int .i8 k) (.slice (some ⟨gq, 0, none⟩) LN cq))
    clear c0 c1 c2 c3
    obtain ⟨d0, d1, d2, d3⟩ := k1.three
    obtain ⟨c0, c1, c2, c3⟩ := k0.three
    clear F4 F5 k0 k1 k1' hb o1 o2 o3 o4 hO HC hLN
    go_wp2
    exact bodyPost_ret (v := .tuple #[.agg #[.int .i8 l, .int .i8 k, .slice (some ⟨gq, 0, none⟩) LN cq], .int .i64 0]) (res_dropWord HR.out _ _ rfl rfl) rfl ⟨_, rfl, .inr HO.out, HB.out⟩
  · have he' : ¬ (n : Int) = (m : Int) + 1 := by omega
    have HFd := Lib.hid F2
    clear F1 F2
    go_still_tail 9, (by kernel_rfl)
    change wpList _ _ _ _ _ w2.drew
    generalize w2.drew = w3 at *
    go_wp2_with fail
    have hto : tailOff m n = (m + 1) * 4 := by unfold tailOff; rw [if_neg he]
    have hgl := HGL.out
    have F4 := HFd.out.box #[.slice (some ⟨g, 0, none⟩) m n, .slice (some ⟨g, (m + 1) * 4, none⟩) (n - (m + 1)) (n - (m + 1))] 28
    have HC := Lib.hid (concat_any w3.heap.size g 0 g ((m + 1) * 4) (n) ((n - (m + 1))) 2 (ws.take m) (ws.drop (m + 1)) _ (by rw [HLT.out, HLD.out]; omega) (by rw [HLT.out]; omega) (by rw [HLD.out]; omega) (by rw [HLT.out, HLD.out]; exact F4.blk _ List.mem_cons_self) (HS.out.1.below F4.below) (by have h := HS.out.2.below F4.below; rw [hto] at h; exact h))
    have hz3 := (HFd.out.blk _ List.mem_cons_self).lt
    dsimp only at hz3
    refine HC.out.mono ?_
    rintro e w4 ⟨v, rfl, ho, hb⟩
    have F5 := F4.next hb
    obtain ⟨gq, cq, rfl, o1, o2, o3, o4⟩ := ho
    obtain ⟨LN, hLN⟩ : ∃ LN, (ws.take m ++ ws.drop (m + 1)).length = LN := ⟨_, rfl⟩
    have hO : OwnB w.heap.size w4 (.slice (some ⟨gq, 0, none⟩) LN cq) (ws.take m ++ ws.drop (m + 1)) := ⟨gq, cq, by rw [hLN], by rw [World.size_alloc] at o1; omega, o2, o3, o4⟩
    rw [hLN]
    have k0 := F5.blk _ (List.mem_cons_of_mem _ (List.mem_cons_of_mem _ List.mem_cons_self))
    have k1 := F5.blk _ (List.mem_cons_of_mem _ List.mem_cons_self)
    dsimp only at k0 k1
    rw [World.size_alloc] at o1
    have k1' : Blk (w4.setCell ⟨w.heap.size, 2, none⟩ (.slice (some ⟨gq, 0, none⟩) LN cq)) (w.heap.size + 1) #[.int .i8 0, .int .i8 0, .slice none 0 0] 30 := k1.setOther (by omega) 2 _
    have HR := Lib.hid (Blk.set3 k1' (.int .i8 l) (.int .i8 k) (.slice (some ⟨gq, 0, none⟩) LN cq))
    have HB := Lib.hid (below_set3 (F5.below.setCell (p := ⟨w.heap.size, 2, none⟩) (Nat.le_refl _) (.slice (some ⟨gq, 0, none⟩) LN cq)) (show w.heap.size ≤ w.heap.size + 1 by omega) (.int .i8 l) (.int .i8 k) (.slice (some ⟨gq, 0, none⟩) LN cq))
    have HO := Lib.hid ((hO.set (b := w.heap.size) (by omega) 2 (.slice (some ⟨gq, 0, none⟩) LN cq)).set3 (b := w.heap.size + 1) (by omega) (.int .i8 l) (.int .i8 k) (.slice (some ⟨gq, 0, none⟩) LN cq))
    clear c0 c1 c2 c3
    obtain ⟨d0, d1, d2, d3⟩ := k1.three
    obtain ⟨c0, c1, c2, c3⟩ := k0.three
    clear F4 F5 k0 k1 k1' hb o1 o2 o3 o4 hO HC hLN
    go_wp2
    exact bodyPost_ret (v := .tuple #[.agg #[.int .i8 l, .int .i8 k, .slice (some ⟨gq, 0, none⟩) LN cq], .int .i64 0]) (res_dropWord HR.out _ _ rfl rfl) rfl ⟨_, rfl, .inr HO.out, HB.out⟩
theorem v5_mark : True := trivial
end Go.Proofs.Ytimdicpjpgdcbaa
