/-
  The walks of AddWord.
-/
import Derived.Test.YtogmkdelbiohaaaV2
namespace Go.Proofs.Ytogmkdelbiohaaa
open Go.RowKit
set_option maxRecDepth 100000
set_option linter.unusedVariables false

theorem res_addWord {W : World} {b : Nat} {v0 v1 v2 : Value} (K : Blk W b #[v0, v1, v2] 30) (c : Value) (tmps : Array Value) (h4 : tmps.getD 4 undef = .pointer (some ⟨b, 0, none⟩)) (h5 : tmps.getD 5 undef = c) : (results Try.f9 tmps).run Try.prog W = .ok (.tuple #[.agg #[v0, v1, v2], c]) W := by
  have h4' : tmps[4]?.getD undef = .pointer (some ⟨b, 0, none⟩) := by simpa using h4
  have h5' : tmps[5]?.getD undef = c := by simpa using h5
  obtain ⟨e0, e1, e2, -⟩ := K.three
  simp [results, Try.results9, go_sem, e0, e1, e2, h4', h5']
set_option maxHeartbeats 4000000 in
theorem addWord_any (l k : Int) (g c : Nat) (ws : List Wf) (x : Wf) (w : World) (hg : g < w.heap.size) (hr : WAt w g 0 ws) (hl : B8 l) (hk : B8 k) (hn : ws.length ≤ 1048576) (hw : Wall ws) (hx : W4 x) :
    Calls Try.prog 9 #[fixV l k (some ⟨g, 0, none⟩) ws.length c, wordV x] w fun e w' => ∃ v, e = .returned (.tuple #[.agg #[.int .i8 (awL l k ws x), .int .i8 (awK l k ws x), v], .int .i64 (awC l k ws x)]) ∧ OwnY w.heap.size w' v (awX l k ws x) ∧ Below w.heap.size w w' := by
  have F0 := (((FR.start w).box #[.int .i8 l, .int .i8 k, .slice (some ⟨g, 0, none⟩) ws.length c] 30).box (wordC x) 34).box #[.int .i8 0, .int .i8 0, .slice none 0 0] 30
  simp only [World.size_alloc] at F0
  have hs : Slw w.heap.size w (some ⟨g, 0, none⟩) ws := .inr ⟨g, 0, rfl, hg, hr⟩
  have hsu : ∀ W, Below w.heap.size w W → Slw W.heap.size W (some ⟨g, 0, none⟩) ws := fun W hb => .inr ⟨g, 0, rfl, Nat.lt_of_lt_of_le hg hb.size, hr.below hb hg⟩
  have hl64 := i64_8 hl
  have HV := Lib.hid (validFixed_any l k (some ⟨g, 0, none⟩) c ws _ (hsu _ F0.below) hl hk hn hw)
  have HD := Lib.hid (fun W => validWord_any l x W hl64 hx)
  obtain ⟨c0, c1, c2, -⟩ := (F0.blk _ (List.mem_cons_of_mem _ (List.mem_cons_of_mem _ List.mem_cons_self))).three
  cases h : okX l k ws
  · obtain ⟨e1, e2, e3, e4⟩ := aw_1 (x := x) h
    rw [h] at HV
    rw [e1, e2, e3, e4]
    clear e1 e2 e3 e4 h hs hr hw hsu HD
    generalize ws.length = n at *
    go_enter Try.func9, Try.ntmps9
    go_wp2_with fail
    refine HV.out.mono ?_
    rintro e w2 ⟨rfl, hb⟩
    have F1 := F0.next hb
    clear hb F0
    clear c0 c1 c2
    have k1 := F1.blk _ List.mem_cons_self
    have HR := Lib.hid (Blk.set3 k1 (.int .i8 0) (.int .i8 0) (.slice none 0 0))
    have HB := Lib.hid (below_set3 F1.below (show w.heap.size ≤ w.heap.size + 1 + 1 by omega) (.int .i8 0) (.int .i8 0) (.slice none 0 0))
    obtain ⟨d0, d1, d2, d3⟩ := k1.three
    clear F1 k1
    go_wp2
    exact bodyPost_ret (res_addWord HR.out _ _ rfl rfl) rfl ⟨_, rfl, .inl ⟨rfl, none, 0, rfl⟩, HB.out⟩
  rw [h] at HV
  have h8 : OkX l k ws := of_cb h
  have h80 := h8.2.2.1
  cases hi : okD l x
  · obtain ⟨e1, e2, e3, e4⟩ := aw_2 h hi
    rw [e1, e2, e3, e4]
    rw [hi] at HD
    clear e1 e2 e3 e4 h hs hr hw hi h8 hsu
    generalize ws.length = n at *
    go_enter Try.func9, Try.ntmps9
    go_wp2_with fail
    refine HV.out.mono ?_
    rintro e w2 ⟨rfl, hb⟩
    have F1 := F0.next hb
    clear hb F0
    clear c0 c1 c2
    obtain ⟨c0, c1, c2, -⟩ := (F1.blk _ (List.mem_cons_of_mem _ (List.mem_cons_of_mem _ List.mem_cons_self))).three
    obtain ⟨x0, x1, x2, x3, -⟩ := (F1.blk _ (List.mem_cons_of_mem _ List.mem_cons_self)).four
    go_wp2_with fail
    refine (HD.out _).mono ?_
    rintro e w3 ⟨rfl, hb⟩
    have F2 := F1.next hb
    clear hb F1 c0 c1 c2 x0 x1 x2 x3
    have k1 := F2.blk _ List.mem_cons_self
    have HR := Lib.hid (Blk.set3 k1 (.int .i8 0) (.int .i8 0) (.slice none 0 0))
    have HB := Lib.hid (below_set3 F2.below (show w.heap.size ≤ w.heap.size + 1 + 1 by omega) (.int .i8 0) (.int .i8 0) (.slice none 0 0))
    obtain ⟨d0, d1, d2, d3⟩ := k1.three
    clear F2 k1
    go_wp2
    exact bodyPost_ret (res_addWord HR.out _ _ rfl rfl) rfl ⟨_, rfl, .inl ⟨rfl, none, 0, rfl⟩, HB.out⟩
  rw [hi] at HD
  by_cases h3 : ws.length < 80
  case neg =>
    obtain ⟨e1, e2, e3, e4⟩ := aw_3 h hi h3
    rw [e1, e2, e3, e4]
    have h3' : (ws.length : Int) = 80 := by omega
    clear e1 e2 e3 e4 h hs hr hw hi h8 h3 hsu
    generalize ws.length = n at *
    go_enter Try.func9, Try.ntmps9
    go_wp2_with fail
    refine HV.out.mono ?_
    rintro e w2 ⟨rfl, hb⟩
    have F1 := F0.next hb
    clear hb F0
    clear c0 c1 c2
    obtain ⟨c0, c1, c2, -⟩ := (F1.blk _ (List.mem_cons_of_mem _ (List.mem_cons_of_mem _ List.mem_cons_self))).three
    obtain ⟨x0, x1, x2, x3, -⟩ := (F1.blk _ (List.mem_cons_of_mem _ List.mem_cons_self)).four
    go_wp2_with fail
    refine (HD.out _).mono ?_
    rintro e w3 ⟨rfl, hb⟩
    have F2 := F1.next hb
    clear hb F1 c0 c1 c2 x0 x1 x2 x3
    obtain ⟨c0, c1, c2, -⟩ := (F2.blk _ (List.mem_cons_of_mem _ (List.mem_cons_of_mem _ List.mem_cons_self))).three
    have k1 := F2.blk _ List.mem_cons_self
    have HR := Lib.hid (Blk.set3 k1 (.int .i8 0) (.int .i8 0) (.slice none 0 0))
    have HB := Lib.hid (below_set3 F2.below (show w.heap.size ≤ w.heap.size + 1 + 1 by omega) (.int .i8 0) (.int .i8 0) (.slice none 0 0))
    obtain ⟨d0, d1, d2, d3⟩ := k1.three
    clear F2 k1
    go_wp2
    exact bodyPost_ret (res_addWord HR.out _ _ rfl rfl) rfl ⟨_, rfl, .inl ⟨rfl, none, 0, rfl⟩, HB.out⟩
  obtain ⟨e1, e2, e3, e4⟩ := aw_0 h hi h3
  rw [e1, e2, e3, e4]
  have h3' : ¬ (ws.length : Int) = 80 := by omega
  have HR0 := Lib.hid (WAt.src hr hg)
  have HLN := Lib.hid (show (ws ++ [x]).length = ws.length + 1 by simp)
  have hn80 : ws.length ≤ 80 := by omega
  have hn1 : 1 ≤ ws.length := by omega
  clear e1 e2 e3 e4 h hs hr hw hi h8 h3 hg hsu
  go_enter Try.func9, Try.ntmps9
  go_wp2_with fail
  refine HV.out.mono ?_
  rintro e w2 ⟨rfl, hb⟩
  have F1 := F0.next hb
  clear hb F0
  clear c0 c1 c2
  obtain ⟨c0, c1, c2, -⟩ := (F1.blk _ (List.mem_cons_of_mem _ (List.mem_cons_of_mem _ List.mem_cons_self))).three
  obtain ⟨x0, x1, x2, x3, -⟩ := (F1.blk _ (List.mem_cons_of_mem _ List.mem_cons_self)).four
  go_wp2_with fail
  refine (HD.out _).mono ?_
  rintro e w3 ⟨rfl, hb⟩
  have F2 := F1.next hb
  clear hb F1 c0 c1 c2 x0 x1 x2 x3
  obtain ⟨c0, c1, c2, -⟩ := (F2.blk _ (List.mem_cons_of_mem _ (List.mem_cons_of_mem _ List.mem_cons_self))).three
  obtain ⟨x0, x1, x2, x3, -⟩ := (F2.blk _ (List.mem_cons_of_mem _ List.mem_cons_self)).four
  have F3 := F2.box (wordC x) 34
  have hz2 := (F2.blk _ List.mem_cons_self).lt
  have F4 := F3.box #[.slice (some ⟨g, 0, none⟩) ws.length c, .slice (some ⟨w3.heap.size, 0, none⟩) ([x] : List Wf).length 1] 28
  rw [World.size_alloc] at F4
  have HC := Lib.hid (concat_any (w3.heap.size + 1) g 0 w3.heap.size 0 c 1 2 ws [x] _ (by simp) (by omega) (by simp) (F4.blk _ List.mem_cons_self) (HR0.out.below F4.below) (one_of (F4.blk _ (List.mem_cons_of_mem _ List.mem_cons_self))))
  clear F2 F3
  go_wp2_with fail
  refine HC.out.mono ?_
  rintro e w4 ⟨v, rfl, ho, hb⟩
  have F5 := F4.next hb
  obtain ⟨gq, cq, rfl, o1, o2, o3, o4⟩ := ho
  have hO : OwnB w.heap.size w4 (.slice (some ⟨gq, 0, none⟩) (ws.length + 1) cq) (ws ++ [x]) := ⟨gq, cq, by rw [HLN.out], by rw [World.size_alloc, World.size_alloc] at o1; omega, o2, o3, o4⟩
  rw [HLN.out]
  have k0 := F5.blk _ (List.mem_cons_of_mem _ (List.mem_cons_of_mem _ (List.mem_cons_of_mem _ (List.mem_cons_of_mem _ List.mem_cons_self))))
  have k1 := F5.blk _ (List.mem_cons_of_mem _ (List.mem_cons_of_mem _ List.mem_cons_self))
  rw [World.size_alloc, World.size_alloc] at o1
  have k1' : Blk (w4.setCell ⟨w.heap.size, 2, none⟩ (.slice (some ⟨gq, 0, none⟩) (ws.length + 1) cq)) (w.heap.size + 1 + 1) #[.int .i8 0, .int .i8 0, .slice none 0 0] 30 := k1.setOther (by omega) 2 _
  have HR := Lib.hid (Blk.set3 k1' (.int .i8 l) (.int .i8 k) (.slice (some ⟨gq, 0, none⟩) (ws.length + 1) cq))
  have HB := Lib.hid (below_set3 (F5.below.setCell (p := ⟨w.heap.size, 2, none⟩) (Nat.le_refl _) (.slice (some ⟨gq, 0, none⟩) (ws.length + 1) cq)) (show w.heap.size ≤ w.heap.size + 1 + 1 by omega) (.int .i8 l) (.int .i8 k) (.slice (some ⟨gq, 0, none⟩) (ws.length + 1) cq))
  have HO := Lib.hid ((hO.set (b := w.heap.size) (by omega) 2 (.slice (some ⟨gq, 0, none⟩) (ws.length + 1) cq)).set3 (b := w.heap.size + 1 + 1) (by omega) (.int .i8 l) (.int .i8 k) (.slice (some ⟨gq, 0, none⟩) (ws.length + 1) cq))
  obtain ⟨d0, d1, d2, d3⟩ := k1.three
  obtain ⟨c0, c1, c2, c3⟩ := k0.three
  clear F4 F5 k0 k1 k1' hb hz2 o1 o2 o3 o4 hO
  go_wp2
  exact bodyPost_ret (v := .tuple #[.agg #[.int .i8 l, .int .i8 k, .slice (some ⟨gq, 0, none⟩) (ws.length + 1) cq], .int .i64 0]) (res_addWord HR.out _ _ rfl rfl) rfl ⟨_, rfl, .inr HO.out, HB.out⟩
theorem res_specAddWord {W : World} {b : Nat} {v0 v1 v2 : Value} (K : Blk W b #[v0, v1, v2] 30) (c : Value) (tmps : Array Value) (h4 : tmps.getD 4 undef = .pointer (some ⟨b, 0, none⟩)) (h5 : tmps.getD 5 undef = c) : (results Try.f6 tmps).run Try.prog W = .ok (.tuple #[.agg #[v0, v1, v2], c]) W := by
  have h4' : tmps[4]?.getD undef = .pointer (some ⟨b, 0, none⟩) := by simpa using h4
  have h5' : tmps[5]?.getD undef = c := by simpa using h5
  obtain ⟨e0, e1, e2, -⟩ := K.three
  simp [results, Try.results6, go_sem, e0, e1, e2, h4', h5']
set_option maxHeartbeats 4000000 in
theorem specAddWord_any (l k : Int) (g c : Nat) (ws : List Wf) (x : Wf) (w : World) (hg : g < w.heap.size) (hr : WAt w g 0 ws) (hl : B8 l) (hk : B8 k) (hn : ws.length ≤ 1048576) (hw : Wall ws) (hx : W4 x) :
    Calls Try.prog 6 #[fixV l k (some ⟨g, 0, none⟩) ws.length c, wordV x] w fun e w' => ∃ v, e = .returned (.tuple #[.agg #[.int .i8 (awL l k ws x), .int .i8 (awK l k ws x), v], .int .i64 (awC l k ws x)]) ∧ OwnY w.heap.size w' v (awX l k ws x) ∧ Below w.heap.size w w' := by
  have F0 := (((FR.start w).box #[.int .i8 l, .int .i8 k, .slice (some ⟨g, 0, none⟩) ws.length c] 30).box (wordC x) 34).box #[.int .i8 0, .int .i8 0, .slice none 0 0] 30
  simp only [World.size_alloc] at F0
  have hs : Slw w.heap.size w (some ⟨g, 0, none⟩) ws := .inr ⟨g, 0, rfl, hg, hr⟩
  have hsu : ∀ W, Below w.heap.size w W → Slw W.heap.size W (some ⟨g, 0, none⟩) ws := fun W hb => .inr ⟨g, 0, rfl, Nat.lt_of_lt_of_le hg hb.size, hr.below hb hg⟩
  have hl64 := i64_8 hl
  have HV := Lib.hid (l04Ok_any w.heap.size l k (some ⟨g, 0, none⟩) c ws _ (F0.blk _ (List.mem_cons_of_mem _ (List.mem_cons_of_mem _ List.mem_cons_self))) (hsu _ F0.below) hl hk hn hw)
  have HD := Lib.hid (fun W => l04Word_any l x W hl64 hx)
  cases h : okX l k ws
  · obtain ⟨e1, e2, e3, e4⟩ := aw_1 (x := x) h
    rw [h] at HV
    rw [e1, e2, e3, e4]
    clear e1 e2 e3 e4 h hs hr hw hsu HD
    generalize ws.length = n at *
    go_enter Try.func6, Try.ntmps6
    go_wp2_with fail
    refine HV.out.mono ?_
    rintro e w2 ⟨rfl, hb⟩
    have F1 := F0.next hb
    clear hb F0
    have k1 := F1.blk _ List.mem_cons_self
    have HR := Lib.hid (Blk.set3 k1 (.int .i8 0) (.int .i8 0) (.slice none 0 0))
    have HB := Lib.hid (below_set3 F1.below (show w.heap.size ≤ w.heap.size + 1 + 1 by omega) (.int .i8 0) (.int .i8 0) (.slice none 0 0))
    obtain ⟨d0, d1, d2, d3⟩ := k1.three
    clear F1 k1
    go_wp2
    exact bodyPost_ret (res_specAddWord HR.out _ _ rfl rfl) rfl ⟨_, rfl, .inl ⟨rfl, none, 0, rfl⟩, HB.out⟩
  rw [h] at HV
  have h8 : OkX l k ws := of_cb h
  have h80 := h8.2.2.1
  cases hi : okD l x
  · obtain ⟨e1, e2, e3, e4⟩ := aw_2 h hi
    rw [e1, e2, e3, e4]
    rw [hi] at HD
    clear e1 e2 e3 e4 h hs hr hw hi h8 hsu
    generalize ws.length = n at *
    go_enter Try.func6, Try.ntmps6
    go_wp2_with fail
    refine HV.out.mono ?_
    rintro e w2 ⟨rfl, hb⟩
    have F1 := F0.next hb
    clear hb F0
    obtain ⟨c0, c1, c2, -⟩ := (F1.blk _ (List.mem_cons_of_mem _ (List.mem_cons_of_mem _ List.mem_cons_self))).three
    obtain ⟨x0, x1, x2, x3, -⟩ := (F1.blk _ (List.mem_cons_of_mem _ List.mem_cons_self)).four
    go_wp2_with fail
    refine (HD.out _).mono ?_
    rintro e w3 ⟨rfl, hb⟩
    have F2 := F1.next hb
    clear hb F1 c0 c1 c2 x0 x1 x2 x3
    have k1 := F2.blk _ List.mem_cons_self
    have HR := Lib.hid (Blk.set3 k1 (.int .i8 0) (.int .i8 0) (.slice none 0 0))
    have HB := Lib.hid (below_set3 F2.below (show w.heap.size ≤ w.heap.size + 1 + 1 by omega) (.int .i8 0) (.int .i8 0) (.slice none 0 0))
    obtain ⟨d0, d1, d2, d3⟩ := k1.three
    clear F2 k1
    go_wp2
    exact bodyPost_ret (res_specAddWord HR.out _ _ rfl rfl) rfl ⟨_, rfl, .inl ⟨rfl, none, 0, rfl⟩, HB.out⟩
  rw [hi] at HD
  by_cases h3 : ws.length < 80
  case neg =>
    obtain ⟨e1, e2, e3, e4⟩ := aw_3 h hi h3
    rw [e1, e2, e3, e4]
    have h3' : (80 : Int) ≤ (ws.length : Int) := by omega
    clear e1 e2 e3 e4 h hs hr hw hi h8 h3 hsu
    generalize ws.length = n at *
    go_enter Try.func6, Try.ntmps6
    go_wp2_with fail
    refine HV.out.mono ?_
    rintro e w2 ⟨rfl, hb⟩
    have F1 := F0.next hb
    clear hb F0
    obtain ⟨c0, c1, c2, -⟩ := (F1.blk _ (List.mem_cons_of_mem _ (List.mem_cons_of_mem _ List.mem_cons_self))).three
    obtain ⟨x0, x1, x2, x3, -⟩ := (F1.blk _ (List.mem_cons_of_mem _ List.mem_cons_self)).four
    go_wp2_with fail
    refine (HD.out _).mono ?_
    rintro e w3 ⟨rfl, hb⟩
    have F2 := F1.next hb
    clear hb F1 c0 c1 c2 x0 x1 x2 x3
    obtain ⟨c0, c1, c2, -⟩ := (F2.blk _ (List.mem_cons_of_mem _ (List.mem_cons_of_mem _ List.mem_cons_self))).three
    have k1 := F2.blk _ List.mem_cons_self
    have HR := Lib.hid (Blk.set3 k1 (.int .i8 0) (.int .i8 0) (.slice none 0 0))
    have HB := Lib.hid (below_set3 F2.below (show w.heap.size ≤ w.heap.size + 1 + 1 by omega) (.int .i8 0) (.int .i8 0) (.slice none 0 0))
    obtain ⟨d0, d1, d2, d3⟩ := k1.three
    clear F2 k1
    go_wp2
    exact bodyPost_ret (res_specAddWord HR.out _ _ rfl rfl) rfl ⟨_, rfl, .inl ⟨rfl, none, 0, rfl⟩, HB.out⟩
  obtain ⟨e1, e2, e3, e4⟩ := aw_0 h hi h3
  rw [e1, e2, e3, e4]
  have h3' : ¬ (80 : Int) ≤ (ws.length : Int) := by omega
  have HR0 := Lib.hid (WAt.src hr hg)
  have HLN := Lib.hid (show (ws ++ [x]).length = ws.length + 1 by simp)
  have hn80 : ws.length ≤ 80 := by omega
  have hn1 : 1 ≤ ws.length := by omega
  clear e1 e2 e3 e4 h hs hr hw hi h8 h3 hg hsu
  go_enter Try.func6, Try.ntmps6
  go_wp2_with fail
  refine HV.out.mono ?_
  rintro e w2 ⟨rfl, hb⟩
  have F1 := F0.next hb
  clear hb F0
  obtain ⟨c0, c1, c2, -⟩ := (F1.blk _ (List.mem_cons_of_mem _ (List.mem_cons_of_mem _ List.mem_cons_self))).three
  obtain ⟨x0, x1, x2, x3, -⟩ := (F1.blk _ (List.mem_cons_of_mem _ List.mem_cons_self)).four
  go_wp2_with fail
  refine (HD.out _).mono ?_
  rintro e w3 ⟨rfl, hb⟩
  have F2 := F1.next hb
  clear hb F1 c0 c1 c2 x0 x1 x2 x3
  obtain ⟨c0, c1, c2, -⟩ := (F2.blk _ (List.mem_cons_of_mem _ (List.mem_cons_of_mem _ List.mem_cons_self))).three
  obtain ⟨x0, x1, x2, x3, -⟩ := (F2.blk _ (List.mem_cons_of_mem _ List.mem_cons_self)).four
  have HC := Lib.hid (l04Copy_any w.heap.size l k g c ws w3 (F2.blk _ (List.mem_cons_of_mem _ (List.mem_cons_of_mem _ List.mem_cons_self))) (HR0.out.below F2.below) hn1 hn80)
  go_wp2_with fail
  refine HC.out.mono ?_
  rintro e w4 ⟨gq, cq, rfl, hown, hb⟩
  have F3 := F2.next hb
  have hlt2 := (F2.blk _ List.mem_cons_self).lt
  have hz34 := hb.size
  clear F2 hb c0 c1 c2 x0 x1 x2 x3 HC
  have F4 := F3.box #[.int .i8 l, .int .i8 k, .slice (some ⟨gq, 0, none⟩) ws.length cq] 30
  have hown4 := hown.alloc (.cells #[.int .i8 l, .int .i8 k, .slice (some ⟨gq, 0, none⟩) ws.length cq] 30)
  have hgl := hown.lt gq rfl
  clear F3 hown
  obtain ⟨i0, hi, hz0, hz1, hz2⟩ := wd_parts
  have F5 := F4.box (wordC x) 34
  rw [World.size_alloc] at F5
  have hown5 := hown4.alloc (.cells (wordC x) 34)
  have HX := Lib.hid (one_of (F5.blk _ List.mem_cons_self))
  have HO5 := Lib.hid hown5
  have HLX := Lib.hid (show (wlist [x]).length = 1 * 4 from rfl)
  have hm3 := Lib.hid (show ws.length + 1 ≤ maxLen by unfold maxLen; omega)
  have hm4 := Lib.hid (show (ws.length + 1) * 4 ≤ 140737488355328 by omega)
  have HZ := Lib.hid (show w3.heap.size + 1 ≤ ((w4.alloc (.cells #[.int .i8 l, .int .i8 k, .slice (some ⟨gq, 0, none⟩) ws.length cq] 30)).alloc (.cells (wordC x) 34)).heap.size by rw [World.size_alloc, World.size_alloc]; omega)
  have F5' := Lib.hid F5
  obtain ⟨y0, y1, y2, -⟩ := (F4.blk _ List.mem_cons_self).three
  obtain ⟨x0, x1, x2, x3, -⟩ := (F4.blk _ (List.mem_cons_of_mem _ (List.mem_cons_of_mem _ List.mem_cons_self))).four
  clear hown4 hown5 F4 F5
  go_wp2_with (at_builtin; refine wpList_append_own _ rfl _ _ 28 rfl (w3.heap.size + 1) 34 i0 wz 4 4 Try.underlying28 hi hz0 hz1 hz2 rfl (by decide) _ _ _ rfl HO5.out ⟨w4.heap.size + 1, 0, none⟩ 1 1 (wlist [x]) rfl HLX.out HX.out.news (wlist_one [x]) hm3.out hm4.out HZ.out ?_)
  intro v2 w5 hown2 hgrow _
  clear y0 y1 y2 x0 x1 x2 x3
  have F5 := F5'.out
  obtain ⟨gq2, cq2, hv2⟩ := ownsRow_some (Nat.succ_pos _) hown2
  subst hv2
  have hb5 := F5.below.grown hgrow F5.size (fun j hj => by obtain rfl : gq = j := (by simpa [Value.ownBlock] using hj); have h1 := hgl.1; have h2 := hlt2; omega)
  have k6 : Blk w5 w4.heap.size #[.int .i8 l, .int .i8 k, .slice (some ⟨gq, 0, none⟩) ws.length cq] 30 := (hgrow.block w4.heap.size (F5.blk _ (List.mem_cons_of_mem _ List.mem_cons_self)).lt (by simp [Value.ownBlock]; omega)).trans (F5.blk _ (List.mem_cons_of_mem _ List.mem_cons_self))
  have kB : Blk w5 (w.heap.size + 1 + 1) #[.int .i8 0, .int .i8 0, .slice none 0 0] 30 := (hgrow.block (w.heap.size + 1 + 1) (F5.blk _ (List.mem_cons_of_mem _ (List.mem_cons_of_mem _ List.mem_cons_self))).lt (by simp [Value.ownBlock]; omega)).trans (F5.blk _ (List.mem_cons_of_mem _ (List.mem_cons_of_mem _ List.mem_cons_self)))
  have hne6 : gq2 ≠ w4.heap.size := owns_ne k6 hown2 (by decide)
  have hneB : gq2 ≠ w.heap.size + 1 + 1 := owns_ne kB hown2 (by decide)
  have hO0 := OwnB.ofOwns (xs := ws ++ [x]) HLN.out.symm (Nat.succ_pos _) (by rw [wlist_app]; exact hown2)
  have hO : OwnB w.heap.size w5 (.slice (some ⟨gq2, 0, none⟩) (ws.length + 1) cq2) (ws ++ [x]) := by
    obtain ⟨g', c', e', o1, o2⟩ := hO0
    exact ⟨g', c', e', by omega, o2⟩
  have k1' : Blk (w5.setCell ⟨w4.heap.size, 2, none⟩ (.slice (some ⟨gq2, 0, none⟩) (ws.length + 1) cq2)) (w.heap.size + 1 + 1) #[.int .i8 0, .int .i8 0, .slice none 0 0] 30 := kB.setOther (by omega) 2 _
  have HR := Lib.hid (Blk.set3 k1' (.int .i8 l) (.int .i8 k) (.slice (some ⟨gq2, 0, none⟩) (ws.length + 1) cq2))
  have HB := Lib.hid (below_set3 (hb5.setCell (p := ⟨w4.heap.size, 2, none⟩) (show w.heap.size ≤ w4.heap.size by omega) (.slice (some ⟨gq2, 0, none⟩) (ws.length + 1) cq2)) (show w.heap.size ≤ w.heap.size + 1 + 1 by omega) (.int .i8 l) (.int .i8 k) (.slice (some ⟨gq2, 0, none⟩) (ws.length + 1) cq2))
  have HO := Lib.hid ((hO.set (b := w4.heap.size) (Ne.symm hne6) 2 (.slice (some ⟨gq2, 0, none⟩) (ws.length + 1) cq2)).set3 (b := w.heap.size + 1 + 1) (Ne.symm hneB) (.int .i8 l) (.int .i8 k) (.slice (some ⟨gq2, 0, none⟩) (ws.length + 1) cq2))
  obtain ⟨d0, d1, d2, d3⟩ := kB.three
  obtain ⟨c0, c1, c2, c3⟩ := k6.three
  have hlB : w.heap.size + 1 + 1 ≠ w4.heap.size := by omega
  clear F5 F5' hown2 hgrow hb5 k6 kB hO hO0 k1' HO5 HX hne6 hneB HLX HZ
  go_wp2
  exact bodyPost_ret (v := .tuple #[.agg #[.int .i8 l, .int .i8 k, .slice (some ⟨gq2, 0, none⟩) (ws.length + 1) cq2], .int .i64 0]) (res_specAddWord HR.out _ _ rfl rfl) rfl ⟨_, rfl, .inr HO.out, HB.out⟩
theorem v3_mark : True := trivial
end Go.Proofs.Ytogmkdelbiohaaa
