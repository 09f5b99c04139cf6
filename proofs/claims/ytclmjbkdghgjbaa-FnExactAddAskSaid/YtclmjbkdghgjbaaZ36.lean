/-
  The contracts of AddAsk.
-/
import Derived.Test.YtclmjbkdghgjbaaZ35
namespace Go.Proofs.Ytclmjbkdghgjbaa
open Go.RowKit
set_option maxRecDepth 100000
set_option linter.unusedVariables false

def aaB (l k : Int) (ws : List Ak) (q : Ak) : Bool := okG l k ws && inSet l q.1 && decide (ws.length < 60)
def aaL (l k : Int) (ws : List Ak) (q : Ak) : Int := if aaB l k ws q = true then l else 0
def aaK (l k : Int) (ws : List Ak) (q : Ak) : Int := if aaB l k ws q = true then k else 0
def aaX (l k : Int) (ws : List Ak) (q : Ak) : List Ak := if aaB l k ws q = true then ws ++ [q] else []
def aaC (l k : Int) (ws : List Ak) (q : Ak) : Int := if okG l k ws = true then if inSet l q.1 = true then if ws.length < 60 then 0 else 3 else 2 else 1
theorem aa_off {l k : Int} {ws : List Ak} {q : Ak} (h : aaB l k ws q = false) : aaL l k ws q = 0 ∧ aaK l k ws q = 0 ∧ aaX l k ws q = [] := by
  unfold aaL aaK aaX; rw [h]; exact ⟨rfl, rfl, rfl⟩
theorem aa_1 {l k : Int} {ws : List Ak} {q : Ak} (h : okG l k ws = false) : aaL l k ws q = 0 ∧ aaK l k ws q = 0 ∧ aaX l k ws q = [] ∧ aaC l k ws q = 1 := by
  obtain ⟨a, b, c⟩ := aa_off (l := l) (k := k) (ws := ws) (q := q) (by unfold aaB; rw [h]; rfl)
  exact ⟨a, b, c, by unfold aaC; rw [h]; rfl⟩
theorem aa_2 {l k : Int} {ws : List Ak} {q : Ak} (h : okG l k ws = true) (h2 : inSet l q.1 = false) : aaL l k ws q = 0 ∧ aaK l k ws q = 0 ∧ aaX l k ws q = [] ∧ aaC l k ws q = 2 := by
  obtain ⟨a, b, c⟩ := aa_off (l := l) (k := k) (ws := ws) (q := q) (by unfold aaB; rw [h, h2]; rfl)
  exact ⟨a, b, c, by unfold aaC; rw [h, h2]; rfl⟩
theorem aa_3 {l k : Int} {ws : List Ak} {q : Ak} (h : okG l k ws = true) (h2 : inSet l q.1 = true) (h3 : ¬ ws.length < 60) : aaL l k ws q = 0 ∧ aaK l k ws q = 0 ∧ aaX l k ws q = [] ∧ aaC l k ws q = 3 := by
  obtain ⟨a, b, c⟩ := aa_off (l := l) (k := k) (ws := ws) (q := q) (by unfold aaB; rw [h, h2, decide_eq_false h3]; rfl)
  exact ⟨a, b, c, by unfold aaC; rw [h, h2, if_pos rfl, if_pos rfl, if_neg h3]⟩
theorem aa_0 {l k : Int} {ws : List Ak} {q : Ak} (h : okG l k ws = true) (h2 : inSet l q.1 = true) (h3 : ws.length < 60) : aaL l k ws q = l ∧ aaK l k ws q = k ∧ aaX l k ws q = ws ++ [q] ∧ aaC l k ws q = 0 := by
  have e : aaB l k ws q = true := by unfold aaB; rw [h, h2, decide_eq_true h3]; rfl
  unfold aaL aaK aaX aaC
  rw [e, h, h2, if_pos rfl, if_pos rfl, if_pos rfl, if_pos rfl, if_pos rfl, if_pos h3]
  exact ⟨rfl, rfl, rfl, rfl⟩
theorem aaX_len (l k : Int) (ws : List Ak) (q : Ak) : (aaX l k ws q).length ≤ ws.length + 1 := by
  unfold aaX; split <;> simp
/-- A slice that may be empty, or lies in a block that the call has made. -/
def OwnX (B : Nat) (w : World) (v : Value) (xs : List Ak) : Prop := (xs = [] ∧ ∃ a c, v = .slice a 0 c) ∨ OwnA B w v xs
theorem blk_other {w : World} {b b' : Nat} {cs : Array Value} {t : TypeId} (h : Blk w b cs t) (hne : b ≠ b') (i : Nat) (v : Value) : Blk (w.setCell ⟨b', i, none⟩ v) b cs t :=
  ((Only.refl b' w).setCell i v).block b hne |>.trans h
theorem aat_other {w : World} {b g : Nat} {xs : List Ak} (h : AAt w g 0 xs) (hne : g ≠ b) (i : Nat) (v : Value) : AAt (w.setCell ⟨b, i, none⟩ v) g 0 xs := fun j hj => by
  rw [World.cell?_setCell_other _ _ _ _ (by simp <;> omega), World.cell?_setCell_other _ _ _ _ (by simp <;> omega)]
  exact h j hj
theorem OwnX.nil (B : Nat) (w : World) (a : Option Addr) (c : Nat) : OwnX B w (.slice a 0 c) [] := .inl ⟨rfl, a, c, rfl⟩
theorem res_specAddAsk {W : World} {b : Nat} {v0 v1 v2 : Value} (K : Blk W b #[v0, v1, v2] 25) (c : Value) (tmps : Array Value) (h4 : tmps.getD 6 undef = .pointer (some ⟨b, 0, none⟩)) (h5 : tmps.getD 7 undef = c) : (results Try.f14 tmps).run Try.prog W = .ok (.tuple #[.agg #[v0, v1, v2], c]) W := by
  have h4' : tmps[6]?.getD undef = .pointer (some ⟨b, 0, none⟩) := by simpa using h4
  have h5' : tmps[7]?.getD undef = c := by simpa using h5
  obtain ⟨e0, e1, e2, -⟩ := K.three
  simp [results, Try.results14, go_sem, e0, e1, e2, h4', h5']
set_option maxHeartbeats 4000000 in
theorem specAddAsk_any (l k : Int) (g c : Nat) (ws : List Ak) (q : Ak) (w : World) (hg : g < w.heap.size) (hr : AAt w g 0 ws) (hl : B8 l) (hk : B8 k) (hn : ws.length ≤ 1048576) (hw : Aall ws) (hq : U64 q.1) :
    Calls Try.prog 14 #[gamV l k (some ⟨g, 0, none⟩) ws.length c, .int .u64 q.1, .bool q.2] w fun e w' => ∃ v, e = .returned (.tuple #[.agg #[.int .i8 (aaL l k ws q), .int .i8 (aaK l k ws q), v], .int .i64 (aaC l k ws q)]) ∧ OwnX w.heap.size w' v (aaX l k ws q) ∧ Below w.heap.size w w' := by
  have F0 := ((FR.start w).box #[.int .i8 l, .int .i8 k, .slice (some ⟨g, 0, none⟩) ws.length c] 25).box #[.int .i8 0, .int .i8 0, .slice none 0 0] 25
  simp only [World.size_alloc] at F0
  have hs : Sla w.heap.size w (some ⟨g, 0, none⟩) ws := .inr ⟨g, 0, rfl, hg, hr⟩
  have HV := Lib.hid (l06Ok_any w.heap.size l k (some ⟨g, 0, none⟩) c ws _ (F0.blk _ (List.mem_cons_of_mem _ List.mem_cons_self)) (hs.up F0.below (Nat.le_refl _)) hl hk hn hw)
  cases h : okG l k ws
  · obtain ⟨e1, e2, e3, e4⟩ := aa_1 (q := q) h
    rw [h] at HV
    rw [e1, e2, e3, e4]
    clear e1 e2 e3 e4 h hs hr hw
    generalize ws.length = n at *
    go_enter Try.func14, Try.ntmps14
    go_wp2_with fail
    refine HV.out.mono ?_
    rintro e w2 ⟨rfl, hb⟩
    have F1 := F0.next hb.below
    clear hb F0
    have k1 := F1.blk _ List.mem_cons_self
    have HR := Lib.hid (Blk.set3 k1 (.int .i8 0) (.int .i8 0) (.slice none 0 0))
    have HB := Lib.hid (below_set3 F1.below (show w.heap.size ≤ w.heap.size + 1 by omega) (.int .i8 0) (.int .i8 0) (.slice none 0 0))
    obtain ⟨d0, d1, d2, d3⟩ := k1.three
    clear F1 k1
    go_wp2
    exact bodyPost_ret (res_specAddAsk HR.out _ _ rfl rfl) rfl ⟨_, rfl, .inl ⟨rfl, none, 0, rfl⟩, HB.out⟩
  rw [h] at HV
  have h8 := okG_t h
  have h8l := h8.1
  have HF := Lib.hid (fun W => full_any l W h8.1)
  have hbm : (bits .andNot .u64 q.1 (fullZ l) == 0) = inSet l q.1 := model_set l q.1 hq h8.1
  cases hi : inSet l q.1
  · obtain ⟨e1, e2, e3, e4⟩ := aa_2 h hi
    rw [e1, e2, e3, e4]
    have hne : ¬ (bits .andNot .u64 q.1 (fullZ l) = 0) := by rw [hi] at hbm; simpa using hbm
    clear e1 e2 e3 e4 h hs hr hw hbm hi h8
    generalize ws.length = n at *
    generalize fullZ l = fz at *
    go_enter Try.func14, Try.ntmps14
    go_wp2_with fail
    refine HV.out.mono ?_
    rintro e w2 ⟨rfl, hb⟩
    have F1 := F0.next hb.below
    clear hb F0
    obtain ⟨c0, c1, c2, -⟩ := (F1.blk _ (List.mem_cons_of_mem _ List.mem_cons_self)).three
    go_wp2_with fail
    refine (HF.out _).mono ?_
    rintro e w3 ⟨rfl, rfl⟩
    clear c0 c1 c2
    have k1 := F1.blk _ List.mem_cons_self
    have HR := Lib.hid (Blk.set3 k1 (.int .i8 0) (.int .i8 0) (.slice none 0 0))
    have HB := Lib.hid (below_set3 F1.below (show w.heap.size ≤ w.heap.size + 1 by omega) (.int .i8 0) (.int .i8 0) (.slice none 0 0))
    obtain ⟨d0, d1, d2, d3⟩ := k1.three
    clear F1 k1
    go_wp2
    exact bodyPost_ret (res_specAddAsk HR.out _ _ rfl rfl) rfl ⟨_, rfl, .inl ⟨rfl, none, 0, rfl⟩, HB.out⟩
  have hze : bits .andNot .u64 q.1 (fullZ l) = 0 := by rw [hi] at hbm; simpa using hbm
  by_cases h3 : ws.length < 60
  case neg =>
    obtain ⟨e1, e2, e3, e4⟩ := aa_3 h hi h3
    rw [e1, e2, e3, e4]
    have h3' : (60 : Int) ≤ (ws.length : Int) := by omega
    clear e1 e2 e3 e4 h hs hr hw hbm hi h8 h3
    generalize ws.length = n at *
    generalize fullZ l = fz at *
    go_enter Try.func14, Try.ntmps14
    go_wp2_with fail
    refine HV.out.mono ?_
    rintro e w2 ⟨rfl, hb⟩
    have F1 := F0.next hb.below
    clear hb F0
    obtain ⟨c0, c1, c2, -⟩ := (F1.blk _ (List.mem_cons_of_mem _ List.mem_cons_self)).three
    go_wp2_with fail
    refine (HF.out _).mono ?_
    rintro e w3 ⟨rfl, rfl⟩
    have k1 := F1.blk _ List.mem_cons_self
    have HR := Lib.hid (Blk.set3 k1 (.int .i8 0) (.int .i8 0) (.slice none 0 0))
    have HB := Lib.hid (below_set3 F1.below (show w.heap.size ≤ w.heap.size + 1 by omega) (.int .i8 0) (.int .i8 0) (.slice none 0 0))
    obtain ⟨d0, d1, d2, d3⟩ := k1.three
    clear F1 k1
    go_wp2
    exact bodyPost_ret (res_specAddAsk HR.out _ _ rfl rfl) rfl ⟨_, rfl, .inl ⟨rfl, none, 0, rfl⟩, HB.out⟩
  obtain ⟨e1, e2, e3, e4⟩ := aa_0 h hi h3
  rw [e1, e2, e3, e4]
  have h3' : ¬ (60 : Int) ≤ (ws.length : Int) := by omega
  have HW := Lib.hid (fun W (hK : Blk W w.heap.size #[.int .i8 l, .int .i8 k, .slice (some ⟨g, 0, none⟩) ws.length c] 25) (hg : g < W.heap.size) (hr : AAt W g 0 ws) => l06With_any w.heap.size l k g c ws q W hK hg hr (by omega))
  have HR0 := Lib.hid hr
  have HG0 := Lib.hid hg
  have hlen : (ws ++ [q]).length = ws.length + 1 := by simp
  have HLN := Lib.hid hlen
  clear e1 e2 e3 e4 h hs hr hw hbm hi h8 h3 hlen hg
  generalize fullZ l = fz at *
  go_enter Try.func14, Try.ntmps14
  go_wp2_with fail
  refine HV.out.mono ?_
  rintro e w2 ⟨rfl, hb⟩
  have F1 := F0.next hb.below
  clear hb F0
  obtain ⟨c0, c1, c2, -⟩ := (F1.blk _ (List.mem_cons_of_mem _ List.mem_cons_self)).three
  go_wp2_with fail
  refine (HF.out _).mono ?_
  rintro e w3 ⟨rfl, rfl⟩
  go_wp2_with fail
  refine (HW.out _ (F1.blk _ (List.mem_cons_of_mem _ List.mem_cons_self)) (Nat.lt_of_lt_of_le HG0.out F1.below.size) (HR0.out.below F1.below HG0.out)).mono ?_
  rintro e w4 ⟨v, rfl, ho, hb⟩
  have F2 := F1.next hb
  have hz2 := (F1.blk _ List.mem_cons_self).lt
  obtain ⟨gq, cq, rfl, o1, o2, o3, o4⟩ := ho
  rw [HLN.out]
  have k1 := F2.blk _ List.mem_cons_self
  have HR := Lib.hid (Blk.set3 k1 (.int .i8 l) (.int .i8 k) (.slice (some ⟨gq, 0, none⟩) (ws.length + 1) cq))
  have HB := Lib.hid (below_set3 F2.below (show w.heap.size ≤ w.heap.size + 1 by omega) (.int .i8 l) (.int .i8 k) (.slice (some ⟨gq, 0, none⟩) (ws.length + 1) cq))
  have HO := Lib.hid (own_set3 (b := w.heap.size + 1) (B := w.heap.size) (cq := cq) (show w.heap.size + 1 < gq from Nat.lt_of_lt_of_le hz2 o1) o2 o3 o4 (.int .i8 l) (.int .i8 k) (.slice (some ⟨gq, 0, none⟩) (ws.length + 1) cq) (by omega))
  rw [HLN.out] at HO
  obtain ⟨d0, d1, d2, d3⟩ := k1.three
  clear F1 F2 k1 hb hz2 o1 o2 o3 o4 c0 c1 c2
  go_wp2
  exact bodyPost_ret (res_specAddAsk HR.out _ _ rfl rfl) rfl ⟨_, rfl, .inr HO.out, HB.out⟩
theorem res_addAsk {W : World} {b : Nat} {v0 v1 v2 : Value} (K : Blk W b #[v0, v1, v2] 25) (c : Value) (tmps : Array Value) (h4 : tmps.getD 6 undef = .pointer (some ⟨b, 0, none⟩)) (h5 : tmps.getD 7 undef = c) : (results Try.f16 tmps).run Try.prog W = .ok (.tuple #[.agg #[v0, v1, v2], c]) W := by
  have h4' : tmps[6]?.getD undef = .pointer (some ⟨b, 0, none⟩) := by simpa using h4
  have h5' : tmps[7]?.getD undef = c := by simpa using h5
  obtain ⟨e0, e1, e2, -⟩ := K.three
  simp [results, Try.results16, go_sem, e0, e1, e2, h4', h5']
set_option maxHeartbeats 4000000 in
theorem addAsk_any (l k : Int) (g c : Nat) (ws : List Ak) (q : Ak) (w : World) (hg : g < w.heap.size) (hr : AAt w g 0 ws) (hl : B8 l) (hk : B8 k) (hn : ws.length ≤ 1048576) (hw : Aall ws) (hq : U64 q.1) :
    Calls Try.prog 16 #[gamV l k (some ⟨g, 0, none⟩) ws.length c, .int .u64 q.1, .bool q.2] w fun e w' => ∃ v, e = .returned (.tuple #[.agg #[.int .i8 (aaL l k ws q), .int .i8 (aaK l k ws q), v], .int .i64 (aaC l k ws q)]) ∧ OwnX w.heap.size w' v (aaX l k ws q) ∧ Below w.heap.size w w' := by
  have F0 := ((FR.start w).box #[.int .i8 l, .int .i8 k, .slice (some ⟨g, 0, none⟩) ws.length c] 25).box #[.int .i8 0, .int .i8 0, .slice none 0 0] 25
  simp only [World.size_alloc] at F0
  have hs : Sla w.heap.size w (some ⟨g, 0, none⟩) ws := .inr ⟨g, 0, rfl, hg, hr⟩
  have HV := Lib.hid (validGame_any l k (some ⟨g, 0, none⟩) c ws _ (hs.up F0.below (Nat.le_refl _)) hl hk hn hw)
  obtain ⟨c0, c1, c2, -⟩ := (F0.blk _ (List.mem_cons_of_mem _ List.mem_cons_self)).three
  cases h : okG l k ws
  · obtain ⟨e1, e2, e3, e4⟩ := aa_1 (q := q) h
    rw [h] at HV
    rw [e1, e2, e3, e4]
    clear e1 e2 e3 e4 h hs hr hw
    generalize ws.length = n at *
    go_enter Try.func16, Try.ntmps16
    go_wp2_with fail
    refine HV.out.mono ?_
    rintro e w2 ⟨rfl, hb⟩
    have F1 := F0.next hb
    clear hb F0 c0 c1 c2
    have k1 := F1.blk _ List.mem_cons_self
    have HR := Lib.hid (Blk.set3 k1 (.int .i8 0) (.int .i8 0) (.slice none 0 0))
    have HB := Lib.hid (below_set3 F1.below (show w.heap.size ≤ w.heap.size + 1 by omega) (.int .i8 0) (.int .i8 0) (.slice none 0 0))
    obtain ⟨d0, d1, d2, d3⟩ := k1.three
    clear F1 k1
    go_wp2
    exact bodyPost_ret (res_addAsk HR.out _ _ rfl rfl) rfl ⟨_, rfl, .inl ⟨rfl, none, 0, rfl⟩, HB.out⟩
  rw [h] at HV
  have h8 := okG_t h
  have HH := Lib.hid (fun W => hasSet_any l k (some ⟨g, 0, none⟩) ws.length c q.1 W hq h8.1)
  cases hi : inSet l q.1
  · obtain ⟨e1, e2, e3, e4⟩ := aa_2 h hi
    rw [e1, e2, e3, e4]
    rw [hi] at HH
    clear e1 e2 e3 e4 h hs hr hw hi h8
    generalize ws.length = n at *
    go_enter Try.func16, Try.ntmps16
    go_wp2_with fail
    refine HV.out.mono ?_
    rintro e w2 ⟨rfl, hb⟩
    have F1 := F0.next hb
    clear hb F0 c0 c1 c2
    obtain ⟨c0, c1, c2, -⟩ := (F1.blk _ (List.mem_cons_of_mem _ List.mem_cons_self)).three
    go_wp2_with fail
    refine (HH.out _).mono ?_
    rintro e w3 ⟨rfl, hb⟩
    have F2 := F1.next hb
    clear hb F1 c0 c1 c2
    have k1 := F2.blk _ List.mem_cons_self
    have HR := Lib.hid (Blk.set3 k1 (.int .i8 0) (.int .i8 0) (.slice none 0 0))
    have HB := Lib.hid (below_set3 F2.below (show w.heap.size ≤ w.heap.size + 1 by omega) (.int .i8 0) (.int .i8 0) (.slice none 0 0))
    obtain ⟨d0, d1, d2, d3⟩ := k1.three
    clear F2 k1
    go_wp2
    exact bodyPost_ret (res_addAsk HR.out _ _ rfl rfl) rfl ⟨_, rfl, .inl ⟨rfl, none, 0, rfl⟩, HB.out⟩
  rw [hi] at HH
  by_cases h3 : ws.length < 60
  case neg =>
    obtain ⟨e1, e2, e3, e4⟩ := aa_3 h hi h3
    rw [e1, e2, e3, e4]
    have h3' : (ws.length : Int) = 60 := by have := h8.2.2.1; omega
    clear e1 e2 e3 e4 h hs hr hw hi h8 h3
    generalize ws.length = n at *
    go_enter Try.func16, Try.ntmps16
    go_wp2_with fail
    refine HV.out.mono ?_
    rintro e w2 ⟨rfl, hb⟩
    have F1 := F0.next hb
    clear hb F0 c0 c1 c2
    obtain ⟨c0, c1, c2, -⟩ := (F1.blk _ (List.mem_cons_of_mem _ List.mem_cons_self)).three
    go_wp2_with fail
    refine (HH.out _).mono ?_
    rintro e w3 ⟨rfl, hb⟩
    have F2 := F1.next hb
    clear hb F1 c0 c1 c2
    obtain ⟨c0, c1, c2, -⟩ := (F2.blk _ (List.mem_cons_of_mem _ List.mem_cons_self)).three
    have k1 := F2.blk _ List.mem_cons_self
    have HR := Lib.hid (Blk.set3 k1 (.int .i8 0) (.int .i8 0) (.slice none 0 0))
    have HB := Lib.hid (below_set3 F2.below (show w.heap.size ≤ w.heap.size + 1 by omega) (.int .i8 0) (.int .i8 0) (.slice none 0 0))
    obtain ⟨d0, d1, d2, d3⟩ := k1.three
    clear F2 k1
    go_wp2
    exact bodyPost_ret (res_addAsk HR.out _ _ rfl rfl) rfl ⟨_, rfl, .inl ⟨rfl, none, 0, rfl⟩, HB.out⟩
  obtain ⟨e1, e2, e3, e4⟩ := aa_0 h hi h3
  rw [e1, e2, e3, e4]
  have h3' : ¬ (ws.length : Int) = 60 := by omega
  have HR0 := Lib.hid hr
  have HG0 := Lib.hid hg
  have hlen : (ws ++ [q]).length = ws.length + 1 := by simp
  have HLN := Lib.hid hlen
  have hn60 : ws.length ≤ 1000000 := by omega
  clear e1 e2 e3 e4 h hs hr hw hi h8 h3 hlen hg
  go_enter Try.func16, Try.ntmps16
  go_wp2_with fail
  refine HV.out.mono ?_
  rintro e w2 ⟨rfl, hb⟩
  have F1 := F0.next hb
  clear hb F0 c0 c1 c2
  obtain ⟨c0, c1, c2, -⟩ := (F1.blk _ (List.mem_cons_of_mem _ List.mem_cons_self)).three
  go_wp2_with fail
  refine (HH.out _).mono ?_
  rintro e w3 ⟨rfl, hb⟩
  have F2 := F1.next hb
  clear hb F1 c0 c1 c2
  obtain ⟨c0, c1, c2, -⟩ := (F2.blk _ (List.mem_cons_of_mem _ List.mem_cons_self)).three
  have F3 := F2.box #[.int .u64 q.1, .bool q.2] 63
  have hz2 := (F2.blk _ List.mem_cons_self).lt
  have F4 := F3.box #[.slice (some ⟨g, 0, none⟩) ws.length c, .slice (some ⟨w3.heap.size, 0, none⟩) 1 1] 23
  rw [World.size_alloc] at F4
  have HC := Lib.hid (concat_any (w3.heap.size + 1) g w3.heap.size c 1 2 ws q 63 _ hn60 (F4.blk _ List.mem_cons_self) (Nat.lt_of_lt_of_le HG0.out F4.below.size) (HR0.out.below F4.below HG0.out) (F4.blk _ (List.mem_cons_of_mem _ List.mem_cons_self)))
  clear F2 F3
  go_wp2_with fail
  refine HC.out.mono ?_
  rintro e w4 ⟨v, rfl, ho, hb⟩
  have F5 := F4.next hb
  obtain ⟨gq, cq, rfl, o1, o2, o3, o4⟩ := ho
  rw [HLN.out]
  have hz4 := (F4.blk _ List.mem_cons_self).lt
  have k0 := F5.blk _ (List.mem_cons_of_mem _ (List.mem_cons_of_mem _ (List.mem_cons_of_mem _ List.mem_cons_self)))
  have k1 := F5.blk _ (List.mem_cons_of_mem _ (List.mem_cons_of_mem _ List.mem_cons_self))
  rw [World.size_alloc, World.size_alloc] at o1
  have hlt : w.heap.size + 1 < gq := by omega
  have k1' : Blk (w4.setCell ⟨w.heap.size, 2, none⟩ (.slice (some ⟨gq, 0, none⟩) (ws.length + 1) cq)) (w.heap.size + 1) #[.int .i8 0, .int .i8 0, .slice none 0 0] 25 := blk_other k1 (by omega) 2 _
  have HR := Lib.hid (Blk.set3 k1' (.int .i8 l) (.int .i8 k) (.slice (some ⟨gq, 0, none⟩) (ws.length + 1) cq))
  have HB := Lib.hid (below_set3 (F5.below.setCell (p := ⟨w.heap.size, 2, none⟩) (Nat.le_refl _) (.slice (some ⟨gq, 0, none⟩) (ws.length + 1) cq)) (show w.heap.size ≤ w.heap.size + 1 by omega) (.int .i8 l) (.int .i8 k) (.slice (some ⟨gq, 0, none⟩) (ws.length + 1) cq))
  have HO := Lib.hid (own_set3 (b := w.heap.size + 1) (B := w.heap.size) (cq := cq) hlt (by rw [World.size_setCell]; exact o2) (aat_other (b := w.heap.size) o3 (by omega) 2 (.slice (some ⟨gq, 0, none⟩) (ws.length + 1) cq)) (fun j => by rw [World.frozen?_setCell]; exact o4 j) (.int .i8 l) (.int .i8 k) (.slice (some ⟨gq, 0, none⟩) (ws.length + 1) cq) (by omega))
  rw [HLN.out] at HO
  obtain ⟨d0, d1, d2, d3⟩ := k1.three
  obtain ⟨c0, c1, c2, c3⟩ := k0.three
  clear F4 F5 k0 k1 k1' hb hz2 hz4 o1 o2 o3 o4 hlt
  go_wp2
  exact bodyPost_ret (v := .tuple #[.agg #[.int .i8 l, .int .i8 k, .slice (some ⟨gq, 0, none⟩) (ws.length + 1) cq], .int .i64 0]) (res_addAsk HR.out _ _ rfl rfl) rfl ⟨_, rfl, .inr HO.out, HB.out⟩
theorem z36_mark : True := trivial
end Go.Proofs.Ytclmjbkdghgjbaa
