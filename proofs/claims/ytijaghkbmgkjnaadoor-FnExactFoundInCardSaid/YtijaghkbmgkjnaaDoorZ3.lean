/-
  The laws' helpers on games: copied, sized, compared.
-/
import Derived.Test.YtijaghkbmgkjnaaDoorZ2
import Derived.StillTailTactics
import Derived.Deep.DeepCutAuto
namespace Go.Proofs.YtijaghkbmgkjnaaDoor
open Go.RowKit
set_option maxRecDepth 100000
set_option linter.unusedVariables false

theorem szAskS_any (a : Option Addr) (n c : Nat) (l : Int) (w : World) (hl : 0 ≤ l ∧ l ≤ 1048576) (hn : n ≤ 9223372036854775807) :
    Calls Tryd.prog 9 #[.slice a n c, .int .i64 l] w fun e w' => e = .returned (.int .i64 (if l < n then -1 else l - (n : Int))) ∧ w = w' := by
  by_cases h : l < n
  · rw [if_pos h]
    go_enter Tryd.func9, Tryd.ntmps9
    go_wp2
    go_ret
    exact ⟨rfl, rfl⟩
  · rw [if_neg h]
    go_enter Tryd.func9, Tryd.ntmps9
    go_wp2
    go_ret
    exact ⟨rfl, rfl⟩
theorem szGame_any (l k : Int) (a : Option Addr) (n c : Nat) (m : Int) (w : World) (hl : 0 ≤ m ∧ m ≤ 1048576) (hn : n ≤ 9223372036854775807) :
    Calls Tryd.prog 4 #[gamV l k a n c, .int .i64 m] w fun e w' => e = .returned (.int .i64 (if m < n then -1 else m - (n : Int))) ∧ Below w.heap.size w w' := by
  have HB := Lib.hid ((Below.refl w.heap.size w).alloc (Nat.le_refl _) (.cells #[.int .i8 l, .int .i8 k, .slice a n c] 25))
  have HS := Lib.hid (fun W => szAskS_any a n c m W hl hn)
  by_cases h : m < n
  · rw [if_pos h] at HS ⊢
    go_enter Tryd.func4, Tryd.ntmps4
    go_wp2_with fail
    refine (HS.out _).mono ?_
    rintro e w2 ⟨rfl, rfl⟩
    go_wp2
    go_ret
    exact ⟨rfl, HB.out⟩
  · rw [if_neg h] at HS ⊢
    have hq : 0 ≤ m - (n : Int) := by omega
    generalize m - (n : Int) = q at *
    clear h
    go_enter Tryd.func4, Tryd.ntmps4
    go_wp2_with fail
    refine (HS.out _).mono ?_
    rintro e w2 ⟨rfl, rfl⟩
    go_wp2
    go_ret
    exact ⟨rfl, HB.out⟩
theorem toAsk_any (x : Int) (y : Bool) (w : World) :
    Calls Tryd.prog 21 #[.agg #[.int .u64 x, .bool y]] w fun e w' => e = .returned (.agg #[.int .u64 x, .bool y]) ∧ Below w.heap.size w w' := by
  go_enter Tryd.func21, Tryd.ntmps21
  go_wp2
  exact bodyPost_ret (v := .agg #[.int .u64 x, .bool y]) (by simp [results, Tryd.results21, go_sem]) rfl ⟨rfl, (((Below.refl _ _).alloc (Nat.le_refl _) _).alloc (by simp) _).alloc (by simp; omega) _⟩
theorem Tryd.info_ask : (Tryd.prog.info? 51).map (fun i => (i.zero, i.size, i.bytes)) = some (some (.agg #[.int .u64 0, .bool false]), 2, 16) := by kernel_rfl
theorem run_make_ask (n : Nat) (hn : n ≤ 1048576) (w : World) : (Instr.makeSlice 29 (.int .i64 n) (.int .i64 n)).run Tryd.prog w = .ok (.slice (some ⟨w.heap.size, 0, none⟩) n n) (w.alloc (.cells (madeCells #[.int .u64 0, .bool false] (n * 2)) 51)) := by
  obtain ⟨i, hi, hzz⟩ := Option.map_eq_some_iff.1 Tryd.info_ask
  simp only [Prod.mk.injEq] at hzz
  obtain ⟨hz, hs, hb⟩ := hzz
  have hr := run_make (P := Tryd.prog) w 29 51 i _ Tryd.underlying29 hi hz .i64 .i64 (n : Int) (n : Int) (by omega) (Int.le_refl _) (by rw [hb]; omega) (by omega)
  rw [hs] at hr
  simp only [Int.toNat_natCast] at hr
  exact hr
/-- The first k questions are laid, the others not yet. -/
def aPart (qs : List Ak) (k i : Nat) : Value := if i < k * 2 then acell qs i else if i % 2 = 0 then .int .u64 0 else .bool false
theorem made_rowa (w : World) (qs : List Ak) (t : TypeId) : (w.alloc (.cells (madeCells #[.int .u64 0, .bool false] (qs.length * 2)) t)).rowIs w.heap.size t (qs.length * 2) (aPart qs 0) := by
  have h := World.rowIs_alloc w (madeCells #[.int .u64 0, .bool false] (qs.length * 2)) t (aPart qs 0) (fun i hi => by
    rw [size_madeCells] at hi
    simp only [madeCells, Array.getElem?_map, Array.getElem?_range, hi, if_true, Option.map_some, aPart]
    have : i % 2 = 0 ∨ i % 2 = 1 := by omega
    rcases this with e | e <;> simp [e])
  rwa [size_madeCells] at h
theorem toAskS_some (b off c : Nat) (qs : List Ak) (w : World) (hn : qs.length ≤ 1048576) (hb : b < w.heap.size) (hc : AAt w b off qs) :
    Calls Tryd.prog 12 #[.slice (some ⟨b, off, none⟩) qs.length c] w fun e w' => ∃ g, e = .returned (.slice (some ⟨g, 0, none⟩) qs.length qs.length) ∧ w.heap.size ≤ g ∧ Blk w' g (acells qs) 51 ∧ Below w.heap.size w w' := by
  have hmk := run_make_ask qs.length hn
  go_enter Tryd.func12, Tryd.ntmps12
  go_wp2
  clear hmk
  have hr0 := made_rowa w qs 51
  have hB0 := (Below.refl w.heap.size w).alloc (Nat.le_refl _) (.cells (madeCells #[.int .u64 0, .bool false] (qs.length * 2)) 51)
  generalize (w.alloc (.cells (madeCells #[.int .u64 0, .bool false] (qs.length * 2)) 51)) = w1 at *
  go_loopw [4] (fun i wr => ∃ k : Nat, k ≤ qs.length ∧ i = .int .i64 k ∧ wr.rowIs w.heap.size 51 (qs.length * 2) (aPart qs k) ∧ Below w.heap.size w wr) (fun i _ => qs.length - (intOf i).toNat)
  case atStart => exact ⟨0, Nat.zero_le _, rfl, hr0, hB0⟩
  case round =>
    obtain ⟨k, hk, rfl, hr, hB⟩ := hrel
    by_cases hlt : k < qs.length
    · obtain ⟨c0, c1⟩ := (hc.below hB hb) k hlt
      have HR := Lib.hid hr
      have HB := Lib.hid hB
      have hlt3 := hr.lt
      have hkl : (k : Int) < (qs.length : Int) := by omega
      clear hr hB hc
      go_wp2_with fail
      refine (toAsk_any _ _ _).mono ?_
      rintro e w2 ⟨rfl, hb2⟩
      have hr2 : w2.rowIs w.heap.size 51 (qs.length * 2) (aPart qs k) := by
        obtain ⟨cs, h1, h2, h3⟩ := HR.out
        exact ⟨cs, (hb2.block _ hlt3).trans h1, h2, h3⟩
      have HB2 := Lib.hid (HB.out.trans (hb2.mono HB.out.size))
      have p0 : w2.cell? ⟨w.heap.size, k * 2, none⟩ = some (.int .u64 0) := by rw [hr2.cell (by omega), aPart, if_neg (by omega), if_pos (by omega)]
      have p1 : w2.cell? ⟨w.heap.size, k * 2 + 1, none⟩ = some (.bool false) := by rw [hr2.cell (by omega), aPart, if_neg (by omega), if_neg (by omega)]
      have pf : ∀ j, w2.frozen? ⟨w.heap.size, j, none⟩ = false := fun j => hr2.frozen j
      have HR3 := Lib.hid (((hr2.set (k * 2) (.int .u64 (akI qs k).1)).set (k * 2 + 1) (.bool (akI qs k).2)).congr (g := aPart qs (k + 1)) (fun i hi => by
        unfold aPart
        by_cases e1 : i = k * 2 + 1
        · subst e1; rw [if_pos rfl, if_pos (by omega), acell_1]
        by_cases e0 : i = k * 2
        · subst e0; rw [if_neg (by omega), if_pos rfl, if_pos (by omega), acell_0]
        rw [if_neg e1, if_neg e0]
        by_cases h : i < k * 2
        · rw [if_pos h, if_pos (show i < (k + 1) * 2 by omega)]
        · rw [if_neg h, if_neg (show ¬ i < (k + 1) * 2 by omega)]))
      clear hr2 hb2 HR HB c0 c1
      generalize (akI qs k).1 = v0 at *
      generalize (akI qs k).2 = v1 at *
      go_wp2
      go_roundw
      case rel => exact ⟨k + 1, by omega, by go_num, HR3.out, (HB2.out.setCell (Nat.le_refl _) _).setCell (Nat.le_refl _) _⟩
      case measure => simp [intOf]; omega
    · have hkk : k = qs.length := by omega
      have HR := Lib.hid (blk_of_rowa (hr.congr (g := acell qs) (fun i hi => by unfold aPart; rw [if_pos (by omega)])))
      clear hkk hr
      go_wp2
      go_ret
      exact ⟨w.heap.size, rfl, Nat.le_refl _, HR.out, hB⟩
theorem toAskS_nil (a : Option Addr) (c : Nat) (w : World) :
    Calls Tryd.prog 12 #[.slice a 0 c] w fun e w' => ∃ g, e = .returned (.slice (some ⟨g, 0, none⟩) 0 0) ∧ w.heap.size ≤ g ∧ Blk w' g (acells []) 51 ∧ Below w.heap.size w w' := by
  have hmk : ∀ w, (Instr.makeSlice 29 (.int .i64 0) (.int .i64 0)).run Tryd.prog w = .ok (.slice (some ⟨w.heap.size, 0, none⟩) 0 0) (w.alloc (.cells (madeCells #[.int .u64 0, .bool false] (0 * 2)) 51)) := fun w => run_make_ask 0 (by omega) w
  have hB0 := (Below.refl w.heap.size w).alloc (Nat.le_refl _) (.cells (madeCells #[.int .u64 0, .bool false] (0 * 2)) 51)
  have hr0 := blk_of_rowa (qs := []) ((made_rowa w [] 51).congr (g := acell []) (fun i h => absurd h (by simp)))
  go_enter Tryd.func12, Tryd.ntmps12
  go_wp2
  clear hmk
  refine wp_loop_rounds 1 ?_
  rw [rounds_succ]
  go_wp2
  go_ret
  exact ⟨w.heap.size, rfl, Nat.le_refl _, hr0, hB0⟩
theorem toAskS_any (B : Nat) (a : Option Addr) (c : Nat) (qs : List Ak) (w : World) (hn : qs.length ≤ 1048576) (hB : B ≤ w.heap.size) (h : Sla B w a qs) :
    Calls Tryd.prog 12 #[.slice a qs.length c] w fun e w' => ∃ g, e = .returned (.slice (some ⟨g, 0, none⟩) qs.length qs.length) ∧ w.heap.size ≤ g ∧ Blk w' g (acells qs) 51 ∧ Below w.heap.size w w' := by
  rcases h with rfl | ⟨b, off, rfl, hb, hc⟩
  · exact toAskS_nil a c w
  · exact toAskS_some b off c qs w hn (by omega) hc
theorem res_toGame {W : World} {b : Nat} {v0 v1 v2 : Value} (K : Blk W b #[v0, v1, v2] 31) (tmps : Array Value) (h2 : tmps.getD 2 undef = .pointer (some ⟨b, 0, none⟩)) : (results Tryd.f6 tmps).run Tryd.prog W = .ok (.agg #[v0, v1, v2]) W := by
  have h2' : tmps[2]?.getD undef = .pointer (some ⟨b, 0, none⟩) := by simpa using h2
  have e0 := K.cell 0
  have e1 := K.cell 1
  have e2 := K.cell 2
  simp at e0 e1 e2
  simp [results, Tryd.results6, go_sem, e0, e1, e2, h2']
set_option maxHeartbeats 1000000 in
theorem toGame_any (B : Nat) (l k : Int) (a : Option Addr) (c : Nat) (ws : List Ak) (w : World) (hn : ws.length ≤ 1048576) (hB : B ≤ w.heap.size) (h : Sla B w a ws) :
    Calls Tryd.prog 6 #[gamV l k a ws.length c] w fun e w' => ∃ g, e = .returned (gamV l k (some ⟨g, 0, none⟩) ws.length ws.length) ∧ w.heap.size ≤ g ∧ Blk w' g (acells ws) 51 ∧ Below w.heap.size w w' := by
  have F0 := (((FR.start w).box #[.int .i8 l, .int .i8 k, .slice a ws.length c] 25).box #[.int .i8 0, .int .i8 0, .slice none 0 0] 31).box #[.int .i8 l, .int .i8 k, .slice none 0 0] 31
  simp only [World.size_alloc] at F0
  have HT := Lib.hid (fun W (hw : Below w.heap.size w W) => toAskS_any B a c ws W hn (by have := hw.size; omega) (Sla.below h (hw.mono hB)))
  clear h
  go_enter Tryd.func6, Tryd.ntmps6
  go_wp2_with fail
  refine (HT.out _ F0.below).mono ?_
  rintro e w2 ⟨g, rfl, hg, hk, hb⟩
  have F1 := F0.next hb
  have hlt := hk.lt
  have HK := Lib.hid hk
  have hsz := F0.size
  have hgs : w.heap.size ≤ g := Nat.le_trans hsz hg
  have hb0 := (F0.blk _ List.mem_cons_self).lt
  simp only [World.size_alloc] at hg hb0 hlt
  have k0 := F1.blk _ List.mem_cons_self
  have k1 := F1.blk _ (List.mem_cons_of_mem _ List.mem_cons_self)
  dsimp only at k0 k1
  have hg0 : g ≠ w.heap.size + 1 + 1 := by omega
  have hg1 : g ≠ w.heap.size + 1 := by omega
  have HG := Lib.hid ((((hk.setOther hg0 2 (.slice (some ⟨g, 0, none⟩) ws.length ws.length)).setOther hg1 0 (.int .i8 l)).setOther hg1 1 (.int .i8 k)).setOther hg1 2 (.slice (some ⟨g, 0, none⟩) ws.length ws.length))
  have HR := Lib.hid ((((k1.setOther (show w.heap.size + 1 ≠ w.heap.size + 1 + 1 by omega) 2 (.slice (some ⟨g, 0, none⟩) ws.length ws.length)).set 0 (.int .i8 l)).set 1 (.int .i8 k)).set 2 (.slice (some ⟨g, 0, none⟩) ws.length ws.length))
  have HW := Lib.hid ((((F1.below.setCell (show w.heap.size ≤ (⟨w.heap.size + 1 + 1, 2, none⟩ : Addr).block by simp; omega) (.slice (some ⟨g, 0, none⟩) ws.length ws.length)).setCell (show w.heap.size ≤ (⟨w.heap.size + 1, 0, none⟩ : Addr).block by simp) (.int .i8 l)).setCell (show w.heap.size ≤ (⟨w.heap.size + 1, 1, none⟩ : Addr).block by simp) (.int .i8 k)).setCell (show w.heap.size ≤ (⟨w.heap.size + 1, 2, none⟩ : Addr).block by simp) (.slice (some ⟨g, 0, none⟩) ws.length ws.length))
  obtain ⟨d0, d1, d2, d3⟩ := k0.three
  obtain ⟨e0, e1, e2, e3⟩ := k1.three
  clear F0 F1 hb hk HT k0 k1 hg0 hg1 HK hlt hb0 hsz
  go_wp2
  exact bodyPost_ret (res_toGame HR.out _ rfl) rfl ⟨g, rfl, hgs, HG.out, HW.out⟩
theorem toGame_fr {w0 W : World} {L : List (Nat × Array Value × TypeId)} (h : FR w0 L W) (l k : Int) (a : Option Addr) (c : Nat) (ws : List Ak) (hn : ws.length ≤ 1048576) (hs : Sla w0.heap.size w0 a ws) :
    Calls Tryd.prog 6 #[gamV l k a ws.length c] W fun e w' => ∃ g, e = .returned (gamV l k (some ⟨g, 0, none⟩) ws.length ws.length) ∧ FR w0 ((g, acells ws, 51) :: L) w' := by
  refine (toGame_any w0.heap.size l k a c ws W hn h.size (hs.below h.below)).mono ?_
  rintro e w' ⟨g, rfl, hg, hk, hb⟩
  exact ⟨g, rfl, h.add hb hg hk⟩
theorem szGame_fr {w0 W : World} {L : List (Nat × Array Value × TypeId)} (h : FR w0 L W) (l k : Int) (a : Option Addr) (n c : Nat) (m : Int) (hl : 0 ≤ m ∧ m ≤ 1048576) (hn : n ≤ 9223372036854775807) :
    Calls Tryd.prog 4 #[gamV l k a n c, .int .i64 m] W fun e w' => e = .returned (.int .i64 (if m < n then -1 else m - (n : Int))) ∧ FR w0 L w' := Calls.fr h (szGame_any l k a n c m W hl hn)
theorem eqAsk_same (x : Int) (y : Bool) (w : World) :
    Calls Tryd.prog 29 #[.agg #[.int .u64 x, .bool y], .agg #[.int .u64 x, .bool y]] w fun e w' => e = .returned (.bool true) ∧ Below w.heap.size w w' := by
  have HB := Lib.hid (((FR.start w).box #[.int .u64 x, .bool y] 51).box #[.int .u64 x, .bool y] 51).below
  go_enter Tryd.func29, Tryd.ntmps29
  go_wp2
  go_ret
  exact ⟨rfl, HB.out⟩
theorem eqAskS_same (b off c b2 off2 c2 : Nat) (cs : List Ak) (w : World) (hn : cs.length ≤ 1048576) (hb : b < w.heap.size) (hb2 : b2 < w.heap.size) (hc : AAt w b off cs) (hc2 : AAt w b2 off2 cs) :
    Calls Tryd.prog 17 #[.slice (some ⟨b, off, none⟩) cs.length c, .slice (some ⟨b2, off2, none⟩) cs.length c2] w fun e w' => e = .returned (.bool true) ∧ Below w.heap.size w w' := by
  go_enter Tryd.func17, Tryd.ntmps17
  go_wp2
  go_loopw [5] (fun i wr => ∃ k : Nat, k ≤ cs.length ∧ i = .int .i64 k ∧ Below w.heap.size w wr) (fun i _ => cs.length - (intOf i).toNat)
  case atStart => exact ⟨0, Nat.zero_le _, rfl, Below.refl _ _⟩
  case round =>
    obtain ⟨k, hk, rfl, hB⟩ := hrel
    by_cases hlt : k < cs.length
    · obtain ⟨p0, p1⟩ := (hc.below hB hb) k hlt
      obtain ⟨q0, q1⟩ := (hc2.below hB hb2) k hlt
      have hkl : (k : Int) < (cs.length : Int) := by omega
      have HB := Lib.hid hB
      clear hB
      generalize akI cs k = y at *
      go_upto_region 6 with fail
      refine wp_region_still_tail 8 (by kernel_rfl) (by kernel_rfl) ?_
      simp only [List.take_succ_cons, List.take_zero, List.drop_succ_cons, List.drop_zero]
      iterate 8 still_step
      refine wpStill_nil ?_
      have HB2 := Lib.hid (show Below w.heap.size w wr.drew from HB.out.drew)
      change wpList _ _ _ _ _ wr.drew
      clear p0 p1 q0 q1 HB
      generalize wr.drew = w2 at *
      go_wp2_with fail
      refine (eqAsk_same _ _ _).mono ?_
      rintro e w3 ⟨rfl, hb3⟩
      have HB3 := Lib.hid (HB2.out.trans (hb3.mono HB2.out.size))
      clear hb3
      go_wp2
      go_roundw
      case rel => exact ⟨k + 1, by omega, by go_num, HB3.out⟩
      case measure => simp [intOf]; omega
    · go_wp2
      go_ret
      exact ⟨rfl, hB⟩
theorem eqAskS_nil (a b : Option Addr) (c c2 : Nat) (w : World) :
    Calls Tryd.prog 17 #[.slice a 0 c, .slice b 0 c2] w fun e w' => e = .returned (.bool true) ∧ w = w' := by
  go_enter Tryd.func17, Tryd.ntmps17
  go_wp2
  refine wp_loop_rounds 1 ?_
  rw [rounds_succ]
  go_wp2
  go_ret
  exact ⟨rfl, rfl⟩
/-- Two slices with the same questions. -/
def TwinA (w : World) (a a2 : Option Addr) (ws : List Ak) : Prop := ws = [] ∨ ∃ b off b2 off2, a = some ⟨b, off, none⟩ ∧ a2 = some ⟨b2, off2, none⟩ ∧ b < w.heap.size ∧ b2 < w.heap.size ∧ AAt w b off ws ∧ AAt w b2 off2 ws
theorem TwinA.below {w w' : World} {a a2 : Option Addr} {ws : List Ak} (h : TwinA w a a2 ws) (hb : Below w.heap.size w w') : TwinA w' a a2 ws := by
  rcases h with h | ⟨b, off, b2, off2, rfl, rfl, h1, h2, h3, h4⟩
  · exact .inl h
  · have := hb.size
    exact .inr ⟨b, off, b2, off2, rfl, rfl, by omega, by omega, h3.below hb h1, h4.below hb h2⟩
theorem eqAskS_any (a a2 : Option Addr) (c c2 : Nat) (ws : List Ak) (w : World) (hn : ws.length ≤ 1048576) (h : TwinA w a a2 ws) :
    Calls Tryd.prog 17 #[.slice a ws.length c, .slice a2 ws.length c2] w fun e w' => e = .returned (.bool true) ∧ Below w.heap.size w w' := by
  rcases h with rfl | ⟨b, off, b2, off2, rfl, rfl, h1, h2, h3, h4⟩
  · exact Calls.same_below (eqAskS_nil a a2 c c2 w)
  · exact eqAskS_same b off c b2 off2 c2 ws w hn h1 h2 h3 h4
theorem eqGame_any (l k : Int) (a a2 : Option Addr) (c c2 : Nat) (ws : List Ak) (w : World) (hn : ws.length ≤ 1048576) (h : TwinA w a a2 ws) :
    Calls Tryd.prog 8 #[gamV l k a ws.length c, gamV l k a2 ws.length c2] w fun e w' => e = .returned (.bool true) ∧ Below w.heap.size w w' := by
  have F0 := ((FR.start w).box #[.int .i8 l, .int .i8 k, .slice a ws.length c] 31).box #[.int .i8 l, .int .i8 k, .slice a2 ws.length c2] 31
  simp only [World.size_alloc] at F0
  have HE := Lib.hid (eqAskS_any a a2 c c2 ws _ hn (h.below F0.below))
  go_enter Tryd.func8, Tryd.ntmps8
  go_wp2_with fail
  refine HE.out.mono ?_
  rintro e w2 ⟨rfl, hb⟩
  have HF := Lib.hid (F0.next hb).below
  clear hb F0 HE
  go_wp2
  go_ret
  exact ⟨rfl, HF.out⟩
theorem eqGame_fr {w0 W : World} {L : List (Nat × Array Value × TypeId)} {g g2 : Nat} {ws : List Ak} (h : FR w0 L W) (h1 : (g, acells ws, 51) ∈ L) (h2 : (g2, acells ws, 51) ∈ L) (l k : Int) (c c2 : Nat) (hn : ws.length ≤ 1048576) :
    Calls Tryd.prog 8 #[gamV l k (some ⟨g, 0, none⟩) ws.length c, gamV l k (some ⟨g2, 0, none⟩) ws.length c2] W fun e w' => e = .returned (.bool true) ∧ FR w0 L w' :=
  Calls.fr h (eqGame_any l k _ _ c c2 ws W hn (.inr ⟨g, 0, g2, 0, rfl, rfl, (h.blk _ h1).lt, (h.blk _ h2).lt, (h.blk _ h1).asks, (h.blk _ h2).asks⟩))
end Go.Proofs.YtijaghkbmgkjnaaDoor
