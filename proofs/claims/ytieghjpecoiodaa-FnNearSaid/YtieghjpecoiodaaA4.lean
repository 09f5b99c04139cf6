/-
  The opened fixed plan.
-/
import Derived.Test.YtieghjpecoiodaaE3
namespace Go.Proofs.Ytieghjpecoiodaa
open Go.RowKit
set_option maxRecDepth 100000
set_option linter.unusedVariables false

/-- The cells of an opened fixed plan. -/
abbrev opC (a : Option Addr) (n c : Nat) (l k : Int) : Array Value := #[.slice a n c, .int .i64 l, .int .i8 (n : Int), .int .i8 k, .bool true, .bool false]
abbrev opV (a : Option Addr) (n c : Nat) (l k : Int) : Value := .agg (opC a n c l k)
abbrev nopC : Array Value := #[.slice none 0 0, .int .i64 0, .int .i8 0, .int .i8 0, .bool false, .bool false]
theorem Blk.six {w : World} {b : Nat} {a0 a1 a2 a3 a4 a5 : Value} {t : TypeId} (h : Blk w b #[a0, a1, a2, a3, a4, a5] t) :
    w.cell? ⟨b, 0, none⟩ = some a0 ∧ w.cell? ⟨b, 1, none⟩ = some a1 ∧ w.cell? ⟨b, 2, none⟩ = some a2 ∧ w.cell? ⟨b, 3, none⟩ = some a3 ∧ w.cell? ⟨b, 4, none⟩ = some a4 ∧ w.cell? ⟨b, 5, none⟩ = some a5 ∧ ∀ i, w.frozen? ⟨b, i, none⟩ = false :=
  ⟨h.cell 0, h.cell 1, h.cell 2, h.cell 3, h.cell 4, h.cell 5, h.free⟩
theorem okX_t {l k : Int} {ws : List Wf} (h : okX l k ws = true) : OkX l k ws := of_cb h
theorem okX_sign {l k : Int} {ws : List Wf} (h : OkX l k ws) (i : Nat) (hi : i < 4) : ∀ j, j < ws.length → -1 ≤ wI ws j i ∧ wI ws j i ≤ 1 := fun j hj => ((h.2.2.2 j hj).2 i hi).1
theorem res_open {W : World} {b : Nat} {v0 v1 v2 v3 v4 v5 : Value} (K : Blk W b #[v0, v1, v2, v3, v4, v5] 58) (c : Value) (tmps : Array Value) (h2 : tmps.getD 2 undef = .pointer (some ⟨b, 0, none⟩)) (h3 : tmps.getD 3 undef = c) : (results Try.f23 tmps).run Try.prog W = .ok (.tuple #[.agg #[v0, v1, v2, v3, v4, v5], c]) W := by
  have h2' : tmps[2]?.getD undef = .pointer (some ⟨b, 0, none⟩) := by simpa using h2
  have h3' : tmps[3]?.getD undef = c := by simpa using h3
  obtain ⟨e0, e1, e2, e3, e4, e5, -⟩ := K.six
  simp [results, Try.results23, go_sem, e0, e1, e2, e3, e4, e5, h2', h3']
set_option maxHeartbeats 2000000 in
theorem openFixed_t (l k : Int) (a : Option Addr) (c : Nat) (ws : List Wf) (w : World) (hs : Slw w.heap.size w a ws) (hl : B8 l) (hk : B8 k) (hn : ws.length ≤ 1048576) (hw : Wall ws) (hok : okX l k ws = true) :
    Calls Try.prog 23 #[fixV l k a ws.length c] w fun e w' => e = .returned (.tuple #[opV a ws.length c l k, .int .i64 0]) ∧ Below w.heap.size w w' := by
  have F0 := ((FR.start w).box #[.int .i8 l, .int .i8 k, .slice a ws.length c] 27).box nopC 58
  simp only [World.size_alloc] at F0
  have HV := Lib.hid (validFixed_any l k a c ws _ (hs.below F0.below |> fun h => by
    rcases h with h | ⟨b, off, e, h1, h2⟩
    · exact .inl h
    · exact .inr ⟨b, off, e, by have := F0.size; omega, h2⟩) hl hk hn hw)
  rw [hok] at HV
  have hx := okX_t hok
  have h80 : (ws.length : Int) ≤ 80 := hx.2.2.1.2
  have hl4 := hx.1
  unfold B8 at hl hk
  generalize ws.length = n at *
  clear hx hok hw hs hn
  obtain ⟨c0, c1, c2, -⟩ := (F0.blk _ (List.mem_cons_of_mem _ List.mem_cons_self)).three
  go_enter Try.func23, Try.ntmps23
  go_wp2_with fail
  refine HV.out.mono ?_
  rintro e w2 ⟨rfl, hb⟩
  have F1 := F0.next hb
  clear hb F0 c0 c1 c2 HV
  obtain ⟨c0, c1, c2, -⟩ := (F1.blk _ (List.mem_cons_of_mem _ List.mem_cons_self)).three
  go_upto_region 4 with fail
  have F2 := F1.box #[.int .i8 (n : Int), .int .i8 k, .bool true, .bool false] 30
  have hsz : w2.heap.size = w2.heap.size := rfl
  clear F1 c0 c1 c2
  generalize hw3 : w2.alloc (.cells #[.int .i8 (n : Int), .int .i8 k, .bool true, .bool false] 30) = w3 at *
  generalize w2.heap.size = tb at *
  clear hw3 hsz
  have k1 := F2.blk _ (List.mem_cons_of_mem _ List.mem_cons_self)
  have hB1 := F2.below
  dsimp only at k1
  obtain ⟨c0, c1, c2, -⟩ := (F2.blk _ (List.mem_cons_of_mem _ (List.mem_cons_of_mem _ List.mem_cons_self))).three
  obtain ⟨t0, t1, t2, t3, -⟩ := (F2.blk _ List.mem_cons_self).four
  have HK := Lib.hid ((((((k1.set 0 (.slice a n c)).set 1 (.int .i64 l)).set 2 (.int .i8 (n : Int))).set 3 (.int .i8 k)).set 4 (.bool true)).set 5 (.bool false))
  have hle : w.heap.size ≤ w.heap.size + 1 := by omega
  have HB := Lib.hid ((((((hB1.setCell (show w.heap.size ≤ (⟨w.heap.size + 1, 0, none⟩ : Addr).block from hle) (.slice a n c)).setCell (show w.heap.size ≤ (⟨w.heap.size + 1, 1, none⟩ : Addr).block from hle) (.int .i64 l)).setCell (show w.heap.size ≤ (⟨w.heap.size + 1, 2, none⟩ : Addr).block from hle) (.int .i8 (n : Int))).setCell (show w.heap.size ≤ (⟨w.heap.size + 1, 3, none⟩ : Addr).block from hle) (.int .i8 k)).setCell (show w.heap.size ≤ (⟨w.heap.size + 1, 4, none⟩ : Addr).block from hle) (.bool true)).setCell (show w.heap.size ≤ (⟨w.heap.size + 1, 5, none⟩ : Addr).block from hle) (.bool false))
  obtain ⟨d0, d1, d2, d3, d4, d5, d6⟩ := k1.six
  clear F2 k1 hB1 hle
  go_wp2
  exact bodyPost_ret (res_open HK.out (.int .i64 0) _ rfl rfl) rfl ⟨rfl, HB.out⟩
theorem openFixed_f (l k : Int) (a : Option Addr) (c : Nat) (ws : List Wf) (w : World) (hs : Slw w.heap.size w a ws) (hl : B8 l) (hk : B8 k) (hn : ws.length ≤ 1048576) (hw : Wall ws) (hok : okX l k ws = false) :
    Calls Try.prog 23 #[fixV l k a ws.length c] w fun e w' => e = .returned (.tuple #[.agg nopC, .int .i64 1]) ∧ Below w.heap.size w w' := by
  have F0 := ((FR.start w).box #[.int .i8 l, .int .i8 k, .slice a ws.length c] 27).box nopC 58
  simp only [World.size_alloc] at F0
  have HV := Lib.hid (validFixed_any l k a c ws _ (hs.below F0.below |> fun h => by
    rcases h with h | ⟨b, off, e, h1, h2⟩
    · exact .inl h
    · exact .inr ⟨b, off, e, by have := F0.size; omega, h2⟩) hl hk hn hw)
  rw [hok] at HV
  generalize ws.length = n at *
  clear hok hw hs hn hl hk
  obtain ⟨c0, c1, c2, -⟩ := (F0.blk _ (List.mem_cons_of_mem _ List.mem_cons_self)).three
  go_enter Try.func23, Try.ntmps23
  go_wp2_with fail
  refine HV.out.mono ?_
  rintro e w2 ⟨rfl, hb⟩
  have F1 := F0.next hb
  clear hb F0 c0 c1 c2 HV
  obtain ⟨d0, d1, d2, d3, d4, d5, d6⟩ := (F1.blk _ List.mem_cons_self).six
  have HF := Lib.hid ((((((F1.setTop 0 (.slice none 0 0)).setTop 1 (.int .i64 0)).setTop 2 (.int .i8 0)).setTop 3 (.int .i8 0)).setTop 4 (.bool false)).setTop 5 (.bool false))
  clear F1
  go_wp2
  exact bodyPost_ret (res_open (HF.out.blk _ List.mem_cons_self) (.int .i64 1) _ rfl rfl) rfl ⟨rfl, HF.out.below⟩
end Go.Proofs.Ytieghjpecoiodaa
