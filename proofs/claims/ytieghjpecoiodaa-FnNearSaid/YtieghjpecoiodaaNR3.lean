/-
  What FnNear calls: a fixed plan that is drawn, the cases of its task, numbers drawn from longer bytes.
-/
import Derived.Test.YtieghjpecoiodaaNR2
import Derived.Test.YtieghjpecoiodaaB14
namespace Go.Proofs.Ytieghjpecoiodaa
open Go.RowKit
set_option maxRecDepth 100000
set_option linter.unusedVariables false

theorem f6big_any (a : Option Addr) (n c : Nat) (w : World) :
    Calls Try.prog 5 #[.slice a n c] w fun e w' => e = .returned (.bool (decide (4096 < (n : Int)))) ∧ w = w' := by
  by_cases h : (4096 : Int) < (n : Int)
  · rw [decide_eq_true h]
    go_enter Try.func5, Try.ntmps5
    go_wp2
    go_ret
    exact ⟨rfl, rfl⟩
  · rw [decide_eq_false h]
    go_enter Try.func5, Try.ntmps5
    go_wp2
    go_ret
    exact ⟨rfl, rfl⟩
theorem wat_of_owns {t : TypeId} {B c : Nat} {w : World} {a : Option Addr} {xs : List Wf} (h0 : 0 < xs.length) (h : w.ownsRow B t 4 (.slice a xs.length c) xs.length (wls xs)) : ∃ g, a = some ⟨g, 0, none⟩ ∧ B ≤ g ∧ g < w.heap.size ∧ WAt w g 0 xs := by
  rcases h.2 with ⟨hv, hx⟩ | ⟨g, cap, cur, hv, hB, hg, hnc, _, hs, htake⟩
  · omega
  · injection hv with e1 e2 e3
    have hlt : g < w.heap.size := by
      obtain ⟨hlt, _⟩ := Array.getElem?_eq_some_iff.1 hg; exact hlt
    have hc : ∀ i u, (wls xs)[i]? = some u → w.cell? ⟨g, i, none⟩ = some u := fun i u hu => by
      have hl := (List.getElem?_eq_some_iff.1 hu).1
      rw [wls_len] at hl
      rw [← htake, List.getElem?_take_of_lt hl] at hu
      have h2 : cur[i]? = some u := by simpa using hu
      simp [World.cell?, hg, h2]
    refine ⟨g, e1, hB, hlt, fun j hj i hi => ?_⟩
    rw [Nat.zero_add]
    exact hc _ _ (wls_get xs j hj i hi)
set_option maxHeartbeats 400000 in
theorem P6Fixed_any (a : Option Addr) (c : Nat) (xs : List Int) (w : World) (hb8 : U8 xs) (hn : xs.length ≤ 1048576) (hx : Sl .u8 w.heap.size w a xs) :
    Calls Try.prog 6 #[.slice a xs.length c] w fun e w' => ∃ (l k : Int) (ws : List Wf) (g cp : Nat), e = .returned (fixV l k (some ⟨g, 0, none⟩) ws.length cp) ∧ OkX l k ws ∧ ws.length ≤ 12 ∧ w.heap.size ≤ g ∧ g < w'.heap.size ∧ WAt w' g 0 ws ∧ Below w.heap.size w w' := by
  have hA := (Below.refl w.heap.size w).alloc (Nat.le_refl _) (.cells #[.int .i8 0, .int .i8 0, .slice none 0 0] 27)
  have bR := blk_new w #[.int .i8 0, .int .i8 0, .slice none 0 0] 27
  have hxA : Sl .u8 (w.alloc (.cells #[.int .i8 0, .int .i8 0, .slice none 0 0] 27)).heap.size (w.alloc (.cells #[.int .i8 0, .int .i8 0, .slice none 0 0] 27)) a xs := by
    rcases hx with h | ⟨ba, off, h1, h2, h3⟩
    · exact .inl h
    · exact .inr ⟨ba, off, h1, by rw [World.size_alloc]; omega, h3.below hA h2⟩
  have hF := l00From_any a c xs _ hxA
  simp only [World.size_alloc] at hF
  have HF := Lib.hid hF
  clear hF
  have HD := Lib.hid (fun b W (h : Src W b a c xs 0) => l04Drawn_any b c a xs W hb8 hn h)
  clear hx hxA hb8
  go_enter Try.func6, Try.ntmps6
  go_wp2_with fail
  refine HF.out.mono ?_
  rintro e w2 ⟨rfl, hS, hsz, hb⟩
  have bR2 := bR.below hb (by omega)
  have hB2 := hA.trans (hb.mono (by omega))
  have hsz2 : w.heap.size + 1 ≤ w2.heap.size := by omega
  clear bR hb hA
  go_wp2_with fail
  obtain ⟨b, hbb⟩ : ∃ b, w.heap.size + 1 = b := ⟨_, rfl⟩
  rw [hbb] at hS ⊢
  have HBB := Lib.hid hbb
  clear hbb hsz
  refine (HD.out b w2 hS).mono ?_
  rintro e w3 ⟨l, k, ws, ad, cp, rfl, hok, h12, hown, hO⟩
  obtain ⟨g, rfl, hg1, hg2, hat⟩ := wat_of_owns (by have := hok.2.2.1.1; omega) hown
  obtain ⟨r0, r1, r2, r3⟩ := (hO.blkAt bR2 (by have := HBB.out; omega)).three
  have HB := Lib.hid (hB2.trans (hO.below.mono (by have := HBB.out; omega)))
  have HO := Lib.hid hok
  have HAT := Lib.hid (fun u0 u1 u2 => (show WAt (((w3.setCell ⟨w.heap.size, 0, none⟩ u0).setCell ⟨w.heap.size, 1, none⟩ u1).setCell ⟨w.heap.size, 2, none⟩ u2) g 0 ws from fun j hj i hi => by
    rw [World.cell?_setCell_other _ _ _ _ (by simp <;> omega), World.cell?_setCell_other _ _ _ _ (by simp <;> omega), World.cell?_setCell_other _ _ _ _ (by simp <;> omega)]
    exact hat j hj i hi))
  clear bR2 hS hB2 hok hown hO hat
  go_wp2
  exact bodyPost_ret (v := fixV l k (some ⟨g, 0, none⟩) ws.length cp) (by simp [results, Try.results6, go_sem, r0, r1, r2]) rfl ⟨l, k, ws, g, cp, rfl, HO.out, h12, by omega, by simpa using hg2, HAT.out _ _ _, ((HB.out.setCell (p := ⟨w.heap.size, 0, none⟩) (Nat.le_refl _) _).setCell (p := ⟨w.heap.size, 1, none⟩) (Nat.le_refl _) _).setCell (p := ⟨w.heap.size, 2, none⟩) (Nat.le_refl _) _⟩
theorem specCasesOf_near (m : Nat) (k : Int) (w : World) (hm : 1 ≤ m ∧ m ≤ 12) (hk : 0 ≤ k ∧ k ≤ 2) :
    Calls Try.prog 7 #[taskV m k true false] w fun e w' => ∃ g c', e = .returned (.tuple #[.slice (some ⟨g, 0, none⟩) (upC k true m).length c', .int .i64 0]) ∧ w.heap.size ≤ g ∧ g < w'.heap.size ∧ CAt w' g 0 (upC k true m) ∧ Below w.heap.size w w' := by
  have F0 := (FR.start w).box #[.int .i8 (m : Int), .int .i8 k, .bool true, .bool false] 30
  have HOK := Lib.hid (fun W => l03Ok_any m k true false W (by unfold B8; omega) (by unfold B8; omega))
  have HL := Lib.hid (fun W => l03Cases80 m k false W (by omega) hk)
  obtain ⟨c0, c1, c2, c3, -⟩ := (F0.blk _ List.mem_cons_self).four
  rw [show okT (m : Int) k = true from cb_t ⟨by omega, by omega⟩] at HOK
  have HF := Lib.hid F0
  clear F0
  go_enter Try.func7, Try.ntmps7
  go_wp2_with fail
  refine (HOK.out _).mono ?_
  rintro e w2 ⟨rfl, hb⟩
  have F2 := HF.out.next hb
  clear c0 c1 c2 c3 hb
  obtain ⟨c0, c1, c2, c3, -⟩ := (F2.blk _ List.mem_cons_self).four
  go_wp2_with fail
  refine (HL.out _).mono ?_
  rintro e w4 ⟨v, rfl, ho, hb4⟩
  obtain ⟨a, c', rfl, hx⟩ := OwnX.ofOwns ho
  have HR := Lib.hid hx
  have hsz : w.heap.size ≤ w2.heap.size := F2.below.size
  have HB4 := Lib.hid (F2.below.trans (hb4.mono hsz))
  clear ho hb4 hx F2
  go_wp2
  go_ret2
  rcases HR.out with h | ⟨g, rfl, h1, h2, h3, h4⟩
  · exact absurd h (upC_ne _ _)
  · exact ⟨g, c', rfl, by omega, h2, h3.cs, HB4.out⟩
/-- Bytes behind a row that the call owns: there may be none. -/
theorem run_append_bytes {P : Program} (w : World) (t ty : TypeId) (base : Nat) (e : TypeId) (i : TypeInfo) (ht : P.underlying t = some (.slice e)) (hi : P.info? e = some i) (hz : i.zero = some (.int .u8 0)) (hsize : i.size = 1) (hby : i.bytes = 1)
    (v : Value) (n : Nat) (old : List Value) (hn0 : 0 < n) (hown : w.ownsRow base e 1 v n old) (a : Option Addr) (c : Nat) (xs : List Int) (hx : xs = [] ∨ ∃ b off, a = some ⟨b, off, none⟩ ∧ At .u8 w b off xs) (hl : n + xs.length ≤ 1048576) (hbase : base ≤ w.heap.size) :
    ∃ g cap w', (Builtin.append_ #[t, t] ty #[v, .slice a xs.length c]).run P w = .ok (.slice (some ⟨g, 0, none⟩) (n + xs.length) cap) w' ∧ w'.ownsRow base e 1 (.slice (some ⟨g, 0, none⟩) (n + xs.length) cap) (n + xs.length) (old ++ xs.map (Value.int .u8)) ∧ w.grownBy w' v.ownBlock := by
  by_cases h0 : xs = []
  · subst h0
    obtain ⟨g, cap, rfl, _, _⟩ := hown.form hn0
    refine ⟨g, cap, w, ?_, by simpa using hown, ⟨rfl, rfl, rfl, Nat.le_refl _, fun _ _ _ => rfl⟩⟩
    rcases hown.2 with ⟨h, _⟩ | ⟨g', cap', cur, h, _, _, hnc, _⟩
    · cases h
    · injection h with h1 h2 h3
      subst h3
      cases a with
      | none => simp [Builtin.append_, run_underlying ht, sizeOf, typeInfo, hi, Builtin.lenOf, Builtin.firstCells, hnc, storeCells]
      | some ad =>
        simp [Builtin.append_, run_underlying ht, sizeOf, typeInfo, hi, Builtin.lenOf, Builtin.firstCells, hnc, storeCells, loadCells]
        unfold loadCellsFrom
        simp [storeCells]
  · rcases hx with hx | ⟨b, off, rfl, hat⟩
    · exact absurd hx h0
    · have hp : 0 < xs.length := List.length_pos_iff.2 h0
      obtain ⟨g, cap, w', hr, h2, h3, _, _⟩ := run_append_lies (P := P) w t ty base e i (.int .u8 0) 1 1 ht hi hz hsize hby rfl (by decide) v n old hown ⟨b, off, none⟩ xs.length c (xs.map (Value.int .u8)) (by simp) (fun j u hu => by
        have hj : j < xs.length := by have := (List.getElem?_eq_some_iff.1 hu).1; simpa using this
        have := hat j hj
        have hadd : (⟨b, off, none⟩ : Addr).add j = ⟨b, off + j, none⟩ := by unfold Addr.add; split <;> simp_all
        rw [hadd, this]
        simp only [List.getElem?_map, List.getElem?_eq_getElem hj, Option.map_some] at hu
        rw [← hu]
        simp [List.getD_eq_getElem?_getD, List.getElem?_eq_getElem hj]) (by simp [Value.oneCell']) hp (by unfold maxLen; omega) (by omega) hbase _ rfl
      exact ⟨g, cap, w', hr, h2, h3⟩
end Go.Proofs.Ytieghjpecoiodaa
