/-
  The laws' own helpers on puzzles and waters.
-/
import Derived.Test.YtjmgalmndpjcoaaPz
import Derived.Test.YtjmgalmndpjcoaaLaw
namespace Go.Proofs.Ytjmgalmndpjcoaa
open Go.RowKit Go.ChangeShapes Go.WideShapes

/-- Block b is a block of these cells. -/
def Blk (w : World) (b : Nat) (cs : Array Value) (t : TypeId) : Prop := w.heap[b]? = some (.cells cs t (0, 0))
theorem Blk.lt {w : World} {b : Nat} {cs : Array Value} {t : TypeId} (h : Blk w b cs t) : b < w.heap.size := by
  unfold Blk at h
  rcases Nat.lt_or_ge b w.heap.size with h' | h'
  · exact h'
  · simp [Array.getElem?_eq_none h'] at h
theorem Blk.below {w w' : World} {b B : Nat} {cs : Array Value} {t : TypeId} (h : Blk w b cs t) (hb : Below B w w') (hB : b < B) : Blk w' b cs t := (hb.block b hB).trans h
theorem Blk.cell {w : World} {b : Nat} {cs : Array Value} {t : TypeId} (h : Blk w b cs t) (i : Nat) : w.cell? ⟨b, i, none⟩ = cs[i]? := cell_of_row w b i cs t _ h
theorem Blk.free {w : World} {b : Nat} {cs : Array Value} {t : TypeId} (h : Blk w b cs t) (i : Nat) : w.frozen? ⟨b, i, none⟩ = false := by unfold Blk at h; simp [World.frozen?, h]
theorem Blk.set {w : World} {b : Nat} {cs : Array Value} {t : TypeId} (h : Blk w b cs t) (i : Nat) (v : Value) : Blk (w.setCell ⟨b, i, none⟩ v) b (cs.setIfInBounds i v) t := heap_setCell_same w b i cs t v h
theorem Blk.setOther {w : World} {b : Nat} {cs : Array Value} {t : TypeId} (h : Blk w b cs t) {g : Nat} (hg : b ≠ g) (i : Nat) (v : Value) : Blk (w.setCell ⟨g, i, none⟩ v) b cs t := (heap_setCell_other w ⟨g, i, none⟩ b v hg).trans h
theorem Blk.alloc {w : World} {b : Nat} {cs : Array Value} {t : TypeId} (h : Blk w b cs t) (o : Obj) : Blk (w.alloc o) b cs t := (Below.heap_alloc w o b h.lt).trans h
theorem Blk.drewN {w : World} {b : Nat} {cs : Array Value} {t : TypeId} (h : Blk w b cs t) (q : Nat) : Blk (w.drewN q) b cs t := h
theorem blk_new (w : World) (cs : Array Value) (t : TypeId) : Blk (w.alloc (.cells cs t)) w.heap.size cs t := heap_alloc_new w _
theorem Blk.three {w : World} {b : Nat} {a0 a1 a2 : Value} {t : TypeId} (h : Blk w b #[a0, a1, a2] t) :
    w.cell? ⟨b, 0, none⟩ = some a0 ∧ w.cell? ⟨b, 1, none⟩ = some a1 ∧ w.cell? ⟨b, 2, none⟩ = some a2 ∧ ∀ i, w.frozen? ⟨b, i, none⟩ = false :=
  ⟨h.cell 0, h.cell 1, h.cell 2, h.free⟩
theorem Blk.four {w : World} {b : Nat} {a0 a1 a2 a3 : Value} {t : TypeId} (h : Blk w b #[a0, a1, a2, a3] t) :
    w.cell? ⟨b, 0, none⟩ = some a0 ∧ w.cell? ⟨b, 1, none⟩ = some a1 ∧ w.cell? ⟨b, 2, none⟩ = some a2 ∧ w.cell? ⟨b, 3, none⟩ = some a3 ∧ ∀ i, w.frozen? ⟨b, i, none⟩ = false :=
  ⟨h.cell 0, h.cell 1, h.cell 2, h.cell 3, h.free⟩
theorem Blk.six {w : World} {b : Nat} {a0 a1 a2 a3 a4 a5 : Value} {t : TypeId} (h : Blk w b #[a0, a1, a2, a3, a4, a5] t) :
    w.cell? ⟨b, 0, none⟩ = some a0 ∧ w.cell? ⟨b, 1, none⟩ = some a1 ∧ w.cell? ⟨b, 2, none⟩ = some a2 ∧ w.cell? ⟨b, 3, none⟩ = some a3 ∧ w.cell? ⟨b, 4, none⟩ = some a4 ∧ w.cell? ⟨b, 5, none⟩ = some a5 ∧ ∀ i, w.frozen? ⟨b, i, none⟩ = false :=
  ⟨h.cell 0, h.cell 1, h.cell 2, h.cell 3, h.cell 4, h.cell 5, h.free⟩
theorem bcell {W w1 : World} (hb : Below W.heap.size W w1) : (∀ b o, b < W.heap.size → w1.cell? ⟨b, o, none⟩ = W.cell? ⟨b, o, none⟩) ∧ (∀ b o, b < W.heap.size → w1.frozen? ⟨b, o, none⟩ = W.frozen? ⟨b, o, none⟩) :=
  ⟨fun b o h => hb.cell (p := ⟨b, o, none⟩) h, fun b o h => hb.frozen (p := ⟨b, o, none⟩) h⟩
theorem toWater_any (x : Nat → Int) (w : World) :
    Calls Try.prog 19 #[watV x] w fun e w' => e = .returned (watV x) ∧ Below w.heap.size w w' := by
  go_enter Try.func19, Try.ntmps19
  go_wp2
  refine wp_loop_rounds 5 ?_
  iterate 5 (rw [rounds_succ]; go_wp2)
  exact bodyPost_ret (v := watV x) (by simp [results, Try.results19, go_sem]) rfl ⟨rfl, (((Below.refl _ _).alloc (Nat.le_refl _) _).alloc (by simp) _).alloc (by simp; omega) _⟩
theorem eqWater_same (x : Nat → Int) (w : World) :
    Calls Try.prog 33 #[watV x, watV x] w fun e w' => e = .returned (.bool true) ∧ Below w.heap.size w w' := by
  go_enter Try.func33, Try.ntmps33
  go_wp2
  refine wp_loop_rounds 5 ?_
  iterate 4 (rw [rounds_succ]; go_wp2; go_quiet (fail); go_wp2)
  rw [rounds_succ]
  go_wp2
  go_ret
  refine ⟨rfl, ?_⟩
  repeat (first | exact Below.refl _ _ | refine below_drewN ?_ _ | refine Below.alloc ?_ (by simp <;> omega) _)
theorem szInt16S_any (a : Option Addr) (n c : Nat) (w : World) (hn : n ≤ 9223372036854775807) :
    Calls Try.prog 36 #[.slice a n c, .int .i64 1048576] w fun e w' => e = .returned (.int .i64 (if 1048576 < n then -1 else 1048576 - (n : Int))) ∧ w = w' := by
  by_cases h : 1048576 < n
  · rw [if_pos h]
    go_enter Try.func36, Try.ntmps36
    go_wp2
    go_ret
    exact ⟨rfl, rfl⟩
  · rw [if_neg h]
    go_enter Try.func36, Try.ntmps36
    go_wp2
    go_ret
    exact ⟨rfl, rfl⟩
theorem szPuzzle_any (a : Option Addr) (n c : Nat) (x : Nat → Int) (t : Bool) (w : World) (hn : n ≤ 9223372036854775807) :
    Calls Try.prog 9 #[puzV a n c x t, .int .i64 1048576] w fun e w' => e = .returned (.int .i64 (if 1048576 < n then -1 else 1048576 - (n : Int))) ∧ Below w.heap.size w w' := by
  have hB := (Below.refl w.heap.size w).alloc (Nat.le_refl _) (.cells #[.slice a n c, .int .i16 (x 0), .int .i16 (x 1), .int .i16 (x 2), .int .i16 (x 3), .bool t] 26)
  have H := Lib.hid hB
  clear hB
  have HS := Lib.hid (fun W => szInt16S_any a n c W hn)
  by_cases h : 1048576 < n
  · simp only [if_pos h] at HS ⊢
    clear h
    go_enter Try.func9, Try.ntmps9
    go_wp2_with (go_at_call 36; refine (HS.out _).mono ?_; rintro e w' ⟨rfl, rfl⟩)
    go_ret
    exact ⟨rfl, H.out⟩
  · simp only [if_neg h] at HS ⊢
    have h' : (n : Int) ≤ 1048576 := by omega
    clear h
    go_enter Try.func9, Try.ntmps9
    go_wp2_with (go_at_call 36; refine (HS.out _).mono ?_; rintro e w' ⟨rfl, rfl⟩)
    go_ret
    exact ⟨rfl, H.out⟩
theorem toPuzzle_any (B : Nat) (a : Option Addr) (xs : List Int) (c : Nat) (x : Nat → Int) (t : Bool) (w : World) (hn : xs.length ≤ 1048576) (hB : B ≤ w.heap.size) (h : Sl .i16 B w a xs)  :
    Calls Try.prog 11 #[puzV a xs.length c x t] w fun e w' => ∃ g, e = .returned (puzV (some ⟨g, 0, none⟩) xs.length xs.length x t) ∧ w.heap.size ≤ g ∧ RowOf .i16 23 w' g xs ∧ Below w.heap.size w w' := by
  have HS := Lib.hid h
  clear h
  go_enter Try.func11, Try.ntmps11
  go_wp2_with fail
  have k1 := ((blk_new w #[.slice a xs.length c, .int .i16 (x 0), .int .i16 (x 1), .int .i16 (x 2), .int .i16 (x 3), .bool t] 26).alloc (.cells #[.slice none 0 0, .int .i16 0, .int .i16 0, .int .i16 0, .int .i16 0, .bool false] 32)).alloc (.cells #[.slice none 0 0, .int .i16 0, .int .i16 0, .int .i16 0, .int .i16 0, .bool false] 32)
  have k2 := (blk_new (w.alloc (.cells #[.slice a xs.length c, .int .i16 (x 0), .int .i16 (x 1), .int .i16 (x 2), .int .i16 (x 3), .bool t] 26)) #[.slice none 0 0, .int .i16 0, .int .i16 0, .int .i16 0, .int .i16 0, .bool false] 32).alloc (.cells #[.slice none 0 0, .int .i16 0, .int .i16 0, .int .i16 0, .int .i16 0, .bool false] 32)
  have k3 := blk_new ((w.alloc (.cells #[.slice a xs.length c, .int .i16 (x 0), .int .i16 (x 1), .int .i16 (x 2), .int .i16 (x 3), .bool t] 26)).alloc (.cells #[.slice none 0 0, .int .i16 0, .int .i16 0, .int .i16 0, .int .i16 0, .bool false] 32)) #[.slice none 0 0, .int .i16 0, .int .i16 0, .int .i16 0, .int .i16 0, .bool false] 32
  have hB0 := (((Below.refl w.heap.size w).alloc (Nat.le_refl _) (.cells #[.slice a xs.length c, .int .i16 (x 0), .int .i16 (x 1), .int .i16 (x 2), .int .i16 (x 3), .bool t] 26)).alloc (by simp) (.cells #[.slice none 0 0, .int .i16 0, .int .i16 0, .int .i16 0, .int .i16 0, .bool false] 32)).alloc (by simp; omega) (.cells #[.slice none 0 0, .int .i16 0, .int .i16 0, .int .i16 0, .int .i16 0, .bool false] 32)
  refine (toInt16S_any B _ _ _ _ hn (by simp; omega) (HS.out.below (hB0.mono hB))).mono ?_
  rintro e w1 ⟨rfl, hr, hb⟩
  replace k1 := k1.below hb k1.lt
  replace k2 := k2.below hb k2.lt
  replace k3 := k3.below hb k3.lt
  have hB1 := hB0.trans (hb.mono hB0.size)
  have hz := hb.size
  clear hb hB0
  simp only [World.size_alloc] at k1 k2 k3 hr hz
  obtain ⟨c0, c1, c2, c3, c4, c5, c6⟩ := k1.six
  obtain ⟨d0, d1, d2, d3, d4, d5, d6⟩ := k3.six
  go_wp2_with fail
  refine (toWater_any _ _).mono ?_
  rintro e w2 ⟨rfl, hb2⟩
  have hz2 := hb2.size
  have l1 := k1.lt
  have l2 := k2.lt
  have l3 := k3.lt
  have hlr := hr.lt
  have hB2 := (hB1.setCell (show w.heap.size ≤ (⟨w.heap.size + 1 + 1, 0, none⟩ : Addr).block by show _ ≤ w.heap.size + 1 + 1; omega) (.slice (some ⟨w.heap.size + 1 + 1 + 1, 0, none⟩) xs.length xs.length)).trans (hb2.mono (by rw [World.size_setCell]; omega))
  replace k1 := (k1.setOther (g := w.heap.size + 1 + 1) (by omega) 0 (.slice (some ⟨w.heap.size + 1 + 1 + 1, 0, none⟩) xs.length xs.length)).below hb2 (by rw [World.size_setCell]; exact l1)
  replace k2 := (k2.setOther (g := w.heap.size + 1 + 1) (by omega) 0 (.slice (some ⟨w.heap.size + 1 + 1 + 1, 0, none⟩) xs.length xs.length)).below hb2 (by rw [World.size_setCell]; exact l2)
  replace k3 := (k3.set 0 (.slice (some ⟨w.heap.size + 1 + 1 + 1, 0, none⟩) xs.length xs.length)).below hb2 (by rw [World.size_setCell]; exact l3)
  replace hr := ((World.rowIs.setOther hr (a := ⟨w.heap.size + 1 + 1, 0, none⟩) (show w.heap.size + 1 + 1 + 1 ≠ w.heap.size + 1 + 1 by omega) (.slice (some ⟨w.heap.size + 1 + 1 + 1, 0, none⟩) xs.length xs.length))).of_block (hb2.block _ (by rw [World.size_setCell]; exact hlr))
  clear c0 c1 c2 c3 c4 c5 c6 d0 d1 d2 d3 d4 d5 d6 hB1 hb2 l1 l2 l3 hlr
  simp only [List.setIfInBounds_toArray, List.set_cons_zero] at k3
  obtain ⟨c0, c1, c2, c3, c4, c5, c6⟩ := k1.six
  obtain ⟨d0, d1, d2, d3, d4, d5, d6⟩ := k2.six
  obtain ⟨e0, e1, e2, e3, e4, e5, e6⟩ := k3.six
  go_wp2_with fail
  unfold RowOf
  have hR : ∀ w3 : World, w3.cell? ⟨w.heap.size + 1, 0, none⟩ = some (.slice (some ⟨w.heap.size + 1 + 1 + 1, 0, none⟩) xs.length xs.length) → w3.cell? ⟨w.heap.size + 1, 1, none⟩ = some (.int .i16 (x 0)) → w3.cell? ⟨w.heap.size + 1, 2, none⟩ = some (.int .i16 (x 1)) → w3.cell? ⟨w.heap.size + 1, 3, none⟩ = some (.int .i16 (x 2)) → w3.cell? ⟨w.heap.size + 1, 4, none⟩ = some (.int .i16 (x 3)) → w3.cell? ⟨w.heap.size + 1, 5, none⟩ = some (.bool t) →
      ∀ tmps : Array Value, tmps.getD 2 undef = .pointer (some ⟨w.heap.size + 1, 0, none⟩) → (results Try.f11 tmps).run Try.prog w3 = .ok (puzV (some ⟨w.heap.size + 1 + 1 + 1, 0, none⟩) xs.length xs.length x t) w3 := by
    intro w3 h0 h1 h2 h3 h4 h5 tmps ht
    have ht' : tmps[2]?.getD undef = .pointer (some ⟨w.heap.size + 1, 0, none⟩) := by simpa using ht
    simp [results, Try.results11, go_sem, h0, h1, h2, h3, h4, h5, ht']
  refine bodyPost_ret (v := puzV (some ⟨w.heap.size + 1 + 1 + 1, 0, none⟩) xs.length xs.length x t) (hR _ ?_ ?_ ?_ ?_ ?_ ?_ _ rfl) rfl ⟨_, rfl, by omega, ?_, ?_⟩
  · go_cell
  · go_cell
  · go_cell
  · go_cell
  · go_cell
  · go_cell
  · have hne : w.heap.size + 1 + 1 + 1 ≠ w.heap.size + 1 + 1 := by omega
    have hne2 : w.heap.size + 1 + 1 + 1 ≠ w.heap.size + 1 := by omega
    exact (((((((((((hr.setOther hne _).setOther hne _).setOther hne _).setOther hne _).setOther hne _).setOther hne2 _).setOther hne2 _).setOther hne2 _).setOther hne2 _).setOther hne2 _).setOther hne2 _)
  · have hle : w.heap.size ≤ w.heap.size + 1 + 1 := by omega
    have hle2 : w.heap.size ≤ w.heap.size + 1 := by omega
    exact (((((((((((hB2.setCell hle _).setCell hle _).setCell hle _).setCell hle _).setCell hle _).setCell hle2 _).setCell hle2 _).setCell hle2 _).setCell hle2 _).setCell hle2 _).setCell hle2 _)
end Go.Proofs.Ytjmgalmndpjcoaa
