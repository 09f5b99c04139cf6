/-
  Weights and placings drawn from a source.
-/
import Derived.Test.YtmngeloenchpdaaSrc
import Derived.Test.YtmngeloenchpdaaOwn
namespace Go.Proofs.Ytmngeloenchpdaa
open Go.RowKit

theorem Src.alloc {w : World} {b c K : Nat} {a : Option Addr} {xs : List Int} (h : Src w b a c xs K) (o : Obj) : Src (w.alloc o) b a c xs K := by
  obtain ⟨k, z, hk, hz, h0, h1, h2, hf, hx⟩ := h
  have hlt : b < w.heap.size := by
    by_cases hlt : b < w.heap.size
    · exact hlt
    · simp [World.cell?, Array.getElem?_eq_none (Nat.le_of_not_lt hlt)] at h1
  have hB : Below w.heap.size w (w.alloc o) := (Below.refl _ _).alloc (Nat.le_refl _) _
  refine ⟨k, z, hk, hz, (hB.cell (p := ⟨b, 0, none⟩) hlt).trans h0, (hB.cell (p := ⟨b, 1, none⟩) hlt).trans h1, (hB.cell (p := ⟨b, 2, none⟩) hlt).trans h2, fun j => (hB.frozen (p := ⟨b, j, none⟩) hlt).trans (hf j), ?_⟩
  rcases hx with hx | ⟨ba, off, rfl, hne, hat⟩
  · exact .inl hx
  · refine .inr ⟨ba, off, rfl, hne, fun j hj => ?_⟩
    have h3 := hat j hj
    have hl : ba < w.heap.size := by
      by_cases hl : ba < w.heap.size
      · exact hl
      · simp [World.cell?, Array.getElem?_eq_none (Nat.le_of_not_lt hl)] at h3
    exact (hB.cell (p := ⟨ba, off + j, none⟩) hl).trans h3
theorem Src.grown {w w' : World} {b c K B : Nat} {a : Option Addr} {xs : List Int} (h : Src w b a c xs K) (hB : Below B w w') (hb : b < B) (hx' : xs = [] ∨ ∃ ba off, a = some ⟨ba, off, none⟩ ∧ ba < B) : Src w' b a c xs K := by
  obtain ⟨k, z, hk, hz, h0, h1, h2, hf, hx⟩ := h
  refine ⟨k, z, hk, hz, (hB.cell (p := ⟨b, 0, none⟩) hb).trans h0, (hB.cell (p := ⟨b, 1, none⟩) hb).trans h1, (hB.cell (p := ⟨b, 2, none⟩) hb).trans h2, fun j => (hB.frozen (p := ⟨b, j, none⟩) hb).trans (hf j), ?_⟩
  rcases hx with hx | ⟨ba, off, rfl, hne, hat⟩
  · exact .inl hx
  · rcases hx' with hx' | ⟨ba', off', e, hlt⟩
    · exact .inl hx'
    · have e2 : ba = ba' := by injection e with e; injection e
      exact .inr ⟨ba, off, rfl, hne, hat.below hB (by omega)⟩
theorem at_of_cells {w : World} {g : Nat} {ys : Array Value} {t : TypeId} {ws : List Int} (h : w.heap[g]? = some (.cells ys t)) (hv : ∀ j, j < ws.length → ys[j]? = some (.int .i16 (ws.getD j 0))) : At .i16 w g 0 ws := fun j hj => by
  rw [Nat.zero_add]
  simp only [World.cell?, h]
  exact hv j hj
theorem at_of_list {w : World} {g : Nat} {t : TypeId} (full ws : List Int) (h : w.heap[g]? = some (.cells (full.map (Value.int .i16)).toArray t)) (hv : ∀ j, j < ws.length → j < full.length ∧ ws.getD j 0 = full.getD j 0) : At .i16 w g 0 ws := at_of_cells h fun j hj => by
  obtain ⟨h1, h2⟩ := hv j hj
  rw [h2]
  simp [List.getD_eq_getElem?_getD, List.getElem?_eq_getElem h1]
theorem heap_new (w : World) (o : Obj) : (w.alloc o).heap[w.heap.size]? = some o := by unfold World.alloc; exact Array.getElem?_push_size
theorem i16_fin {ws : List Int} (h : ∀ j, j < ws.length → -32768 ≤ ws.getD j 0 ∧ ws.getD j 0 ≤ 32767) : I16 ws := fun j => by
  by_cases hj : j < ws.length
  · exact h j hj
  · simp [List.getD_eq_getElem?_getD, List.getElem?_eq_none (Nat.le_of_not_lt hj)]
theorem Try.info_w16 : (Try.prog.info? 50).map (fun i => (i.zero, i.size, i.bytes)) = some (some (.int .i16 0), 1, 2) := by kernel_rfl
def Pre (ws : List Int) (x : Int) : Prop := (∀ j, j < ws.length → (1 ≤ ws.getD j 0 ∧ ws.getD j 0 ≤ x) ∧ (0 < j → ws.getD (j - 1) 0 ≤ ws.getD j 0)) ∧ (1 ≤ x ∧ x ≤ 3 + 8 * (ws.length : Int)) ∧ sumI ws ≤ 40 * (ws.length : Int)
theorem getD_snoc (ws : List Int) (x : Int) (j : Nat) (h : j < (ws ++ [x]).length) : (j < ws.length ∧ (ws ++ [x]).getD j 0 = ws.getD j 0) ∨ (j = ws.length ∧ (ws ++ [x]).getD j 0 = x) := by
  rw [List.length_append] at h
  simp only [List.length_cons, List.length_nil] at h
  by_cases hj : j < ws.length
  · exact .inl ⟨hj, by simp [List.getD_eq_getElem?_getD, List.getElem?_append_left hj]⟩
  · have e : j = ws.length := by omega
    subst e
    exact .inr ⟨rfl, by simp [List.getD_eq_getElem?_getD]⟩
theorem Pre.step {ws : List Int} {x r : Int} (h : Pre ws x) (hl : ws.length ≤ 4) (hr : 0 ≤ r ∧ r ≤ 8) : Pre (ws ++ [x]) (x + r) := by
  obtain ⟨h1, h2, h3⟩ := h
  have hlen : (ws ++ [x]).length = ws.length + 1 := by simp
  refine ⟨fun j hj => ?_, ?_, ?_⟩
  · rcases getD_snoc ws x j hj with ⟨hj', e⟩ | ⟨rfl, e⟩
    · rw [e]
      have := h1 j hj'
      refine ⟨by omega, fun h0 => ?_⟩
      rcases getD_snoc ws x (j - 1) (by omega) with ⟨_, e2⟩ | ⟨e3, _⟩
      · rw [e2]; exact this.2 h0
      · omega
    · rw [e]
      refine ⟨by omega, fun h0 => ?_⟩
      rcases getD_snoc ws x (ws.length - 1) (by omega) with ⟨hj2, e2⟩ | ⟨e3, _⟩
      · rw [e2]; have := h1 _ hj2; omega
      · omega
  · rw [hlen]; omega
  · have e : sumI (ws ++ [x]) = sumI ws + x := by simp [sumI, List.foldl_append]
    rw [e, hlen]; omega
theorem Pre.ok {ws : List Int} {x : Int} (h : Pre ws x) (h1 : 1 ≤ ws.length) (h5 : ws.length ≤ 5) : OkW ws ∧ I16 ws :=
  ⟨⟨h1, by omega, fun j hj => ⟨((h.1 j hj).1).1, (h.1 j hj).2⟩, by have := h.2.2; omega⟩, i16_fin (fun j hj => by have h2 := h.1 j hj; have h3 := h.2.1; omega)⟩
set_option maxRecDepth 100000 in
theorem l01Drawn_any (b : Nat) (a : Option Addr) (c : Nat) (xs : List Int) (w : World) (hb8 : ∀ j, j < xs.length → 0 ≤ xs.getD j 0 ∧ xs.getD j 0 ≤ 255) (hn : xs.length ≤ 1048576) (hbs : b < w.heap.size) (hax : xs = [] ∨ ∃ ba off, a = some ⟨ba, off, none⟩ ∧ ba < w.heap.size) (h : Src w b a c xs 0) :
    Calls Try.prog 38 #[.pointer (some ⟨b, 0, none⟩)] w fun e w' => ∃ g ws cc, e = .returned (.slice (some ⟨g, 0, none⟩) ws.length cc) ∧ w.heap.size ≤ g ∧ g < w'.heap.size ∧ At .i16 w' g 0 ws ∧ OkW ws ∧ I16 ws ∧ Below b w w' := by
  have HB := Lib.hid hb8
  clear hb8
  go_enter Try.func38, Try.ntmps38
  go_wp2_with fail
  refine (pick_any 4 b a c 0 xs w (by omega) HB.out hn (by omega) h).mono ?_
  rintro e w1 ⟨r, rfl, hr, hS1, hO1⟩
  have hs1 := hO1.size
  have hr4 : r = 0 ∨ r = 1 ∨ (r ≠ 0 ∧ r ≠ 1) := by omega
  rcases hr4 with rfl | rfl | ⟨hr0, hr1⟩
  · go_wp2_with fail
    refine (pick_any 4 b a c 1 xs _ (by omega) HB.out hn (by omega) (hS1.alloc _)).mono ?_
    rintro e w2 ⟨r2, rfl, hr2, hS2, hO2⟩
    have hh := hO2.block w1.heap.size (by omega)
    rw [heap_new, hs1] at hh
    have hsz := hO2.size
    have hBel : Below b w w2 := (Only.below (Only.below (Below.refl b w) hO1 (Nat.le_refl _) |>.alloc (by omega) _) hO2 (Nat.le_refl _))
    have hr3 : r2 = 0 ∨ r2 = 1 ∨ r2 = 2 ∨ r2 = 3 := by omega
    rcases hr3 with rfl | rfl | rfl | rfl
    · go_wp2
      go_ret
      exact ⟨_, [1], _, rfl, by omega, by simp at hsz; omega, at_of_list [1, 3, 9, 27] _ hh (by decide), by unfold OkW; decide, i16_fin (by decide), hBel⟩
    · go_wp2
      go_ret
      exact ⟨_, [1, 3], _, rfl, by omega, by simp at hsz; omega, at_of_list [1, 3, 9, 27] _ hh (by decide), by unfold OkW; decide, i16_fin (by decide), hBel⟩
    · go_wp2
      go_ret
      exact ⟨_, [1, 3, 9], _, rfl, by omega, by simp at hsz; omega, at_of_list [1, 3, 9, 27] _ hh (by decide), by unfold OkW; decide, i16_fin (by decide), hBel⟩
    · go_wp2
      go_ret
      exact ⟨_, [1, 3, 9, 27], _, rfl, by omega, by simp at hsz; omega, at_of_list [1, 3, 9, 27] _ hh (by decide), by unfold OkW; decide, i16_fin (by decide), hBel⟩
  · go_wp2_with fail
    refine (pick_any 5 b a c 1 xs _ (by omega) HB.out hn (by omega) (hS1.alloc _)).mono ?_
    rintro e w2 ⟨r2, rfl, hr2, hS2, hO2⟩
    have hh := hO2.block w1.heap.size (by omega)
    rw [heap_new, hs1] at hh
    have hsz := hO2.size
    have hBel : Below b w w2 := (Only.below (Only.below (Below.refl b w) hO1 (Nat.le_refl _) |>.alloc (by omega) _) hO2 (Nat.le_refl _))
    have hr3 : r2 = 0 ∨ r2 = 1 ∨ r2 = 2 ∨ r2 = 3 ∨ r2 = 4 := by omega
    rcases hr3 with rfl | rfl | rfl | rfl | rfl
    · go_wp2
      go_ret
      exact ⟨_, [1], _, rfl, by omega, by simp at hsz; omega, at_of_list [1, 2, 4, 8, 16] _ hh (by decide), by unfold OkW; decide, i16_fin (by decide), hBel⟩
    · go_wp2
      go_ret
      exact ⟨_, [1, 2], _, rfl, by omega, by simp at hsz; omega, at_of_list [1, 2, 4, 8, 16] _ hh (by decide), by unfold OkW; decide, i16_fin (by decide), hBel⟩
    · go_wp2
      go_ret
      exact ⟨_, [1, 2, 4], _, rfl, by omega, by simp at hsz; omega, at_of_list [1, 2, 4, 8, 16] _ hh (by decide), by unfold OkW; decide, i16_fin (by decide), hBel⟩
    · go_wp2
      go_ret
      exact ⟨_, [1, 2, 4, 8], _, rfl, by omega, by simp at hsz; omega, at_of_list [1, 2, 4, 8, 16] _ hh (by decide), by unfold OkW; decide, i16_fin (by decide), hBel⟩
    · go_wp2
      go_ret
      exact ⟨_, [1, 2, 4, 8, 16], _, rfl, by omega, by simp at hsz; omega, at_of_list [1, 2, 4, 8, 16] _ hh (by decide), by unfold OkW; decide, i16_fin (by decide), hBel⟩
  · have e0 : (r == 0) = false := by simpa using hr0
    have e1 : (r == 1) = false := by simpa using hr1
    clear hr0 hr1
    obtain ⟨i0, hi, hz0, hz1, hz2⟩ := info_parts Try.info_w16
    go_wp2_with fail
    refine (pick_any 3 b a c 1 xs _ (by omega) HB.out hn (by omega) (hS1.alloc _)).mono ?_
    rintro e w2 ⟨x0, rfl, hx0, hS2, hO2⟩
    go_wp2_with fail
    refine (pick_any 5 b a c 2 xs _ (by omega) HB.out hn (by omega) hS2).mono ?_
    rintro e w3 ⟨k0, rfl, hk0, hS3, hO3⟩
    have hw3 := hO3.size
    have hw2 := hO2.size
    have hsz3 : w.heap.size ≤ w3.heap.size := by rw [hw3, hw2]; simp; omega
    have hBel : Below b w w3 := Only.below (Only.below ((Only.below (Below.refl b w) hO1 (Nat.le_refl _)).alloc (by omega) _) hO2 (Nat.le_refl _)) hO3 (Nat.le_refl _)
    have hown0 : w3.ownsRow w.heap.size 50 1 (.slice (some ⟨w.heap.size, 0, none⟩) 0 0) 0 (([] : List Int).map (Value.int .i16)) := by
      have this : (w1.alloc (.cells #[] 50)).ownsRow w1.heap.size 50 1 (.slice (some ⟨w1.heap.size, 0, none⟩) 0 0) 0 [] := World.ownsRow_made w1 #[] 0 (Nat.le_refl _) (by unfold maxLen; omega) (by simp)
      rw [hs1] at this
      exact hO3.owns (hO2.owns this hbs) hbs
    clear hw3 hw2 hO1 hO2 hO3 hS1 hS2 hs1
    go_wp2_with fail
    go_loopw [3, 4, 5] (fun v x k wr => ∃ (ws : List Int) (xx kk : Int), x = .int .i64 xx ∧ k = .int .i64 kk ∧ (0 ≤ kk ∧ (ws.length : Int) + kk ≤ 5 ∧ 1 ≤ (ws.length : Int) + kk) ∧ Pre ws xx ∧ wr.ownsRow w.heap.size 50 1 v ws.length (ws.map (Value.int .i16)) ∧ Src wr b a c xs (3 + ws.length) ∧ Below b w wr ∧ w.heap.size ≤ wr.heap.size) (fun _ _ k _ => (intOf k).toNat)
    case atStart => exact ⟨[], _, _, rfl, rfl, by simp; omega, ⟨fun j h => absurd h (by simp), by simp; omega, by simp [sumI]⟩, hown0, hS3, hBel, hsz3⟩
    case round =>
      obtain ⟨ws, xx, kk, rfl, rfl, hk, hP, hown, hS, hB, hsz⟩ := hrel
      have hx1 := hP.2.1
      by_cases hk0' : kk = 0
      · subst hk0'
        have HO := Lib.hid (hP.ok (by omega) (by omega))
        go_wp2
        go_ret
        rcases OwnV.ofOwns rfl hown with ⟨h0, _⟩ | ⟨g, cc, rfl, h1, h2, h3, _⟩
        · rw [h0] at hk; simp at hk
        · exact ⟨g, ws, cc, rfl, h1, h2, h3, HO.out.1, HO.out.2, hB⟩
      · have hx2 : 1 ≤ xx ∧ xx ≤ 35 := by omega
        have hk1 : 0 < kk := by omega
        have HP := Lib.hid hP
        have HS := Lib.hid hS
        obtain ⟨wq, rfl⟩ : ∃ wq : World, wq = wr := ⟨_, rfl⟩
        clear hP hS hx1
        go_wp2_with (first
          | (at_builtin; refine wpList_append_own _ rfl _ _ 33 rfl w.heap.size 50 i0 (.int .i16 0) 1 2 Try.underlying33 hi hz0 hz1 hz2 rfl (by decide) _ _ _ rfl (hown.alloc _) ⟨wq.heap.size, 0, none⟩ 1 1 [.int .i16 xx] rfl rfl ?c1 ?c2 ?c3 ?c4 ?c5 ?_)
          | go_in)
        case c1 =>
          intro j u hj
          match j, hj with
          | 0, hj => simp at hj; subst hj; simp [Addr.add]
        case c2 => intro u hu; simp at hu; subst hu; rfl
        case c3 => unfold maxLen; omega
        case c4 => omega
        case c5 => simp; omega
        · intro v' w1' hown' hgrow _
          have hBa : Below w.heap.size wq w1' := ((Below.refl w.heap.size wq).alloc hsz _).grown hgrow (by simp; omega) (fun j hj => (hown.lt j hj).1)
          have hsz1 : w.heap.size ≤ w1'.heap.size := Nat.le_trans hsz hBa.size
          have hS1 := HS.out.grown hBa hbs hax
          have hB1 : Below b w w1' := hB.trans (hBa.mono (Nat.le_of_lt hbs))
          clear hgrow hBa
          go_wp2_with fail
          refine (pick_any 9 b a c _ xs _ (by omega) HB.out hn (by omega) hS1).mono ?_
          rintro e w4 ⟨r4, rfl, hr4, hS4, hO4⟩
          go_wp2
          go_roundw
          case rel => exact ⟨ws ++ [xx], xx + r4, kk - 1, by go_num, by go_num, by simp; omega, HP.out.step (by omega) (by omega), by have := hO4.owns hown' hbs; simpa using this, by have := hS4; simpa [Nat.add_assoc] using this, Only.below hB1 hO4 (Nat.le_refl _), by rw [hO4.size]; exact hsz1⟩
          case measure => simp [intOf]; omega
theorem a2Weights_any (a : Option Addr) (c : Nat) (xs : List Int) (w : World) (hb8 : ∀ j, j < xs.length → 0 ≤ xs.getD j 0 ∧ xs.getD j 0 ≤ 255) (hn : xs.length ≤ 1048576) (hx : Sl .u8 w.heap.size w a xs) :
    Calls Try.prog 21 #[.slice a xs.length c] w fun e w' => ∃ g ws cc, e = .returned (.slice (some ⟨g, 0, none⟩) ws.length cc) ∧ w.heap.size ≤ g ∧ g < w'.heap.size ∧ At .i16 w' g 0 ws ∧ OkW ws ∧ I16 ws ∧ Below w.heap.size w w' := by
  have HB := Lib.hid hb8
  have HX := Lib.hid hx
  clear hb8 hx
  go_enter Try.func21, Try.ntmps21
  go_wp2_with fail
  refine (l00From_any a c xs w HX.out).mono ?_
  rintro e w1 ⟨rfl, hS, hsz, hB1⟩
  have HZ := Lib.hid hsz
  clear hsz
  go_wp2_with fail
  refine (l01Drawn_any w.heap.size a c xs w1 HB.out hn (by rw [HZ.out]; omega) (by rcases HX.out with h | ⟨ba, off, h1, h2, _⟩; exact .inl h; exact .inr ⟨ba, off, h1, by rw [HZ.out]; omega⟩) hS).mono ?_
  rintro e w2 ⟨g, ws, cc, rfl, h1, h2, h3, h4, h5, hB2⟩
  have hBB := hB1.trans hB2
  rw [HZ.out] at h1
  go_wp2
  go_ret
  exact ⟨g, ws, cc, rfl, by omega, h2, h3, h4, h5, hBB⟩
theorem OkP.step {ps : List Int} {x : Int} (h : OkP ps) (hx : -1 ≤ x ∧ x ≤ 1) : OkP (ps ++ [x]) := fun j hj => by
  rcases getD_snoc ps x j hj with ⟨h1, e⟩ | ⟨_, e⟩
  · rw [e]; exact h j h1
  · rw [e]; exact hx
theorem Try.info_p8 : (Try.prog.info? 51).map (fun i => (i.zero, i.size, i.bytes)) = some (some (.int .i8 0), 1, 1) := by kernel_rfl
set_option maxRecDepth 100000 in
theorem a2Placing_any (a : Option Addr) (c : Nat) (xs : List Int) (a2 : Option Addr) (n c2 : Nat) (w : World) (hb8 : ∀ j, j < xs.length → 0 ≤ xs.getD j 0 ∧ xs.getD j 0 ≤ 255) (hn : xs.length ≤ 1048576) (hx : Sl .u8 w.heap.size w a xs) (hn16 : n ≤ 16) :
    Calls Try.prog 22 #[.slice a xs.length c, .slice a2 n c2] w fun e w' => ∃ v ps, e = .returned v ∧ OwnV .i8 w.heap.size w' v ps ∧ ps.length = n ∧ OkP ps ∧ Below w.heap.size w w' := by
  have HB := Lib.hid hb8
  have HX := Lib.hid hx
  clear hb8 hx
  obtain ⟨i0, hi, hz0, hz1, hz2⟩ := info_parts Try.info_p8
  go_enter Try.func22, Try.ntmps22
  go_wp2_with fail
  refine (l00From_any a c xs w HX.out).mono ?_
  rintro e w1 ⟨rfl, hS, hsz, hB1⟩
  have hax : xs = [] ∨ ∃ ba off, a = some ⟨ba, off, none⟩ ∧ ba < w1.heap.size := by
    rcases HX.out with h | ⟨ba, off, h1, h2, _⟩
    · exact .inl h
    · exact .inr ⟨ba, off, h1, by omega⟩
  have hbs : w.heap.size < w1.heap.size := by omega
  have hBle := Nat.le_of_lt hbs
  generalize hb : w.heap.size = b at *
  clear hsz HX
  have hS0 := hS.alloc (.cells #[] 51)
  have hown0 : (w1.alloc (.cells #[] 51)).ownsRow w1.heap.size 51 1 (.slice (some ⟨w1.heap.size, 0, none⟩) 0 0) 0 (([] : List Int).map (Value.int .i8)) := World.ownsRow_made w1 #[] 0 (Nat.le_refl _) (by unfold maxLen; omega) (by simp)
  have hB0 : Below b w (w1.alloc (.cells #[] 51)) := hB1.alloc hBle _
  go_wp2_with fail
  go_loopw [6, 7] (fun v i wr => ∃ (ps : List Int), i = .int .i64 ps.length ∧ ps.length ≤ n ∧ OkP ps ∧ wr.ownsRow w1.heap.size 51 1 v ps.length (ps.map (Value.int .i8)) ∧ Src wr b a c xs ps.length ∧ Below b w wr ∧ w1.heap.size ≤ wr.heap.size) (fun _ i _ => n - (intOf i).toNat)
  case atStart => exact ⟨[], rfl, Nat.zero_le _, fun j h => absurd h (by simp), hown0, hS0, hB0, by simp⟩
  case round =>
    obtain ⟨ps, rfl, hl, hP, hown, hS, hB, hsz⟩ := hrel
    have HP := Lib.hid hP
    clear hP
    by_cases hlt : ps.length < n
    · go_wp2_with fail
      refine (pick_any 3 b a c _ xs _ (by omega) HB.out hn (by omega) hS).mono ?_
      rintro e w4 ⟨r4, rfl, hr4, hS4, hO4⟩
      have hown4 := hO4.owns hown hbs
      have hB4 := Only.below hB hO4 (Nat.le_refl _)
      have hsz4 : w1.heap.size ≤ w4.heap.size := by rw [hO4.size]; exact hsz
      clear hO4 hS hown hB hsz
      go_wp2_with (first
        | (at_builtin; refine wpList_append_own _ rfl _ _ 24 rfl w1.heap.size 51 i0 (.int .i8 0) 1 1 Try.underlying24 hi hz0 hz1 hz2 rfl (by decide) _ _ _ rfl (hown4.alloc _) ⟨w4.heap.size, 0, none⟩ 1 1 [.int .i8 (r4 - 1)] rfl rfl ?c1 ?c2 ?c3 ?c4 ?c5 ?_)
        | go_in)
      case c1 =>
        intro j u hj
        match j, hj with
        | 0, hj => simp at hj; subst hj; simp [Addr.add]
      case c2 => intro u hu; simp at hu; subst hu; rfl
      case c3 => unfold maxLen; omega
      case c4 => omega
      case c5 => simp; omega
      · intro v' w1' hown' hgrow _
        have hBa : Below w1.heap.size w4 w1' := ((Below.refl w1.heap.size w4).alloc hsz4 _).grown hgrow (by simp; omega) (fun j hj => (hown4.lt j hj).1)
        have hsz1 : w1.heap.size ≤ w1'.heap.size := Nat.le_trans hsz4 hBa.size
        have hS1 := hS4.grown hBa hbs hax
        have hB1 : Below b w w1' := hB4.trans (hBa.mono hBle)
        clear hgrow hBa
        go_wp2
        go_roundw
        case rel => exact ⟨ps ++ [r4 - 1], by simp, by rw [List.length_append]; exact hlt, HP.out.step (by omega), by simpa using hown', by simpa using hS1, hB1, hsz1⟩
        case measure => simp [intOf]; omega
    · have hle : ps.length = n := by omega
      have HL := Lib.hid hle
      clear hle
      go_wp2
      go_ret
      subst hb
      exact ⟨_, ps, rfl, (OwnV.ofOwns rfl hown).mono hBle, HL.out, HP.out, hB⟩
end Go.Proofs.Ytmngeloenchpdaa
