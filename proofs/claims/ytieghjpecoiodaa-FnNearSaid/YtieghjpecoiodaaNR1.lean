/-
  What is drawn from a source: numbers, words.
-/
import Derived.Test.YtieghjpecoiodaaSrc
import Derived.Test.YtieghjpecoiodaaMK3
import Derived.Test.YtieghjpecoiodaaB19
namespace Go.Proofs.Ytieghjpecoiodaa
open Go.RowKit
set_option maxRecDepth 100000
set_option linter.unusedVariables false

theorem own_base {w : World} {b b' : Nat} {e : TypeId} {size n : Nat} {v : Value} {xs : List Value} (h : w.ownsRow b e size v n xs) (hb : b' ≤ b) : w.ownsRow b' e size v n xs :=
  ⟨h.1, h.2.imp id (fun ⟨g, cap, cur, hv, hbase, r⟩ => ⟨g, cap, cur, hv, Nat.le_trans hb hbase, r⟩)⟩
/-- The bytes of a source lie in a block that stands. -/
def Held (B : Nat) (a : Option Addr) (xs : List Int) : Prop := xs = [] ∨ ∃ ba off, a = some ⟨ba, off, none⟩ ∧ ba < B
theorem Src.lt {w : World} {b c K : Nat} {a : Option Addr} {xs : List Int} (h : Src w b a c xs K) : b < w.heap.size := by
  obtain ⟨k, z, hk, hz, h0, h1, h2, hf, hx⟩ := h
  by_cases hlt : b < w.heap.size
  · exact hlt
  · simp [World.cell?, Array.getElem?_eq_none (Nat.le_of_not_lt hlt)] at h1
theorem Src.keep {w w' : World} {b c K B : Nat} {a : Option Addr} {xs : List Int} (h : Src w b a c xs K) (hB : Below B w w') (hb : w'.heap[b]? = w.heap[b]?) (hx' : Held B a xs) : Src w' b a c xs K := by
  obtain ⟨k, z, hk, hz, h0, h1, h2, hf, hx⟩ := h
  refine ⟨k, z, hk, hz, (World.cell?_of_block (a := ⟨b, 0, none⟩) hb).trans h0, (World.cell?_of_block (a := ⟨b, 1, none⟩) hb).trans h1, (World.cell?_of_block (a := ⟨b, 2, none⟩) hb).trans h2, fun j => (World.frozen?_of_block (a := ⟨b, j, none⟩) hb).trans (hf j), ?_⟩
  rcases hx with hx | ⟨ba, off, rfl, hne, hat⟩
  · exact .inl hx
  · rcases hx' with hx' | ⟨ba', off', e, hlt⟩
    · exact .inl hx'
    · have e2 : ba = ba' := by injection e with e; injection e
      exact .inr ⟨ba, off, rfl, hne, hat.below hB (by omega)⟩
theorem Src.next {w w' : World} {b c K : Nat} {a : Option Addr} {xs : List Int} (h : Src w b a c xs K) (hB : Below w.heap.size w w') : Src w' b a c xs K := by
  have hl := h.lt
  obtain ⟨k, z, hk, hz, h0, h1, h2, hf, hx⟩ := h
  refine ⟨k, z, hk, hz, (hB.cell (p := ⟨b, 0, none⟩) hl).trans h0, (hB.cell (p := ⟨b, 1, none⟩) hl).trans h1, (hB.cell (p := ⟨b, 2, none⟩) hl).trans h2, fun j => (hB.frozen (p := ⟨b, j, none⟩) hl).trans (hf j), ?_⟩
  rcases hx with hx | ⟨ba, off, rfl, hne, hat⟩
  · exact .inl hx
  · refine .inr ⟨ba, off, rfl, hne, fun j hj => ?_⟩
    have h3 := hat j hj
    have hl : ba < w.heap.size := by
      by_cases hl : ba < w.heap.size
      · exact hl
      · simp [World.cell?, Array.getElem?_eq_none (Nat.le_of_not_lt hl)] at h3
    exact (hB.cell (p := ⟨ba, off + j, none⟩) hl).trans h3
def U8 (xs : List Int) : Prop := ∀ j, j < xs.length → 0 ≤ xs.getD j 0 ∧ xs.getD j 0 ≤ 255
theorem Only.othB {b : Nat} {w w' : World} (h : Only b w w') (hb : b ≤ w.heap.size) : OthB b w w' :=
  ⟨h.below (Below.refl _ _) (Nat.le_refl _), fun j hj hne => h.block j hne⟩
theorem OthB.only {b : Nat} {w w1 w' : World} (h : OthB b w w1) (ho : Only b w1 w') (hb : b ≤ w1.heap.size) : OthB b w w' :=
  ⟨ho.below h.below (Nat.le_refl _), fun j hj hne => (ho.block j hne).trans (h.blk j hj hne)⟩
theorem OthB.put {b p : Nat} {w w' : World} (h : OthB b w w') (hb : b ≤ w.heap.size) (hp : w.heap.size ≤ p) (i : Nat) (v : Value) : OthB b w (w'.setCell ⟨p, i, none⟩ v) :=
  ⟨h.below.setCell (show b ≤ (⟨p, i, none⟩ : Addr).block from Nat.le_trans hb hp) v, fun k hk hne => (heap_setCell_other w' ⟨p, i, none⟩ k v (show k ≠ p by omega)).trans (h.blk k hk hne)⟩
theorem Blk.only {b b' : Nat} {w w' : World} {cs : Array Value} {t : TypeId} (h : Blk w b' cs t) (ho : Only b w w') (hne : b' ≠ b) : Blk w' b' cs t := (ho.block b' hne).trans h
theorem Src.put {w : World} {b c K p : Nat} {a : Option Addr} {xs : List Int} (h : Src w b a c xs K) (hne : p ≠ b) (hB : ∀ ba off, a = some ⟨ba, off, none⟩ → xs ≠ [] → p ≠ ba) (i : Nat) (v : Value) : Src (w.setCell ⟨p, i, none⟩ v) b a c xs K := by
  have hb : (w.setCell ⟨p, i, none⟩ v).heap[b]? = w.heap[b]? := heap_setCell_other w ⟨p, i, none⟩ b v (fun e => hne e.symm)
  obtain ⟨k, z, hk, hz, h0, h1, h2, hf, hx⟩ := h
  refine ⟨k, z, hk, hz, (World.cell?_of_block (a := ⟨b, 0, none⟩) hb).trans h0, (World.cell?_of_block (a := ⟨b, 1, none⟩) hb).trans h1, (World.cell?_of_block (a := ⟨b, 2, none⟩) hb).trans h2, fun j => (World.frozen?_of_block (a := ⟨b, j, none⟩) hb).trans (hf j), ?_⟩
  by_cases hxs : xs = []
  · exact .inl hxs
  rcases hx with hx | ⟨ba, off, rfl, hn, hat⟩
  · exact .inl hx
  · exact .inr ⟨ba, off, rfl, hn, fun j hj => (World.cell?_of_block (a := ⟨ba, off + j, none⟩) (heap_setCell_other w ⟨p, i, none⟩ ba v (fun e => hB ba off rfl hxs e.symm))).trans (hat j hj)⟩
theorem Src.bytesLt {w : World} {b c K : Nat} {a : Option Addr} {xs : List Int} (h : Src w b a c xs K) : ∀ ba off, a = some ⟨ba, off, none⟩ → xs ≠ [] → ba < w.heap.size := fun ba off e hne => by
  obtain ⟨k, z, hk, hz, h0, h1, h2, hf, hx⟩ := h
  rcases hx with hx | ⟨ba', off', rfl, hn, hat⟩
  · exact absurd hx hne
  · have e2 : ba' = ba := by injection e with e; injection e
    subst e2
    have h3 := hat 0 (by cases xs with | nil => exact absurd rfl hne | cons y ys => simp)
    by_cases hl : ba' < w.heap.size
    · exact hl
    · simp [World.cell?, Array.getElem?_eq_none (Nat.le_of_not_lt hl)] at h3
theorem one_any (n : Int) (b : Nat) (a : Option Addr) (c K : Nat) (xs : List Int) (w : World) (hn2 : 2 ≤ n ∧ n ≤ 200) (hb8 : U8 xs) (hn : xs.length ≤ 1048576) (hK : K ≤ 1048576) (h : Src w b a c xs K) :
    Calls Try.prog 47 #[.pointer (some ⟨b, 0, none⟩), .int .i64 n] w fun e w' => ∃ r, e = .returned (.bool r) ∧ Src w' b a c xs (K + 1) ∧ Only b w w' := by
  have H := Lib.hid (pick_any n b a c K xs w hn2 hb8 hn hK h)
  clear hb8
  go_enter Try.func47, Try.ntmps47
  go_wp2_with fail
  refine H.out.mono ?_
  rintro e w' ⟨r, rfl, hr, hS, hO⟩
  have HS := Lib.hid hS
  have HO := Lib.hid hO
  clear hS hO h
  go_wp2
  go_ret
  exact ⟨_, rfl, HS.out, HO.out⟩
set_option maxHeartbeats 2000000 in
theorem l04Any_any (l b : Nat) (a : Option Addr) (c K : Nat) (xs : List Int) (w : World) (hl : 1 ≤ l ∧ l ≤ 4) (hb8 : U8 xs) (hn : xs.length ≤ 1048576) (hK : K ≤ 1048576) (h : Src w b a c xs K) :
    Calls Try.prog 48 #[.pointer (some ⟨b, 0, none⟩), .int .i64 (l : Int)] w fun e w' => ∃ x, e = .returned (wordV x) ∧ OkD l x ∧ Src w' b a c xs (K + 1) ∧ OthB b w w' := by
  have hp : 2 ≤ p3 l ∧ p3 l ≤ 200 := by rcases four_in hl with rfl | rfl | rfl | rfl <;> decide
  have hp81 := (p3_bd l).2
  have F0 := (FR.start w).box (wordC (quad 0 0 0 0)) 40
  have hbl := h.lt
  have hS0 := h.next ((Below.refl _ _).alloc (Nat.le_refl _) (.cells (wordC (quad 0 0 0 0)) 40))
  have bR := F0.blk _ List.mem_cons_self
  have HPK := Lib.hid (pick_any (p3 l) b a c K xs _ hp hb8 hn hK hS0)
  have HPW := Lib.hid (fun W => l03Power_any l W hl.2)
  have HAT := Lib.hid (fun r W (h0 : 0 ≤ r) (h1 : r < p3 l) => l04At_any l r W hl (by omega))
  have HFIT := Lib.hid (fun r (h0 : 0 ≤ r) (h1 : r < p3 l) => dgs_fit (n := r) hl (by omega))
  generalize p3 l = q at *
  have HBT := Lib.hid (fun ba off e hne => (show w.heap.size ≠ ba from by have := h.bytesLt ba off e hne; omega))
  clear F0 h hS0 hb8
  go_enter Try.func48, Try.ntmps48
  go_wp2_with fail
  refine (HPW.out _).mono ?_
  rintro e w2 ⟨rfl, rfl⟩
  go_wp2_with fail
  refine HPK.out.mono ?_
  rintro e w2 ⟨r, rfl, hr, hS, hO⟩
  have hbt := HBT.out
  have bR2 := Blk.only bR hO (by omega)
  have O2 := ((OthB.refl b w).next (Nat.le_of_lt hbl) ((Below.refl _ _).alloc (Nat.le_refl _) (.cells (wordC (quad 0 0 0 0)) 40))).only hO (by simp; omega)
  go_wp2_with fail
  refine (HAT.out r w2 hr.1 hr.2).mono ?_
  rintro e w3 ⟨rfl, hb3⟩
  have bR3 := Blk.below bR2 hb3 bR2.lt
  have hS3 := hS.next hb3
  have O3 := O2.next (Nat.le_of_lt hbl) hb3
  obtain ⟨r0, r1, r2, r3, r4⟩ := bR3.four
  have HS := Lib.hid (fun (v0 v1 v2 v3 : Value) => (((hS3.put (p := w.heap.size) (by omega) hbt 0 v0).put (p := w.heap.size) (by omega) hbt 1 v1).put (p := w.heap.size) (by omega) hbt 2 v2).put (p := w.heap.size) (by omega) hbt 3 v3)
  have HO := Lib.hid (fun (v0 v1 v2 v3 : Value) => (((O3.put (p := w.heap.size) (Nat.le_of_lt hbl) (Nat.le_refl _) 0 v0).put (p := w.heap.size) (Nat.le_of_lt hbl) (Nat.le_refl _) 1 v1).put (p := w.heap.size) (Nat.le_of_lt hbl) (Nat.le_refl _) 2 v2).put (p := w.heap.size) (Nat.le_of_lt hbl) (Nat.le_refl _) 3 v3)
  have HF := Lib.hid (HFIT.out r hr.1 hr.2)
  clear bR bR2 bR3 hS hO hb3 O2 O3 hS3 hbt
  generalize dgs l r = x at *
  go_wp2
  exact bodyPost_ret (v := wordV x) (by simp [results, Try.results48, go_sem, r0, r1, r2, r3]) rfl ⟨x, rfl, HF.out, HS.out _ _ _ _, HO.out _ _ _ _⟩
theorem P6Pick_any (n : Int) (a : Option Addr) (c : Nat) (xs : List Int) (w : World) (hn2 : 2 ≤ n ∧ n ≤ 200) (hb8 : U8 xs) (hn : xs.length ≤ 1048576) (hx : Sl .u8 w.heap.size w a xs) :
    Calls Try.prog 10 #[.slice a xs.length c, .int .i64 n] w fun e w' => ∃ r, e = .returned (.int .i64 r) ∧ (0 ≤ r ∧ r < n) ∧ Below w.heap.size w w' := by
  have HF := Lib.hid (l00From_any a c xs w hx)
  have HPK := Lib.hid (fun W h => pick_any n w.heap.size a c 0 xs W hn2 hb8 hn (by omega) h)
  clear hx hb8
  go_enter Try.func10, Try.ntmps10
  go_wp2_with fail
  refine HF.out.mono ?_
  rintro e w2 ⟨rfl, hS, -, hb⟩
  go_wp2_with fail
  refine (HPK.out w2 hS).mono ?_
  rintro e w3 ⟨r, rfl, hr, -, hO⟩
  have HB := Lib.hid (hO.below hb (Nat.le_refl _))
  clear hS hb hO
  go_wp2
  go_ret
  exact ⟨_, rfl, hr, HB.out⟩
end Go.Proofs.Ytieghjpecoiodaa
