/-
  The source of choices: a struct in memory that reads bytes.
-/
import Derived.Test.YtieghjpecoiodaaLaw
import Derived.Laws.Bits64b
namespace Go.Proofs.Ytieghjpecoiodaa
open Go.RowKit

theorem Only.trans {b : Nat} {a w w' : World} (h : Only b a w) (k : Only b w w') : Only b a w' :=
  ⟨k.os.trans h.os, k.tape.trans h.tape, k.output.trans h.output, k.size.trans h.size, fun j hj => (k.block j hj).trans (h.block j hj)⟩
theorem Only.dr {b : Nat} {w w' : World} (h : Dr w w') : Only b w w' := by obtain ⟨q, rfl⟩ := h; exact ⟨rfl, rfl, rfl, rfl, fun _ _ => rfl⟩
/-- These bytes lie behind a, not in block b. -/
def BytesAt (w : World) (b : Nat) (a : Option Addr) (xs : List Int) : Prop :=
  xs = [] ∨ ∃ ba off, a = some ⟨ba, off, none⟩ ∧ ba ≠ b ∧ At .u8 w ba off xs
/-- Block b is a source over these bytes that has read at most K of them. -/
def Src (w : World) (b : Nat) (a : Option Addr) (c : Nat) (xs : List Int) (K : Nat) : Prop :=
  ∃ (k : Nat) (z : Int), k ≤ K ∧ (0 ≤ z ∧ z ≤ 18446744073709551615) ∧ w.cell? ⟨b, 0, none⟩ = some (.slice a xs.length c) ∧ w.cell? ⟨b, 1, none⟩ = some (.int .i64 k) ∧ w.cell? ⟨b, 2, none⟩ = some (.int .u64 z) ∧ (∀ j, w.frozen? ⟨b, j, none⟩ = false) ∧ BytesAt w b a xs
theorem low8_bd (x : Int) (h0 : 0 ≤ x) (h1 : x ≤ 18446744073709551615) : 0 ≤ wrap64 (bits .and .u64 (x / 1099511627776) 255) ∧ wrap64 (bits .and .u64 (x / 1099511627776) 255) ≤ 255 := by
  obtain ⟨n, hn⟩ : ∃ n : Nat, x / 1099511627776 = (n : Int) := ⟨(x / 1099511627776).toNat, by omega⟩
  have e : bits .and .u64 (x / 1099511627776) 255 = ((n &&& 255 : Nat) : Int) := by
    rw [hn]
    exact u64_and_nat n 255 (by omega) (by omega)
  have h2 : n &&& 255 ≤ 255 := Nat.and_le_right
  rw [e, IntWalk.wrap64_in _ (by omega)]
  omega
theorem u64_bd (n : Int) : 0 ≤ IntKind.u64.wrap n ∧ IntKind.u64.wrap n ≤ 18446744073709551615 := by
  have h : IntKind.u64.wrap n = n % 18446744073709551616 := rfl
  rw [h]; omega
theorem Only.bytes {w w' : World} {b : Nat} {a : Option Addr} {xs : List Int} (h : BytesAt w b a xs) (ho : Only b w w') : BytesAt w' b a xs := by
  rcases h with h | ⟨ba, off, h1, hne, hat⟩
  · exact .inl h
  · exact .inr ⟨ba, off, h1, hne, ho.at hat hne⟩
theorem Src.dr {w w' : World} {b c K : Nat} {a : Option Addr} {xs : List Int} (h : Src w b a c xs K) (hd : Dr w w') : Src w' b a c xs K := by
  obtain ⟨q, rfl⟩ := hd; exact h
theorem Src.mono {w : World} {b c K K' : Nat} {a : Option Addr} {xs : List Int} (h : Src w b a c xs K) (hK : K ≤ K') : Src w b a c xs K' := by
  obtain ⟨k, z, hk, h⟩ := h; exact ⟨k, z, Nat.le_trans hk hK, h⟩
theorem Src.read {w : World} {b c K k : Nat} {a : Option Addr} {xs : List Int} {z z' : Int} (hk : k ≤ K) (hz : 0 ≤ z' ∧ z' ≤ 18446744073709551615) (h0 : w.cell? ⟨b, 0, none⟩ = some (.slice a xs.length c)) (h1 : w.cell? ⟨b, 1, none⟩ = some (.int .i64 k)) (h2 : w.cell? ⟨b, 2, none⟩ = some (.int .u64 z)) (hf : ∀ j, w.frozen? ⟨b, j, none⟩ = false) (hx : BytesAt w b a xs) :
    Src ((w.setCell ⟨b, 1, none⟩ (.int .i64 ((k : Int) + 1))).setCell ⟨b, 2, none⟩ (.int .u64 z')) b a c xs (K + 1) ∧ Only b w ((w.setCell ⟨b, 1, none⟩ (.int .i64 ((k : Int) + 1))).setCell ⟨b, 2, none⟩ (.int .u64 z')) := by
  have ho : Only b w ((w.setCell ⟨b, 1, none⟩ (.int .i64 ((k : Int) + 1))).setCell ⟨b, 2, none⟩ (.int .u64 z')) := ((Only.refl b w).setCell _ _).setCell _ _
  refine ⟨⟨k + 1, z', by omega, hz, ?_, ?_, ?_, fun j => ?_, ho.bytes hx⟩, ho⟩
  · rw [World.cell?_setCell_other _ _ _ _ (by simp), World.cell?_setCell_other _ _ _ _ (by simp)]; exact h0
  · rw [World.cell?_setCell_other _ _ _ _ (by simp)]; exact World.cell?_setCell_same _ _ _ h1
  · exact World.cell?_setCell_same _ _ _ ((World.cell?_setCell_other _ _ _ _ (by simp)).trans h2)
  · rw [World.frozen?_setCell, World.frozen?_setCell]; exact hf j
set_option maxRecDepth 100000 in
theorem next_any (b : Nat) (a : Option Addr) (c K : Nat) (xs : List Int) (w : World) (hb8 : ∀ j, j < xs.length → 0 ≤ xs.getD j 0 ∧ xs.getD j 0 ≤ 255) (hn : xs.length ≤ 1048576) (hK : K ≤ 1048576) (h : Src w b a c xs K) :
    Calls Try.prog 54 #[.pointer (some ⟨b, 0, none⟩)] w fun e w' => ∃ r, e = .returned (.int .i64 r) ∧ (0 ≤ r ∧ r ≤ 255) ∧ Src w' b a c xs (K + 1) ∧ Only b w w' := by
  obtain ⟨k, z, hk, hz, h0, h1, h2, hf, hx⟩ := h
  have hf0 := hf 0
  have hf1 := hf 1
  have hf2 := hf 2
  have hbs : b < w.heap.size := by
    by_cases hlt : b < w.heap.size
    · exact hlt
    · simp [World.cell?, Array.getElem?_eq_none (Nat.le_of_not_lt hlt)] at h1
  by_cases hlt : k < xs.length
  · have hxx := hb8 k hlt
    rcases hx with hx | ⟨ba, off, rfl, hne, hat⟩
    · rw [hx] at hlt; exact absurd hlt (by simp)
    have hc := hat k hlt
    generalize xs.getD k 0 = x at *
    go_enter Try.func54, Try.ntmps54
    go_wp2
    go_quiet (fail)
    go_wp2
    go_quiet (fail)
    go_wp2
    have hz' := u64_bd (IntKind.u64.wrap (IntKind.u64.wrap (z * 6364136223846793005) + x) + 1442695040888963407)
    generalize IntKind.u64.wrap (IntKind.u64.wrap (IntKind.u64.wrap (z * 6364136223846793005) + x) + 1442695040888963407) = z' at *
    have HS := Lib.hid (fun q => Src.read (w := w.drewN q) (z' := z') hk hz' h0 h1 h2 hf (show BytesAt (w.drewN q) b _ xs from .inr ⟨ba, off, rfl, hne, hat⟩))
    go_quiet (fail)
    go_wp2
    go_ret
    exact ⟨_, rfl, hxx, (HS.out _).1.dr (Dr.of _ _), ((Only.dr (Dr.of w _)).trans (HS.out _).2).trans (Only.dr (Dr.of _ _))⟩
  · have hxx : (0 : Int) ≤ 0 ∧ (0 : Int) ≤ 255 := by omega
    go_enter Try.func54, Try.ntmps54
    go_wp2
    go_quiet (fail)
    go_wp2
    have hz' := u64_bd (IntKind.u64.wrap (IntKind.u64.wrap (z * 6364136223846793005)) + 1442695040888963407)
    generalize IntKind.u64.wrap (IntKind.u64.wrap (IntKind.u64.wrap (z * 6364136223846793005)) + 1442695040888963407) = z' at *
    have HS := Lib.hid (fun q => Src.read (w := w.drewN q) (z' := z') hk hz' h0 h1 h2 hf (show BytesAt (w.drewN q) b _ xs from hx))
    go_quiet (fail)
    go_wp2
    go_ret
    exact ⟨_, rfl, low8_bd z' hz'.1 hz'.2, (HS.out _).1.dr (Dr.of _ _), ((Only.dr (Dr.of w _)).trans (HS.out _).2).trans (Only.dr (Dr.of _ _))⟩
theorem pick_any (n : Int) (b : Nat) (a : Option Addr) (c K : Nat) (xs : List Int) (w : World) (hn2 : 2 ≤ n ∧ n ≤ 200) (hb8 : ∀ j, j < xs.length → 0 ≤ xs.getD j 0 ∧ xs.getD j 0 ≤ 255) (hn : xs.length ≤ 1048576) (hK : K ≤ 1048576) (h : Src w b a c xs K) :
    Calls Try.prog 31 #[.pointer (some ⟨b, 0, none⟩), .int .i64 n] w fun e w' => ∃ r, e = .returned (.int .i64 r) ∧ (0 ≤ r ∧ r < n) ∧ Src w' b a c xs (K + 1) ∧ Only b w w' := by
  have H := Lib.hid (next_any b a c K xs w hb8 hn hK h)
  clear hb8
  have hne : (n == 0) = false := by simp; omega
  go_enter Try.func31, Try.ntmps31
  go_wp2_with fail
  refine H.out.mono ?_
  rintro e w' ⟨r, rfl, hr, hS, hO⟩
  have hm : 0 ≤ r % n ∧ r % n < n := ⟨Int.emod_nonneg _ (by omega), Int.emod_lt_of_pos _ (by omega)⟩
  go_wp2
  go_ret
  exact ⟨_, rfl, hm, hS, hO⟩
theorem l00From_any (a : Option Addr) (c : Nat) (xs : List Int) (w : World) (hx : Sl .u8 w.heap.size w a xs) :
    Calls Try.prog 20 #[.slice a xs.length c] w fun e w' => e = .returned (.pointer (some ⟨w.heap.size, 0, none⟩)) ∧ Src w' w.heap.size a c xs 0 ∧ w'.heap.size = w.heap.size + 1 ∧ Below w.heap.size w w' := by
  go_enter Try.func20, Try.ntmps20
  go_wp2
  go_ret
  have hh : (w.alloc (.cells #[.slice a xs.length c, .int .i64 0, .int .u64 0] 86)).heap[w.heap.size]? = some (.cells #[.slice a xs.length c, .int .i64 0, .int .u64 0] 86) := by unfold World.alloc; exact Array.getElem?_push_size
  refine ⟨rfl, ⟨0, 0, Nat.le_refl _, by omega, by simp only [World.cell?, hh]; rfl, by simp only [World.cell?, hh]; rfl, by simp only [World.cell?, hh]; rfl, fun j => by simp only [World.frozen?, hh]; simp, ?_⟩, by simp, (Below.refl _ _).alloc (Nat.le_refl _) _⟩
  rcases hx with hx | ⟨ba, off, rfl, hlt, hat⟩
  · exact .inl hx
  · exact .inr ⟨ba, off, rfl, by omega, hat.below ((Below.refl _ _).alloc (Nat.le_refl _) _) hlt⟩
theorem Only.owns {b B n : Nat} {t : TypeId} {w w' : World} {v : Value} {xs : List Value} (ho : Only b w w') (h : w.ownsRow B t 1 v n xs) (hb : b < B) : w'.ownsRow B t 1 v n xs := by
  obtain ⟨h1, h2⟩ := h
  refine ⟨h1, ?_⟩
  rcases h2 with h2 | ⟨g, cap, cur, hv, hB, hg, hr⟩
  · exact .inl h2
  · exact .inr ⟨g, cap, cur, hv, hB, by rw [ho.block g (by omega)]; exact hg, hr⟩
end Go.Proofs.Ytieghjpecoiodaa
