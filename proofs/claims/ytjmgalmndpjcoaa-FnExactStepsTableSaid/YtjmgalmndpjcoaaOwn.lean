/-
  Slices that a call has made: what they hold, and what marking and comparing do with them.
-/
import Derived.Test.YtjmgalmndpjcoaaLaw
namespace Go.Proofs.Ytjmgalmndpjcoaa
open Go.RowKit

/-- A slice that a call has made, in blocks from B on, with these numbers. -/
def OwnV (k : IntKind) (B : Nat) (w : World) (v : Value) (xs : List Int) : Prop :=
  (xs = [] ∧ ∃ a c, v = .slice a 0 c) ∨ ∃ b c, v = .slice (some ⟨b, 0, none⟩) xs.length c ∧ B ≤ b ∧ b < w.heap.size ∧ At k w b 0 xs ∧ ∀ j, w.frozen? ⟨b, j, none⟩ = false
theorem OwnV.nil (k : IntKind) (B : Nat) (w : World) (a : Option Addr) (c : Nat) : OwnV k B w (.slice a 0 c) [] := .inl ⟨rfl, a, c, rfl⟩
theorem OwnV.row {k : IntKind} {t : TypeId} {B : Nat} {w : World} {b c : Nat} {xs : List Int} (h : RowOf k t w b xs) (hB : B ≤ b) : OwnV k B w (.slice (some ⟨b, 0, none⟩) xs.length c) xs :=
  .inr ⟨b, c, rfl, hB, h.lt, h.at, fun j => World.rowIs.frozen h j⟩
theorem OwnV.below {k : IntKind} {B C : Nat} {w w' : World} {v : Value} {xs : List Int} (h : OwnV k B w v xs) (hb : Below C w w') (hC : w.heap.size ≤ C) : OwnV k B w' v xs := by
  rcases h with h | ⟨b, c, rfl, h1, h2, h3, h4⟩
  · exact .inl h
  · refine .inr ⟨b, c, rfl, h1, Nat.lt_of_lt_of_le h2 hb.size, h3.below hb (by omega), fun j => ?_⟩
    rw [hb.frozen (p := ⟨b, j, none⟩) (by show b < C; omega)]; exact h4 j
theorem OwnV.mono {k : IntKind} {B B' : Nat} {w : World} {v : Value} {xs : List Int} (h : OwnV k B w v xs) (hB : B' ≤ B) : OwnV k B' w v xs := by
  rcases h with h | ⟨b, c, h0, h1, h2⟩
  · exact .inl h
  · exact .inr ⟨b, c, h0, by omega, h2⟩
theorem OwnV.ofOwns {k : IntKind} {t : TypeId} {B n : Nat} {w : World} {v : Value} {xs : List Int} (hn : n = xs.length) (h : w.ownsRow B t 1 v n (xs.map (Value.int k))) : OwnV k B w v xs := by
  subst hn
  rcases h.2 with ⟨hv, hx⟩ | ⟨g, cap, cur, hv, hB, hg, hnc, _, hs, htake⟩
  · left
    have : xs = [] := by simpa using hx
    subst this
    exact ⟨rfl, none, 0, hv⟩
  · right
    have hlt : g < w.heap.size := by
      obtain ⟨hlt, _⟩ := Array.getElem?_eq_some_iff.1 hg; exact hlt
    refine ⟨g, cap, hv, hB, hlt, fun j hj => ?_, fun j => ?_⟩
    · have h1 : (cur.toList.take (xs.length * 1))[j]? = (xs.map (Value.int k))[j]? := by rw [htake]
      rw [Nat.mul_one, List.getElem?_take_of_lt hj, List.getElem?_map, List.getElem?_eq_getElem hj] at h1
      simp only [Option.map_some] at h1
      have h2 : cur[j]? = some (.int k xs[j]) := by simpa using h1
      rw [Nat.zero_add]
      simp [World.cell?, hg, h2, List.getD_eq_getElem?_getD, List.getElem?_eq_getElem hj]
    · simp [World.frozen?, hg]

/-- The first n cells of block b are marked. -/
def MarkedAt (k : IntKind) (w : World) (b n : Nat) : Prop := ∀ j, j < n → w.cell? ⟨b, j, none⟩ = some (.int k (marked k j))
theorem MarkedAt.below {k : IntKind} {w w' : World} {b n B : Nat} (h : MarkedAt k w b n) (hb : Below B w w') (hB : b < B) : MarkedAt k w' b n := fun j hj => (hb.cell (p := ⟨b, j, none⟩) hB).trans (h j hj)

theorem markInt64S_own (b c : Nat) (xs : List Int) (w : World) (hn : xs.length ≤ 1048576) (hc : At .i64 w b 0 xs) (hf : ∀ j, w.frozen? ⟨b, j, none⟩ = false) :
    Calls Try.prog 29 #[.slice (some ⟨b, 0, none⟩) xs.length c, .int .i64 1] w fun e w' => e = .returned (.int .i64 (xs.length + 1)) ∧ MarkedAt .i64 w' b xs.length ∧ Only b w w' := by
  go_enter Try.func29, Try.ntmps29
  go_wp2
  go_loopw [1, 5] (fun n i wr => ∃ k : Nat, k ≤ xs.length ∧ i = .int .i64 k ∧ n = .int .i64 (k + 1) ∧ MarkedAt .i64 wr b k ∧ (∀ j, k ≤ j → j < xs.length → wr.cell? ⟨b, j, none⟩ = some (.int .i64 (xs.getD j 0))) ∧ (∀ j, wr.frozen? ⟨b, j, none⟩ = false) ∧ Only b w wr) (fun _ i _ => xs.length - (intOf i).toNat)
  case atStart => exact ⟨0, Nat.zero_le _, rfl, by simp, fun j h => absurd h (by omega), fun j _ h => by have := hc j h; rwa [Nat.zero_add] at this, hf, Only.refl _ _⟩
  case round =>
    obtain ⟨k, hk, rfl, rfl, hm, hr, hf, hB⟩ := hrel
    by_cases hlt : k < xs.length
    · have h2 := hr k (Nat.le_refl _) hlt
      have h3 := hf k
      have Hs := Lib.hid (show ∀ v : Value, v = .int .i64 (marked .i64 k) → MarkedAt .i64 (wr.setCell ⟨b, k, none⟩ v) b (k + 1) ∧ (∀ j, k + 1 ≤ j → j < xs.length → (wr.setCell ⟨b, k, none⟩ v).cell? ⟨b, j, none⟩ = some (.int .i64 (xs.getD j 0))) ∧ (∀ j, (wr.setCell ⟨b, k, none⟩ v).frozen? ⟨b, j, none⟩ = false) from fun v hv => by
        refine ⟨fun j hj => ?_, fun j h1 h4 => ?_, fun j => (World.frozen?_setCell _ _ _ _).trans (hf j)⟩
        · by_cases e : j = k
          · subst e; rw [hv]; exact World.cell?_setCell_same _ _ _ h2
          · exact (World.cell?_setCell_other _ _ _ _ (by simp)).trans (hm j (by omega))
        · exact (World.cell?_setCell_other _ _ _ _ (by simp)).trans (hr j (by omega) h4))
      clear hr hf hm
      go_wp2
      go_roundw
      case rel =>
        refine ⟨k + 1, by omega, by go_num, by go_num, (Hs.out _ ?_).1, (Hs.out _ ?_).2.1, (Hs.out _ ?_).2.2, hB.setCell _ _⟩ <;> first | rfl | (rw [marked_def]; done) | (rw [marked_def, IntWalk.i64_in _ (by omega)])
      case measure => simp [intOf]; omega
    · have HK := Lib.hid (show k = xs.length by omega)
      go_wp2
      go_ret
      exact ⟨reti (by rw [HK.out]), fun j hj => hm j (by omega), hB⟩

theorem heldInt64S_own (b c n : Nat) (w : World) (hn : n ≤ 1048576) (hm : MarkedAt .i64 w b n) :
    Calls Try.prog 30 #[.slice (some ⟨b, 0, none⟩) n c, .int .i64 1] w fun e w' => e = .returned (.int .i64 (n + 1)) ∧ w = w' := by
  go_enter Try.func30, Try.ntmps30
  go_wp2
  go_loop [1, 5] (fun q i => ∃ k : Nat, k ≤ n ∧ i = .int .i64 k ∧ q = .int .i64 (k + 1)) (fun _ i => n - (intOf i).toNat)
  case atStart => exact ⟨0, Nat.zero_le _, rfl, by simp⟩
  case round =>
    obtain ⟨k, hk, rfl, rfl⟩ := hrel
    by_cases hlt : k < n
    · have h2 := hm k hlt
      simp only [marked_def] at h2
      go_wp2
      go_round
      case rel => exact ⟨k + 1, by omega, by go_num, by go_num⟩
      case measure => simp [intOf]; omega
    · go_wp2
      go_ret
      exact ⟨reti (by omega), rfl⟩

end Go.Proofs.Ytjmgalmndpjcoaa
