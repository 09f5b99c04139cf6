/-
  Basis of the proofs: lists of numbers in memory, sums, and the small helpers of the laws (copying, comparing, marking).
-/
import Derived.Test.YtgadcggeoonihaaDoorProg
import Derived.WalkKit
import Derived.Deep.OwnRows
import Derived.Deep.QuietTactic
import Derived.BigQuiet
import Derived.WalkLawsBesides
import Derived.WalkSpells
import Derived.IntWalk
import Derived.Lib.Hide
import Derived.Outline
namespace Go.Proofs.YtgadcggeoonihaaDoor
open Go.RowKit

/-- The cells from 'off' on in block b hold these numbers. -/
def At (k : IntKind) (w : World) (b off : Nat) (xs : List Int) : Prop := ∀ j, j < xs.length → w.cell? ⟨b, off + j, none⟩ = some (.int k (xs.getD j 0))
/-- Block b is a row of its own with these numbers. -/
def RowOf (k : IntKind) (t : TypeId) (w : World) (b : Nat) (xs : List Int) : Prop := w.rowIs b t xs.length (fun j => .int k (xs.getD j 0))
theorem RowOf.at {k : IntKind} {t : TypeId} {w : World} {b : Nat} {xs : List Int} (h : RowOf k t w b xs) : At k w b 0 xs := fun j hj => by
  have := World.rowIs.cell h hj
  simpa using this
theorem RowOf.lt {k : IntKind} {t : TypeId} {w : World} {b : Nat} {xs : List Int} (h : RowOf k t w b xs) : b < w.heap.size := World.rowIs.lt h
theorem RowOf.below {k : IntKind} {t : TypeId} {w w' : World} {b B : Nat} {xs : List Int} (h : RowOf k t w b xs) (hb : Below B w w') (hB : b < B) : RowOf k t w' b xs := World.rowIs.of_block h (hb.block b hB)
theorem At.below {k : IntKind} {w w' : World} {b off B : Nat} {xs : List Int} (h : At k w b off xs) (hb : Below B w w') (hB : b < B) : At k w' b off xs := fun j hj => (hb.cell (p := ⟨b, off + j, none⟩) hB).trans (h j hj)
/-- The call has only drawn. -/
def Dr (w w' : World) : Prop := ∃ q, w' = w.drewN q
theorem Dr.refl (w : World) : Dr w w := ⟨0, rfl⟩
theorem Dr.of (w : World) (q : Nat) : Dr w (w.drewN q) := ⟨q, rfl⟩
theorem Dr.below {w w' : World} (h : Dr w w') : Below w.heap.size w w' := by obtain ⟨q, rfl⟩ := h; exact below_drewN (Below.refl _ _) q
theorem retb {a b : Bool} (h : a = b) : Ending.returned (.bool a) = .returned (.bool b) := by rw [h]
theorem reti {k : IntKind} {a b : Int} (h : a = b) : Ending.returned (.int k a) = .returned (.int k b) := by rw [h]
theorem ret2 {k : IntKind} {a b : Int} {v u : Value} (h : a = b) (h2 : v = u) : Ending.returned (.tuple #[.int k a, v]) = .returned (.tuple #[.int k b, u]) := by rw [h, h2]
theorem take_getD (xs : List Int) (k : Nat) (hk : k < xs.length) : xs.take (k + 1) = xs.take k ++ [xs.getD k 0] := by
  rw [List.take_add_one, List.getElem?_eq_getElem hk]; simp [List.getD_eq_getElem?_getD, List.getElem?_eq_getElem hk]


theorem Tryd.info_toPlacing : (Tryd.prog.info? 22).map (fun i => (i.zero, i.size, i.bytes)) = some (some (.int .i8 0), 1, 1) := by kernel_rfl
theorem Tryd.info_toInt8S : (Tryd.prog.info? 22).map (fun i => (i.zero, i.size, i.bytes)) = some (some (.int .i8 0), 1, 1) := by kernel_rfl
theorem Tryd.info_toUint16S : (Tryd.prog.info? 44).map (fun i => (i.zero, i.size, i.bytes)) = some (some (.int .u16 0), 1, 2) := by kernel_rfl
theorem toUint16S_some (b off c : Nat) (xs : List Int) (w : World) (hn : xs.length ≤ 1048576) (hb : b < w.heap.size) (hc : At .u16 w b off xs) :
    Calls Tryd.prog 17 #[.slice (some ⟨b, off, none⟩) xs.length c] w fun e w' => e = .returned (.slice (some ⟨w.heap.size, 0, none⟩) xs.length xs.length) ∧ RowOf .u16 44 w' w.heap.size xs ∧ Below w.heap.size w w' := by
  have hmk := run_make_row' (P := Tryd.prog) 23 44 (.int .u16 0) 2 Tryd.underlying23 Tryd.info_toUint16S rfl .i64 .i64 xs.length (by omega) (by omega)
  go_enter Tryd.func17, Tryd.ntmps17
  go_wp2
  clear hmk
  go_loopw [4] (fun i wr => ∃ k : Nat, k ≤ xs.length ∧ i = .int .i64 k ∧ wr.rowIs w.heap.size 44 xs.length (fun j => if j < k then .int .u16 (xs.getD j 0) else .int .u16 0) ∧ Below w.heap.size w wr) (fun i _ => xs.length - (intOf i).toNat)
  case atStart =>
    refine ⟨0, Nat.zero_le _, rfl, ?_, (Below.refl _ _).alloc (Nat.le_refl _) _⟩
    simpa using World.rowIs_made w (.int .u16 0) xs.length 44
  case round =>
    obtain ⟨k, hk, rfl, hr, hB⟩ := hrel
    have h1 : k < xs.length → wr.cell? ⟨b, off + k, none⟩ = some (.int .u16 (xs.getD k 0)) := fun h => (hB.cell (by exact hb)).trans (hc k h)
    have h2 : k < xs.length → wr.cell? ⟨w.heap.size, k, none⟩ = some (.int .u16 0) := fun h => by simpa using hr.cell h
    have h3 : wr.frozen? ⟨w.heap.size, k, none⟩ = false := hr.frozen k
    go_wp2
    · go_roundw
      case rel =>
        refine ⟨k + 1, by omega, by go_num, (hr.set k _).congr ?_, hB.setCell (Nat.le_refl _) _⟩
        intro i hi
        by_cases e : i = k
        · subst e; simp [hi]
        · by_cases e2 : i < k
          · simp [e, e2, Nat.lt_succ_of_lt e2]
          · simp [e, e2, show ¬ i < k + 1 by omega]
      case measure => simp [intOf]; omega
    · have : k = xs.length := by omega
      go_ret
      refine ⟨rfl, hr.congr ?_, hB⟩
      intro i hi
      simp [this, hi]
theorem toUint16S_nil (a : Option Addr) (c : Nat) (w : World) :
    Calls Tryd.prog 17 #[.slice a 0 c] w fun e w' => e = .returned (.slice (some ⟨w.heap.size, 0, none⟩) 0 0) ∧ RowOf .u16 44 w' w.heap.size [] ∧ Below w.heap.size w w' := by
  have hmk : ∀ w, (Instr.makeSlice 23 (.int .i64 0) (.int .i64 0)).run Tryd.prog w = .ok (.slice (some ⟨w.heap.size, 0, none⟩) 0 0) (w.alloc (.cells #[] 44)) := fun _ => by kernel_rfl
  go_enter Tryd.func17, Tryd.ntmps17
  go_wp2
  refine wp_loop_rounds 1 ?_
  rw [rounds_succ]
  go_wp2
  go_ret
  refine ⟨rfl, ?_, (Below.refl _ _).alloc (Nat.le_refl _) _⟩
  exact World.rowIs_alloc w #[] 44 _ (fun i hi => by simp at hi)

theorem Tryd.info_toByteS : (Tryd.prog.info? 5).map (fun i => (i.zero, i.size, i.bytes)) = some (some (.int .u8 0), 1, 1) := by kernel_rfl
theorem eqUint16S_empty (a a' : Option Addr) (c c' : Nat) (w : World) :
    Calls Tryd.prog 22 #[.slice a 0 c, .slice a' 0 c'] w fun e w' => e = .returned (.bool true) ∧ Dr w w' := by
  go_enter Tryd.func22, Tryd.ntmps22
  go_wp2
  refine wp_loop_rounds 1 ?_
  rw [rounds_succ]
  go_wp2
  go_ret
  exact ⟨rfl, Dr.refl _⟩
theorem eqUint16S_same (b off c b' off' c' : Nat) (xs : List Int) (w : World) (hn : xs.length ≤ 1048576) (hc : At .u16 w b off xs) (hc' : At .u16 w b' off' xs) :
    Calls Tryd.prog 22 #[.slice (some ⟨b, off, none⟩) xs.length c, .slice (some ⟨b', off', none⟩) xs.length c'] w fun e w' => e = .returned (.bool true) ∧ Dr w w' := by
  go_enter Tryd.func22, Tryd.ntmps22
  go_wp2
  go_loopw [5] (fun i wr => ∃ k : Nat, k ≤ xs.length ∧ i = .int .i64 k ∧ ∃ q, wr = w.drewN q) (fun i _ => xs.length - (intOf i).toNat)
  case atStart => exact ⟨0, Nat.zero_le _, rfl, 0, rfl⟩
  case round =>
    obtain ⟨k, hk, rfl, q, rfl⟩ := hrel
    by_cases hlt : k < xs.length
    · have h1 := hc k hlt
      have h2 := hc' k hlt
      obtain ⟨x, hx⟩ : ∃ x, x = xs.getD k 0 := ⟨_, rfl⟩
      rw [← hx] at h1 h2
      clear hx
      go_wp2
      go_quiet (fail)
      go_wp2
      go_roundw
      case rel => exact ⟨k + 1, by omega, by go_num, _, rfl⟩
      case measure => simp [intOf]; omega
    · go_wp2
      go_ret
      exact ⟨rfl, Dr.of _ _⟩

/-- What the laws write into the place j. -/
def marked (k : IntKind) (j : Nat) : Int := k.wrap ((j : Int) + 1)
theorem marked_def (k : IntKind) (j : Nat) : marked k j = k.wrap ((j : Int) + 1) := rfl
/-- Nothing has changed but block b. -/
structure Only (b : Nat) (w w' : World) : Prop where
  os : w'.os = w.os
  tape : w'.tape = w.tape
  output : w'.output = w.output
  size : w'.heap.size = w.heap.size
  block : ∀ k, k ≠ b → w'.heap[k]? = w.heap[k]?
theorem Only.refl (b : Nat) (w : World) : Only b w w := ⟨rfl, rfl, rfl, rfl, fun _ _ => rfl⟩
theorem Only.setCell {b : Nat} {w w' : World} (h : Only b w w') (o : Nat) (v : Value) : Only b w (w'.setCell ⟨b, o, none⟩ v) :=
  ⟨h.os, h.tape, h.output, by rw [← h.size]; simp, fun k hk => (Below.heap_setCell w' ⟨b, o, none⟩ v k hk).trans (h.block k hk)⟩
theorem Only.below {b B : Nat} {a w w' : World} (hb : Below B a w) (h : Only b w w') (hB : B ≤ b) : Below B a w' :=
  hb.trans ⟨h.os, h.tape, h.output, by rw [h.size]; exact Nat.le_refl _, fun k hk => h.block k (by omega)⟩
theorem Only.rowOf {b : Nat} {w w' : World} (h : Only b w w') {k : IntKind} {t : TypeId} {b' : Nat} {xs : List Int} (hr : RowOf k t w b' xs) (hne : b' ≠ b) : RowOf k t w' b' xs := World.rowIs.of_block hr (h.block b' hne)
theorem Only.at {b : Nat} {w w' : World} (h : Only b w w') {k : IntKind} {b' off : Nat} {xs : List Int} (hr : At k w b' off xs) (hne : b' ≠ b) : At k w' b' off xs := fun j hj => (World.cell?_of_block (w := w) (a := ⟨b', off + j, none⟩) (h.block b' hne)).trans (hr j hj)

theorem markUint16S_row (b c : Nat) (xs : List Int) (w : World) (hn : xs.length ≤ 1048576) (hr : RowOf .u16 44 w b xs) :
    Calls Tryd.prog 29 #[.slice (some ⟨b, 0, none⟩) xs.length c, .int .i64 1] w fun e w' => e = .returned (.int .i64 (xs.length + 1)) ∧ w'.rowIs b 44 xs.length (fun j => .int .u16 (marked .u16 j)) ∧ Only b w w' := by
  go_enter Tryd.func29, Tryd.ntmps29
  go_wp2
  go_loopw [1, 5] (fun n i wr => ∃ k : Nat, k ≤ xs.length ∧ i = .int .i64 k ∧ n = .int .i64 (k + 1) ∧ wr.rowIs b 44 xs.length (fun j => if j < k then .int .u16 (marked .u16 j) else .int .u16 (xs.getD j 0)) ∧ Only b w wr) (fun _ i _ => xs.length - (intOf i).toNat)
  case atStart => exact ⟨0, Nat.zero_le _, rfl, by simp, (World.rowIs.congr hr (fun i _ => by simp)), Only.refl _ _⟩
  case round =>
    obtain ⟨k, hk, rfl, rfl, hr, hB⟩ := hrel
    have h2 : k < xs.length → wr.cell? ⟨b, k, none⟩ = some (.int .u16 (xs.getD k 0)) := fun h => by simpa using hr.cell h
    have h3 : wr.frozen? ⟨b, k, none⟩ = false := hr.frozen k
    go_wp2
    · go_roundw
      case rel =>
        refine ⟨k + 1, by omega, by go_num, by go_num, (hr.set k _).congr ?_, hB.setCell _ _⟩
        intro i hi
        by_cases e : i = k
        · subst e; simp [marked_def]
        · by_cases e2 : i < k
          · simp [e, e2, Nat.lt_succ_of_lt e2]
          · simp [e, e2, show ¬ i < k + 1 by omega]
      case measure => simp [intOf]; omega
    · have : k = xs.length := by omega
      go_ret
      refine ⟨reti (by rw [this]), hr.congr ?_, hB⟩
      intro i hi
      simp [this, hi]
theorem markUint16S_nil (a : Option Addr) (c : Nat) (w : World) :
    Calls Tryd.prog 29 #[.slice a 0 c, .int .i64 1] w fun e w' => e = .returned (.int .i64 1) ∧ w = w' := by
  go_enter Tryd.func29, Tryd.ntmps29
  go_wp2
  refine wp_loop_rounds 1 ?_
  rw [rounds_succ]
  go_wp2
  go_ret
  exact ⟨rfl, rfl⟩

theorem heldUint16S_row (b c n : Nat) (w : World) (hn : n ≤ 1048576) (hr : w.rowIs b 44 n (fun j => .int .u16 (marked .u16 j))) :
    Calls Tryd.prog 30 #[.slice (some ⟨b, 0, none⟩) n c, .int .i64 1] w fun e w' => e = .returned (.int .i64 (n + 1)) ∧ w = w' := by
  go_enter Tryd.func30, Tryd.ntmps30
  go_wp2
  go_loop [1, 5] (fun q i => ∃ k : Nat, k ≤ n ∧ i = .int .i64 k ∧ q = .int .i64 (k + 1)) (fun _ i => n - (intOf i).toNat)
  case atStart => exact ⟨0, Nat.zero_le _, rfl, by simp⟩
  case round =>
    obtain ⟨k, hk, rfl, rfl⟩ := hrel
    by_cases hlt : k < n
    · have h2 : w.cell? ⟨b, k, none⟩ = some (.int .u16 (marked .u16 k)) := by simpa using hr.cell hlt
      simp only [marked_def] at h2
      go_wp2
      go_round
      case rel => exact ⟨k + 1, by omega, by go_num, by go_num⟩
      case measure => simp [intOf]; omega
    · go_wp2
      go_ret
      exact ⟨reti (by omega), rfl⟩
theorem heldUint16S_nil (a : Option Addr) (c : Nat) (w : World) :
    Calls Tryd.prog 30 #[.slice a 0 c, .int .i64 1] w fun e w' => e = .returned (.int .i64 1) ∧ w = w' := by
  go_enter Tryd.func30, Tryd.ntmps30
  go_wp2
  refine wp_loop_rounds 1 ?_
  rw [rounds_succ]
  go_wp2
  go_ret
  exact ⟨rfl, rfl⟩

end Go.Proofs.YtgadcggeoonihaaDoor
