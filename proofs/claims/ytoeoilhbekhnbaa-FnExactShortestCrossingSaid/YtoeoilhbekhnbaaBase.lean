/-
  Basis of the proofs: lists of numbers in memory, sums, and the small helpers of the laws (copying, comparing, marking).
-/
import Derived.Test.YtoeoilhbekhnbaaProg
import Derived.WalkKit
import Derived.Deep.OwnRows
import Derived.Deep.QuietTactic
import Derived.BigQuiet
import Derived.WalkLawsBesides
import Derived.WalkSpells
import Derived.IntWalk
import Derived.Lib.Hide
import Derived.Outline
namespace Go.Proofs.Ytoeoilhbekhnbaa
open Go.RowKit

/-- The cells from 'off' on in block b hold these numbers. -/
def At (k : IntKind) (w : World) (b off : Nat) (xs : List Int) : Prop := ∀ j, j < xs.length → w.cell? ⟨b, off + j, none⟩ = some (.int k (xs.getD j 0))
/-- Block b is a row of its own with these numbers. -/
def RowOf (k : IntKind) (t : TypeId) (w : World) (b : Nat) (xs : List Int) : Prop := w.rowIs b t xs.length (fun j => .int k (xs.getD j 0))
theorem RowOf.at {k : IntKind} {t : TypeId} {w : World} {b : Nat} {xs : List Int} (h : RowOf k t w b xs) : At k w b 0 xs := fun j hj => by
  have := World.rowIs.cell h hj
  simpa using this
theorem RowOf.lt {k : IntKind} {t : TypeId} {w : World} {b : Nat} {xs : List Int} (h : RowOf k t w b xs) : b < w.heap.size := World.rowIs.lt h
theorem RowOf.below {k : IntKind} {t : TypeId} {w w' : World} {b B : Nat} {xs : List Int} (h : RowOf k t w b xs) (hb : Below B w w') (hB : b < B) : RowOf k t w' b xs := World.rowIs.of_block h (hb.block b hB)
theorem At.below {k : IntKind} {w w' : World} {b off B : Nat} {xs : List Int} (h : At k w b off xs) (hb : Below B w w') (hB : b < B) : At k w' b off xs := fun j hj => (hb.cell (p := ⟨b, off + j, none⟩) hB).trans (h j hj)
/-- The call has only drawn. -/
def Dr (w w' : World) : Prop := ∃ q, w' = w.drewN q
theorem Dr.refl (w : World) : Dr w w := ⟨0, rfl⟩
theorem Dr.of (w : World) (q : Nat) : Dr w (w.drewN q) := ⟨q, rfl⟩
theorem Dr.below {w w' : World} (h : Dr w w') : Below w.heap.size w w' := by obtain ⟨q, rfl⟩ := h; exact below_drewN (Below.refl _ _) q
theorem retb {a b : Bool} (h : a = b) : Ending.returned (.bool a) = .returned (.bool b) := by rw [h]
theorem reti {k : IntKind} {a b : Int} (h : a = b) : Ending.returned (.int k a) = .returned (.int k b) := by rw [h]
theorem ret2 {k : IntKind} {a b : Int} {v u : Value} (h : a = b) (h2 : v = u) : Ending.returned (.tuple #[.int k a, v]) = .returned (.tuple #[.int k b, u]) := by rw [h, h2]
theorem take_getD (xs : List Int) (k : Nat) (hk : k < xs.length) : xs.take (k + 1) = xs.take k ++ [xs.getD k 0] := by
  rw [List.take_add_one, List.getElem?_eq_getElem hk]; simp [List.getD_eq_getElem?_getD, List.getElem?_eq_getElem hk]


theorem Try.info_toWeights : (Try.prog.info? 58).map (fun i => (i.zero, i.size, i.bytes)) = some (some (.int .i16 0), 1, 2) := by kernel_rfl
theorem Try.info_toPlacing : (Try.prog.info? 22).map (fun i => (i.zero, i.size, i.bytes)) = some (some (.int .i8 0), 1, 1) := by kernel_rfl
theorem Try.info_toInt16S : (Try.prog.info? 58).map (fun i => (i.zero, i.size, i.bytes)) = some (some (.int .i16 0), 1, 2) := by kernel_rfl
theorem toInt16S_some (b off c : Nat) (xs : List Int) (w : World) (hn : xs.length ≤ 1048576) (hb : b < w.heap.size) (hc : At .i16 w b off xs) :
    Calls Try.prog 28 #[.slice (some ⟨b, off, none⟩) xs.length c] w fun e w' => e = .returned (.slice (some ⟨w.heap.size, 0, none⟩) xs.length xs.length) ∧ RowOf .i16 58 w' w.heap.size xs ∧ Below w.heap.size w w' := by
  have hmk := run_make_row' (P := Try.prog) 27 58 (.int .i16 0) 2 Try.underlying27 Try.info_toInt16S rfl .i64 .i64 xs.length (by omega) (by omega)
  go_enter Try.func28, Try.ntmps28
  go_wp2
  clear hmk
  go_loopw [4] (fun i wr => ∃ k : Nat, k ≤ xs.length ∧ i = .int .i64 k ∧ wr.rowIs w.heap.size 58 xs.length (fun j => if j < k then .int .i16 (xs.getD j 0) else .int .i16 0) ∧ Below w.heap.size w wr) (fun i _ => xs.length - (intOf i).toNat)
  case atStart =>
    refine ⟨0, Nat.zero_le _, rfl, ?_, (Below.refl _ _).alloc (Nat.le_refl _) _⟩
    simpa using World.rowIs_made w (.int .i16 0) xs.length 58
  case round =>
    obtain ⟨k, hk, rfl, hr, hB⟩ := hrel
    have h1 : k < xs.length → wr.cell? ⟨b, off + k, none⟩ = some (.int .i16 (xs.getD k 0)) := fun h => (hB.cell (by exact hb)).trans (hc k h)
    have h2 : k < xs.length → wr.cell? ⟨w.heap.size, k, none⟩ = some (.int .i16 0) := fun h => by simpa using hr.cell h
    have h3 : wr.frozen? ⟨w.heap.size, k, none⟩ = false := hr.frozen k
    go_wp2
    · go_roundw
      case rel =>
        refine ⟨k + 1, by omega, by go_num, (hr.set k _).congr ?_, hB.setCell (Nat.le_refl _) _⟩
        intro i hi
        by_cases e : i = k
        · subst e; simp [hi]
        · by_cases e2 : i < k
          · simp [e, e2, Nat.lt_succ_of_lt e2]
          · simp [e, e2, show ¬ i < k + 1 by omega]
      case measure => simp [intOf]; omega
    · have : k = xs.length := by omega
      go_ret
      refine ⟨rfl, hr.congr ?_, hB⟩
      intro i hi
      simp [this, hi]
theorem toInt16S_nil (a : Option Addr) (c : Nat) (w : World) :
    Calls Try.prog 28 #[.slice a 0 c] w fun e w' => e = .returned (.slice (some ⟨w.heap.size, 0, none⟩) 0 0) ∧ RowOf .i16 58 w' w.heap.size [] ∧ Below w.heap.size w w' := by
  have hmk : ∀ w, (Instr.makeSlice 27 (.int .i64 0) (.int .i64 0)).run Try.prog w = .ok (.slice (some ⟨w.heap.size, 0, none⟩) 0 0) (w.alloc (.cells #[] 58)) := fun _ => by kernel_rfl
  go_enter Try.func28, Try.ntmps28
  go_wp2
  refine wp_loop_rounds 1 ?_
  rw [rounds_succ]
  go_wp2
  go_ret
  refine ⟨rfl, ?_, (Below.refl _ _).alloc (Nat.le_refl _) _⟩
  exact World.rowIs_alloc w #[] 58 _ (fun i hi => by simp at hi)

theorem Try.info_toInt8S : (Try.prog.info? 22).map (fun i => (i.zero, i.size, i.bytes)) = some (some (.int .i8 0), 1, 1) := by kernel_rfl
theorem Try.info_toUint16S : (Try.prog.info? 62).map (fun i => (i.zero, i.size, i.bytes)) = some (some (.int .u16 0), 1, 2) := by kernel_rfl
theorem toUint16S_some (b off c : Nat) (xs : List Int) (w : World) (hn : xs.length ≤ 1048576) (hb : b < w.heap.size) (hc : At .u16 w b off xs) :
    Calls Try.prog 35 #[.slice (some ⟨b, off, none⟩) xs.length c] w fun e w' => e = .returned (.slice (some ⟨w.heap.size, 0, none⟩) xs.length xs.length) ∧ RowOf .u16 62 w' w.heap.size xs ∧ Below w.heap.size w w' := by
  have hmk := run_make_row' (P := Try.prog) 23 62 (.int .u16 0) 2 Try.underlying23 Try.info_toUint16S rfl .i64 .i64 xs.length (by omega) (by omega)
  go_enter Try.func35, Try.ntmps35
  go_wp2
  clear hmk
  go_loopw [4] (fun i wr => ∃ k : Nat, k ≤ xs.length ∧ i = .int .i64 k ∧ wr.rowIs w.heap.size 62 xs.length (fun j => if j < k then .int .u16 (xs.getD j 0) else .int .u16 0) ∧ Below w.heap.size w wr) (fun i _ => xs.length - (intOf i).toNat)
  case atStart =>
    refine ⟨0, Nat.zero_le _, rfl, ?_, (Below.refl _ _).alloc (Nat.le_refl _) _⟩
    simpa using World.rowIs_made w (.int .u16 0) xs.length 62
  case round =>
    obtain ⟨k, hk, rfl, hr, hB⟩ := hrel
    have h1 : k < xs.length → wr.cell? ⟨b, off + k, none⟩ = some (.int .u16 (xs.getD k 0)) := fun h => (hB.cell (by exact hb)).trans (hc k h)
    have h2 : k < xs.length → wr.cell? ⟨w.heap.size, k, none⟩ = some (.int .u16 0) := fun h => by simpa using hr.cell h
    have h3 : wr.frozen? ⟨w.heap.size, k, none⟩ = false := hr.frozen k
    go_wp2
    · go_roundw
      case rel =>
        refine ⟨k + 1, by omega, by go_num, (hr.set k _).congr ?_, hB.setCell (Nat.le_refl _) _⟩
        intro i hi
        by_cases e : i = k
        · subst e; simp [hi]
        · by_cases e2 : i < k
          · simp [e, e2, Nat.lt_succ_of_lt e2]
          · simp [e, e2, show ¬ i < k + 1 by omega]
      case measure => simp [intOf]; omega
    · have : k = xs.length := by omega
      go_ret
      refine ⟨rfl, hr.congr ?_, hB⟩
      intro i hi
      simp [this, hi]
theorem toUint16S_nil (a : Option Addr) (c : Nat) (w : World) :
    Calls Try.prog 35 #[.slice a 0 c] w fun e w' => e = .returned (.slice (some ⟨w.heap.size, 0, none⟩) 0 0) ∧ RowOf .u16 62 w' w.heap.size [] ∧ Below w.heap.size w w' := by
  have hmk : ∀ w, (Instr.makeSlice 23 (.int .i64 0) (.int .i64 0)).run Try.prog w = .ok (.slice (some ⟨w.heap.size, 0, none⟩) 0 0) (w.alloc (.cells #[] 62)) := fun _ => by kernel_rfl
  go_enter Try.func35, Try.ntmps35
  go_wp2
  refine wp_loop_rounds 1 ?_
  rw [rounds_succ]
  go_wp2
  go_ret
  refine ⟨rfl, ?_, (Below.refl _ _).alloc (Nat.le_refl _) _⟩
  exact World.rowIs_alloc w #[] 62 _ (fun i hi => by simp at hi)

theorem Try.info_toGlasses : (Try.prog.info? 58).map (fun i => (i.zero, i.size, i.bytes)) = some (some (.int .i16 0), 1, 2) := by kernel_rfl
theorem Try.info_toByteS : (Try.prog.info? 5).map (fun i => (i.zero, i.size, i.bytes)) = some (some (.int .u8 0), 1, 1) := by kernel_rfl
theorem eqUint16S_empty (a a' : Option Addr) (c c' : Nat) (w : World) :
    Calls Try.prog 20 #[.slice a 0 c, .slice a' 0 c'] w fun e w' => e = .returned (.bool true) ∧ Dr w w' := by
  go_enter Try.func20, Try.ntmps20
  go_wp2
  refine wp_loop_rounds 1 ?_
  rw [rounds_succ]
  go_wp2
  go_ret
  exact ⟨rfl, Dr.refl _⟩
theorem eqUint16S_same (b off c b' off' c' : Nat) (xs : List Int) (w : World) (hn : xs.length ≤ 1048576) (hc : At .u16 w b off xs) (hc' : At .u16 w b' off' xs) :
    Calls Try.prog 20 #[.slice (some ⟨b, off, none⟩) xs.length c, .slice (some ⟨b', off', none⟩) xs.length c'] w fun e w' => e = .returned (.bool true) ∧ Dr w w' := by
  go_enter Try.func20, Try.ntmps20
  go_wp2
  go_loopw [5] (fun i wr => ∃ k : Nat, k ≤ xs.length ∧ i = .int .i64 k ∧ ∃ q, wr = w.drewN q) (fun i _ => xs.length - (intOf i).toNat)
  case atStart => exact ⟨0, Nat.zero_le _, rfl, 0, rfl⟩
  case round =>
    obtain ⟨k, hk, rfl, q, rfl⟩ := hrel
    by_cases hlt : k < xs.length
    · have h1 := hc k hlt
      have h2 := hc' k hlt
      obtain ⟨x, hx⟩ : ∃ x, x = xs.getD k 0 := ⟨_, rfl⟩
      rw [← hx] at h1 h2
      clear hx
      go_wp2
      go_quiet (fail)
      go_wp2
      go_roundw
      case rel => exact ⟨k + 1, by omega, by go_num, _, rfl⟩
      case measure => simp [intOf]; omega
    · go_wp2
      go_ret
      exact ⟨rfl, Dr.of _ _⟩

theorem eqInt16S_empty (a a' : Option Addr) (c c' : Nat) (w : World) :
    Calls Try.prog 13 #[.slice a 0 c, .slice a' 0 c'] w fun e w' => e = .returned (.bool true) ∧ Dr w w' := by
  go_enter Try.func13, Try.ntmps13
  go_wp2
  refine wp_loop_rounds 1 ?_
  rw [rounds_succ]
  go_wp2
  go_ret
  exact ⟨rfl, Dr.refl _⟩
theorem eqInt16S_same (b off c b' off' c' : Nat) (xs : List Int) (w : World) (hn : xs.length ≤ 1048576) (hc : At .i16 w b off xs) (hc' : At .i16 w b' off' xs) :
    Calls Try.prog 13 #[.slice (some ⟨b, off, none⟩) xs.length c, .slice (some ⟨b', off', none⟩) xs.length c'] w fun e w' => e = .returned (.bool true) ∧ Dr w w' := by
  go_enter Try.func13, Try.ntmps13
  go_wp2
  go_loopw [5] (fun i wr => ∃ k : Nat, k ≤ xs.length ∧ i = .int .i64 k ∧ ∃ q, wr = w.drewN q) (fun i _ => xs.length - (intOf i).toNat)
  case atStart => exact ⟨0, Nat.zero_le _, rfl, 0, rfl⟩
  case round =>
    obtain ⟨k, hk, rfl, q, rfl⟩ := hrel
    by_cases hlt : k < xs.length
    · have h1 := hc k hlt
      have h2 := hc' k hlt
      obtain ⟨x, hx⟩ : ∃ x, x = xs.getD k 0 := ⟨_, rfl⟩
      rw [← hx] at h1 h2
      clear hx
      go_wp2
      go_quiet (fail)
      go_wp2
      go_roundw
      case rel => exact ⟨k + 1, by omega, by go_num, _, rfl⟩
      case measure => simp [intOf]; omega
    · go_wp2
      go_ret
      exact ⟨rfl, Dr.of _ _⟩

/-- What the laws write into the place j. -/
def marked (k : IntKind) (j : Nat) : Int := k.wrap ((j : Int) + 1)
theorem marked_def (k : IntKind) (j : Nat) : marked k j = k.wrap ((j : Int) + 1) := rfl
/-- Nothing has changed but block b. -/
structure Only (b : Nat) (w w' : World) : Prop where
  os : w'.os = w.os
  tape : w'.tape = w.tape
  output : w'.output = w.output
  size : w'.heap.size = w.heap.size
  block : ∀ k, k ≠ b → w'.heap[k]? = w.heap[k]?
theorem Only.refl (b : Nat) (w : World) : Only b w w := ⟨rfl, rfl, rfl, rfl, fun _ _ => rfl⟩
theorem Only.setCell {b : Nat} {w w' : World} (h : Only b w w') (o : Nat) (v : Value) : Only b w (w'.setCell ⟨b, o, none⟩ v) :=
  ⟨h.os, h.tape, h.output, by rw [← h.size]; simp, fun k hk => (Below.heap_setCell w' ⟨b, o, none⟩ v k hk).trans (h.block k hk)⟩
theorem Only.below {b B : Nat} {a w w' : World} (hb : Below B a w) (h : Only b w w') (hB : B ≤ b) : Below B a w' :=
  hb.trans ⟨h.os, h.tape, h.output, by rw [h.size]; exact Nat.le_refl _, fun k hk => h.block k (by omega)⟩
theorem Only.rowOf {b : Nat} {w w' : World} (h : Only b w w') {k : IntKind} {t : TypeId} {b' : Nat} {xs : List Int} (hr : RowOf k t w b' xs) (hne : b' ≠ b) : RowOf k t w' b' xs := World.rowIs.of_block hr (h.block b' hne)
theorem Only.at {b : Nat} {w w' : World} (h : Only b w w') {k : IntKind} {b' off : Nat} {xs : List Int} (hr : At k w b' off xs) (hne : b' ≠ b) : At k w' b' off xs := fun j hj => (World.cell?_of_block (w := w) (a := ⟨b', off + j, none⟩) (h.block b' hne)).trans (hr j hj)

theorem markUint16S_row (b c : Nat) (xs : List Int) (w : World) (hn : xs.length ≤ 1048576) (hr : RowOf .u16 62 w b xs) :
    Calls Try.prog 21 #[.slice (some ⟨b, 0, none⟩) xs.length c, .int .i64 1] w fun e w' => e = .returned (.int .i64 (xs.length + 1)) ∧ w'.rowIs b 62 xs.length (fun j => .int .u16 (marked .u16 j)) ∧ Only b w w' := by
  go_enter Try.func21, Try.ntmps21
  go_wp2
  go_loopw [1, 5] (fun n i wr => ∃ k : Nat, k ≤ xs.length ∧ i = .int .i64 k ∧ n = .int .i64 (k + 1) ∧ wr.rowIs b 62 xs.length (fun j => if j < k then .int .u16 (marked .u16 j) else .int .u16 (xs.getD j 0)) ∧ Only b w wr) (fun _ i _ => xs.length - (intOf i).toNat)
  case atStart => exact ⟨0, Nat.zero_le _, rfl, by simp, (World.rowIs.congr hr (fun i _ => by simp)), Only.refl _ _⟩
  case round =>
    obtain ⟨k, hk, rfl, rfl, hr, hB⟩ := hrel
    have h2 : k < xs.length → wr.cell? ⟨b, k, none⟩ = some (.int .u16 (xs.getD k 0)) := fun h => by simpa using hr.cell h
    have h3 : wr.frozen? ⟨b, k, none⟩ = false := hr.frozen k
    go_wp2
    · go_roundw
      case rel =>
        refine ⟨k + 1, by omega, by go_num, by go_num, (hr.set k _).congr ?_, hB.setCell _ _⟩
        intro i hi
        by_cases e : i = k
        · subst e; simp [marked_def]
        · by_cases e2 : i < k
          · simp [e, e2, Nat.lt_succ_of_lt e2]
          · simp [e, e2, show ¬ i < k + 1 by omega]
      case measure => simp [intOf]; omega
    · have : k = xs.length := by omega
      go_ret
      refine ⟨reti (by rw [this]), hr.congr ?_, hB⟩
      intro i hi
      simp [this, hi]
theorem markUint16S_nil (a : Option Addr) (c : Nat) (w : World) :
    Calls Try.prog 21 #[.slice a 0 c, .int .i64 1] w fun e w' => e = .returned (.int .i64 1) ∧ w = w' := by
  go_enter Try.func21, Try.ntmps21
  go_wp2
  refine wp_loop_rounds 1 ?_
  rw [rounds_succ]
  go_wp2
  go_ret
  exact ⟨rfl, rfl⟩

theorem markInt16S_row (b c : Nat) (xs : List Int) (w : World) (hn : xs.length ≤ 1048576) (hr : RowOf .i16 58 w b xs) :
    Calls Try.prog 16 #[.slice (some ⟨b, 0, none⟩) xs.length c, .int .i64 1] w fun e w' => e = .returned (.int .i64 (xs.length + 1)) ∧ w'.rowIs b 58 xs.length (fun j => .int .i16 (marked .i16 j)) ∧ Only b w w' := by
  go_enter Try.func16, Try.ntmps16
  go_wp2
  go_loopw [1, 5] (fun n i wr => ∃ k : Nat, k ≤ xs.length ∧ i = .int .i64 k ∧ n = .int .i64 (k + 1) ∧ wr.rowIs b 58 xs.length (fun j => if j < k then .int .i16 (marked .i16 j) else .int .i16 (xs.getD j 0)) ∧ Only b w wr) (fun _ i _ => xs.length - (intOf i).toNat)
  case atStart => exact ⟨0, Nat.zero_le _, rfl, by simp, (World.rowIs.congr hr (fun i _ => by simp)), Only.refl _ _⟩
  case round =>
    obtain ⟨k, hk, rfl, rfl, hr, hB⟩ := hrel
    have h2 : k < xs.length → wr.cell? ⟨b, k, none⟩ = some (.int .i16 (xs.getD k 0)) := fun h => by simpa using hr.cell h
    have h3 : wr.frozen? ⟨b, k, none⟩ = false := hr.frozen k
    go_wp2
    · go_roundw
      case rel =>
        refine ⟨k + 1, by omega, by go_num, by go_num, (hr.set k _).congr ?_, hB.setCell _ _⟩
        intro i hi
        by_cases e : i = k
        · subst e; simp [marked_def]
        · by_cases e2 : i < k
          · simp [e, e2, Nat.lt_succ_of_lt e2]
          · simp [e, e2, show ¬ i < k + 1 by omega]
      case measure => simp [intOf]; omega
    · have : k = xs.length := by omega
      go_ret
      refine ⟨reti (by rw [this]), hr.congr ?_, hB⟩
      intro i hi
      simp [this, hi]
theorem markInt16S_nil (a : Option Addr) (c : Nat) (w : World) :
    Calls Try.prog 16 #[.slice a 0 c, .int .i64 1] w fun e w' => e = .returned (.int .i64 1) ∧ w = w' := by
  go_enter Try.func16, Try.ntmps16
  go_wp2
  refine wp_loop_rounds 1 ?_
  rw [rounds_succ]
  go_wp2
  go_ret
  exact ⟨rfl, rfl⟩

theorem heldUint16S_row (b c n : Nat) (w : World) (hn : n ≤ 1048576) (hr : w.rowIs b 62 n (fun j => .int .u16 (marked .u16 j))) :
    Calls Try.prog 22 #[.slice (some ⟨b, 0, none⟩) n c, .int .i64 1] w fun e w' => e = .returned (.int .i64 (n + 1)) ∧ w = w' := by
  go_enter Try.func22, Try.ntmps22
  go_wp2
  go_loop [1, 5] (fun q i => ∃ k : Nat, k ≤ n ∧ i = .int .i64 k ∧ q = .int .i64 (k + 1)) (fun _ i => n - (intOf i).toNat)
  case atStart => exact ⟨0, Nat.zero_le _, rfl, by simp⟩
  case round =>
    obtain ⟨k, hk, rfl, rfl⟩ := hrel
    by_cases hlt : k < n
    · have h2 : w.cell? ⟨b, k, none⟩ = some (.int .u16 (marked .u16 k)) := by simpa using hr.cell hlt
      simp only [marked_def] at h2
      go_wp2
      go_round
      case rel => exact ⟨k + 1, by omega, by go_num, by go_num⟩
      case measure => simp [intOf]; omega
    · go_wp2
      go_ret
      exact ⟨reti (by omega), rfl⟩
theorem heldUint16S_nil (a : Option Addr) (c : Nat) (w : World) :
    Calls Try.prog 22 #[.slice a 0 c, .int .i64 1] w fun e w' => e = .returned (.int .i64 1) ∧ w = w' := by
  go_enter Try.func22, Try.ntmps22
  go_wp2
  refine wp_loop_rounds 1 ?_
  rw [rounds_succ]
  go_wp2
  go_ret
  exact ⟨rfl, rfl⟩

theorem heldInt16S_row (b c n : Nat) (w : World) (hn : n ≤ 1048576) (hr : w.rowIs b 58 n (fun j => .int .i16 (marked .i16 j))) :
    Calls Try.prog 17 #[.slice (some ⟨b, 0, none⟩) n c, .int .i64 1] w fun e w' => e = .returned (.int .i64 (n + 1)) ∧ w = w' := by
  go_enter Try.func17, Try.ntmps17
  go_wp2
  go_loop [1, 5] (fun q i => ∃ k : Nat, k ≤ n ∧ i = .int .i64 k ∧ q = .int .i64 (k + 1)) (fun _ i => n - (intOf i).toNat)
  case atStart => exact ⟨0, Nat.zero_le _, rfl, by simp⟩
  case round =>
    obtain ⟨k, hk, rfl, rfl⟩ := hrel
    by_cases hlt : k < n
    · have h2 : w.cell? ⟨b, k, none⟩ = some (.int .i16 (marked .i16 k)) := by simpa using hr.cell hlt
      simp only [marked_def] at h2
      go_wp2
      go_round
      case rel => exact ⟨k + 1, by omega, by go_num, by go_num⟩
      case measure => simp [intOf]; omega
    · go_wp2
      go_ret
      exact ⟨reti (by omega), rfl⟩
theorem heldInt16S_nil (a : Option Addr) (c : Nat) (w : World) :
    Calls Try.prog 17 #[.slice a 0 c, .int .i64 1] w fun e w' => e = .returned (.int .i64 1) ∧ w = w' := by
  go_enter Try.func17, Try.ntmps17
  go_wp2
  refine wp_loop_rounds 1 ?_
  rw [rounds_succ]
  go_wp2
  go_ret
  exact ⟨rfl, rfl⟩

end Go.Proofs.Ytoeoilhbekhnbaa
