/-
  The walks of ReadWeighing and its model.
-/
import Derived.Test.YtlbiakoofpgdmaaW1
import Derived.Test.YtlbiakoofpgdmaaRText
import Derived.Laws.CopyOwn
namespace Go.Proofs.Ytlbiakoofpgdmaa
open Go.RowKit Go.Shelf
set_option maxRecDepth 100000
set_option linter.unusedVariables false

/-- The places that a text tells. -/
def valX (s : ByteArray) (i : Nat) : Int := if h : i < s.size then valOf s[i] else 0
theorem valX_8 (s : ByteArray) : W8 (valX s) := fun i _ => by
  unfold valX
  split
  · have := valOf_bd s[i]; omega
  · omega
/-- A text that tells a weighing of p places. -/
def RwOk (c : Int) (g : Bool) (s : ByteArray) : Prop := (s.size : Int) = plI c g ∧ (∀ j (h : j < s.size), valOf s[j] ≠ -2) ∧ okGw c g (valX s) = true
noncomputable def rwB (c k : Int) (g : Bool) (s : ByteArray) : Bool := cb (OkT c k ∧ RwOk c g s)
noncomputable def rwV (c k : Int) (g : Bool) (s : ByteArray) : Nat → Int := if rwB c k g s = true then valX s else fun _ => 0
noncomputable def rwC (c k : Int) (g : Bool) (s : ByteArray) : Int := if okT c k = true then (if rwB c k g s = true then 0 else 5) else 1
theorem rw_bad {c k : Int} {g : Bool} {s : ByteArray} (h : okT c k = false) : rwV c k g s = (fun _ => 0) ∧ rwC c k g s = 1 := by
  have : rwB c k g s = false := cb_f (fun h' => by rw [show okT c k = true from cb_t h'.1] at h; simp at h)
  unfold rwV rwC
  rw [this, h]
  exact ⟨rfl, rfl⟩
theorem rw_no {c k : Int} {g : Bool} {s : ByteArray} (h : okT c k = true) (h2 : ¬ RwOk c g s) : rwV c k g s = (fun _ => 0) ∧ rwC c k g s = 5 := by
  have : rwB c k g s = false := cb_f (fun h' => h2 h'.2)
  unfold rwV rwC
  rw [this, h]
  exact ⟨rfl, rfl⟩
theorem rw_yes {c k : Int} {g : Bool} {s : ByteArray} (h : okT c k = true) (h2 : RwOk c g s) : rwV c k g s = valX s ∧ rwC c k g s = 0 := by
  have : rwB c k g s = true := cb_t ⟨of_cb h, h2⟩
  unfold rwV rwC
  rw [this, h]
  exact ⟨rfl, rfl⟩
theorem eqWeighing_same (x : Nat → Int) (w : World) :
    Calls Try.prog 27 #[weigV x, weigV x] w fun e w' => e = .returned (.bool true) ∧ Below w.heap.size w w' := by
  have F0 := ((FR.start w).box (weigC x) 34).box (weigC x) 34
  simp only [World.size_alloc] at F0
  have HF := Lib.hid F0.below
  have h1 := fun i (hi : i < 14) => Blk.weig (x := x) (F0.blk _ (List.mem_cons_of_mem _ List.mem_cons_self)) i hi
  have h2 := fun i (hi : i < 14) => Blk.weig (x := x) (F0.blk _ List.mem_cons_self) i hi
  dsimp only at h1 h2
  have HH := Lib.hid (And.intro h1 h2)
  clear F0 h1 h2
  go_enter Try.func27, Try.ntmps27
  go_wp2_with fail
  generalize (w.alloc (.cells (weigC x) 34)).alloc (.cells (weigC x) 34) = w1 at *
  go_loopw [5] (fun iv wr => ∃ i : Nat, iv = .int .i64 (i : Int) ∧ i ≤ 14 ∧ ∃ q, wr = w1.drewN q) (fun iv _ => 14 - (intOf iv).toNat)
  case atStart => exact ⟨0, rfl, by omega, 0, rfl⟩
  case round =>
    obtain ⟨i, rfl, hi, q, rfl⟩ := hrel
    by_cases hlt : i < 14
    · have hiz : (i : Int) < 14 := by omega
      have c0 := HH.out.1 i hlt
      have c1 := HH.out.2 i hlt
      generalize x i = xi at *
      go_wp2_with fail
      go_quiet (fail)
      go_wp2
      go_roundw
      case rel => exact ⟨i + 1, by go_num, by omega, _, rfl⟩
      case measure => simp [intOf]; omega
    · have hiz : ¬ (i : Int) < 14 := by omega
      go_wp2
      go_ret
      exact ⟨rfl, below_drewN HF.out _⟩
/-- The answer of a function with a weighing and a code. -/
theorem res_rw_spec {b : Nat} {x : Nat → Int} {W2 : World} {n : Int} (K : Blk W2 b (weigC x) 34) (tmps : Array Value) (h4 : tmps.getD 4 undef = .pointer (some ⟨b, 0, none⟩)) (h5 : tmps.getD 5 undef = .int .i64 n) :
    (results Try.f25 tmps).run Try.prog W2 = .ok (.tuple #[weigV x, .int .i64 n]) W2 := by
  have h4' : tmps[4]?.getD undef = .pointer (some ⟨b, 0, none⟩) := by simpa using h4
  have h5' : tmps[5]?.getD undef = .int .i64 n := by simpa using h5
  obtain ⟨e0, e1, e2, e3, e4, e5, e6, e7, e8, e9, e10, e11, e12, e13, -⟩ := K.fourteen
  simp [results, Try.results25, go_sem, e0, e1, e2, e3, e4, e5, e6, e7, e8, e9, e10, e11, e12, e13, h4', h5']
theorem res_rw_impl {b : Nat} {x : Nat → Int} {W2 : World} {n : Int} (K : Blk W2 b (weigC x) 34) (tmps : Array Value) (h4 : tmps.getD 4 undef = .pointer (some ⟨b, 0, none⟩)) (h5 : tmps.getD 5 undef = .int .i64 n) :
    (results Try.f26 tmps).run Try.prog W2 = .ok (.tuple #[weigV x, .int .i64 n]) W2 := by
  have h4' : tmps[4]?.getD undef = .pointer (some ⟨b, 0, none⟩) := by simpa using h4
  have h5' : tmps[5]?.getD undef = .int .i64 n := by simpa using h5
  obtain ⟨e0, e1, e2, e3, e4, e5, e6, e7, e8, e9, e10, e11, e12, e13, -⟩ := K.fourteen
  simp [results, Try.results26, go_sem, e0, e1, e2, e3, e4, e5, e6, e7, e8, e9, e10, e11, e12, e13, h4', h5']
end Go.Proofs.Ytlbiakoofpgdmaa
