/-
  The deferred function, in its two modes.
-/
import Derived.Test.YtlpmojjmnkiflaaY14
import Derived.Stop.Asserts
namespace Go.Proofs.Ytlpmojjmnkiflaa
open Go.RowKit
set_option maxRecDepth 100000
set_option linter.unusedVariables false

theorem code_any (co : Int) (w : World) :
    Calls Try.prog 90 #[.agg #[.int .i64 co]] w fun e w' => e = .returned (.int .i64 co) ∧ Below w.heap.size w w' := by
  go_enter Try.func90, Try.ntmps90
  go_wp2
  go_ret
  exact ⟨rfl, (Below.refl _ _).alloc (Nat.le_refl _) _⟩
theorem catch_panicking (p q : Nat) (co : Int) (v0 v1 v2 : Value) (older : List PanicEntry) (w : World) (hp : Blk w p #[v0, v1] 30) (hq : Blk w q #[v2] 2) (hpq : p ≠ q) :
    CallsD Try.prog 55 #[.pointer (some ⟨p, 0, none⟩), .pointer (some ⟨q, 0, none⟩)] (.panicking (noL co false :: older)) w fun e u' w' =>
      e = .returned (.tuple #[]) ∧ u' = .panicking (noL co true :: older) ∧ Blk w' p #[.int .u16 0, .bool false] 30 ∧ Blk w' q #[.int .i64 co] 2 ∧ ∀ m, m ≤ p → m ≤ q → m ≤ w.heap.size → Below m w w' := by
  have hta : ∀ (v : Value) (xT : TypeId) (W : World), (Instr.typeAssert (.iface 101 v) xT 88 true).run Try.prog W = .ok (.tuple #[.iface 101 v, .bool true]) W := fun v xT W => run_typeAssert_hasB Try.underlying88 (by kernel_rfl) v xT W
  refine callsD_of_wpS Try.func55 rfl fun c₀ cs hu => ?_
  apply wpS_seq
  apply wpS_region
  simp [wpOpsS, go_sem, recoverD, hu, Try.ntmps55, Exit.thenS, hta]
  refine wpS_of_wp ?_
  obtain ⟨c0, c1, cf⟩ := hp.two
  obtain ⟨q0, qf⟩ := (show w.cell? ⟨q, 0, none⟩ = some v2 ∧ ∀ i, w.frozen? ⟨q, i, none⟩ = false from ⟨hq.cell 0, hq.free⟩)
  simp only [Array.replicate_succ, Array.replicate_zero, List.push_toArray, List.append_toArray, List.nil_append, List.cons_append, List.setIfInBounds_toArray, List.set_cons_succ, List.set_cons_zero]
  have hme : ∀ (v : Value) (W : World), (method 220 101 v "loop.example/g01281/impl.code").run Try.prog W = .ok (90, v) W := fun _ _ => by kernel_rfl
  go_wp2_with fail
  refine (code_any co w).mono ?_
  rintro e w2 ⟨rfl, hb⟩
  have hp2 := hp.below hb hp.lt
  have hq2 := hq.below hb hq.lt
  have h3 := ((hp2.set 0 (.int .u16 0)).set 1 (.bool false)).setOther hpq 0 (.int .i64 co)
  have h4 := ((hq2.setOther (Ne.symm hpq) 0 (.int .u16 0)).setOther (Ne.symm hpq) 1 (.bool false)).set 0 (.int .i64 co)
  have HB := Lib.hid (And.intro h3 (And.intro h4 (fun (m : Nat) (h1 : m ≤ p) (h2 : m ≤ q) (h5 : m ≤ w.heap.size) => (show Below m w (((w2.setCell ⟨p, 0, none⟩ (.int .u16 0)).setCell ⟨p, 1, none⟩ (.bool false)).setCell ⟨q, 0, none⟩ (.int .i64 co)) from (((hb.mono h5).setCell (p := ⟨p, 0, none⟩) h1 _).setCell (p := ⟨p, 1, none⟩) h1 _).setCell (p := ⟨q, 0, none⟩) h2 _))))
  clear c0 c1 cf q0 qf h3 h4
  obtain ⟨c0, c1, cf⟩ := hp2.two
  obtain ⟨q0, qf⟩ := (show w2.cell? ⟨q, 0, none⟩ = some v2 ∧ ∀ i, w2.frozen? ⟨q, i, none⟩ = false from ⟨hq2.cell 0, hq2.free⟩)
  clear hp2 hq2 hb hp hq hme hta
  go_wp2
  obtain ⟨h3, h4, h5⟩ := HB.out
  cases c₀
  exact ⟨rfl, _, rfl, .tuple #[], by simp [results, Try.results55, go_sem], rfl, rfl, h3, h4, h5⟩
theorem catch_idle (p q : Addr) (w : World) :
    CallsD Try.prog 55 #[.pointer (some p), .pointer (some q)] .returning w fun e u' w' => e = .returned (.tuple #[]) ∧ u' = .returning ∧ w' = w := by
  have hta : ∀ (W : World), (Instr.typeAssert .nilIface 20 88 true).run Try.prog W = .ok (.tuple #[.nilIface, .bool false]) W := fun W => by kernel_rfl
  refine callsD_of_wpS Try.func55 rfl fun c₀ cs hu => ?_
  apply wpS_seq
  apply wpS_region
  simp [wpOpsS, go_sem, recoverD, hu, Try.ntmps55, Exit.thenS, hta]
  refine wpS_of_wp ?_
  simp only [Array.replicate_succ, Array.replicate_zero, List.push_toArray, List.append_toArray, List.nil_append, List.cons_append, List.setIfInBounds_toArray, List.set_cons_succ, List.set_cons_zero]
  go_wp2
  cases c₀
  simp only at hu
  subst hu
  exact ⟨rfl, _, rfl, .tuple #[], by simp [results, Try.results55, go_sem], rfl, rfl, rfl⟩
end Go.Proofs.Ytlpmojjmnkiflaa
