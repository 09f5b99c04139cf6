/-
  The only candidate: the program's method, its panic, and the function that recovers it.
-/
import Derived.Test.YtijaghkbmgkjnaaDoorFI2
import Derived.Defers
import Derived.Recover
import Derived.WalkSmall
namespace Go.Proofs.YtijaghkbmgkjnaaDoor
open Go.RowKit
set_option maxRecDepth 100000
set_option linter.unusedVariables false

/-- What a game without candidates panics with. -/
abbrev lostE (n : Int) (r : Bool) : PanicEntry := { v := .iface 64 (.agg #[.int .i64 n]), recovered := r }
set_option maxHeartbeats 2000000 in
theorem only_none (l : Nat) (kk : Int) (a : Option Addr) (c : Nat) (xs : List Ak) (w : World) (hs : Sla w.heap.size w a xs) (hn : xs.length ≤ 60) (hw : Aall xs) (hl : l ≤ 60) (hk : 0 ≤ kk ∧ kk ≤ 3) (h0 : (candL kk xs l).length = 0) :
    Calls Tryd.prog 15 #[gamV l kk a xs.length c] w fun e w' => e = .panicked [lostE xs.length false] ∧ Below w.heap.size w w' := by
  have F0 := (FR.start w).box #[.int .i8 l, .int .i8 kk, .slice a xs.length c] 31
  have HC := Lib.hid (candidates_any l kk a c xs _ (hs.up F0.below (Nat.le_refl _)) hn hw hl hk)
  obtain ⟨c0, c1, c2, -⟩ := (F0.blk _ List.mem_cons_self).three
  clear hs hw
  generalize candL kk xs l = L at *
  generalize xs.length = m at *
  go_enter Tryd.func15, Tryd.ntmps15
  go_wp2_with fail
  refine HC.out.mono ?_
  rintro e w2 ⟨u, rfl, hown, hb⟩
  obtain ⟨a2, c2', rfl, ho⟩ := owns_list hown
  have F1 := F0.next hb
  clear F0 c0 c1 c2 hb hown ho
  obtain ⟨c0, c1, c2, -⟩ := (F1.blk _ List.mem_cons_self).three
  have HB := Lib.hid F1.below
  rw [h0]
  clear F1 h0
  go_wp2
  exact ⟨rfl, rfl, HB.out⟩
set_option maxHeartbeats 2000000 in
theorem only_one (l : Nat) (kk : Int) (a : Option Addr) (c : Nat) (xs : List Ak) (w : World) (hs : Sla w.heap.size w a xs) (hn : xs.length ≤ 60) (hw : Aall xs) (hl : l ≤ 60) (hk : 0 ≤ kk ∧ kk ≤ 3) (h0 : (candL kk xs l).length = 1) :
    Calls Tryd.prog 15 #[gamV l kk a xs.length c] w fun e w' => e = .returned (.tuple #[.int .i64 (oneV (candL kk xs l)), .nilIface]) ∧ Below w.heap.size w w' := by
  have F0 := (FR.start w).box #[.int .i8 l, .int .i8 kk, .slice a xs.length c] 31
  have HC := Lib.hid (candidates_any l kk a c xs _ (hs.up F0.below (Nat.le_refl _)) hn hw hl hk)
  obtain ⟨c0, c1, c2, -⟩ := (F0.blk _ List.mem_cons_self).three
  clear hs hw
  generalize candL kk xs l = L at *
  generalize xs.length = m at *
  obtain ⟨x, rfl⟩ := List.length_eq_one_iff.1 h0
  rw [show oneV [x] = x from rfl]
  go_enter Tryd.func15, Tryd.ntmps15
  go_wp2_with fail
  refine HC.out.mono ?_
  rintro e w2 ⟨u, rfl, hown, hb⟩
  obtain ⟨a2, c2', rfl, ho⟩ := owns_list hown
  have F1 := F0.next hb
  clear F0 c0 c1 c2 hb hown
  rcases ho with ⟨h, _⟩ | ⟨g, rfl, hc⟩
  · cases h
  have g0 := hc 0 (by simp)
  simp only [List.getD_cons_zero, List.length_cons, List.length_nil] at g0 ⊢
  have HB := Lib.hid F1.below
  clear F1 h0 hc
  go_wp2
  go_ret2
  exact ⟨rfl, HB.out⟩
set_option maxHeartbeats 2000000 in
theorem only_several (l : Nat) (kk : Int) (a : Option Addr) (c : Nat) (xs : List Ak) (w : World) (hs : Sla w.heap.size w a xs) (hn : xs.length ≤ 60) (hw : Aall xs) (hl : l ≤ 60) (hk : 0 ≤ kk ∧ kk ≤ 3) (s n : Addr) (he : Errs w s n) (h0 : ¬ (candL kk xs l).length = 0) (h1 : ¬ (candL kk xs l).length = 1) :
    Calls Tryd.prog 15 #[gamV l kk a xs.length c] w fun e w' => e = .returned (.tuple #[.int .i64 0, .iface 90 (.pointer (some s))]) ∧ Below w.heap.size w w' := by
  have F0 := (FR.start w).box #[.int .i8 l, .int .i8 kk, .slice a xs.length c] 31
  have HC := Lib.hid (candidates_any l kk a c xs _ (hs.up F0.below (Nat.le_refl _)) hn hw hl hk)
  obtain ⟨c0, c1, c2, -⟩ := (F0.blk _ List.mem_cons_self).three
  clear hs hw
  have HE := Lib.hid (he.below ((Below.refl _ _).alloc (Nat.le_refl _) (.cells #[.int .i8 l, .int .i8 kk, .slice a xs.length c] 31)))
  clear he
  generalize candL kk xs l = L at *
  generalize xs.length = m at *
  go_enter Tryd.func15, Tryd.ntmps15
  go_wp2_with fail
  refine HC.out.mono ?_
  rintro e w2 ⟨u, rfl, hown, hb⟩
  obtain ⟨a2, c2', rfl, ho⟩ := owns_list hown
  have F1 := F0.next hb
  have g0 := (HE.out.below hb).several
  clear F0 c0 c1 c2 hb hown ho
  have HB := Lib.hid F1.below
  have h0' : ¬ (L.length : Int) = 0 := by omega
  have h1' : (1 : Int) < (L.length : Int) := by omega
  clear F1 h0 h1
  generalize L.length = n at *
  go_wp2_with fail
  have g1 := g0
  have HB1 := Lib.hid (HB.out.drew)
  go_region
  all_goals (try go_wp2)
  all_goals (go_ret2; exact ⟨rfl, HB1.out⟩)
theorem catch_panicking (p q : Nat) (n : Int) (v0 v1 : Value) (older : List PanicEntry) (w : World) (hp : Blk w p #[v0] 2) (hq : Blk w q #[v1] 42) (hpq : p ≠ q) :
    CallsD Tryd.prog 26 #[.pointer (some ⟨p, 0, none⟩), .pointer (some ⟨q, 0, none⟩)] (.panicking (lostE n false :: older)) w fun e u' w' =>
      e = .returned (.tuple #[]) ∧ u' = .panicking (lostE n true :: older) ∧ Blk w' p #[.int .i64 0] 2 ∧ Blk w' q #[.iface 64 (.agg #[.int .i64 n])] 42 ∧ ∀ m, m ≤ p → m ≤ q → m ≤ w.heap.size → Below m w w' := by
  have hta : ∀ (v : Value) (xT : TypeId) (W : World), (Instr.typeAssert (.iface 64 v) xT 42 true).run Tryd.prog W = .ok (.tuple #[.iface 64 v, .bool true]) W := fun v xT W => run_typeAssert_hasB Tryd.underlying42 (by kernel_rfl) v xT W
  refine callsD_of_wpS Tryd.func26 rfl fun c₀ cs hu => ?_
  apply wpS_seq
  apply wpS_region
  simp [wpOpsS, go_sem, recoverD, hu, Tryd.ntmps26, Exit.thenS, hta]
  refine wpS_of_wp ?_
  have h3 := (hp.set 0 (.int .i64 0)).setOther hpq 0 (.iface 64 (.agg #[.int .i64 n]))
  have h4 := (hq.setOther (Ne.symm hpq) 0 (.int .i64 0)).set 0 (.iface 64 (.agg #[.int .i64 n]))
  have HB := Lib.hid (And.intro h3 (And.intro h4 (fun (m : Nat) (h1 : m ≤ p) (h2 : m ≤ q) (h5 : m ≤ w.heap.size) => (show Below m w ((w.setCell ⟨p, 0, none⟩ (.int .i64 0)).setCell ⟨q, 0, none⟩ (.iface 64 (.agg #[.int .i64 n]))) from (((Below.refl _ _).mono h5).setCell (p := ⟨p, 0, none⟩) h1 _).setCell (p := ⟨q, 0, none⟩) h2 _))))
  obtain ⟨c0, cf⟩ := (show w.cell? ⟨p, 0, none⟩ = some v0 ∧ ∀ i, w.frozen? ⟨p, i, none⟩ = false from ⟨hp.cell 0, hp.free⟩)
  obtain ⟨q0, qf⟩ := (show w.cell? ⟨q, 0, none⟩ = some v1 ∧ ∀ i, w.frozen? ⟨q, i, none⟩ = false from ⟨hq.cell 0, hq.free⟩)
  clear h3 h4 hp hq hta
  simp only [Array.replicate_succ, Array.replicate_zero, List.push_toArray, List.append_toArray, List.nil_append, List.cons_append, List.setIfInBounds_toArray, List.set_cons_succ, List.set_cons_zero]
  go_wp2
  obtain ⟨h3, h4, h5⟩ := HB.out
  cases c₀
  exact ⟨rfl, _, rfl, .tuple #[], by simp [results, Tryd.results26, go_sem], rfl, rfl, h3, h4, h5⟩
theorem catch_idle (p q : Addr) (w : World) :
    CallsD Tryd.prog 26 #[.pointer (some p), .pointer (some q)] .returning w fun e u' w' => e = .returned (.tuple #[]) ∧ u' = .returning ∧ w' = w := by
  have hta : ∀ (W : World), (Instr.typeAssert .nilIface 20 42 true).run Tryd.prog W = .ok (.tuple #[.nilIface, .bool false]) W := fun W => by kernel_rfl
  refine callsD_of_wpS Tryd.func26 rfl fun c₀ cs hu => ?_
  apply wpS_seq
  apply wpS_region
  simp [wpOpsS, go_sem, recoverD, hu, Tryd.ntmps26, Exit.thenS, hta]
  refine wpS_of_wp ?_
  simp only [Array.replicate_succ, Array.replicate_zero, List.push_toArray, List.append_toArray, List.nil_append, List.cons_append, List.setIfInBounds_toArray, List.set_cons_succ, List.set_cons_zero]
  go_wp2
  cases c₀
  simp only at hu
  subst hu
  exact ⟨rfl, _, rfl, .tuple #[], by simp [results, Tryd.results26, go_sem], rfl, rfl, rfl⟩
end Go.Proofs.YtijaghkbmgkjnaaDoor
