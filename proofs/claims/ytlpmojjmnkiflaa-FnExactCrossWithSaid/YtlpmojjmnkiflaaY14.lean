/-
  The crossing that panics, and the deferred function that recovers it.
-/
import Derived.Test.YtlpmojjmnkiflaaY13
import Derived.Defers
import Derived.Recover
import Derived.WalkSmall
namespace Go.Proofs.Ytlpmojjmnkiflaa
open Go.RowKit
set_option maxRecDepth 100000
set_option linter.unusedVariables false

theorem cross_ok (l k : Int) (a : Option Addr) (c : Nat) (xs : List Int) (n : Int) (f : Bool) (x : Int) (w : World) (hs : Sl .u16 w.heap.size w a xs) (hn : xs.length ≤ 1048576) (hw : U16 xs) (hl : 1 ≤ l ∧ l ≤ 8) (hk : 0 ≤ k ∧ k ≤ 8) (hx : 0 ≤ x ∧ x ≤ 65535) (h : cdL l k xs n f x = 0) :
    Calls Try.prog 56 #[ferV l k a xs.length c, bankV n f, .int .u16 x] w fun e w' => e = .returned (bankV (xorI n x) (!f)) ∧ Below w.heap.size w w' := by
  have F0 := (((FR.start w).box #[.int .i8 l, .int .i8 k, .slice a xs.length c] 33).box #[.int .u16 n, .bool f] 30).box #[.int .u16 0, .bool false] 30
  simp only [World.size_alloc] at F0
  obtain ⟨c0, c1, c2, -⟩ := (F0.blk _ (List.mem_cons_of_mem _ (List.mem_cons_of_mem _ List.mem_cons_self))).three
  obtain ⟨d0, d1, -⟩ := (F0.blk _ (List.mem_cons_of_mem _ List.mem_cons_self)).two
  have HC := Lib.hid (codeOfLoad_any l k a c xs n f x _ (hs.up F0.below (Nat.le_refl _)) hn hw hl hk hx)
  rw [h] at HC
  clear hs hw h hl hk
  generalize xs.length = m at *
  go_enter Try.func56, Try.ntmps56
  go_wp2_with fail
  refine HC.out.mono ?_
  rintro e w2 ⟨rfl, hb⟩
  have F1 := F0.next hb
  clear hb F0 c0 c1 c2 d0 d1 HC
  obtain ⟨d0, d1, -⟩ := (F1.blk _ (List.mem_cons_of_mem _ List.mem_cons_self)).two
  go_wp2_with fail
  refine (behind_any n f x _).mono ?_
  rintro e w3 ⟨rfl, hb⟩
  have F2 := F1.next hb
  clear hb F1 d0 d1
  obtain ⟨e0, e1, ef⟩ := (F2.blk _ List.mem_cons_self).two
  have F9 := F2.bank (u0 := .int .u16 (bits .xor .u16 n x)) (u1 := .bool !f)
  have HB := Lib.hid (And.intro (F9.blk _ List.mem_cons_self) F9.below)
  clear F2 F9
  go_wp2
  have e0 := HB.out.1.cell 0
  have e1 := HB.out.1.cell 1
  simp at e0 e1
  exact bodyPost_ret (v := bankV (xorI n x) (!f)) (by simp [results, Try.results56, go_sem, e0, e1]) rfl ⟨rfl, HB.out.2⟩
/-- What a refused load panics with. -/
abbrev noL (code : Int) (r : Bool) : PanicEntry := { v := .iface 101 (.agg #[.int .i64 code]), recovered := r }
theorem cross_bad (l k : Int) (a : Option Addr) (c : Nat) (xs : List Int) (n : Int) (f : Bool) (x : Int) (w : World) (hs : Sl .u16 w.heap.size w a xs) (hn : xs.length ≤ 1048576) (hw : U16 xs) (hl : 1 ≤ l ∧ l ≤ 8) (hk : 0 ≤ k ∧ k ≤ 8) (hx : 0 ≤ x ∧ x ≤ 65535) (h : ¬ cdL l k xs n f x = 0) :
    Calls Try.prog 56 #[ferV l k a xs.length c, bankV n f, .int .u16 x] w fun e w' => e = .panicked [noL (cdL l k xs n f x) false] ∧ Below w.heap.size w w' := by
  have F0 := (((FR.start w).box #[.int .i8 l, .int .i8 k, .slice a xs.length c] 33).box #[.int .u16 n, .bool f] 30).box #[.int .u16 0, .bool false] 30
  simp only [World.size_alloc] at F0
  obtain ⟨c0, c1, c2, -⟩ := (F0.blk _ (List.mem_cons_of_mem _ (List.mem_cons_of_mem _ List.mem_cons_self))).three
  obtain ⟨d0, d1, -⟩ := (F0.blk _ (List.mem_cons_of_mem _ List.mem_cons_self)).two
  have HC := Lib.hid (codeOfLoad_any l k a c xs n f x _ (hs.up F0.below (Nat.le_refl _)) hn hw hl hk hx)
  clear hs hw hl hk
  generalize cdL l k xs n f x = co at *
  generalize xs.length = m at *
  have hne : (co != 0) = true := by simpa using h
  clear h
  go_enter Try.func56, Try.ntmps56
  go_wp2_with fail
  refine HC.out.mono ?_
  rintro e w2 ⟨rfl, hb⟩
  have HB := Lib.hid (F0.next hb).below
  clear hb F0 c0 c1 c2 d0 d1 HC
  go_wp2
  exact ⟨rfl, rfl, HB.out⟩
end Go.Proofs.Ytlpmojjmnkiflaa
