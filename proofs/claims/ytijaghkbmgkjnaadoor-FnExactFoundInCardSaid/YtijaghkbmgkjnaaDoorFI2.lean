/-
  errors.Is at the program's own errors; the codes of a game's errors.
-/
import Derived.Test.YtijaghkbmgkjnaaDoorFI1
import Derived.LaidEql
import Derived.Stop.Asserts
import Derived.RowKitTokens
namespace Go.Proofs.YtijaghkbmgkjnaaDoor
open Go.RowKit Go.Extern.Stop Go.Stop Go.Extern
set_option linter.unusedVariables false
set_option maxRecDepth 100000

theorem isTypeOf (v : Value) (w : World) : (Extern.ReflectliteType.typeOf #[.iface 90 v]).run Tryd.prog w = .ok (.iface 79 (.agg #[.pointer (some ⟨3, 90, none⟩)])) w := by kernel_rfl
/-- What the model does at a type's Comparable. -/
def cmpX : Array Value → Sem Value := Extern.ReflectliteType.method fun t => do Go.Extern.Rtype.noPackHeld "Comparable" t; pure (.bool (← typeInfo t).comparable)
theorem isComparable (w : World) : (cmpX #[.agg #[.pointer (some ⟨3, 90, none⟩)]]).run Tryd.prog w = .ok (.bool true) w := by kernel_rfl
theorem isMethodComparable (v : Value) (w : World) : (Go.method 229 79 v "Comparable").run Tryd.prog w = .ok (60, v) w := by kernel_rfl
theorem isComp : (Tryd.prog.info? 90).map (·.comparable) = some true := by kernel_rfl
theorem isSize : (Tryd.prog.info? 117).map (·.size) = some 1 := by kernel_rfl
theorem noIsE (v : Value) (xT : TypeId) (w : World) : (Instr.typeAssert (.iface 90 v) xT 81 true).run Tryd.prog w = .ok (.tuple #[.nilIface, .bool false]) w := run_typeAssert_lacksB Tryd.underlying81 (by kernel_rfl) (by kernel_rfl) v xT w
theorem noUnE (v : Value) (xT : TypeId) (w : World) : (Instr.typeAssert (.iface 90 v) xT 84 true).run Tryd.prog w = .ok (.tuple #[.nilIface, .bool false]) w := run_typeAssert_lacksB Tryd.underlying84 (by kernel_rfl) (by kernel_rfl) v xT w
theorem noUnsE (v : Value) (xT : TypeId) (w : World) : (Instr.typeAssert (.iface 90 v) xT 86 true).run Tryd.prog w = .ok (.tuple #[.nilIface, .bool false]) w := run_typeAssert_lacksB Tryd.underlying86 (by kernel_rfl) (by kernel_rfl) v xT w
theorem noIsL (v : Value) (xT : TypeId) (w : World) : (Instr.typeAssert (.iface 64 v) xT 81 true).run Tryd.prog w = .ok (.tuple #[.nilIface, .bool false]) w := run_typeAssert_lacksB Tryd.underlying81 (by kernel_rfl) (by kernel_rfl) v xT w
theorem hasUnL (v : Value) (xT : TypeId) (w : World) : (Instr.typeAssert (.iface 64 v) xT 84 true).run Tryd.prog w = .ok (.tuple #[.iface 64 v, .bool true]) w := run_typeAssert_hasB Tryd.underlying84 (by kernel_rfl) v xT w
theorem methodUnwrap (v : Value) (w : World) : (Go.method 229 64 v "Unwrap").run Tryd.prog w = .ok (56, v) w := by kernel_rfl
theorem is_same (a : Addr) (w : World) :
    Calls Tryd.prog 28 #[.iface 90 (.pointer (some a)), .iface 90 (.pointer (some a))] w fun e w' => e = .returned (.bool true) ∧ w' = w := by
  obtain ⟨i, hi, hcmp⟩ := Option.map_eq_some_iff.1 isComp
  obtain ⟨j, hj, hjs⟩ := Option.map_eq_some_iff.1 isSize
  have h8 := @run_callFunc_extern Tryd.prog 34 _ Extern.ReflectliteType.typeOf Tryd.func34 (by kernel_rfl) (by kernel_rfl) (by kernel_rfl) (by kernel_rfl)
  have h32 := @run_callFunc_extern Tryd.prog 60 _ cmpX Tryd.func60 (by kernel_rfl) (by kernel_rfl) (by kernel_rfl) (by kernel_rfl)
  have tT := isTypeOf
  have cT := isComparable
  have mR := isMethodComparable
  have heq := run_eql_iface_ptr_same (P := Tryd.prog) w a Tryd.underlying42 Tryd.underlying90 hi hcmp hj
  go_enter Tryd.func28, Tryd.ntmps28
  go_wp2
  refine wp_loop_rounds 1 ?_
  rw [rounds_succ]
  go_wp2
  go_ret
  exact ⟨rfl, rfl⟩
/-- What a game without candidates says is wrapped: errNone. -/
theorem unwrap_any (n : Int) (v : Value) (w : World) (h1 : w.cell? ⟨1, 0, none⟩ = some v) :
    Calls Tryd.prog 56 #[.agg #[.int .i64 n]] w fun e w' => e = .returned v ∧ Below w.heap.size w w' := by
  have hlt : 1 < w.heap.size := by
    rcases Nat.lt_or_ge 1 w.heap.size with h | h
    · exact h
    · simp [World.cell?, Array.getElem?_eq_none h] at h1
  have hg : (w.alloc (.cells #[.int .i64 n] 64)).cell? ⟨1, 0, none⟩ = some v := by
    rw [World.cell?_alloc_lt _ _ ⟨1, 0, none⟩ hlt]; exact h1
  go_enter Tryd.func56, Tryd.ntmps56
  go_wp2
  go_ret
  exact ⟨rfl, (Below.refl _ _).alloc (Nat.le_refl _) _⟩
/-- errors.Is of a lost game: just where the target is errNone. -/
theorem is_lost_same (n : Int) (b : Addr) (w : World) (h1 : w.cell? ⟨1, 0, none⟩ = some (.iface 90 (.pointer (some b)))) :
    Calls Tryd.prog 28 #[.iface 64 (.agg #[.int .i64 n]), .iface 90 (.pointer (some b))] w fun e w' => e = .returned (.bool true) ∧ Below w.heap.size w w' := by
  obtain ⟨i, hi, hcmp⟩ := Option.map_eq_some_iff.1 isComp
  obtain ⟨j, hj, hjs⟩ := Option.map_eq_some_iff.1 isSize
  have h8 := @run_callFunc_extern Tryd.prog 34 _ Extern.ReflectliteType.typeOf Tryd.func34 (by kernel_rfl) (by kernel_rfl) (by kernel_rfl) (by kernel_rfl)
  have h32 := @run_callFunc_extern Tryd.prog 60 _ cmpX Tryd.func60 (by kernel_rfl) (by kernel_rfl) (by kernel_rfl) (by kernel_rfl)
  have tT := isTypeOf
  have cT := isComparable
  have mR := isMethodComparable
  have nW := noIsL
  have uW := hasUnL
  have mU := methodUnwrap
  have hty := run_eql_iface_types (P := Tryd.prog) 64 90 (.agg #[.int .i64 n]) (.pointer (some b)) Tryd.underlying42 (by decide) w
  have HU := Lib.hid (unwrap_any n _ w h1)
  clear h1
  go_enter Tryd.func28, Tryd.ntmps28
  go_wp2
  refine wp_loop_rounds 2 ?_
  rw [rounds_succ]
  go_wp2_with fail
  refine HU.out.mono ?_
  rintro e w2 ⟨rfl, hb⟩
  have HB := Lib.hid hb
  clear hb hty
  have heq := run_eql_iface_ptr_same (P := Tryd.prog) w2 b Tryd.underlying42 Tryd.underlying90 hi hcmp hj
  go_wp2
  rw [rounds_succ]
  go_wp2
  go_ret
  exact ⟨rfl, HB.out⟩
theorem is_lost_other (n : Int) (a b : Addr) (ca cb : Array Value) (ta tb : TypeId) (w : World) (hne : a ≠ b) (ha : w.heap[a.block]? = some (.cells ca ta (0, 0))) (hb : w.heap[b.block]? = some (.cells cb tb (0, 0))) (h1 : w.cell? ⟨1, 0, none⟩ = some (.iface 90 (.pointer (some a)))) :
    Calls Tryd.prog 28 #[.iface 64 (.agg #[.int .i64 n]), .iface 90 (.pointer (some b))] w fun e w' => e = .returned (.bool false) ∧ Below w.heap.size w w' := by
  obtain ⟨i, hi, hcmp⟩ := Option.map_eq_some_iff.1 isComp
  obtain ⟨j, hj, hjs⟩ := Option.map_eq_some_iff.1 isSize
  have h8 := @run_callFunc_extern Tryd.prog 34 _ Extern.ReflectliteType.typeOf Tryd.func34 (by kernel_rfl) (by kernel_rfl) (by kernel_rfl) (by kernel_rfl)
  have h32 := @run_callFunc_extern Tryd.prog 60 _ cmpX Tryd.func60 (by kernel_rfl) (by kernel_rfl) (by kernel_rfl) (by kernel_rfl)
  have tT := isTypeOf
  have cT := isComparable
  have mR := isMethodComparable
  have nW := noIsL
  have uW := hasUnL
  have mU := methodUnwrap
  have nE := noIsE
  have uE := noUnE
  have vE := noUnsE
  have hty := run_eql_iface_types (P := Tryd.prog) 64 90 (.agg #[.int .i64 n]) (.pointer (some b)) Tryd.underlying42 (by decide) w
  have HU := Lib.hid (unwrap_any n _ w h1)
  have la : a.block < w.heap.size := (Array.getElem?_eq_some_iff.1 ha).1
  have lb : b.block < w.heap.size := (Array.getElem?_eq_some_iff.1 hb).1
  have HAB := Lib.hid (And.intro ha (And.intro hb (And.intro la lb)))
  clear h1 ha hb la lb
  go_enter Tryd.func28, Tryd.ntmps28
  go_wp2
  refine wp_loop_rounds 2 ?_
  rw [rounds_succ]
  go_wp2_with fail
  refine HU.out.mono ?_
  rintro e w2 ⟨rfl, hb⟩
  have HB := Lib.hid hb
  have heq := run_eql_iface_ptr_other (P := Tryd.prog) w2 Tryd.underlying42 Tryd.underlying90 hi hcmp hj (by rw [hjs]; decide) hne ((hb.block _ HAB.out.2.2.1).trans HAB.out.1) ((hb.block _ HAB.out.2.2.2).trans HAB.out.2.1)
  clear hb hty
  go_wp2
  rw [rounds_succ]
  go_wp2
  go_ret
  exact ⟨rfl, HB.out⟩
/-- What the program's own errors are. -/
structure Errs (w : World) (s n : Addr) : Prop where
  several : w.cell? ⟨0, 0, none⟩ = some (.iface 90 (.pointer (some s)))
  noneC : w.cell? ⟨1, 0, none⟩ = some (.iface 90 (.pointer (some n)))
  ne : n ≠ s
  sb : ∃ c t, w.heap[s.block]? = some (.cells c t (0, 0))
  nb : ∃ c t, w.heap[n.block]? = some (.cells c t (0, 0))
theorem cell_lt {w : World} {g : Nat} {v : Value} (h : w.cell? ⟨g, 0, none⟩ = some v) : g < w.heap.size := by
  rcases Nat.lt_or_ge g w.heap.size with h' | h'
  · exact h'
  · simp [World.cell?, Array.getElem?_eq_none h'] at h
theorem Errs.below {w w' : World} {s n : Addr} (h : Errs w s n) (hb : Below w.heap.size w w') : Errs w' s n := by
  obtain ⟨c, t, h1⟩ := h.sb
  obtain ⟨c2, t2, h2⟩ := h.nb
  exact ⟨(hb.cell (p := ⟨0, 0, none⟩) (cell_lt h.several)).trans h.several, (hb.cell (p := ⟨1, 0, none⟩) (cell_lt h.noneC)).trans h.noneC, h.ne,
    ⟨c, t, (hb.block _ (Array.getElem?_eq_some_iff.1 h1).1).trans h1⟩, ⟨c2, t2, (hb.block _ (Array.getElem?_eq_some_iff.1 h2).1).trans h2⟩⟩
theorem code_nil (w : World) : Calls Tryd.prog 16 #[.nilIface] w fun e w' => e = .returned (.int .i64 0) ∧ Below w.heap.size w w' := by
  skip
  go_enter Tryd.func16, Tryd.ntmps16
  go_wp2
  go_ret
  exact ⟨rfl, Below.refl _ _⟩
theorem code_several (s n : Addr) (w : World) (h : Errs w s n) : Calls Tryd.prog 16 #[.iface 90 (.pointer (some s))] w fun e w' => e = .returned (.int .i64 4) ∧ Below w.heap.size w w' := by
  have g0 := h.several
  have HI := Lib.hid (is_same s)
  clear h
  go_enter Tryd.func16, Tryd.ntmps16
  go_wp2_with fail
  refine (HI.out _).mono ?_
  rintro e w2 ⟨rfl, rfl⟩
  go_wp2
  go_ret
  exact ⟨rfl, Below.refl _ _⟩
theorem code_lost (q : Int) (s n : Addr) (w : World) (h : Errs w s n) : Calls Tryd.prog 16 #[.iface 64 (.agg #[.int .i64 q])] w fun e w' => e = .returned (.int .i64 8) ∧ Below w.heap.size w w' := by
  have g0 := h.several
  obtain ⟨c, t, h1⟩ := h.sb
  obtain ⟨c2, t2, h2⟩ := h.nb
  have HI := Lib.hid (is_lost_other q n s c2 c t2 t w h.ne h2 h1 h.noneC)
  have HE := Lib.hid h
  have HS := Lib.hid (is_lost_same q n)
  clear h h1 h2
  go_enter Tryd.func16, Tryd.ntmps16
  go_wp2_with fail
  refine HI.out.mono ?_
  rintro e w2 ⟨rfl, hb⟩
  have g1 := (HE.out.below hb).noneC
  have HB := Lib.hid hb
  have HG := Lib.hid g1
  clear hb g0
  go_wp2_with fail
  refine (HS.out _ HG.out).mono ?_
  rintro e w3 ⟨rfl, hb⟩
  have HB2 := Lib.hid (HB.out.trans (hb.mono HB.out.size))
  clear hb g1
  go_wp2
  go_ret
  exact ⟨rfl, HB2.out⟩
end Go.Proofs.YtijaghkbmgkjnaaDoor
