/-
  errors.As by its contracts, at the targets of this program: a hit sets the target, a miss turns nothing that was there.
-/
import Derived.Test.YtmjkhkhjliadcaaDoorH5
import Derived.LaidEql
import Derived.Stop.Asserts
import Derived.RowKitTokens
namespace Go.Proofs.YtmjkhkhjliadcaaDoor
open Go.RowKit Go.Extern.Stop Go.Stop Go.Extern
set_option linter.unusedVariables false

/-- What the variable of package errors holds. -/
abbrev errV : Value := .iface 98 (.agg #[(.pointer (some ⟨1, 49, none⟩))])
theorem rlm (z : Sem Value) (f : TypeId → Addr → Nat → Nat → Sem Value) (v : Value) :
    ReflectliteValue.method z f #[v] = (do match ← ReflectliteValue.parts v with | none => z | some (t, a, fl) => f t a fl (fl % 32)) := rfl
theorem rls (v x : Value) : ReflectliteValue.set #[v, x] = (do
    let (some (dst, a, fl), some (src, b, _)) := (← ReflectliteValue.parts v, ← ReflectliteValue.parts x)
      | unsupported (.noEntry "extern/(internal/reflectlite.Value).Set.zeroValue")
    if fl / ReflectliteValue.flagAddr % 2 == 0 then unsupported (.noEntry "extern/(internal/reflectlite.Value).Set.unaddressable")
    let val ← loadVar src b
    if ← Rtype.directlyAssignable dst src then storeVar dst a val
    else if ← Rtype.implements dst src then
      if (← Rtype.kind src) == 20 then
        match val with
        | .nilIface => unsupported (.noEntry "extern/reflectlite: a nil value of one interface type handed on as a value of another")
        | _ => storeVar dst a val
      else storeVar dst a (.iface src val)
    else panicString ("reflectlite.Set: value of type " ++ (← Rtype.spelt src) ++ " is not assignable to type " ++ (← Rtype.spelt dst))
    pure (.tuple #[])) := rfl
theorem methodKind (h : Value) (w : World) : (Go.method 242 98 (.agg #[h]) "Kind").run Tryd.prog w = .ok (69, h) w := by kernel_rfl
theorem methodElem (h : Value) (w : World) : (Go.method 242 98 (.agg #[h]) "Elem").run Tryd.prog w = .ok (81, .agg #[h]) w := by kernel_rfl
theorem methodImplements (h : Value) (w : World) : (Go.method 242 98 (.agg #[h]) "Implements").run Tryd.prog w = .ok (82, .agg #[h]) w := by kernel_rfl
theorem methodAssignableTo (h : Value) (w : World) : (Go.method 242 98 (.agg #[h]) "AssignableTo").run Tryd.prog w = .ok (79, .agg #[h]) w := by kernel_rfl

/-! ### L -/
theorem valueOfPL (t : Addr) (w : World) : (ReflectliteValue.unpack (.iface 73 (.pointer (some t)))).run Tryd.prog w
    = .ok (.agg #[(.pointer (some ⟨1, 73, none⟩)), .pointer (some ⟨w.heap.size, 0, none⟩), .int .u64 150]) (w.alloc (.cells #[.pointer (some t)] 73)) := by kernel_rfl
theorem typePL (a : Addr) (w : World) : (ReflectliteValue.methodAny (ReflectliteValue.valueError "reflectlite.Value.Type" 0) (fun t _ _ _ => ReflectliteType.toType t) #[.agg #[(.pointer (some ⟨1, 73, none⟩)), .pointer (some a), .int .u64 150]]).run Tryd.prog w
    = .ok (.iface 98 (.agg #[(.pointer (some ⟨1, 73, none⟩))])) w := by kernel_rfl
theorem kindPL (w : World) : ((ReflectliteType.abiMethod fun t => (fun a : Nat => Value.int IntKind.u8 (a : Int)) <$> Rtype.kind t) #[(.pointer (some ⟨1, 73, none⟩))]).run Tryd.prog w = .ok (.int .u8 22) w := by kernel_rfl
theorem kindEL (w : World) : ((ReflectliteType.abiMethod fun t => (fun a : Nat => Value.int IntKind.u8 (a : Int)) <$> Rtype.kind t) #[(.pointer (some ⟨1, 63, none⟩))]).run Tryd.prog w = .ok (.int .u8 25) w := by kernel_rfl
theorem partsPL (a : Addr) (w : World) : (ReflectliteValue.parts (.agg #[(.pointer (some ⟨1, 73, none⟩)), .pointer (some a), .int .u64 150])).run Tryd.prog w = .ok (some (73, a, 150)) w := by kernel_rfl
theorem isNilPL (a p : Addr) (W : World) (ha : W.cell? a = some (.pointer (some p))) :
    (ReflectliteValue.method (ReflectliteValue.valueError "reflectlite.Value.IsNil" 0) ReflectliteValue.isNil #[.agg #[(.pointer (some ⟨1, 73, none⟩)), .pointer (some a), .int .u64 150]]).run Tryd.prog W = .ok (.bool false) W := by
  rw [rlm]
  simp only [Sem.run_bind, partsPL, Result.andThen]
  simp [ReflectliteValue.isNil, loadVar, isAgg, underlying, Tryd.underlying73, ha, Result.andThen]
theorem elemPL (w : World) : (ReflectliteType.method ReflectliteType.elem #[.agg #[(.pointer (some ⟨1, 73, none⟩))]]).run Tryd.prog w = .ok (.iface 98 (.agg #[(.pointer (some ⟨1, 63, none⟩))])) w := by kernel_rfl
theorem implEL (w : World) : (ReflectliteType.relation "Implements" ReflectliteType.implements_ #[.agg #[(.pointer (some ⟨1, 63, none⟩))], .iface 98 (.agg #[(.pointer (some ⟨1, 49, none⟩))])]).run Tryd.prog w = .ok (.bool true) w := by kernel_rfl
theorem typeOfEL (v : Value) (w : World) : (ReflectliteType.typeOf #[.iface 63 v]).run Tryd.prog w = .ok (.iface 98 (.agg #[(.pointer (some ⟨1, 63, none⟩))])) w := by kernel_rfl
theorem elemOfPL (w : World) : (Rtype.elem? 73).run Tryd.prog w = .ok (some 63) w := by kernel_rfl
theorem mkEL (p : Addr) (w : World) : (ReflectliteValue.mk 63 p ReflectliteValue.flagAddr).run Tryd.prog w = .ok (.agg #[(.pointer (some ⟨1, 63, none⟩)), .pointer (some p), .int .u64 409]) w := by kernel_rfl
theorem elemVPL (a p : Addr) (W : World) (ha : W.cell? a = some (.pointer (some p))) :
    (ReflectliteValue.method (ReflectliteValue.valueError "reflectlite.Value.Elem" 0) ReflectliteValue.elem #[.agg #[(.pointer (some ⟨1, 73, none⟩)), .pointer (some a), .int .u64 150]]).run Tryd.prog W
      = .ok (.agg #[(.pointer (some ⟨1, 63, none⟩)), .pointer (some p), .int .u64 409]) W := by
  rw [rlm]
  simp only [Sem.run_bind, partsPL, Result.andThen]
  simp [ReflectliteValue.elem, loadVar, isAgg, underlying, Tryd.underlying73, ha, Result.andThen, elemOfPL, mkEL]
theorem assignLL (w : World) : (ReflectliteType.relation "AssignableTo" ReflectliteType.assignableTo #[.agg #[(.pointer (some ⟨1, 63, none⟩))], .iface 98 (.agg #[(.pointer (some ⟨1, 63, none⟩))])]).run Tryd.prog w = .ok (.bool true) w := by kernel_rfl
theorem assignSL (w : World) : (ReflectliteType.relation "AssignableTo" ReflectliteType.assignableTo #[.agg #[(.pointer (some ⟨1, 69, none⟩))], .iface 98 (.agg #[(.pointer (some ⟨1, 63, none⟩))])]).run Tryd.prog w = .ok (.bool false) w := by kernel_rfl
theorem assignNL (w : World) : (ReflectliteType.relation "AssignableTo" ReflectliteType.assignableTo #[.agg #[(.pointer (some ⟨1, 71, none⟩))], .iface 98 (.agg #[(.pointer (some ⟨1, 63, none⟩))])]).run Tryd.prog w = .ok (.bool false) w := by kernel_rfl
theorem noAsL (v : Value) (xT : TypeId) (w : World) : (Instr.typeAssert (.iface 63 v) xT 103 true).run Tryd.prog w = .ok (.tuple #[.nilIface, .bool false]) w := run_typeAssert_lacksB Tryd.underlying103 (by kernel_rfl) (by kernel_rfl) v xT w
theorem noUnL (v : Value) (xT : TypeId) (w : World) : (Instr.typeAssert (.iface 63 v) xT 106 true).run Tryd.prog w = .ok (.tuple #[.nilIface, .bool false]) w := run_typeAssert_lacksB Tryd.underlying106 (by kernel_rfl) (by kernel_rfl) v xT w
theorem noUnsL (v : Value) (xT : TypeId) (w : World) : (Instr.typeAssert (.iface 63 v) xT 108 true).run Tryd.prog w = .ok (.tuple #[.nilIface, .bool false]) w := run_typeAssert_lacksB Tryd.underlying108 (by kernel_rfl) (by kernel_rfl) v xT w
theorem valueOfEL (s : Int) (w : World) : (ReflectliteValue.unpack (.iface 63 (.agg #[.int .i64 s]))).run Tryd.prog w
    = .ok (.agg #[(.pointer (some ⟨1, 63, none⟩)), .pointer (some ⟨w.heap.size, 0, none⟩), .int .u64 153]) (w.alloc (.cells #[.int .i64 s] 63)) := by kernel_rfl
theorem partsEaL (a : Addr) (w : World) : (ReflectliteValue.parts (.agg #[(.pointer (some ⟨1, 63, none⟩)), .pointer (some a), .int .u64 409])).run Tryd.prog w = .ok (some (63, a, 409)) w := by kernel_rfl
theorem partsEL (a : Addr) (w : World) : (ReflectliteValue.parts (.agg #[(.pointer (some ⟨1, 63, none⟩)), .pointer (some a), .int .u64 153])).run Tryd.prog w = .ok (some (63, a, 153)) w := by kernel_rfl
theorem directEL (w : World) : (Rtype.directlyAssignable 63 63).run Tryd.prog w = .ok true w := by kernel_rfl

/-! ### S -/
theorem valueOfPS (t : Addr) (w : World) : (ReflectliteValue.unpack (.iface 74 (.pointer (some t)))).run Tryd.prog w
    = .ok (.agg #[(.pointer (some ⟨1, 74, none⟩)), .pointer (some ⟨w.heap.size, 0, none⟩), .int .u64 150]) (w.alloc (.cells #[.pointer (some t)] 74)) := by kernel_rfl
theorem typePS (a : Addr) (w : World) : (ReflectliteValue.methodAny (ReflectliteValue.valueError "reflectlite.Value.Type" 0) (fun t _ _ _ => ReflectliteType.toType t) #[.agg #[(.pointer (some ⟨1, 74, none⟩)), .pointer (some a), .int .u64 150]]).run Tryd.prog w
    = .ok (.iface 98 (.agg #[(.pointer (some ⟨1, 74, none⟩))])) w := by kernel_rfl
theorem kindPS (w : World) : ((ReflectliteType.abiMethod fun t => (fun a : Nat => Value.int IntKind.u8 (a : Int)) <$> Rtype.kind t) #[(.pointer (some ⟨1, 74, none⟩))]).run Tryd.prog w = .ok (.int .u8 22) w := by kernel_rfl
theorem kindES (w : World) : ((ReflectliteType.abiMethod fun t => (fun a : Nat => Value.int IntKind.u8 (a : Int)) <$> Rtype.kind t) #[(.pointer (some ⟨1, 69, none⟩))]).run Tryd.prog w = .ok (.int .u8 25) w := by kernel_rfl
theorem partsPS (a : Addr) (w : World) : (ReflectliteValue.parts (.agg #[(.pointer (some ⟨1, 74, none⟩)), .pointer (some a), .int .u64 150])).run Tryd.prog w = .ok (some (74, a, 150)) w := by kernel_rfl
theorem isNilPS (a p : Addr) (W : World) (ha : W.cell? a = some (.pointer (some p))) :
    (ReflectliteValue.method (ReflectliteValue.valueError "reflectlite.Value.IsNil" 0) ReflectliteValue.isNil #[.agg #[(.pointer (some ⟨1, 74, none⟩)), .pointer (some a), .int .u64 150]]).run Tryd.prog W = .ok (.bool false) W := by
  rw [rlm]
  simp only [Sem.run_bind, partsPS, Result.andThen]
  simp [ReflectliteValue.isNil, loadVar, isAgg, underlying, Tryd.underlying74, ha, Result.andThen]
theorem elemPS (w : World) : (ReflectliteType.method ReflectliteType.elem #[.agg #[(.pointer (some ⟨1, 74, none⟩))]]).run Tryd.prog w = .ok (.iface 98 (.agg #[(.pointer (some ⟨1, 69, none⟩))])) w := by kernel_rfl
theorem implES (w : World) : (ReflectliteType.relation "Implements" ReflectliteType.implements_ #[.agg #[(.pointer (some ⟨1, 69, none⟩))], .iface 98 (.agg #[(.pointer (some ⟨1, 49, none⟩))])]).run Tryd.prog w = .ok (.bool true) w := by kernel_rfl
theorem typeOfES (v : Value) (w : World) : (ReflectliteType.typeOf #[.iface 69 v]).run Tryd.prog w = .ok (.iface 98 (.agg #[(.pointer (some ⟨1, 69, none⟩))])) w := by kernel_rfl
theorem elemOfPS (w : World) : (Rtype.elem? 74).run Tryd.prog w = .ok (some 69) w := by kernel_rfl
theorem mkES (p : Addr) (w : World) : (ReflectliteValue.mk 69 p ReflectliteValue.flagAddr).run Tryd.prog w = .ok (.agg #[(.pointer (some ⟨1, 69, none⟩)), .pointer (some p), .int .u64 409]) w := by kernel_rfl
theorem elemVPS (a p : Addr) (W : World) (ha : W.cell? a = some (.pointer (some p))) :
    (ReflectliteValue.method (ReflectliteValue.valueError "reflectlite.Value.Elem" 0) ReflectliteValue.elem #[.agg #[(.pointer (some ⟨1, 74, none⟩)), .pointer (some a), .int .u64 150]]).run Tryd.prog W
      = .ok (.agg #[(.pointer (some ⟨1, 69, none⟩)), .pointer (some p), .int .u64 409]) W := by
  rw [rlm]
  simp only [Sem.run_bind, partsPS, Result.andThen]
  simp [ReflectliteValue.elem, loadVar, isAgg, underlying, Tryd.underlying74, ha, Result.andThen, elemOfPS, mkES]
theorem assignLS (w : World) : (ReflectliteType.relation "AssignableTo" ReflectliteType.assignableTo #[.agg #[(.pointer (some ⟨1, 63, none⟩))], .iface 98 (.agg #[(.pointer (some ⟨1, 69, none⟩))])]).run Tryd.prog w = .ok (.bool false) w := by kernel_rfl
theorem assignSS (w : World) : (ReflectliteType.relation "AssignableTo" ReflectliteType.assignableTo #[.agg #[(.pointer (some ⟨1, 69, none⟩))], .iface 98 (.agg #[(.pointer (some ⟨1, 69, none⟩))])]).run Tryd.prog w = .ok (.bool true) w := by kernel_rfl
theorem assignNS (w : World) : (ReflectliteType.relation "AssignableTo" ReflectliteType.assignableTo #[.agg #[(.pointer (some ⟨1, 71, none⟩))], .iface 98 (.agg #[(.pointer (some ⟨1, 69, none⟩))])]).run Tryd.prog w = .ok (.bool false) w := by kernel_rfl
theorem noAsS (v : Value) (xT : TypeId) (w : World) : (Instr.typeAssert (.iface 69 v) xT 103 true).run Tryd.prog w = .ok (.tuple #[.nilIface, .bool false]) w := run_typeAssert_lacksB Tryd.underlying103 (by kernel_rfl) (by kernel_rfl) v xT w
theorem noUnS (v : Value) (xT : TypeId) (w : World) : (Instr.typeAssert (.iface 69 v) xT 106 true).run Tryd.prog w = .ok (.tuple #[.nilIface, .bool false]) w := run_typeAssert_lacksB Tryd.underlying106 (by kernel_rfl) (by kernel_rfl) v xT w
theorem noUnsS (v : Value) (xT : TypeId) (w : World) : (Instr.typeAssert (.iface 69 v) xT 108 true).run Tryd.prog w = .ok (.tuple #[.nilIface, .bool false]) w := run_typeAssert_lacksB Tryd.underlying108 (by kernel_rfl) (by kernel_rfl) v xT w
theorem valueOfES (s : Int) (w : World) : (ReflectliteValue.unpack (.iface 69 (.agg #[.int .u8 s]))).run Tryd.prog w
    = .ok (.agg #[(.pointer (some ⟨1, 69, none⟩)), .pointer (some ⟨w.heap.size, 0, none⟩), .int .u64 153]) (w.alloc (.cells #[.int .u8 s] 69)) := by kernel_rfl
theorem partsEaS (a : Addr) (w : World) : (ReflectliteValue.parts (.agg #[(.pointer (some ⟨1, 69, none⟩)), .pointer (some a), .int .u64 409])).run Tryd.prog w = .ok (some (69, a, 409)) w := by kernel_rfl
theorem partsES (a : Addr) (w : World) : (ReflectliteValue.parts (.agg #[(.pointer (some ⟨1, 69, none⟩)), .pointer (some a), .int .u64 153])).run Tryd.prog w = .ok (some (69, a, 153)) w := by kernel_rfl
theorem directES (w : World) : (Rtype.directlyAssignable 69 69).run Tryd.prog w = .ok true w := by kernel_rfl

/-! ### N -/
theorem valueOfPN (t : Addr) (w : World) : (ReflectliteValue.unpack (.iface 75 (.pointer (some t)))).run Tryd.prog w
    = .ok (.agg #[(.pointer (some ⟨1, 75, none⟩)), .pointer (some ⟨w.heap.size, 0, none⟩), .int .u64 150]) (w.alloc (.cells #[.pointer (some t)] 75)) := by kernel_rfl
theorem typePN (a : Addr) (w : World) : (ReflectliteValue.methodAny (ReflectliteValue.valueError "reflectlite.Value.Type" 0) (fun t _ _ _ => ReflectliteType.toType t) #[.agg #[(.pointer (some ⟨1, 75, none⟩)), .pointer (some a), .int .u64 150]]).run Tryd.prog w
    = .ok (.iface 98 (.agg #[(.pointer (some ⟨1, 75, none⟩))])) w := by kernel_rfl
theorem kindPN (w : World) : ((ReflectliteType.abiMethod fun t => (fun a : Nat => Value.int IntKind.u8 (a : Int)) <$> Rtype.kind t) #[(.pointer (some ⟨1, 75, none⟩))]).run Tryd.prog w = .ok (.int .u8 22) w := by kernel_rfl
theorem kindEN (w : World) : ((ReflectliteType.abiMethod fun t => (fun a : Nat => Value.int IntKind.u8 (a : Int)) <$> Rtype.kind t) #[(.pointer (some ⟨1, 71, none⟩))]).run Tryd.prog w = .ok (.int .u8 25) w := by kernel_rfl
theorem partsPN (a : Addr) (w : World) : (ReflectliteValue.parts (.agg #[(.pointer (some ⟨1, 75, none⟩)), .pointer (some a), .int .u64 150])).run Tryd.prog w = .ok (some (75, a, 150)) w := by kernel_rfl
theorem isNilPN (a p : Addr) (W : World) (ha : W.cell? a = some (.pointer (some p))) :
    (ReflectliteValue.method (ReflectliteValue.valueError "reflectlite.Value.IsNil" 0) ReflectliteValue.isNil #[.agg #[(.pointer (some ⟨1, 75, none⟩)), .pointer (some a), .int .u64 150]]).run Tryd.prog W = .ok (.bool false) W := by
  rw [rlm]
  simp only [Sem.run_bind, partsPN, Result.andThen]
  simp [ReflectliteValue.isNil, loadVar, isAgg, underlying, Tryd.underlying75, ha, Result.andThen]
theorem elemPN (w : World) : (ReflectliteType.method ReflectliteType.elem #[.agg #[(.pointer (some ⟨1, 75, none⟩))]]).run Tryd.prog w = .ok (.iface 98 (.agg #[(.pointer (some ⟨1, 71, none⟩))])) w := by kernel_rfl
theorem implEN (w : World) : (ReflectliteType.relation "Implements" ReflectliteType.implements_ #[.agg #[(.pointer (some ⟨1, 71, none⟩))], .iface 98 (.agg #[(.pointer (some ⟨1, 49, none⟩))])]).run Tryd.prog w = .ok (.bool true) w := by kernel_rfl
theorem typeOfEN (v : Value) (w : World) : (ReflectliteType.typeOf #[.iface 71 v]).run Tryd.prog w = .ok (.iface 98 (.agg #[(.pointer (some ⟨1, 71, none⟩))])) w := by kernel_rfl
theorem elemOfPN (w : World) : (Rtype.elem? 75).run Tryd.prog w = .ok (some 71) w := by kernel_rfl
theorem mkEN (p : Addr) (w : World) : (ReflectliteValue.mk 71 p ReflectliteValue.flagAddr).run Tryd.prog w = .ok (.agg #[(.pointer (some ⟨1, 71, none⟩)), .pointer (some p), .int .u64 409]) w := by kernel_rfl
theorem elemVPN (a p : Addr) (W : World) (ha : W.cell? a = some (.pointer (some p))) :
    (ReflectliteValue.method (ReflectliteValue.valueError "reflectlite.Value.Elem" 0) ReflectliteValue.elem #[.agg #[(.pointer (some ⟨1, 75, none⟩)), .pointer (some a), .int .u64 150]]).run Tryd.prog W
      = .ok (.agg #[(.pointer (some ⟨1, 71, none⟩)), .pointer (some p), .int .u64 409]) W := by
  rw [rlm]
  simp only [Sem.run_bind, partsPN, Result.andThen]
  simp [ReflectliteValue.elem, loadVar, isAgg, underlying, Tryd.underlying75, ha, Result.andThen, elemOfPN, mkEN]
theorem assignLN (w : World) : (ReflectliteType.relation "AssignableTo" ReflectliteType.assignableTo #[.agg #[(.pointer (some ⟨1, 63, none⟩))], .iface 98 (.agg #[(.pointer (some ⟨1, 71, none⟩))])]).run Tryd.prog w = .ok (.bool false) w := by kernel_rfl
theorem assignSN (w : World) : (ReflectliteType.relation "AssignableTo" ReflectliteType.assignableTo #[.agg #[(.pointer (some ⟨1, 69, none⟩))], .iface 98 (.agg #[(.pointer (some ⟨1, 71, none⟩))])]).run Tryd.prog w = .ok (.bool false) w := by kernel_rfl
theorem assignNN (w : World) : (ReflectliteType.relation "AssignableTo" ReflectliteType.assignableTo #[.agg #[(.pointer (some ⟨1, 71, none⟩))], .iface 98 (.agg #[(.pointer (some ⟨1, 71, none⟩))])]).run Tryd.prog w = .ok (.bool true) w := by kernel_rfl
theorem noAsN (v : Value) (xT : TypeId) (w : World) : (Instr.typeAssert (.iface 71 v) xT 103 true).run Tryd.prog w = .ok (.tuple #[.nilIface, .bool false]) w := run_typeAssert_lacksB Tryd.underlying103 (by kernel_rfl) (by kernel_rfl) v xT w
theorem noUnN (v : Value) (xT : TypeId) (w : World) : (Instr.typeAssert (.iface 71 v) xT 106 true).run Tryd.prog w = .ok (.tuple #[.nilIface, .bool false]) w := run_typeAssert_lacksB Tryd.underlying106 (by kernel_rfl) (by kernel_rfl) v xT w
theorem noUnsN (v : Value) (xT : TypeId) (w : World) : (Instr.typeAssert (.iface 71 v) xT 108 true).run Tryd.prog w = .ok (.tuple #[.nilIface, .bool false]) w := run_typeAssert_lacksB Tryd.underlying108 (by kernel_rfl) (by kernel_rfl) v xT w
theorem valueOfEN (w : World) : (ReflectliteValue.unpack (.iface 71 (.agg #[]))).run Tryd.prog w
    = .ok (.agg #[(.pointer (some ⟨1, 71, none⟩)), .pointer (some ⟨w.heap.size, 0, none⟩), .int .u64 153]) (w.alloc (.cells #[] 71)) := by kernel_rfl
theorem partsEaN (a : Addr) (w : World) : (ReflectliteValue.parts (.agg #[(.pointer (some ⟨1, 71, none⟩)), .pointer (some a), .int .u64 409])).run Tryd.prog w = .ok (some (71, a, 409)) w := by kernel_rfl
theorem partsEN (a : Addr) (w : World) : (ReflectliteValue.parts (.agg #[(.pointer (some ⟨1, 71, none⟩)), .pointer (some a), .int .u64 153])).run Tryd.prog w = .ok (some (71, a, 153)) w := by kernel_rfl
theorem directEN (w : World) : (Rtype.directlyAssignable 71 71).run Tryd.prog w = .ok true w := by kernel_rfl
end Go.Proofs.YtmjkhkhjliadcaaDoor
