/-
  The program's search of ferries: what its map holds, by numbers.
-/
import Derived.Test.YtoeoilhbekhnbaaY31
import Derived.Test.YtoeoilhbekhnbaaHM
import Derived.Maps.OwnIn
import Derived.DeepKeys4
namespace Go.Proofs.Ytoeoilhbekhnbaa
open Go.RowKit Go.Maps Go.MapKept Go.ChangeMaps
set_option maxRecDepth 100000
set_option linter.unusedVariables false

section
variable {F : Fence} {nF : Nat} {P : Program} {k : TypeId} {w : World} {b n : Nat} {G : Value → Option Value}
variable {ops : Array Oper} {rest : List Oper} {o : Oper} {a : Act} {Q : Exit → Act → World → Prop}
theorem wpListIn_lookH (hg : o.guard = none) (m x : Operand) (t : TypeId) (hop : o.op = Op.lookup t m x false)
    (e : TypeId) (K : Keyed P k) (ht : P.underlying t = some (.map k e)) {z : Value} (hz : (zeroValue e).run P w = .ok z w)
    (hm : a.eval m = .map (some b)) (h : MapAt P k w b n G) (key : Value) (kl : Lit) (hx : a.eval x = key) (hkey : keyOf P k key = some kl) (v : Value) (hv : (G key).getD z = v)
    (hK : wpListIn F nF P ops Q rest (a.put o.dst v) w) : wpListIn F nF P ops Q (o :: rest) a w := by
  refine wpListIn_plain hg fun K' hK' => ?_
  unfold Oper.wpIn
  refine ⟨by simp [Oper.about, hop], ?_⟩
  rw [Oper.semAt_plain F _ _ (by rw [hop]; intro c hc'; cases hc')]
  simp [execOp, hop, hm, hx, h.look K ht hz hkey, Result.andThen]
  rw [hv]
  exact hK' _ _ hK
theorem wpListIn_lookH_ok (hg : o.guard = none) (m x : Operand) (t : TypeId) (hop : o.op = Op.lookup t m x true)
    (e : TypeId) (K : Keyed P k) (ht : P.underlying t = some (.map k e)) {z : Value} (hz : (zeroValue e).run P w = .ok z w)
    (hm : a.eval m = .map (some b)) (h : MapAt P k w b n G) (key : Value) (kl : Lit) (hx : a.eval x = key) (hkey : keyOf P k key = some kl) (v : Value) (hv : (G key).getD z = v) (t' : Bool) (ht' : (G key).isSome = t')
    (hK : wpListIn F nF P ops Q rest (a.put o.dst (.tuple #[v, .bool t'])) w) : wpListIn F nF P ops Q (o :: rest) a w := by
  refine wpListIn_plain hg fun K' hK' => ?_
  unfold Oper.wpIn
  refine ⟨by simp [Oper.about, hop], ?_⟩
  rw [Oper.semAt_plain F _ _ (by rw [hop]; intro c hc'; cases hc')]
  simp [execOp, hop, hm, hx, h.look_ok K ht hz hkey, Result.andThen]
  rw [hv, ht']
  exact hK' _ _ hK
theorem wpListIn_storeH (hg : o.guard = none) (m x v : Operand) (t : TypeId) (hop : o.op = Op.mapUpdate t m x v)
    (e : TypeId) (K : Keyed P k) (ht : P.underlying t = some (.map k e))
    (hm : a.eval m = .map (some b)) (h : MapAt P k w b n G) (hn : n < maxLen) (key val : Value) (kl : Lit) (hx : a.eval x = key) (hv : a.eval v = val) (hkey : keyOf P k key = some kl)
    (hK : ∀ w', MapAt P k w' b (n + 1) (updF G key val) → w.mapTurned w' b → wpListIn F nF P ops Q rest (a.put o.dst undef) w') :
    wpListIn F nF P ops Q (o :: rest) a w := by
  refine wpListIn_plain hg fun K' hK' => ?_
  obtain ⟨w', hrun, r1, r2⟩ := h.store K ht hn hkey val
  unfold Oper.wpIn
  refine ⟨by simp [Oper.about, hop], ?_⟩
  rw [Oper.semAt_plain F _ _ (by rw [hop]; intro c hc'; cases hc')]
  simp [execOp, hop, hm, hx, hv, hrun, Result.andThen]
  exact hK' _ _ (hK w' r1 r2)
end
theorem keyB : Keyed Try.prog 64 := Keyed.of_law (deep_law_laid (m := 9999) (by kernel_rfl) (by decide) (of_decide_eq_true (by kernel_rfl)) (by kernel_rfl) (by kernel_rfl))
/-- The key that a bank is read as. -/
theorem keyB_mk (n : Int) (f : Bool) (h : 0 ≤ n ∧ n ≤ 65535) : ∃ kl, keyOf Try.prog 64 (bankV n f) = some kl := by
  have hw : (Lit.int .u16 n).wf = true := by
    simp only [Lit.wf, Bool.and_eq_true, decide_eq_true_eq]; exact h
  have hu := Try.underlying64
  have hi : Try.prog.underlying 62 = some (.int .u16) := Try.underlying62
  have hb : Try.prog.underlying 4 = some .bool := Try.underlying4
  have hc : Try.prog.cellsOf 62 = 1 := by kernel_rfl
  have hcb : Try.prog.cellsOf 4 = 1 := by kernel_rfl
  have hc2 : Try.prog.cellsOf 64 = 2 := by kernel_rfl
  have hkt : Try.prog.keyType 64 = true := by kernel_rfl
  obtain ⟨d, hd⟩ : ∃ d, Try.prog.types.size = d + 1 := ⟨Try.prog.types.size - 1, by kernel_rfl⟩
  have hf : (bankV n f : Value).formed Try.prog 64 = true := by simp [Value.formed, hu, hc2]
  unfold keyOf
  rw [hu]
  simp only [hkt, hf, Bool.and_self, if_true]
  rw [hd]
  cases f <;> simp [Program.keyLits, hu, hi, hb, hc, hcb, hc2, Value.cells, hw]
end Go.Proofs.Ytoeoilhbekhnbaa
