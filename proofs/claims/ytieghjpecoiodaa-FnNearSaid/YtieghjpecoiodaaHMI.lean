/-
  Laws inside a fence for a map that the call made.
-/
import Derived.Test.YtieghjpecoiodaaHM
import Derived.Maps.OwnIn
import Derived.RangeFuncFrom
import Derived.DeepKeys4
namespace Go.Proofs.Ytieghjpecoiodaa
open Go.RowKit Go.Maps Go.MapKept Go.ChangeMaps
set_option maxRecDepth 100000
set_option linter.unusedVariables false

section
variable {F : Fence} {nF : Nat} {P : Program} {k : TypeId} {w : World} {b n : Nat} {G : Value → Option Value}
variable {ops : Array Oper} {rest : List Oper} {o : Oper} {a : Act} {Q : Exit → Act → World → Prop}
theorem wpListIn_lookH (hg : o.guard = none) (m x : Operand) (t : TypeId) (hop : o.op = Op.lookup t m x false)
    (e : TypeId) (K : Keyed P k) (ht : P.underlying t = some (.map k e)) {z : Value} (hz : (zeroValue e).run P w = .ok z w)
    (hm : a.eval m = .map (some b)) (h : MapAt P k w b n G) (key : Value) (kl : Lit) (hx : a.eval x = key) (hkey : keyOf P k key = some kl) (v : Value) (hv : (G key).getD z = v)
    (hK : wpListIn F nF P ops Q rest (a.put o.dst v) w) : wpListIn F nF P ops Q (o :: rest) a w := by
  refine wpListIn_plain hg fun K' hK' => ?_
  unfold Oper.wpIn
  refine ⟨by simp [Oper.about, hop], ?_⟩
  rw [Oper.semAt_plain F _ _ (by rw [hop]; intro c hc'; cases hc')]
  simp [execOp, hop, hm, hx, h.look K ht hz hkey, Result.andThen]
  rw [hv]
  exact hK' _ _ hK
theorem wpListIn_lookH_ok (hg : o.guard = none) (m x : Operand) (t : TypeId) (hop : o.op = Op.lookup t m x true)
    (e : TypeId) (K : Keyed P k) (ht : P.underlying t = some (.map k e)) {z : Value} (hz : (zeroValue e).run P w = .ok z w)
    (hm : a.eval m = .map (some b)) (h : MapAt P k w b n G) (key : Value) (kl : Lit) (hx : a.eval x = key) (hkey : keyOf P k key = some kl) (v : Value) (hv : (G key).getD z = v) (t' : Bool) (ht' : (G key).isSome = t')
    (hK : wpListIn F nF P ops Q rest (a.put o.dst (.tuple #[v, .bool t'])) w) : wpListIn F nF P ops Q (o :: rest) a w := by
  refine wpListIn_plain hg fun K' hK' => ?_
  unfold Oper.wpIn
  refine ⟨by simp [Oper.about, hop], ?_⟩
  rw [Oper.semAt_plain F _ _ (by rw [hop]; intro c hc'; cases hc')]
  simp [execOp, hop, hm, hx, h.look_ok K ht hz hkey, Result.andThen]
  rw [hv, ht']
  exact hK' _ _ hK
theorem wpListIn_storeH (hg : o.guard = none) (m x v : Operand) (t : TypeId) (hop : o.op = Op.mapUpdate t m x v)
    (e : TypeId) (K : Keyed P k) (ht : P.underlying t = some (.map k e))
    (hm : a.eval m = .map (some b)) (h : MapAt P k w b n G) (hn : n < maxLen) (key val : Value) (kl : Lit) (hx : a.eval x = key) (hv : a.eval v = val) (hkey : keyOf P k key = some kl)
    (hK : ∀ w', MapAt P k w' b (n + 1) (updF G key val) → w.mapTurned w' b → wpListIn F nF P ops Q rest (a.put o.dst undef) w') :
    wpListIn F nF P ops Q (o :: rest) a w := by
  refine wpListIn_plain hg fun K' hK' => ?_
  obtain ⟨w', hrun, r1, r2⟩ := h.store K ht hn hkey val
  unfold Oper.wpIn
  refine ⟨by simp [Oper.about, hop], ?_⟩
  rw [Oper.semAt_plain F _ _ (by rw [hop]; intro c hc'; cases hc')]
  simp [execOp, hop, hm, hx, hv, hrun, Result.andThen]
  exact hK' _ _ (hK w' r1 r2)
theorem map_own {β : Type} {C mb : Nat} (hm : mb < C) (f : β → Value → Option Value) (g : β → Nat) : OwnFrom C (fun s W => ∃ n, n ≤ g s ∧ MapAt P k W mb n (f s)) := fun s X Y row hs hg hr => by
  obtain ⟨n, hn, h⟩ := hs
  exact ⟨n, hn, h.block (hg.block mb h.lt (fun e => by have := (hr mb e.symm).1; omega))⟩
end
end Go.Proofs.Ytieghjpecoiodaa
