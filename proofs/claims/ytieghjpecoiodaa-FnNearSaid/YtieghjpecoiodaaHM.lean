/-
  A map that the call made, with elements of any type: what it holds as a function of the key.
-/
import Derived.Test.YtieghjpecoiodaaBase
import Derived.Maps.OwnSet
namespace Go.Proofs.Ytieghjpecoiodaa
open Go.RowKit Go.Maps Go.MapKept Go.WideShapes
set_option linter.unusedVariables false

def HR (v : Value) : Option (DataW Value × List MemPlace) := some (.held v, [])
open Classical in
noncomputable def updF (F : Value → Option Value) (key val : Value) : Value → Option Value := fun x => if x = key then some val else F x
theorem updF_same (F : Value → Option Value) (key val : Value) : updF F key val key = some val := by unfold updF; rw [if_pos rfl]
theorem updF_other (F : Value → Option Value) {key x : Value} (val : Value) (h : x ≠ key) : updF F key val x = F x := by unfold updF; rw [if_neg h]
/-- Block b is a map of at most n entries that holds F. -/
def MapAt (P : Program) (k : TypeId) (w : World) (b n : Nat) (F : Value → Option Value) : Prop :=
  ∃ D : DataW Value, w.ownsMap P k HR b n D ∧ ∀ key kl, keyOf P k key = some kl → Maps.has D kl = (F key).isSome ∧ ∀ z, D.atKey kl (.held z) = .held ((F key).getD z)
section
variable {P : Program} {k : TypeId} {w : World} {b n : Nat} {F : Value → Option Value}
theorem MapAt.made (w : World) (P : Program) (k : TypeId) : MapAt P k (w.alloc (.map #[] 0)) w.heap.size 0 (fun _ => none) :=
  ⟨.map [], World.ownsMap_made _ _ _ _, fun key kl _ => ⟨rfl, fun z => rfl⟩⟩
theorem MapAt.mono (h : MapAt P k w b n F) {n' : Nat} (hn : n ≤ n') : MapAt P k w b n' F := by
  obtain ⟨D, h1, h2⟩ := h
  exact ⟨D, h1.mono hn, h2⟩
theorem MapAt.congr (h : MapAt P k w b n F) {G : Value → Option Value} (he : ∀ key kl, keyOf P k key = some kl → F key = G key) : MapAt P k w b n G := by
  obtain ⟨D, h1, h2⟩ := h
  exact ⟨D, h1, fun key kl hk => by rw [← he key kl hk]; exact h2 key kl hk⟩
theorem MapAt.lt (h : MapAt P k w b n F) : b < w.heap.size := by
  obtain ⟨D, h1, _⟩ := h
  exact h1.lt
theorem MapAt.kept {w' : World} {row : Option Nat} (h : MapAt P k w b n F) (hg : w.grownBy w' row) (hne : some b ≠ row) : MapAt P k w' b n F := by
  obtain ⟨D, h1, h2⟩ := h
  exact ⟨D, h1.kept hg hne, h2⟩
theorem MapAt.block {w' : World} (h : MapAt P k w b n F) (hb : w'.heap[b]? = w.heap[b]?) : MapAt P k w' b n F := by
  obtain ⟨D, ⟨es, clock, h1, r⟩, h2⟩ := h
  exact ⟨D, ⟨es, clock, hb.trans h1, r⟩, h2⟩
theorem MapAt.below {w' : World} {B : Nat} (h : MapAt P k w b n F) (hb : Below B w w') (hB : b < B) : MapAt P k w' b n F := h.block (hb.block b hB)
theorem MapAt.alloc (h : MapAt P k w b n F) (o : Obj) : MapAt P k (w.alloc o) b n F := h.kept (World.grownBy_alloc w o none) (by simp)
theorem MapAt.setCell (h : MapAt P k w b n F) {a : Addr} (ha : b ≠ a.block) (u : Value) : MapAt P k (w.setCell a u) b n F := by
  obtain ⟨D, h1, h2⟩ := h
  exact ⟨D, h1.setCell ha u, h2⟩
theorem MapAt.store {t e : TypeId} (h : MapAt P k w b n F) (K : Keyed P k) (ht : P.underlying t = some (.map k e)) (hn : n < maxLen) {key : Value} {kl : Lit} (hkey : keyOf P k key = some kl) (val : Value) :
    ∃ w', (Instr.mapUpdate t (.map (some b)) key val).run P w = .ok () w' ∧ MapAt P k w' b (n + 1) (updF F key val) ∧ w.mapTurned w' b := by
  obtain ⟨D, h1, h2⟩ := h
  obtain ⟨w', hrun, r1, r2⟩ := h1.store K ht hn hkey (d := .held val) (ps := []) (show HR val = _ from rfl)
  refine ⟨w', hrun, ⟨_, r1, fun key' kl' hk' => ?_⟩, r2⟩
  by_cases he : key' = key
  · subst he
    obtain rfl : kl' = kl := Option.some.inj (hk'.symm.trans hkey)
    rw [updF_same]
    exact ⟨Maps.has_put_same h1.isMap (K.key hkey) _, fun z => Maps.atKey_put_same h1.isMap (K.key hkey) _ _⟩
  · have hne : kl' ≠ kl := fun e => he (K.inj hk' (e ▸ hkey))
    rw [updF_other F val he]
    exact ⟨(Maps.has_put_other hne _).trans (h2 key' kl' hk').1, fun z => (Maps.atKey_put_other hne _ _).trans ((h2 key' kl' hk').2 z)⟩
theorem MapAt.look {t e : TypeId} (h : MapAt P k w b n F) (K : Keyed P k) (ht : P.underlying t = some (.map k e)) {z : Value} (hz : (zeroValue e).run P w = .ok z w) {key : Value} {kl : Lit} (hkey : keyOf P k key = some kl) :
    (Instr.lookup t (.map (some b)) key false).run P w = .ok ((F key).getD z) w := by
  obtain ⟨D, h1, h2⟩ := h
  obtain ⟨v, ps, hrun, hv⟩ := h1.lookup K ht hz (show HR z = some (.held z, []) from rfl) hkey
  rw [(h2 key kl hkey).2 z] at hv
  unfold HR at hv
  simp only [Option.some.injEq, Prod.mk.injEq, DataW.held.injEq] at hv
  rw [hrun, hv.1]
theorem MapAt.look_ok {t e : TypeId} (h : MapAt P k w b n F) (K : Keyed P k) (ht : P.underlying t = some (.map k e)) {z : Value} (hz : (zeroValue e).run P w = .ok z w) {key : Value} {kl : Lit} (hkey : keyOf P k key = some kl) :
    (Instr.lookup t (.map (some b)) key true).run P w = .ok (.tuple #[(F key).getD z, .bool (F key).isSome]) w := by
  obtain ⟨D, h1, h2⟩ := h
  obtain ⟨v, ps, hrun, hv⟩ := h1.look_ok K ht hz (show HR z = some (.held z, []) from rfl) hkey
  rw [(h2 key kl hkey).2 z] at hv
  rw [(h2 key kl hkey).1] at hrun
  unfold HR at hv
  simp only [Option.some.injEq, Prod.mk.injEq, DataW.held.injEq] at hv
  rw [hrun, hv.1]
variable {ops : Array Oper} {rest : List Oper} {o : Oper} {a : Act} {Q : Exit → Act → World → Prop}
theorem wpList_lookH (hg : o.guard = none) (m x : Operand) (t : TypeId) (hop : o.op = Op.lookup t m x false)
    (e : TypeId) (K : Keyed P k) (ht : P.underlying t = some (.map k e)) {z : Value} (hz : (zeroValue e).run P w = .ok z w)
    (hm : a.eval m = .map (some b)) (h : MapAt P k w b n F) (key : Value) (kl : Lit) (hx : a.eval x = key) (hkey : keyOf P k key = some kl) (v : Value) (hv : (F key).getD z = v)
    (hK : wpList P ops Q rest (a.put o.dst v) w) : wpList P ops Q (o :: rest) a w := by
  refine wpList_plain hg fun K' hK' => ?_
  unfold Oper.wp
  simp [execOp, hop, hm, hx, h.look K ht hz hkey, Result.andThen]
  rw [hv]
  exact hK' _ _ hK
theorem wpList_lookH_ok (hg : o.guard = none) (m x : Operand) (t : TypeId) (hop : o.op = Op.lookup t m x true)
    (e : TypeId) (K : Keyed P k) (ht : P.underlying t = some (.map k e)) {z : Value} (hz : (zeroValue e).run P w = .ok z w)
    (hm : a.eval m = .map (some b)) (h : MapAt P k w b n F) (key : Value) (kl : Lit) (hx : a.eval x = key) (hkey : keyOf P k key = some kl) (v : Value) (hv : (F key).getD z = v) (t' : Bool) (ht' : (F key).isSome = t')
    (hK : wpList P ops Q rest (a.put o.dst (.tuple #[v, .bool t'])) w) : wpList P ops Q (o :: rest) a w := by
  refine wpList_plain hg fun K' hK' => ?_
  unfold Oper.wp
  simp [execOp, hop, hm, hx, h.look_ok K ht hz hkey, Result.andThen]
  rw [hv, ht']
  exact hK' _ _ hK
theorem wpList_storeH (hg : o.guard = none) (m x v : Operand) (t : TypeId) (hop : o.op = Op.mapUpdate t m x v)
    (e : TypeId) (K : Keyed P k) (ht : P.underlying t = some (.map k e))
    (hm : a.eval m = .map (some b)) (h : MapAt P k w b n F) (hn : n < maxLen) (key val : Value) (kl : Lit) (hx : a.eval x = key) (hv : a.eval v = val) (hkey : keyOf P k key = some kl)
    (hK : ∀ w', MapAt P k w' b (n + 1) (updF F key val) → w.mapTurned w' b → wpList P ops Q rest (a.put o.dst undef) w') :
    wpList P ops Q (o :: rest) a w := by
  refine wpList_plain hg fun K' hK' => ?_
  obtain ⟨w', hrun, r1, r2⟩ := h.store K ht hn hkey val
  unfold Oper.wp
  simp [execOp, hop, hm, hx, hv, hrun, Result.andThen]
  exact hK' _ _ (hK w' r1 r2)
end
end Go.Proofs.Ytieghjpecoiodaa
