/-
  The model's search in memory.
-/
import Derived.Test.YtjmgalmndpjcoaaJS1
import Derived.Deep.DeepCutAuto
import Derived.Deep.RegionHeld3
import Derived.Deep.AppendLies
import Derived.BigRegion
namespace Go.Proofs.Ytjmgalmndpjcoaa
open Go.RowKit
set_option maxRecDepth 100000
set_option linter.unusedVariables false

/-- The cells of a row of numbers. -/
def ncells (k : IntKind) (xs : List Int) : Array Value := Array.ofFn (n := xs.length) (fun i => .int k (xs.getD i 0))
theorem ncells_size (k : IntKind) (xs : List Int) : (ncells k xs).size = xs.length := by simp [ncells]
theorem ncells_get (k : IntKind) (xs : List Int) (i : Nat) (h : i < xs.length) : (ncells k xs)[i]? = some (.int k (xs.getD i 0)) := by
  unfold ncells
  rw [Array.getElem?_ofFn, dif_pos h]
theorem ncells_set (k : IntKind) (xs : List Int) (i : Nat) (v : Int) (h : i < xs.length) : (ncells k xs).setIfInBounds i (.int k v) = ncells k (xs.set i v) := by
  apply Array.ext
  · simp [ncells]
  · intro j h1 h2
    have e1 := ncells_get k (xs.set i v) j (by rw [ncells_size] at h2; exact h2)
    rw [Array.getElem?_eq_getElem h2] at e1
    have hj : j < (ncells k xs).size := by rw [ncells_size]; rw [ncells_size, List.length_set] at h2; exact h2
    have e2 := ncells_get k xs j (by rw [ncells_size] at hj; exact hj)
    rw [Array.getElem?_eq_getElem hj] at e2
    rw [Option.some.inj e1, gs_set _ _ _ _ h, Array.getElem_setIfInBounds hj]
    by_cases e : i = j
    · subst e; rw [if_pos rfl, if_pos rfl]
    · rw [if_neg e, if_neg (fun q => e q.symm)]
      exact Option.some.inj e2
theorem made_ncells (k : IntKind) (z : Int) (n : Nat) : madeCells #[Value.int k z] n = ncells k (List.replicate n z) := by
  apply Array.ext
  · simp [ncells, madeCells]
  · intro j h1 h2
    have hj : j < (List.replicate n z).length := by rw [ncells_size] at h2; exact h2
    have e1 := ncells_get k (List.replicate n z) j hj
    rw [Array.getElem?_eq_getElem h2] at e1
    rw [Option.some.inj e1]
    have hn : j < n := by simpa using hj
    simp [madeCells, List.getD_eq_getElem?_getD, hn, Nat.mod_one]
theorem mcells_size (ms : List Mv) : (mcells ms).size = ms.length * 3 := by simp [mcells]
theorem mvI_set (ms : List Mv) (i j : Nat) (m : Mv) (h : i < ms.length) : mvI (ms.set i m) j = if j = i then m else mvI ms j := by
  unfold mvI
  rw [List.getD_eq_getElem?_getD, List.getD_eq_getElem?_getD, List.getElem?_set]
  by_cases e : i = j
  · subst e; rw [if_pos rfl, if_pos rfl, if_pos h]; rfl
  · rw [if_neg e, if_neg (fun q => e q.symm)]
theorem mcells_set (ms : List Mv) (i : Nat) (m : Mv) (h : i < ms.length) : (((mcells ms).setIfInBounds (i * 3) (.int .i8 m.1)).setIfInBounds (i * 3 + 1) (.int .i8 m.2.1)).setIfInBounds (i * 3 + 2) (.int .i8 m.2.2) = mcells (ms.set i m) := by
  apply Array.ext
  · simp [mcells]
  · intro j h1 h2
    have hj : j < ms.length * 3 := by rw [mcells_size, List.length_set] at h2; exact h2
    have e1 := mcells_get (ms.set i m) j (by rw [List.length_set]; exact hj)
    rw [Array.getElem?_eq_getElem h2] at e1
    rw [Option.some.inj e1]
    have e2 := mcells_get ms j hj
    have hj2 : j < (mcells ms).size := by rw [mcells_size]; exact hj
    rw [Array.getElem?_eq_getElem hj2] at e2
    have e3 := Option.some.inj e2
    rw [Array.getElem_setIfInBounds (by simpa using hj2), Array.getElem_setIfInBounds (by simpa using hj2), Array.getElem_setIfInBounds hj2, e3]
    unfold mcell
    rw [mvI_set _ _ _ _ h]
    by_cases c2 : i * 3 + 2 = j
    · subst c2
      rw [if_pos rfl, if_neg (by omega), if_neg (by omega), if_pos (by omega)]
    · rw [if_neg c2]
      by_cases c1 : i * 3 + 1 = j
      · subst c1
        rw [if_pos rfl, if_neg (by omega), if_pos (by omega), if_pos (by omega)]
      · rw [if_neg c1]
        by_cases c0 : i * 3 = j
        · subst c0
          rw [if_pos rfl, if_pos (by omega), if_pos (by omega)]
        · rw [if_neg c0, if_neg (show ¬ j / 3 = i by omega)]
theorem made_mcells (n : Nat) : madeCells #[Value.int .i8 0, .int .i8 0, .int .i8 0] (n * 3) = mcells (List.replicate n (0, 0, 0)) := by
  apply Array.ext
  · simp [mcells, madeCells]
  · intro j h1 h2
    have hj : j < n * 3 := by rw [mcells_size, List.length_replicate] at h2; exact h2
    have e1 := mcells_get (List.replicate n (0, 0, 0)) j (by rw [List.length_replicate]; exact hj)
    rw [Array.getElem?_eq_getElem h2] at e1
    rw [Option.some.inj e1]
    have hz : mvI (List.replicate n (0, 0, 0)) (j / 3) = (0, 0, 0) := by
      unfold mvI
      simp [List.getD_eq_getElem?_getD, show j / 3 < n by omega]
    unfold mcell
    rw [hz]
    have : j % 3 = 0 ∨ j % 3 = 1 ∨ j % 3 = 2 := by omega
    rcases this with e | e | e <;> simp [madeCells, e]
theorem ownsRow_next {w w' : World} {B : Nat} {T : TypeId} {S : Nat} {v : Value} {n : Nat} {xs : List Value} (h : w.ownsRow B T S v n xs) (hb : Below w.heap.size w w') : w'.ownsRow B T S v n xs := by
  refine ⟨h.1, ?_⟩
  rcases h.2 with h1 | ⟨g, cap, cur, e, h1, h2, r⟩
  · exact .inl h1
  · exact .inr ⟨g, cap, cur, e, h1, (hb.block g (Array.getElem?_eq_some_iff.1 h2).1).trans h2, r⟩
/-- A search of waters in memory; beside it blocks that stand. -/
structure JMem (n N : Nat) (L : List (Nat × Obj)) (w0 : World) (S T Z U : Nat) (v : Value) (s : GS) (w : World) : Prop where
  below : Below w0.heap.size w0 w
  ne : S ≠ T ∧ S ≠ Z ∧ S ≠ U ∧ T ≠ Z ∧ T ≠ U ∧ Z ≠ U
  lo : w0.heap.size ≤ S ∧ w0.heap.size ≤ T ∧ w0.heap.size ≤ Z ∧ w0.heap.size ≤ U
  bS : Blk w S #[.slice (some ⟨T, 0, none⟩) N N, .slice (some ⟨Z, 0, none⟩) N N, .slice (some ⟨U, 0, none⟩) N N, v] 61
  bT : Blk w T (ncells .i16 s.tb) 23
  bZ : Blk w Z (ncells .i64 s.fr) 2
  bU : Blk w U (mcells (mvL n s.mv)) 78
  own : w.ownsRow w0.heap.size 2 1 v s.q.length (s.q.map (Value.int .i64))
  ob : v.ownBlock ≠ some S ∧ v.ownBlock ≠ some T ∧ v.ownBlock ≠ some Z ∧ v.ownBlock ≠ some U
  bL : ∀ p ∈ L, w.heap[p.1]? = some p.2 ∧ (S ≠ p.1 ∧ T ≠ p.1 ∧ Z ≠ p.1 ∧ U ≠ p.1) ∧ v.ownBlock ≠ some p.1
section
variable {n N : Nat} {L : List (Nat × Obj)} {w0 w w' : World} {S T Z U : Nat} {v : Value} {s : GS}
theorem blk_lt {w : World} {b : Nat} {o : Obj} (h : w.heap[b]? = some o) : b < w.heap.size := (Array.getElem?_eq_some_iff.1 h).1
theorem JMem.next (h : JMem n N L w0 S T Z U v s w) (hb : Below w.heap.size w w') : JMem n N L w0 S T Z U v s w' :=
  ⟨h.below.trans (hb.mono h.below.size), h.ne, h.lo, h.bS.below hb h.bS.lt, h.bT.below hb h.bT.lt, h.bZ.below hb h.bZ.lt, h.bU.below hb h.bU.lt, ownsRow_next h.own hb, h.ob, fun p hp => ⟨(hb.block p.1 (blk_lt (h.bL p hp).1)).trans (h.bL p hp).1, (h.bL p hp).2⟩⟩
theorem JMem.far (h : JMem n N L w0 S T Z U v s w) (hb : Below w.heap.size w w') {g : Nat} {G : Obj} (hg : w'.heap[g]? = some G) (hl : w.heap.size ≤ g) : JMem n N ((g, G) :: L) w0 S T Z U v s w' := by
  have h1 := h.next hb
  refine ⟨h1.below, h1.ne, h1.lo, h1.bS, h1.bT, h1.bZ, h1.bU, h1.own, h1.ob, fun p hp => ?_⟩
  rcases List.mem_cons.1 hp with rfl | hp
  · have l1 := h.bS.lt
    have l2 := h.bT.lt
    have l3 := h.bZ.lt
    have l4 := h.bU.lt
    refine ⟨hg, ⟨by omega, by omega, by omega, by omega⟩, fun e => ?_⟩
    have := (h.own.lt _ e).2
    omega
  · exact h1.bL p hp
theorem JMem.sub (h : JMem n N L w0 S T Z U v s w) {L' : List (Nat × Obj)} (hL : ∀ p ∈ L', p ∈ L) : JMem n N L' w0 S T Z U v s w :=
  ⟨h.below, h.ne, h.lo, h.bS, h.bT, h.bZ, h.bU, h.own, h.ob, fun p hp => h.bL p (hL p hp)⟩
theorem JMem.at1 {g : Nat} {G : Obj} (h : JMem n N ((g, G) :: L) w0 S T Z U v s w) : w.heap[g]? = some G := (h.bL (g, G) List.mem_cons_self).1
theorem JMem.at2 {p : Nat × Obj} {g : Nat} {G : Obj} (h : JMem n N (p :: (g, G) :: L) w0 S T Z U v s w) : w.heap[g]? = some G := (h.bL (g, G) (by simp)).1
theorem ownsRow_set {w : World} {B : Nat} {T : TypeId} {S : Nat} {v : Value} {n : Nat} {xs : List Value} (h : w.ownsRow B T S v n xs) (a : Addr) (u : Value) (hne : v.ownBlock ≠ some a.block) : (w.setCell a u).ownsRow B T S v n xs := by
  refine ⟨h.1, ?_⟩
  rcases h.2 with h1 | ⟨g, cap, cur, e, h1, h2, r⟩
  · exact .inl h1
  · refine .inr ⟨g, cap, cur, e, h1, ?_, r⟩
    have hg : g ≠ a.block := fun e2 => hne (by rw [e]; show some g = _; rw [e2])
    rw [Below.heap_setCell _ _ _ _ hg]
    exact h2
theorem bG_set {w : World} {gl : Nat} {G : Obj} (h : w.heap[gl]? = some G) {b : Nat} (hb : b ≠ gl) (i : Nat) (u : Value) : (w.setCell ⟨b, i, none⟩ u).heap[gl]? = some G := by
  rw [Below.heap_setCell _ _ _ _ (fun e => hb e.symm)]; exact h
theorem JMem.setT (h : JMem n N L w0 S T Z U v s w) {i : Nat} (hi : i < s.tb.length) (x : Int) : JMem n N L w0 S T Z U v { s with tb := s.tb.set i x } (w.setCell ⟨T, i, none⟩ (.int .i16 x)) := by
  obtain ⟨n1, n2, n3, n4, n5, n6⟩ := h.ne
  exact ⟨h.below.setCell h.lo.2.1 _, h.ne, h.lo, h.bS.setOther n1 _ _, by have := h.bT.set i (.int .i16 x); rwa [ncells_set _ _ _ _ hi] at this, h.bZ.setOther n4.symm _ _, h.bU.setOther n5.symm _ _, ownsRow_set h.own _ _ h.ob.2.1, h.ob, fun p hp => ⟨bG_set (h.bL p hp).1 (h.bL p hp).2.1.2.1 _ _, (h.bL p hp).2⟩⟩
theorem JMem.setZ (h : JMem n N L w0 S T Z U v s w) {i : Nat} (hi : i < s.fr.length) (x : Int) : JMem n N L w0 S T Z U v { s with fr := s.fr.set i x } (w.setCell ⟨Z, i, none⟩ (.int .i64 x)) := by
  obtain ⟨n1, n2, n3, n4, n5, n6⟩ := h.ne
  exact ⟨h.below.setCell h.lo.2.2.1 _, h.ne, h.lo, h.bS.setOther n2 _ _, h.bT.setOther n4 _ _, by have := h.bZ.set i (.int .i64 x); rwa [ncells_set _ _ _ _ hi] at this, h.bU.setOther n6.symm _ _, ownsRow_set h.own _ _ h.ob.2.2.1, h.ob, fun p hp => ⟨bG_set (h.bL p hp).1 (h.bL p hp).2.1.2.2.1 _ _, (h.bL p hp).2⟩⟩
theorem JMem.setU (h : JMem n N L w0 S T Z U v s w) {i : Nat} (hi : i < s.mv.length) (j : Nat) {m : Mv} (hm : mvI (allM n) j = m) :
    JMem n N L w0 S T Z U v { s with mv := s.mv.set i j } (((w.setCell ⟨U, i * 3, none⟩ (.int .i8 m.1)).setCell ⟨U, i * 3 + 1, none⟩ (.int .i8 m.2.1)).setCell ⟨U, i * 3 + 2, none⟩ (.int .i8 m.2.2)) := by
  obtain ⟨n1, n2, n3, n4, n5, n6⟩ := h.ne
  refine ⟨((h.below.setCell h.lo.2.2.2 _).setCell h.lo.2.2.2 _).setCell h.lo.2.2.2 _, h.ne, h.lo, ((h.bS.setOther n3 _ _).setOther n3 _ _).setOther n3 _ _, ((h.bT.setOther n5 _ _).setOther n5 _ _).setOther n5 _ _, ((h.bZ.setOther n6 _ _).setOther n6 _ _).setOther n6 _ _, ?_, ownsRow_set (ownsRow_set (ownsRow_set h.own _ _ h.ob.2.2.2) _ _ h.ob.2.2.2) _ _ h.ob.2.2.2, h.ob, fun p hp => ?_⟩
  · have := ((h.bU.set (i * 3) (.int .i8 m.1)).set (i * 3 + 1) (.int .i8 m.2.1)).set (i * 3 + 2) (.int .i8 m.2.2)
    rw [mcells_set _ _ _ (by rw [mvL_len]; exact hi)] at this
    show Blk _ _ (mcells (mvL n (s.mv.set i j))) _
    rw [mvL_set, hm]
    exact this
  · obtain ⟨q1, q2, q3⟩ := h.bL p hp
    exact ⟨bG_set (bG_set (bG_set q1 q2.2.2.2 _ _) q2.2.2.2 _ _) q2.2.2.2 _ _, q2, q3⟩
/-- The queue has been appended to, behind the new element's own block, and is laid. -/
theorem JMem.push (h : JMem n N L w0 S T Z U v s w) {a : Int} {g cap H : Nat} {o : Obj} (hown : w'.ownsRow w0.heap.size 2 1 (.slice (some ⟨g, 0, none⟩) (s.q.length + 1) cap) (s.q.length + 1) (s.q.map (Value.int .i64) ++ [.int .i64 a]))
    (hgrow : (w.alloc o).grownBy w' v.ownBlock) (hat : v.ownBlock = some g ∨ g = H) (hH : w.heap.size < H) :
    JMem n N L w0 S T Z U (.slice (some ⟨g, 0, none⟩) (s.q.length + 1) cap) { s with q := s.q ++ [a] } (w'.setCell ⟨S, 3, none⟩ (.slice (some ⟨g, 0, none⟩) (s.q.length + 1) cap)) := by
  obtain ⟨n1, n2, n3, n4, n5, n6⟩ := h.ne
  obtain ⟨o1, o2, o3, o4⟩ := h.ob
  have l1 := h.bS.lt
  have l2 := h.bT.lt
  have l3 := h.bZ.lt
  have l4 := h.bU.lt
  have K : ∀ {b : Nat} {cs : Array Value} {t : TypeId}, Blk w b cs t → v.ownBlock ≠ some b → Blk w' b cs t := fun {b cs t} hk hne => (hgrow.block b (by have := hk.lt; simp; omega) (fun e => hne e.symm)).trans (hk.alloc o)
  have G2 : ∀ {b : Nat}, b < w.heap.size → v.ownBlock ≠ some b → g ≠ b := fun {b} hb hne e => by
    rcases hat with e2 | e2
    · exact hne (by rw [e2, e])
    · omega
  have hbel : Below w0.heap.size w0 w' := by
    refine (h.below.alloc h.below.size o).grown hgrow (by have := h.below.size; simp; omega) (fun j hj => ?_)
    exact (h.own.lt j hj).1
  refine ⟨hbel.setCell h.lo.1 _, h.ne, h.lo, ?_, (K h.bT o2).setOther n1.symm _ _, (K h.bZ o3).setOther n2.symm _ _, (K h.bU o4).setOther n3.symm _ _, ?_, ?_, fun p hp => ?_⟩
  · have := (K h.bS o1).set 3 (.slice (some ⟨g, 0, none⟩) (s.q.length + 1) cap)
    exact this
  · show World.ownsRow _ _ _ _ _ (s.q ++ [a]).length ((s.q ++ [a]).map (Value.int .i64))
    rw [List.length_append, List.map_append]
    exact ownsRow_set hown _ _ (fun e => G2 l1 o1 (by injection e))
  · exact ⟨fun e => G2 l1 o1 (by injection e), fun e => G2 l2 o2 (by injection e), fun e => G2 l3 o3 (by injection e), fun e => G2 l4 o4 (by injection e)⟩
  · obtain ⟨q1, q2, q3⟩ := h.bL p hp
    have l5 := blk_lt q1
    have KG : w'.heap[p.1]? = some p.2 := (hgrow.block p.1 (by simp; omega) (fun e => q3 e.symm)).trans ((Below.heap_alloc w o p.1 l5).trans q1)
    exact ⟨bG_set KG q2.1 _ _, q2, fun e => G2 l5 q3 (by injection e)⟩
theorem JMem.pushS (h : JMem n N L w0 S T Z U v s w) {o : Obj} (hgrow : (w.alloc o).grownBy w' v.ownBlock) : Blk w' S #[.slice (some ⟨T, 0, none⟩) N N, .slice (some ⟨Z, 0, none⟩) N N, .slice (some ⟨U, 0, none⟩) N N, v] 61 :=
  (hgrow.block S (by have := h.bS.lt; simp; omega) (fun e => h.ob.1 e.symm)).trans (h.bS.alloc o)
end
end Go.Proofs.Ytjmgalmndpjcoaa
