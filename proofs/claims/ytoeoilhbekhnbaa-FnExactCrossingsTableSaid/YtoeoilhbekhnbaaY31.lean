/-
  The model's search in memory, with its queue and blocks that stand beside it.
-/
import Derived.Test.YtoeoilhbekhnbaaY30
import Derived.Deep.AppendLies
namespace Go.Proofs.Ytoeoilhbekhnbaa
open Go.RowKit
set_option maxRecDepth 100000
set_option linter.unusedVariables false

theorem blk_lt {w : World} {b : Nat} {o : Obj} (h : w.heap[b]? = some o) : b < w.heap.size := (Array.getElem?_eq_some_iff.1 h).1
theorem ownsRow_next {w w' : World} {B : Nat} {T : TypeId} {S : Nat} {v : Value} {n : Nat} {xs : List Value} (h : w.ownsRow B T S v n xs) (hb : Below w.heap.size w w') : w'.ownsRow B T S v n xs := by
  refine ⟨h.1, ?_⟩
  rcases h.2 with h1 | ⟨g, cap, cur, e, h1, h2, r⟩
  · exact .inl h1
  · exact .inr ⟨g, cap, cur, e, h1, (hb.block g (Array.getElem?_eq_some_iff.1 h2).1).trans h2, r⟩
theorem ownsRow_set {w : World} {B : Nat} {T : TypeId} {S : Nat} {v : Value} {n : Nat} {xs : List Value} (h : w.ownsRow B T S v n xs) (a : Addr) (u : Value) (hne : v.ownBlock ≠ some a.block) : (w.setCell a u).ownsRow B T S v n xs := by
  refine ⟨h.1, ?_⟩
  rcases h.2 with h1 | ⟨g, cap, cur, e, h1, h2, r⟩
  · exact .inl h1
  · refine .inr ⟨g, cap, cur, e, h1, ?_, r⟩
    have hg : g ≠ a.block := fun e2 => hne (by rw [e]; show some g = _; rw [e2])
    rw [Below.heap_setCell _ _ _ _ hg]
    exact h2
theorem bG_set {w : World} {gl : Nat} {G : Obj} (h : w.heap[gl]? = some G) {b : Nat} (hb : b ≠ gl) (i : Nat) (u : Value) : (w.setCell ⟨b, i, none⟩ u).heap[gl]? = some G := by
  rw [Below.heap_setCell _ _ _ _ (fun e => hb e.symm)]; exact h
/-- A search, its queue and blocks that stand. -/
structure LMem (L : List (Nat × Obj)) (w0 : World) (S T Y Z U N : Nat) (v : Value) (s : St) (w : World) : Prop where
  mem : Mem w0 S T Y Z U N s w
  own : w.ownsRow w0.heap.size 2 1 v s.q.length (s.q.map (Value.int .i64))
  ob : v.ownBlock ≠ some S ∧ v.ownBlock ≠ some T ∧ v.ownBlock ≠ some Y ∧ v.ownBlock ≠ some Z ∧ v.ownBlock ≠ some U
  bL : ∀ p ∈ L, w.heap[p.1]? = some p.2 ∧ (S ≠ p.1 ∧ T ≠ p.1 ∧ Y ≠ p.1 ∧ Z ≠ p.1 ∧ U ≠ p.1) ∧ v.ownBlock ≠ some p.1
section
variable {L : List (Nat × Obj)} {w0 w w' : World} {S T Y Z U N : Nat} {v : Value} {s : St}
theorem LMem.next (h : LMem L w0 S T Y Z U N v s w) (hb : Below w.heap.size w w') : LMem L w0 S T Y Z U N v s w' :=
  ⟨h.mem.next hb, ownsRow_next h.own hb, h.ob, fun p hp => ⟨(hb.block p.1 (blk_lt (h.bL p hp).1)).trans (h.bL p hp).1, (h.bL p hp).2⟩⟩
theorem LMem.far (h : LMem L w0 S T Y Z U N v s w) (hb : Below w.heap.size w w') {g : Nat} {G : Obj} (hg : w'.heap[g]? = some G) (hl : w.heap.size ≤ g) : LMem ((g, G) :: L) w0 S T Y Z U N v s w' := by
  have h1 := h.next hb
  refine ⟨h1.mem, h1.own, h1.ob, fun p hp => ?_⟩
  rcases List.mem_cons.1 hp with rfl | hp
  · have l1 := h.mem.bS.lt
    have l2 := h.mem.bT.lt
    have l3 := h.mem.bY.lt
    have l4 := h.mem.bZ.lt
    have l5 := h.mem.bU.lt
    refine ⟨hg, ⟨by omega, by omega, by omega, by omega, by omega⟩, fun e => ?_⟩
    have := (h.own.lt _ e).2
    omega
  · exact h1.bL p hp
theorem LMem.sub (h : LMem L w0 S T Y Z U N v s w) {L' : List (Nat × Obj)} (hL : ∀ p ∈ L', p ∈ L) : LMem L' w0 S T Y Z U N v s w := ⟨h.mem, h.own, h.ob, fun p hp => h.bL p (hL p hp)⟩
theorem LMem.at1 {g : Nat} {G : Obj} (h : LMem ((g, G) :: L) w0 S T Y Z U N v s w) : w.heap[g]? = some G := (h.bL (g, G) List.mem_cons_self).1
theorem LMem.at2 {p : Nat × Obj} {g : Nat} {G : Obj} (h : LMem (p :: (g, G) :: L) w0 S T Y Z U N v s w) : w.heap[g]? = some G := (h.bL (g, G) (by simp)).1
theorem LMem.setT (h : LMem L w0 S T Y Z U N v s w) {i : Nat} (hi : i < s.tb.length) (x : Int) : LMem L w0 S T Y Z U N v { s with tb := s.tb.set i x } (w.setCell ⟨T, i, none⟩ (.int .i16 x)) :=
  ⟨h.mem.setT hi x, ownsRow_set h.own _ _ h.ob.2.1, h.ob, fun p hp => ⟨bG_set (h.bL p hp).1 (h.bL p hp).2.1.2.1 _ _, (h.bL p hp).2⟩⟩
theorem LMem.setY (h : LMem L w0 S T Y Z U N v s w) {i : Nat} (hi : i < s.wy.length) (x : Int) : LMem L w0 S T Y Z U N v { s with wy := s.wy.set i x } (w.setCell ⟨Y, i, none⟩ (.int .i64 x)) :=
  ⟨h.mem.setY hi x, ownsRow_set h.own _ _ h.ob.2.2.1, h.ob, fun p hp => ⟨bG_set (h.bL p hp).1 (h.bL p hp).2.1.2.2.1 _ _, (h.bL p hp).2⟩⟩
theorem LMem.setZ (h : LMem L w0 S T Y Z U N v s w) {i : Nat} (hi : i < s.fr.length) (x : Int) : LMem L w0 S T Y Z U N v { s with fr := s.fr.set i x } (w.setCell ⟨Z, i, none⟩ (.int .i64 x)) :=
  ⟨h.mem.setZ hi x, ownsRow_set h.own _ _ h.ob.2.2.2.1, h.ob, fun p hp => ⟨bG_set (h.bL p hp).1 (h.bL p hp).2.1.2.2.2.1 _ _, (h.bL p hp).2⟩⟩
theorem LMem.setU (h : LMem L w0 S T Y Z U N v s w) {i : Nat} (hi : i < s.by'.length) (x : Int) : LMem L w0 S T Y Z U N v { s with by' := s.by'.set i x } (w.setCell ⟨U, i, none⟩ (.int .u16 x)) :=
  ⟨h.mem.setU hi x, ownsRow_set h.own _ _ h.ob.2.2.2.2, h.ob, fun p hp => ⟨bG_set (h.bL p hp).1 (h.bL p hp).2.1.2.2.2.2 _ _, (h.bL p hp).2⟩⟩
/-- The queue has been appended to, behind the new element's own block. -/
theorem LMem.push (h : LMem L w0 S T Y Z U N v s w) {a : Int} {g cap H : Nat} {o : Obj} (hown : w'.ownsRow w0.heap.size 2 1 (.slice (some ⟨g, 0, none⟩) (s.q.length + 1) cap) (s.q.length + 1) (s.q.map (Value.int .i64) ++ [.int .i64 a]))
    (hgrow : (w.alloc o).grownBy w' v.ownBlock) (hat : v.ownBlock = some g ∨ g = H) (hH : w.heap.size < H) :
    LMem L w0 S T Y Z U N (.slice (some ⟨g, 0, none⟩) (s.q.length + 1) cap) { s with q := s.q ++ [a] } w' := by
  obtain ⟨o1, o2, o3, o4, o5⟩ := h.ob
  have l1 := h.mem.bS.lt
  have l2 := h.mem.bT.lt
  have l3 := h.mem.bY.lt
  have l4 := h.mem.bZ.lt
  have l5 := h.mem.bU.lt
  have K : ∀ {b : Nat} {cs : Array Value} {t : TypeId}, Blk w b cs t → v.ownBlock ≠ some b → Blk w' b cs t := fun {b cs t} hk hne => (hgrow.block b (by have := hk.lt; simp; omega) (fun e => hne e.symm)).trans (hk.alloc o)
  have G2 : ∀ {b : Nat}, b < w.heap.size → v.ownBlock ≠ some b → g ≠ b := fun {b} hb hne e => by
    rcases hat with e2 | e2
    · exact hne (by rw [e2, e])
    · omega
  have hbel : Below w0.heap.size w0 w' := by
    refine (h.mem.below.alloc h.mem.below.size o).grown hgrow (by have := h.mem.below.size; simp; omega) (fun j hj => ?_)
    exact (h.own.lt j hj).1
  refine ⟨⟨hbel, h.mem.five, h.mem.lo, K h.mem.bS o1, K h.mem.bT o2, K h.mem.bY o3, K h.mem.bZ o4, K h.mem.bU o5⟩, ?_, ?_, fun p hp => ?_⟩
  · show World.ownsRow _ _ _ _ _ (s.q ++ [a]).length ((s.q ++ [a]).map (Value.int .i64))
    rw [List.length_append, List.map_append]
    exact hown
  · exact ⟨fun e => G2 l1 o1 (by injection e), fun e => G2 l2 o2 (by injection e), fun e => G2 l3 o3 (by injection e), fun e => G2 l4 o4 (by injection e), fun e => G2 l5 o5 (by injection e)⟩
  · obtain ⟨q1, q2, q3⟩ := h.bL p hp
    have l6 := blk_lt q1
    exact ⟨(hgrow.block p.1 (by simp; omega) (fun e => q3 e.symm)).trans ((Below.heap_alloc w o p.1 l6).trans q1), q2, fun e => G2 l6 q3 (by injection e)⟩
end
theorem info_s16 : (Try.prog.info? 58).map (fun i => (i.zero, i.size, i.bytes)) = some (some (.int .i16 0), 1, 2) := by kernel_rfl
theorem info_s64 : (Try.prog.info? 2).map (fun i => (i.zero, i.size, i.bytes)) = some (some (.int .i64 0), 1, 8) := by kernel_rfl
theorem blk_at {W : World} {b : Nat} {cs : Array Value} {t : TypeId} (h : W.heap.size = b) : Blk (W.alloc (.cells cs t)) b cs t := by subst h; exact blk_new W cs t
theorem blk_dw {W : World} {b : Nat} {cs : Array Value} {t : TypeId} (h : Blk W b cs t) : Blk W.drew b cs t := h
def St.none (N : Nat) : St := { tb := List.replicate N 0, wy := List.replicate N 0, fr := List.replicate N 0, by' := List.replicate N 0, q := [] }
theorem Mem.made {N : Nat} {w W : World} {S T Y Z U : Nat} (hS : Blk W S #[.slice (some ⟨T, 0, none⟩) N N, .slice (some ⟨Y, 0, none⟩) N N, .slice (some ⟨Z, 0, none⟩) N N, .slice (some ⟨U, 0, none⟩) N N] 52)
    (hT : Blk W T (ncells .i16 (List.replicate N 0)) 58) (hY : Blk W Y (ncells .i64 (List.replicate N 0)) 2) (hZ : Blk W Z (ncells .i64 (List.replicate N 0)) 2) (hU : Blk W U (ncells .u16 (List.replicate N 0)) 62)
    (hb : Below w.heap.size w W) (lo : w.heap.size ≤ S ∧ w.heap.size ≤ T ∧ w.heap.size ≤ Y ∧ w.heap.size ≤ Z ∧ w.heap.size ≤ U) (ne : S ≠ T ∧ S ≠ Y ∧ S ≠ Z ∧ S ≠ U ∧ T ≠ Y ∧ T ≠ Z ∧ T ≠ U ∧ Y ≠ Z ∧ Y ≠ U ∧ Z ≠ U) :
    Mem w S T Y Z U N (St.none N) W :=
  ⟨hb, ⟨ne.1, ne.2.1, ne.2.2.1, ne.2.2.2.1, ne.2.2.2.2.1, ne.2.2.2.2.2.1, ne.2.2.2.2.2.2.1, ne.2.2.2.2.2.2.2.1, ne.2.2.2.2.2.2.2.2.1, ne.2.2.2.2.2.2.2.2.2⟩, lo, hS, hT, hY, hZ, hU⟩
def St.fill (N i : Nat) : St := { tb := List.replicate i (-1) ++ List.replicate (N - i) 0, wy := List.replicate N 0, fr := List.replicate N 0, by' := List.replicate N 0, q := [] }
theorem St.fill_zero (N : Nat) : St.fill N 0 = St.none N := by simp [St.fill, St.none]
theorem St.fill_next {N i : Nat} (h : i < N) : { St.fill N i with tb := (St.fill N i).tb.set i (-1) } = St.fill N (i + 1) := by
  unfold St.fill
  have e : (List.replicate i (-1 : Int) ++ List.replicate (N - i) 0).set i (-1) = List.replicate (i + 1) (-1) ++ List.replicate (N - (i + 1)) 0 := by
    rw [List.set_append_right _ _ (by simp)]
    obtain ⟨m, hm⟩ : ∃ m, N - i = m + 1 := ⟨N - i - 1, by omega⟩
    rw [hm, show N - (i + 1) = m by omega, List.replicate_succ' (n := i)]
    simp [List.replicate_succ]
  show St.mk _ _ _ _ _ = _
  rw [e]
theorem St.fill_len {N i : Nat} (h : i ≤ N) : (St.fill N i).tb.length = N ∧ (St.fill N i).wy.length = N := by simp [St.fill]; omega
theorem St.fill_all {N f : Nat} : { { { St.fill N N with tb := (St.fill N N).tb.set f 0 } with wy := (St.fill N N).wy.set f 1 } with q := [(f : Int)] } = St.first N f := by
  simp [St.fill, St.first]
theorem run_next {l k : Int} {xs : List Int} {s : St} {i : Nat} (h : i < (St.run l k xs s i).q.length) : St.run l k xs s (i + 1) = St.bank l k xs (St.run l k xs s i) ((St.run l k xs s i).q.getD i 0).toNat := by
  show (if i < (St.run l k xs s i).q.length then _ else _) = _
  rw [if_pos h]
theorem run_stop {l k : Int} {xs : List Int} {s : St} {i : Nat} (h : (St.run l k xs s i).q.length ≤ i) : ∀ j, i ≤ j → St.run l k xs s j = St.run l k xs s i := by
  intro j hj
  obtain ⟨d, rfl⟩ : ∃ d, j = i + d := ⟨j - i, by omega⟩
  clear hj
  induction d with
  | zero => rfl
  | succ d ih =>
    show (if i + d < (St.run l k xs s (i + d)).q.length then _ else St.run l k xs s (i + d)) = _
    rw [ih, if_neg (by omega)]
/-- The whole search. -/
def stA (l k : Int) (xs : List Int) (N : Nat) : St := St.run l k xs (St.first N (allI l).toNat) N
theorem stA_of {l k : Int} {xs : List Int} {N i : Nat} (hl : 1 ≤ l ∧ l ≤ 8) (hN : (N : Int) = 2 * (allI l + 1)) (h : (St.run l k xs (St.first N (allI l).toNat) i).q.length ≤ i) : St.run l k xs (St.first N (allI l).toNat) i = stA l k xs N := by
  have ha := allI_le hl
  unfold stA
  rcases Nat.le_total i N with h1 | h1
  · exact (run_stop h N h1).symm
  · exact run_stop (((Inv.first (f := (allI l).toNat) (by omega)).run hl hN N).1.short) i h1
theorem stA_inv {l k : Int} {xs : List Int} {N : Nat} (hl : 1 ≤ l ∧ l ≤ 8) (hN : (N : Int) = 2 * (allI l + 1)) : Inv N (stA l k xs N) := by
  have ha := allI_le hl
  exact ((Inv.first (f := (allI l).toNat) (by omega)).run hl hN N).1
theorem st_mem {s : St} {i : Nat} (h : i < s.q.length) : s.q.getD i 0 ∈ s.q := by
  rw [List.getD_eq_getElem?_getD, List.getElem?_eq_getElem h]
  exact List.getElem_mem h
/-- After p of the loads of a bank. -/
def stP (l : Int) (a : Nat) (s : St) (LL : List Int) (p : Nat) : St := (LL.take p).foldl (St.one l a) s
theorem stP_zero (l : Int) (a : Nat) (s : St) (LL : List Int) : stP l a s LL 0 = s := rfl
theorem stP_next {l : Int} {a : Nat} {s : St} {LL : List Int} {p : Nat} (h : p < LL.length) : stP l a s LL (p + 1) = St.one l a (stP l a s LL p) (LL.getD p 0) := by
  unfold stP
  rw [List.take_succ_eq_append_getElem h, List.foldl_append, List.getD_eq_getElem?_getD, List.getElem?_eq_getElem h]
  rfl
theorem stP_all {l : Int} {a : Nat} {s : St} {LL : List Int} {p : Nat} (h : LL.length ≤ p) : stP l a s LL p = LL.foldl (St.one l a) s := by
  unfold stP; rw [List.take_of_length_le h]
theorem stP_inv {l k : Int} {xs : List Int} {N : Nat} {s : St} (h : Inv N s) (hl : 1 ≤ l ∧ l ≤ 8) (hN : (N : Int) = 2 * (allI l + 1)) {a : Nat} (ha : (a : Int) ∈ s.q) (p : Nat) :
    Inv N (stP l a s (ldA l k xs (bkN l a) (bkF l a)) p) ∧ s.q <+: (stP l a s (ldA l k xs (bkN l a) (bkF l a)) p).q :=
  Inv.fold _ _ h ha (fun x hx => ldA_nx hl hN x (List.mem_of_mem_take hx))
theorem near_and {l n : Int} (hl : 1 ≤ l ∧ l ≤ 8) (hn : 0 ≤ n ∧ n ≤ allI l) : bits .andNot .u16 n (allI l) = 0 := by
  have ha := allI_le hl
  have h1 := and_all hl (m := n) (by omega)
  have h2 : n % (allI l + 1) = n := Int.emod_eq_of_lt hn.1 (by omega)
  rw [h2, bits_and] at h1
  rw [bits_andNot]
  have hb := bv_num (x := n) (by omega)
  have e : bv n &&& bv (allI l) = bv n := BitVec.eq_of_toNat_eq (by omega)
  have e2 : bv n &&& ~~~bv (allI l) = 0 := by
    apply BitVec.eq_of_getLsbD_eq
    intro i hi
    have e1 := congrArg (fun b => b.getLsbD i) e
    simp [hi] at e1 ⊢
    intro h
    exact e1 h
  rw [e2]; rfl
theorem near_bk {l : Int} (hl : 1 ≤ l ∧ l ≤ 8) (a : Nat) : bits .andNot .u16 (bkN l a) (allI l) = 0 := by
  have ha := allI_le hl
  refine near_and hl ⟨Int.emod_nonneg _ (by omega), ?_⟩
  have : bkN l a < allI l + 1 := Int.emod_lt_of_pos _ (by omega)
  omega
theorem one_same {l : Int} {a : Nat} {s : St} {x : Int} (h1 : 0 ≤ s.tb.getD (nxI l (bkN l a) (bkF l a) x).toNat 0) (h2 : ¬ s.tb.getD (nxI l (bkN l a) (bkF l a) x).toNat 0 = s.tb.getD a 0 + 1) : St.one l a s x = s := by
  unfold St.one
  have e : s.find a (nxI l (bkN l a) (bkF l a) x).toNat x = s := by unfold St.find; rw [if_neg (by omega)]
  rw [e]; unfold St.add; rw [if_neg h2]
theorem one_more {l : Int} {a : Nat} {s : St} {x : Int} (h1 : 0 ≤ s.tb.getD (nxI l (bkN l a) (bkF l a) x).toNat 0) (h2 : s.tb.getD (nxI l (bkN l a) (bkF l a) x).toNat 0 = s.tb.getD a 0 + 1) : St.one l a s x = { s with wy := s.wy.set (nxI l (bkN l a) (bkF l a) x).toNat (IntKind.i64.wrap (s.wy.getD (nxI l (bkN l a) (bkF l a) x).toNat 0 + s.wy.getD a 0)) } := by
  unfold St.one
  have e : s.find a (nxI l (bkN l a) (bkF l a) x).toNat x = s := by unfold St.find; rw [if_neg (by omega)]
  rw [e]; unfold St.add; rw [if_pos h2]
theorem one_new {l : Int} {a : Nat} {s : St} {x : Int} (h1 : s.tb.getD (nxI l (bkN l a) (bkF l a) x).toNat 0 < 0) (ht : (nxI l (bkN l a) (bkF l a) x).toNat < s.tb.length) (hne : a ≠ (nxI l (bkN l a) (bkF l a) x).toNat) :
    St.one l a s x = St.mk (s.tb.set (nxI l (bkN l a) (bkF l a) x).toNat (s.tb.getD a 0 + 1)) (s.wy.set (nxI l (bkN l a) (bkF l a) x).toNat (IntKind.i64.wrap (s.wy.getD (nxI l (bkN l a) (bkF l a) x).toNat 0 + s.wy.getD a 0))) (s.fr.set (nxI l (bkN l a) (bkF l a) x).toNat (a : Int)) (s.by'.set (nxI l (bkN l a) (bkF l a) x).toNat x) (s.q ++ [((nxI l (bkN l a) (bkF l a) x).toNat : Int)]) := by
  unfold St.one
  generalize (nxI l (bkN l a) (bkF l a) x).toNat = t at *
  have e : s.find a t x = { s with tb := s.tb.set t (s.tb.getD a 0 + 1), fr := s.fr.set t (a : Int), by' := s.by'.set t x, q := s.q ++ [(t : Int)] } := by unfold St.find; rw [if_pos h1]
  rw [e]; unfold St.add
  dsimp only
  rw [getD_set _ _ _ _ ht, getD_set _ _ _ _ ht, if_pos rfl, if_neg hne, if_pos rfl]
end Go.Proofs.Ytoeoilhbekhnbaa
