/-
  The program's search in memory: what the map of arrivals holds.
-/
import Derived.Test.YtjmgalmndpjcoaaJS3
import Derived.Test.YtjmgalmndpjcoaaHM
import Derived.DeepKeys4
namespace Go.Proofs.Ytjmgalmndpjcoaa
open Go.RowKit Go.Maps Go.MapKept Go.ChangeMaps
set_option maxRecDepth 100000
set_option linter.unusedVariables false

theorem keyW : Keyed Try.prog 30 := Keyed.of_law (deep_law_laid (m := 9999) (by kernel_rfl) (by decide) (of_decide_eq_true (by kernel_rfl)) (by kernel_rfl) (by kernel_rfl))
/-- The key that a water is read as. -/
theorem keyW_mk (x : Nat → Int) (h : ∀ i, i < 4 → -32768 ≤ x i ∧ x i ≤ 32767) : ∃ kl, keyOf Try.prog 30 (watV x) = some kl := by
  have hw : ∀ i, i < 4 → (Lit.int .i16 (x i)).wf = true := fun i hi => by
    have := h i hi
    simp only [Lit.wf, Bool.and_eq_true, decide_eq_true_eq]; exact this
  have h0 := hw 0 (by omega)
  have h1 := hw 1 (by omega)
  have h2 := hw 2 (by omega)
  have h3 := hw 3 (by omega)
  have hu : Try.prog.underlying 30 = some (.array 4 23) := Try.underlying30
  have hi : Try.prog.underlying 23 = some (.int .i16) := Try.underlying23
  have hc : Try.prog.cellsOf 23 = 1 := by kernel_rfl
  have hc4 : Try.prog.cellsOf 30 = 4 := by kernel_rfl
  have hkt : Try.prog.keyType 30 = true := by kernel_rfl
  obtain ⟨d, hd⟩ : ∃ d, Try.prog.types.size = d + 1 := ⟨Try.prog.types.size - 1, by kernel_rfl⟩
  have hf : (watV x : Value).formed Try.prog 30 = true := by simp [Value.formed, hu, hc4]
  unfold keyOf
  rw [hu]
  simp only [hkt, hf, Bool.and_self, if_true]
  rw [hd]
  simp [Program.keyLits, hu, hi, hc, hc4, Value.cells, h0, h1, h2, h3, List.range_succ]
/-- The value of an arrival. -/
def arrV (x : Nat → Int) (m : Mv) (n : Int) : Value := .agg #[.int .i16 (x 0), .int .i16 (x 1), .int .i16 (x 2), .int .i16 (x 3), .int .i8 m.1, .int .i8 m.2.1, .int .i8 m.2.2, .int .i16 n]
noncomputable def arO (J : List Int) (s : GS) (i : Nat) : Option Value :=
  if 0 ≤ s.tb.getD i 0 then some (arrV (atV J (s.fr.getD i 0).toNat) (mvI (allM J.length) (s.mv.getD i 0).toNat) (s.tb.getD i 0)) else none
/-- What the map of arrivals holds. -/
def FSp (J : List Int) (s : GS) (F : Value → Option Value) : Prop :=
  (∀ i, i < nW J → F (watV (atV J i)) = arO J s i) ∧ ∀ v, (F v).isSome = true → ∃ i, i < nW J ∧ v = watV (atV J i)
theorem atV_zero (J : List Int) (i : Nat) : atV J (0 : Int) i = 0 := by unfold atV; simp
theorem FSp.first {J : List Int} (hJ : OkJ J) {f : Nat} (hf : f < nW J) : FSp J (GS.first (nW J) f) (updF (fun _ => none) (watV (atV J f)) (arrV (fun _ => 0) (0, 0, 0) 0)) := by
  have hg : ∀ i, i < nW J → (GS.first (nW J) f).tb.getD i 0 = if i = f then 0 else -1 := fun i hi => by
    show ((List.replicate (nW J) (-1 : Int)).set f 0).getD i 0 = _
    rw [gs_set _ _ _ _ (by simpa using hf)]
    split
    · rfl
    · exact gs_rep _ _ _ hi
  refine ⟨fun i hi => ?_, fun v hv => ?_⟩
  · unfold arO
    rw [hg i hi]
    by_cases e : i = f
    · subst e
      rw [updF_same, if_pos rfl, if_pos (Int.le_refl _)]
      have e1 : (GS.first (nW J) i).fr.getD i 0 = 0 := gs_rep _ _ _ hi
      have e2 : (GS.first (nW J) i).mv.getD i 0 = 0 := gs_rep _ _ _ hi
      rw [e1, e2]
      show some (arrV _ _ _) = some (arrV (atV J ((0 : Nat) : Int)) (mvI (allM J.length) 0) 0)
      rw [allM_zero]
      unfold arrV
      rw [show ((0 : Nat) : Int) = 0 from rfl, atV_zero, atV_zero, atV_zero, atV_zero]
    · rw [if_neg e, updF_other _ _ (fun h => e (at_inj hJ hi hf h)), if_neg (by decide)]
  · by_cases e : v = watV (atV J f)
    · exact ⟨f, hf, e⟩
    · rw [updF_other _ _ e] at hv
      cases hv
theorem FSp.find {J : List Int} (hJ : OkJ J) {s : GS} {F : Value → Option Value} (h : FSp J s F) {M : Nat} (hI : GInv (nW J) M s) {a te j : Nat} (hte : te < nW J) (hn : s.tb.getD te 0 < 0) (ha : 0 ≤ s.tb.getD a 0) :
    FSp J (s.find a te j) (updF F (watV (atV J te)) (arrV (atV J a) (mvI (allM J.length) j) (s.tb.getD a 0 + 1))) := by
  have e0 : s.find a te j = GS.mk (s.tb.set te (s.tb.getD a 0 + 1)) (s.fr.set te (a : Int)) (s.mv.set te (j : Int)) (s.q ++ [(te : Int)]) := by unfold GS.find; rw [if_pos hn]
  rw [e0]
  have gT : ∀ k, (s.tb.set te (s.tb.getD a 0 + 1)).getD k 0 = if k = te then s.tb.getD a 0 + 1 else s.tb.getD k 0 := fun k => gs_set _ _ _ _ (by rw [hI.tb]; exact hte)
  have gF : ∀ k, (s.fr.set te (a : Int)).getD k 0 = if k = te then (a : Int) else s.fr.getD k 0 := fun k => gs_set _ _ _ _ (by rw [hI.fr]; exact hte)
  have gM : ∀ k, (s.mv.set te (j : Int)).getD k 0 = if k = te then (j : Int) else s.mv.getD k 0 := fun k => gs_set _ _ _ _ (by rw [hI.mv]; exact hte)
  refine ⟨fun i hi => ?_, fun v hv => ?_⟩
  · unfold arO
    dsimp only
    rw [gT, gF, gM]
    by_cases e : i = te
    · subst e
      rw [updF_same, if_pos rfl, if_pos rfl, if_pos rfl, if_pos (by omega), Int.toNat_natCast, Int.toNat_natCast]
    · rw [if_neg e, if_neg e, if_neg e, updF_other _ _ (fun h => e (at_inj hJ hi hte h))]
      exact h.1 i hi
  · by_cases e : v = watV (atV J te)
    · exact ⟨te, hte, e⟩
    · rw [updF_other _ _ e] at hv
      exact h.2 v hv
/-- The cells of waters, by their numbers, one behind the other. -/
def wvals (J : List Int) (q : List Int) : List Value := q.flatMap (fun n => [.int .i16 (atV J n 0), .int .i16 (atV J n 1), .int .i16 (atV J n 2), .int .i16 (atV J n 3)])
theorem wvals_snoc (J : List Int) (q : List Int) (n : Int) : wvals J (q ++ [n]) = wvals J q ++ [.int .i16 (atV J n 0), .int .i16 (atV J n 1), .int .i16 (atV J n 2), .int .i16 (atV J n 3)] := by simp [wvals]
theorem wvals_get (J : List Int) (q : List Int) (i : Nat) (hi : i < q.length) : (wvals J q)[i * 4]? = some (.int .i16 (atV J (q.getD i 0) 0)) ∧ (wvals J q)[i * 4 + 1]? = some (.int .i16 (atV J (q.getD i 0) 1)) ∧ (wvals J q)[i * 4 + 2]? = some (.int .i16 (atV J (q.getD i 0) 2)) ∧ (wvals J q)[i * 4 + 3]? = some (.int .i16 (atV J (q.getD i 0) 3)) := by
  induction q generalizing i with
  | nil => exact absurd hi (by simp)
  | cons m q ih =>
    rw [show wvals J (m :: q) = .int .i16 (atV J m 0) :: .int .i16 (atV J m 1) :: .int .i16 (atV J m 2) :: .int .i16 (atV J m 3) :: wvals J q from rfl]
    cases i with
    | zero => exact ⟨rfl, rfl, rfl, rfl⟩
    | succ i =>
      have h := ih i (by simpa using hi)
      rw [show (i + 1) * 4 = i * 4 + 4 by omega]
      exact h
/-- A search of the program in memory; beside it blocks that stand. -/
structure PMem (J : List Int) (L : List (Nat × Obj)) (w0 : World) (R mb : Nat) (v : Value) (s : GS) (q : List Int) (w : World) : Prop where
  below : Below w0.heap.size w0 w
  ne : R ≠ mb
  lo : w0.heap.size ≤ R ∧ w0.heap.size ≤ mb
  bR : Blk w R #[v, .map (some mb)] 74
  map : ∃ F, MapAt Try.prog 30 w mb s.q.length F ∧ FSp J s F
  own : w.ownsRow w0.heap.size 30 4 v q.length (wvals J q)
  ob : v.ownBlock ≠ some R ∧ v.ownBlock ≠ some mb
  bL : ∀ p ∈ L, w.heap[p.1]? = some p.2 ∧ (R ≠ p.1 ∧ mb ≠ p.1) ∧ v.ownBlock ≠ some p.1
section
variable {J : List Int} {L : List (Nat × Obj)} {w0 w w' : World} {R mb : Nat} {v : Value} {s : GS} {q : List Int}
theorem PMem.mlt (h : PMem J L w0 R mb v s q w) : mb < w.heap.size := by
  obtain ⟨F, hF, _⟩ := h.map
  exact hF.lt
theorem PMem.next (h : PMem J L w0 R mb v s q w) (hb : Below w.heap.size w w') : PMem J L w0 R mb v s q w' := by
  obtain ⟨F, hF, hS⟩ := h.map
  exact ⟨h.below.trans (hb.mono h.below.size), h.ne, h.lo, h.bR.below hb h.bR.lt, ⟨F, hF.below hb hF.lt, hS⟩, ownsRow_next h.own hb, h.ob, fun p hp => ⟨(hb.block p.1 (blk_lt (h.bL p hp).1)).trans (h.bL p hp).1, (h.bL p hp).2⟩⟩
theorem PMem.far (h : PMem J L w0 R mb v s q w) (hb : Below w.heap.size w w') {g : Nat} {G : Obj} (hg : w'.heap[g]? = some G) (hl : w.heap.size ≤ g) : PMem J ((g, G) :: L) w0 R mb v s q w' := by
  have h1 := h.next hb
  refine ⟨h1.below, h1.ne, h1.lo, h1.bR, h1.map, h1.own, h1.ob, fun p hp => ?_⟩
  rcases List.mem_cons.1 hp with rfl | hp
  · have l1 := h.bR.lt
    have l2 := h.mlt
    refine ⟨hg, ⟨by omega, by omega⟩, fun e => ?_⟩
    have := (h.own.lt _ e).2
    omega
  · exact h1.bL p hp
theorem PMem.sub (h : PMem J L w0 R mb v s q w) {L' : List (Nat × Obj)} (hL : ∀ p ∈ L', p ∈ L) : PMem J L' w0 R mb v s q w :=
  ⟨h.below, h.ne, h.lo, h.bR, h.map, h.own, h.ob, fun p hp => h.bL p (hL p hp)⟩
theorem PMem.at1 {g : Nat} {G : Obj} (h : PMem J ((g, G) :: L) w0 R mb v s q w) : w.heap[g]? = some G := (h.bL (g, G) List.mem_cons_self).1
theorem PMem.at2 {p : Nat × Obj} {g : Nat} {G : Obj} (h : PMem J (p :: (g, G) :: L) w0 R mb v s q w) : w.heap[g]? = some G := (h.bL (g, G) (by simp)).1
theorem PMem.at3 {p p' : Nat × Obj} {g : Nat} {G : Obj} (h : PMem J (p :: p' :: (g, G) :: L) w0 R mb v s q w) : w.heap[g]? = some G := (h.bL (g, G) (by simp)).1
/-- An arrival has been laid. -/
theorem PMem.stored (h : PMem J L w0 R mb v s q w) {s' : GS} {n : Nat} {F : Value → Option Value} (hM : MapAt Try.prog 30 w' mb n F) (hn : n = s'.q.length) (hS : FSp J s' F) (ht : w.mapTurned w' mb) : PMem J L w0 R mb v s' q w' := by
  have hg := ht.grown
  have K : ∀ {b : Nat} {o : Obj}, w.heap[b]? = some o → b ≠ mb → w'.heap[b]? = some o := fun {b o} hb hne => (hg.block b (blk_lt hb) (fun e => hne (Option.some.inj e))).trans hb
  subst hn
  have hlo : ∀ j, some mb = some j → w0.heap.size ≤ j := fun j hj => by
    have e : mb = j := Option.some.inj hj
    exact e ▸ h.lo.2
  refine ⟨h.below.grown hg h.below.size hlo, h.ne, h.lo, K h.bR h.ne, ⟨F, hM, hS⟩, ?_, h.ob, fun p hp => ⟨K (h.bL p hp).1 (fun e => (h.bL p hp).2.1.2 e.symm), (h.bL p hp).2⟩⟩
  exact h.own.kept hg (.inr h.ob.2)
/-- The order has been appended to, behind the new element's own block, and is laid. -/
theorem PMem.push (h : PMem J L w0 R mb v s q w) {a : Int} {g cap H : Nat} {o : Obj} (hown : w'.ownsRow w0.heap.size 30 4 (.slice (some ⟨g, 0, none⟩) (q.length + 1) cap) (q.length + 1) (wvals J q ++ [.int .i16 (atV J a 0), .int .i16 (atV J a 1), .int .i16 (atV J a 2), .int .i16 (atV J a 3)]))
    (hgrow : (w.alloc o).grownBy w' v.ownBlock) (hat : v.ownBlock = some g ∨ g = H) (hH : w.heap.size < H) :
    PMem J L w0 R mb (.slice (some ⟨g, 0, none⟩) (q.length + 1) cap) s (q ++ [a]) (w'.setCell ⟨R, 0, none⟩ (.slice (some ⟨g, 0, none⟩) (q.length + 1) cap)) := by
  obtain ⟨F, hF, hS⟩ := h.map
  have l1 := h.bR.lt
  have l2 := hF.lt
  have K : ∀ {b : Nat} {o' : Obj}, w.heap[b]? = some o' → v.ownBlock ≠ some b → w'.heap[b]? = some o' := fun {b o'} hk hne => (hgrow.block b (by have := blk_lt hk; simp; omega) (fun e => hne e.symm)).trans ((Below.heap_alloc w o b (blk_lt hk)).trans hk)
  have G2 : ∀ {b : Nat}, b < w.heap.size → v.ownBlock ≠ some b → g ≠ b := fun {b} hb hne e => by
    rcases hat with e2 | e2
    · exact hne (by rw [e2, e])
    · omega
  have hbel : Below w0.heap.size w0 w' := by
    refine (h.below.alloc h.below.size o).grown hgrow (by have := h.below.size; simp; omega) (fun j hj => ?_)
    exact (h.own.lt j hj).1
  have hgR := G2 l1 h.ob.1
  have hgm := G2 l2 h.ob.2
  refine ⟨hbel.setCell h.lo.1 _, h.ne, h.lo, ?_, ⟨F, ?_, hS⟩, ?_, ⟨fun e => hgR (by injection e), fun e => hgm (by injection e)⟩, fun p hp => ?_⟩
  · have hb2 : Blk w' R #[v, .map (some mb)] 74 := K h.bR h.ob.1
    exact hb2.set 0 (.slice (some ⟨g, 0, none⟩) (q.length + 1) cap)
  · refine MapAt.setCell (MapAt.kept (hF.alloc o) hgrow (fun e => h.ob.2 e.symm)) ?_ _
    exact fun e => h.ne e.symm
  · rw [wvals_snoc, List.length_append]
    exact ownsRow_set hown _ _ (fun e => hgR (by injection e))
  · obtain ⟨q1, q2, q3⟩ := h.bL p hp
    have l5 := blk_lt q1
    exact ⟨bG_set (K q1 q3) q2.1 _ _, q2, fun e => G2 l5 q3 (by injection e)⟩
theorem PMem.pushR (h : PMem J L w0 R mb v s q w) {o : Obj} (hgrow : (w.alloc o).grownBy w' v.ownBlock) : Blk w' R #[v, .map (some mb)] 74 :=
  (hgrow.block R (by have := h.bR.lt; simp; omega) (fun e => h.ob.1 e.symm)).trans (h.bR.alloc o)
end
theorem Blk.pair {w : World} {b : Nat} {a0 a1 : Value} {t : TypeId} (h : Blk w b #[a0, a1] t) : w.cell? ⟨b, 0, none⟩ = some a0 ∧ w.cell? ⟨b, 1, none⟩ = some a1 ∧ ∀ i, w.frozen? ⟨b, i, none⟩ = false := ⟨h.cell 0, h.cell 1, h.free⟩
/-- A map of one entry, made just now. -/
noncomputable def ins1 (k x : Value) (W : World) (b : Nat) : World :=
  match W.heap[b]? with
  | some (.map _ _) => setBlock W b (.map #[⟨k, x, 0⟩] 1)
  | _ => W
theorem ins1_of {k x : Value} {W : World} {b : Nat} {es : Array MapEntry} {c : Nat} (h : W.heap[b]? = some (.map es c)) : ins1 k x W b = setBlock W b (.map #[⟨k, x, 0⟩] 1) := by unfold ins1; rw [h]
theorem run_ins1 {P : Program} {k e t : TypeId} (K : Keyed P k) (ht : P.underlying t = some (.map k e)) {key : Value} {kl : Lit} (hkey : keyOf P k key = some kl) (val : Value) (W : World) (b : Nat) (h : W.heap[b]? = some (.map #[] 0)) :
    (Instr.mapUpdate t (.map (some b)) key val).run P W = .ok () (ins1 key val W b) := by
  rw [ins1_of h]
  rcases K.find W hkey [] (by simp) with ⟨f1, _⟩ | ⟨j, e0, _, f2, _⟩
  · simp [Instr.mapUpdate, run_underlying ht, MapKept.run_getObj_map h, K.check W false hkey, f1, MapKept.run_setObj_map _ h, Result.andThen, setBlock]
  · simp at f2
theorem ins1_size (k x : Value) (W : World) (b : Nat) : (ins1 k x W b).heap.size = W.heap.size := by
  unfold ins1; split
  · simp [setBlock]
  · rfl
theorem ins1_other (k x : Value) (W : World) {b c : Nat} (h : c ≠ b) : (ins1 k x W b).heap[c]? = W.heap[c]? := by
  unfold ins1; split
  · rename_i hb; exact heap_setBlock_other hb _ h
  · rfl
theorem ins1_cell (k x : Value) (W : World) (b : Nat) (a : Addr) : (ins1 k x W b).cell? a = W.cell? a := by
  by_cases h : a.block = b
  · unfold ins1
    split
    · rename_i es c hb
      have e1 : (setBlock W b (.map #[⟨k, x, 0⟩] 1)).heap[b]? = some (.map #[⟨k, x, 0⟩] 1) := heap_setBlock_same hb _
      simp [World.cell?, h, hb, e1]
    · rfl
  · exact World.cell?_of_block (ins1_other k x W h)
theorem ins1_frozen (k x : Value) (W : World) (b : Nat) (a : Addr) : (ins1 k x W b).frozen? a = W.frozen? a := by
  by_cases h : a.block = b
  · unfold ins1
    split
    · rename_i es c hb
      have e1 : (setBlock W b (.map #[⟨k, x, 0⟩] 1)).heap[b]? = some (.map #[⟨k, x, 0⟩] 1) := heap_setBlock_same hb _
      simp [World.frozen?, h, hb, e1]
    · rfl
  · exact World.frozen?_of_block (ins1_other k x W h)
theorem ins1_drew (k x : Value) (W : World) (b : Nat) : (ins1 k x W.drew b) = (ins1 k x W b).drew := by
  unfold ins1
  show (match W.heap[b]? with | some (.map _ _) => setBlock W.drew b _ | _ => W.drew) = _
  split <;> rfl
end Go.Proofs.Ytjmgalmndpjcoaa
