/-
  The program's search of ferries in memory.
-/
import Derived.Test.YtoeoilhbekhnbaaY33
namespace Go.Proofs.Ytoeoilhbekhnbaa
open Go.RowKit Go.Maps Go.MapKept Go.ChangeMaps
set_option maxRecDepth 100000
set_option linter.unusedVariables false

/-- The bank with a number, as a value; what the map has of it. -/
def bkV (l : Int) (i : Int) : Value := bankV (bkN l i) (bkF l i)
def lgV (l : Int) (s : St) (i : Nat) : Value := .agg #[.int .u16 (bkN l (s.fr.getD i 0)), .bool (bkF l (s.fr.getD i 0)), .int .u16 (s.by'.getD i 0), .int .i16 (s.tb.getD i 0), .int .i64 (s.wy.getD i 0)]
noncomputable def lgO (l : Int) (s : St) (i : Nat) : Option Value := if 0 ≤ s.tb.getD i 0 then some (lgV l s i) else none
def FSb (l : Int) (N : Nat) (s : St) (G : Value → Option Value) : Prop := (∀ i, i < N → G (bkV l i) = lgO l s i) ∧ ∀ v, (G v).isSome = true → ∃ i, i < N ∧ v = bkV l (i : Nat)
theorem bankV_inj {n m : Int} {f g : Bool} (h : (bankV n f : Value) = bankV m g) : n = m ∧ f = g := by
  have h' : Value.agg #[.int .u16 n, .bool f] = Value.agg #[.int .u16 m, .bool g] := h
  simpa using h'
theorem bk_num {l i : Int} (hl : 1 ≤ l ∧ l ≤ 8) (hi : 0 ≤ i ∧ i < 2 * (allI l + 1)) : nmI l (bkN l i) (bkF l i) = i ∧ 0 ≤ bkN l i ∧ bkN l i ≤ allI l := by
  have ha := allI_le hl
  unfold nmI bkN bkF
  generalize allI l = al at *
  have h1 := Int.emod_nonneg i (show al + 1 ≠ 0 by omega)
  have h2 := Int.emod_lt_of_pos i (show 0 < al + 1 by omega)
  by_cases h : al + 1 ≤ i
  · have h3 : i % (al + 1) = i - (al + 1) := by
      rw [← Int.sub_emod_right]; exact Int.emod_eq_of_lt (by omega) (by omega)
    rw [decide_eq_true h, if_pos rfl, h3]; omega
  · have h3 : i % (al + 1) = i := Int.emod_eq_of_lt (by omega) (by omega)
    rw [decide_eq_false h, h3]; simp; omega
theorem bk_of {l n : Int} {f : Bool} (hl : 1 ≤ l ∧ l ≤ 8) (hn : 0 ≤ n ∧ n ≤ allI l) : bkN l (nmI l n f) = n ∧ bkF l (nmI l n f) = f ∧ 0 ≤ nmI l n f ∧ nmI l n f < 2 * (allI l + 1) := by
  have ha := allI_le hl
  unfold nmI bkN bkF
  generalize allI l = al at *
  cases f
  · simp only [Bool.false_eq_true, if_false]
    refine ⟨Int.emod_eq_of_lt (by omega) (by omega), decide_eq_false (by omega), by omega, by omega⟩
  · simp only [if_true]
    refine ⟨by rw [Int.add_emod_right]; exact Int.emod_eq_of_lt (by omega) (by omega), decide_eq_true (by omega), by omega, by omega⟩
theorem bk_inj {l : Int} {i j : Int} (hl : 1 ≤ l ∧ l ≤ 8) (hi : 0 ≤ i ∧ i < 2 * (allI l + 1)) (hj : 0 ≤ j ∧ j < 2 * (allI l + 1)) (h : bkV l i = bkV l j) : i = j := by
  obtain ⟨h1, h2⟩ := bankV_inj h
  have e1 := (bk_num hl hi).1
  have e2 := (bk_num hl hj).1
  rw [h1, h2] at e1
  omega
/-- The bank behind a load is the one with its number, and on the other side. -/
theorem nx_bk {l k : Int} {xs : List Int} {n : Int} {f : Bool} {x : Int} (hl : 1 ≤ l ∧ l ≤ 8) (h : x ∈ ldA l k xs n f) : bankV (xorI n x) (!f) = bkV l (nxI l n f x) ∧ bkF l (nxI l n f x) = !f := by
  have hm := nx_lt hl h
  have h1 := le_of_andNot (xor_16 n x) (by have := allI_le hl; omega) (bkX_far (cdL_bk hm.2.2.1))
  have h2 := xor_16 n x
  have h3 := bk_of (f := !f) hl ⟨h2.1, h1⟩
  unfold bkV nxI
  rw [h3.1, h3.2.1]
  exact ⟨rfl, rfl⟩
theorem getD_set_ne (xs : List Int) {i j : Nat} (v : Int) (h : j ≠ i) : (xs.set i v).getD j 0 = xs.getD j 0 := by
  rw [List.getD_eq_getElem?_getD, List.getD_eq_getElem?_getD, List.getElem?_set_ne (fun e => h e.symm)]
/-- Off the bank behind, a load changes nothing. -/
theorem one_off {l : Int} {a : Nat} {s : St} {x : Int} {i : Nat} (h : i ≠ (nxI l (bkN l a) (bkF l a) x).toNat) :
    (St.one l a s x).tb.getD i 0 = s.tb.getD i 0 ∧ (St.one l a s x).wy.getD i 0 = s.wy.getD i 0 ∧ (St.one l a s x).fr.getD i 0 = s.fr.getD i 0 ∧ (St.one l a s x).by'.getD i 0 = s.by'.getD i 0 := by
  unfold St.one
  generalize (nxI l (bkN l a) (bkF l a) x).toNat = t at *
  have hf : (s.find a t x).tb.getD i 0 = s.tb.getD i 0 ∧ (s.find a t x).wy.getD i 0 = s.wy.getD i 0 ∧ (s.find a t x).fr.getD i 0 = s.fr.getD i 0 ∧ (s.find a t x).by'.getD i 0 = s.by'.getD i 0 := by
    unfold St.find
    split
    · exact ⟨getD_set_ne _ _ h, rfl, getD_set_ne _ _ h, getD_set_ne _ _ h⟩
    · exact ⟨rfl, rfl, rfl, rfl⟩
  have ha : ∀ s' : St, (s'.add a t).tb.getD i 0 = s'.tb.getD i 0 ∧ (s'.add a t).wy.getD i 0 = s'.wy.getD i 0 ∧ (s'.add a t).fr.getD i 0 = s'.fr.getD i 0 ∧ (s'.add a t).by'.getD i 0 = s'.by'.getD i 0 := fun s' => by
    unfold St.add
    split
    · exact ⟨rfl, getD_set_ne _ _ h, rfl, rfl⟩
    · exact ⟨rfl, rfl, rfl, rfl⟩
  have h2 := ha (s.find a t x)
  exact ⟨h2.1.trans hf.1, h2.2.1.trans hf.2.1, h2.2.2.1.trans hf.2.2.1, h2.2.2.2.trans hf.2.2.2⟩
theorem FSb.upd {l : Int} {N : Nat} {s s2 : St} {G : Value → Option Value} (hl : 1 ≤ l ∧ l ≤ 8) (hN : (N : Int) = 2 * (allI l + 1)) (h : FSb l N s G) {t : Nat} (ht : t < N) (h0 : 0 ≤ s2.tb.getD t 0)
    (hoff : ∀ i, i ≠ t → s2.tb.getD i 0 = s.tb.getD i 0 ∧ s2.wy.getD i 0 = s.wy.getD i 0 ∧ s2.fr.getD i 0 = s.fr.getD i 0 ∧ s2.by'.getD i 0 = s.by'.getD i 0) : FSb l N s2 (updF G (bkV l t) (lgV l s2 t)) := by
  refine ⟨fun i hi => ?_, fun v hv => ?_⟩
  · by_cases e : i = t
    · subst e
      rw [updF_same]; unfold lgO; rw [if_pos h0]
    · have hne : bkV l (i : Nat) ≠ bkV l (t : Nat) := fun e2 => e (by have := bk_inj hl ⟨by omega, by omega⟩ ⟨by omega, by omega⟩ e2; omega)
      rw [updF_other _ _ hne, h.1 i hi]
      obtain ⟨a1, a2, a3, a4⟩ := hoff i e
      unfold lgO lgV
      rw [a1, a2, a3, a4]
  · by_cases e : v = bkV l t
    · exact ⟨t, ht, e⟩
    · rw [updF_other _ _ e] at hv
      exact h.2 v hv
theorem FSb.first {l : Int} {N : Nat} (hl : 1 ≤ l ∧ l ≤ 8) (hN : (N : Int) = 2 * (allI l + 1)) {f : Nat} (hf : f < N) : FSb l N (St.first N f) (updF (fun _ => none) (bkV l f) (.agg #[.int .u16 0, .bool false, .int .u16 0, .int .i16 0, .int .i64 1])) := by
  have ha := allI_le hl
  have hg : ∀ i, i < N → (St.first N f).tb.getD i 0 = if i = f then 0 else -1 := fun i hi => by
    show ((List.replicate N (-1 : Int)).set f 0).getD i 0 = _
    rw [getD_set _ _ _ _ (by simpa using hf)]
    split
    · rfl
    · simp [List.getD_eq_getElem?_getD, hi]
  have hr : ∀ i, (List.replicate N (0 : Int)).getD i 0 = 0 := fun i => by
    rw [List.getD_eq_getElem?_getD, List.getElem?_replicate]; split <;> rfl
  refine ⟨fun i hi => ?_, fun v hv => ?_⟩
  · unfold lgO
    rw [hg i hi]
    by_cases e : i = f
    · subst e
      rw [updF_same, if_pos rfl, if_pos (Int.le_refl _)]
      unfold lgV
      have e1 : (St.first N i).fr.getD i 0 = 0 := hr i
      have e2 : (St.first N i).by'.getD i 0 = 0 := hr i
      have e3 : (St.first N i).wy.getD i 0 = 1 := by
        show ((List.replicate N (0 : Int)).set i 1).getD i 0 = 1
        rw [getD_set _ _ _ _ (by simpa using hf), if_pos rfl]
      have e4 : bkN l 0 = 0 := by unfold bkN; simp
      have e5 : bkF l 0 = false := by unfold bkF; exact decide_eq_false (by omega)
      rw [e1, e2, e3, hg i hi, if_pos rfl, e4, e5]
    · have hne : bkV l (i : Nat) ≠ bkV l (f : Nat) := fun e2 => e (by have := bk_inj hl ⟨by omega, by omega⟩ ⟨by omega, by omega⟩ e2; omega)
      rw [if_neg e, updF_other _ _ hne, if_neg (by decide)]
  · by_cases e : v = bkV l f
    · exact ⟨f, hf, e⟩
    · rw [updF_other _ _ e] at hv
      cases hv
/-- What a search keeps besides: where it comes from, and no ways without a bank. -/
structure Inv2 (l : Int) (N : Nat) (s : St) : Prop where
  no : ∀ i, i < N → s.tb.getD i 0 < 0 → s.wy.getD i 0 = 0
  back : ∀ i, i < N → 0 ≤ s.fr.getD i 0 ∧ s.fr.getD i 0 < N
  prev : ∀ i, i < N → 0 < s.tb.getD i 0 → s.tb.getD (s.fr.getD i 0).toNat 0 = s.tb.getD i 0 - 1
  load : ∀ i, i < N → 0 ≤ s.by'.getD i 0 ∧ s.by'.getD i 0 ≤ 65535
theorem Inv2.first {l : Int} {N f : Nat} (hf : f < N) : Inv2 l N (St.first N f) := by
  have hg : ∀ i, i < N → (St.first N f).tb.getD i 0 = if i = f then 0 else -1 := fun i hi => by
    show ((List.replicate N (-1 : Int)).set f 0).getD i 0 = _
    rw [getD_set _ _ _ _ (by simpa using hf)]
    split
    · rfl
    · simp [List.getD_eq_getElem?_getD, hi]
  have hr : ∀ i, (List.replicate N (0 : Int)).getD i 0 = 0 := fun i => by
    rw [List.getD_eq_getElem?_getD, List.getElem?_replicate]; split <;> rfl
  refine ⟨fun i hi h => ?_, fun i hi => ?_, fun i hi h => ?_, fun i hi => ?_⟩
  · rw [hg i hi] at h
    have e : i ≠ f := fun e => by rw [if_pos e] at h; omega
    show ((List.replicate N (0 : Int)).set f 1).getD i 0 = 0
    rw [getD_set_ne _ _ e]; exact hr i
  · rw [show (St.first N f).fr.getD i 0 = 0 from hr i]
    omega
  · rw [hg i hi] at h
    split at h <;> omega
  · rw [show (St.first N f).by'.getD i 0 = 0 from hr i]
    exact ⟨by omega, by decide⟩
theorem Inv2.one {l : Int} {N : Nat} {s : St} (h : Inv N s) (h2 : Inv2 l N s) {a : Nat} (ha : (a : Int) ∈ s.q) {x : Int} (hx : 0 ≤ nxI l (bkN l a) (bkF l a) x ∧ nxI l (bkN l a) (bkF l a) x < N) (hx16 : 0 ≤ x ∧ x ≤ 65535) : Inv2 l N (St.one l a s x) := by
  have hat := h.here _ ha
  rw [Int.toNat_natCast] at hat
  have hoff := fun i (hi : i ≠ (nxI l (bkN l a) (bkF l a) x).toNat) => one_off (l := l) (a := a) (s := s) (x := x) hi
  have ht : (nxI l (bkN l a) (bkF l a) x).toNat < N := by omega
  by_cases hk : 0 ≤ s.tb.getD (nxI l (bkN l a) (bkF l a) x).toNat 0
  · by_cases he : s.tb.getD (nxI l (bkN l a) (bkF l a) x).toNat 0 = s.tb.getD a 0 + 1
    · rw [one_more hk he]
      refine ⟨fun i hi hn => ?_, h2.back, h2.prev, h2.load⟩
      have e : i ≠ (nxI l (bkN l a) (bkF l a) x).toNat := fun e => by subst e; exact absurd hn (by show ¬ s.tb.getD _ 0 < 0; omega)
      show (s.wy.set _ _).getD i 0 = 0
      rw [getD_set_ne _ _ e]; exact h2.no i hi hn
    · rw [one_same hk he]; exact h2
  · have hne : a ≠ (nxI l (bkN l a) (bkF l a) x).toNat := fun e => hk (by rw [← e]; exact hat.2.2)
    rw [one_new (by omega) (by rw [h.tb]; exact ht) hne]
    generalize (nxI l (bkN l a) (bkF l a) x).toNat = t at *
    have gT : ∀ k, (s.tb.set t (s.tb.getD a 0 + 1)).getD k 0 = if k = t then s.tb.getD a 0 + 1 else s.tb.getD k 0 := fun k => getD_set _ _ _ _ (by rw [h.tb]; exact ht)
    have gF : ∀ k, (s.fr.set t (a : Int)).getD k 0 = if k = t then (a : Int) else s.fr.getD k 0 := fun k => getD_set _ _ _ _ (by rw [h.fr]; exact ht)
    have gB : ∀ k, (s.by'.set t x).getD k 0 = if k = t then x else s.by'.getD k 0 := fun k => getD_set _ _ _ _ (by rw [h.by']; exact ht)
    refine ⟨fun i hi hn => ?_, fun i hi => ?_, fun i hi hp => ?_, fun i hi => ?_⟩
    · dsimp only at hn ⊢
      rw [gT] at hn
      have e : i ≠ t := fun e => by rw [if_pos e] at hn; omega
      rw [if_neg e] at hn
      rw [getD_set_ne _ _ e]; exact h2.no i hi hn
    · dsimp only
      rw [gF]
      split
      · omega
      · exact h2.back i hi
    · dsimp only at hp ⊢
      rw [gT] at hp
      rw [gF, gT, gT]
      by_cases e : i = t
      · rw [if_pos e, if_pos e, Int.toNat_natCast, if_neg hne]; omega
      · rw [if_neg e] at hp
        rw [if_neg e, if_neg e]
        have h3 := h2.prev i hi hp
        rw [if_neg]
        · exact h3
        · intro e2
          rw [e2] at h3
          omega
    · dsimp only
      rw [gB]
      split
      · exact hx16
      · exact h2.load i hi
theorem Inv2.fold {l : Int} {N : Nat} {a : Nat} : ∀ (L : List Int) (s : St), Inv N s → Inv2 l N s → (a : Int) ∈ s.q → (∀ x ∈ L, (0 ≤ nxI l (bkN l a) (bkF l a) x ∧ nxI l (bkN l a) (bkF l a) x < N) ∧ 0 ≤ x ∧ x ≤ 65535) → Inv2 l N (L.foldl (St.one l a) s)
  | [], s, _, h2, _, _ => h2
  | x :: L, s, h, h2, ha, hx => by
    have h3 := h.one ha (hx x List.mem_cons_self).1
    exact Inv2.fold L _ h3 (Inv2.one h h2 ha (hx x List.mem_cons_self).1 (hx x List.mem_cons_self).2) ((one_q l a s x).subset ha) (fun y hy => hx y (List.mem_cons_of_mem _ hy))
theorem ldA_16 {l k : Int} {xs : List Int} {n : Int} {f : Bool} {N : Nat} (hl : 1 ≤ l ∧ l ≤ 8) (hN : (N : Int) = 2 * (allI l + 1)) : ∀ x ∈ ldA l k xs n f, (0 ≤ nxI l n f x ∧ nxI l n f x < N) ∧ 0 ≤ x ∧ x ≤ 65535 := fun x hx => by
  have := nx_lt hl hx
  omega
theorem Inv2.run {l k : Int} {xs : List Int} {N : Nat} {s : St} (h : Inv N s) (h2 : Inv2 l N s) (hl : 1 ≤ l ∧ l ≤ 8) (hN : (N : Int) = 2 * (allI l + 1)) : ∀ i, Inv2 l N (s.run l k xs i)
  | 0 => h2
  | i + 1 => by
    have h1 := (h.run (k := k) (xs := xs) hl hN i).1
    have h3 := Inv2.run h h2 hl hN i (k := k) (xs := xs)
    by_cases hlt : i < (s.run l k xs i).q.length
    · rw [run_next hlt]
      have hm := st_mem hlt
      have hn := h1.here _ hm
      exact Inv2.fold _ _ h1 h3 (by rw [Int.toNat_of_nonneg hn.1]; exact hm) (ldA_16 hl hN)
    · rw [run_stop (i := i) (by omega) (i + 1) (by omega)]; exact h3
theorem stA_inv2 {l k : Int} {xs : List Int} {N : Nat} (hl : 1 ≤ l ∧ l ≤ 8) (hN : (N : Int) = 2 * (allI l + 1)) : Inv2 l N (stA l k xs N) := by
  have ha := allI_le hl
  exact Inv2.run (Inv.first (f := (allI l).toNat) (by omega)) (Inv2.first (by omega)) hl hN N
/-- The bank that is gone from stays as it is while its loads are gone through. -/
theorem fold_same {l k : Int} {xs : List Int} {N : Nat} {s : St} {a : Nat} (hl : 1 ≤ l ∧ l ≤ 8) : ∀ (L : List Int) (s : St), (∀ x ∈ L, x ∈ ldA l k xs (bkN l a) (bkF l a)) → (L.foldl (St.one l a) s).tb.getD a 0 = s.tb.getD a 0 ∧ (L.foldl (St.one l a) s).wy.getD a 0 = s.wy.getD a 0
  | [], s, _ => ⟨rfl, rfl⟩
  | x :: L, s, hx => by
    have h1 := fold_same (N := N) (s := s) hl L (St.one l a s x) (fun y hy => hx y (List.mem_cons_of_mem _ hy))
    have hne : a ≠ (nxI l (bkN l a) (bkF l a) x).toNat := fun e => by
      have h2 := (nx_bk hl (hx x List.mem_cons_self)).2
      have h3 := nx_lt hl (hx x List.mem_cons_self)
      have e2 : nxI l (bkN l a) (bkF l a) x = (a : Int) := by omega
      rw [e2] at h2
      cases h : bkF l (a : Int) <;> rw [h] at h2 <;> cases h2
    have h2 := one_off (s := s) hne
    exact ⟨h1.1.trans h2.1, h1.2.trans h2.2.1⟩
/-- The cells of banks, by their numbers, one behind the other. -/
def bvals (l : Int) (q : List Int) : List Value := q.flatMap (fun n => [.int .u16 (bkN l n), .bool (bkF l n)])
theorem bvals_snoc (l : Int) (q : List Int) (n : Int) : bvals l (q ++ [n]) = bvals l q ++ [.int .u16 (bkN l n), .bool (bkF l n)] := by simp [bvals]
theorem bvals_get (l : Int) (q : List Int) (i : Nat) (hi : i < q.length) : (bvals l q)[i * 2]? = some (.int .u16 (bkN l (q.getD i 0))) ∧ (bvals l q)[i * 2 + 1]? = some (.bool (bkF l (q.getD i 0))) := by
  induction q generalizing i with
  | nil => exact absurd hi (by simp)
  | cons m q ih =>
    rw [show bvals l (m :: q) = .int .u16 (bkN l m) :: .bool (bkF l m) :: bvals l q from rfl]
    cases i with
    | zero => exact ⟨rfl, rfl⟩
    | succ i =>
      have h := ih i (by simpa using hi)
      rw [show (i + 1) * 2 = i * 2 + 2 by omega]
      exact h
/-- A search of the program in memory; beside it blocks that stand. -/
structure PM (l : Int) (N B : Nat) (L : List (Nat × Obj)) (w0 : World) (O X mb : Nat) (v : Value) (s : St) (w : World) : Prop where
  below : Below w0.heap.size w0 w
  ne : O ≠ X ∧ mb ≠ O ∧ mb ≠ X
  lo : w0.heap.size ≤ O ∧ w0.heap.size ≤ X ∧ w0.heap.size ≤ mb
  bO : Blk w O #[v] 89
  bX : Blk w X #[.map (some mb)] 60
  map : ∃ G n, n ≤ B ∧ MapAt Try.prog 64 w mb n G ∧ FSb l N s G
  own : w.ownsRow w0.heap.size 64 2 v s.q.length (bvals l s.q)
  ob : v.ownBlock ≠ some O ∧ v.ownBlock ≠ some X ∧ v.ownBlock ≠ some mb
  bL : ∀ p ∈ L, w.heap[p.1]? = some p.2 ∧ (O ≠ p.1 ∧ X ≠ p.1 ∧ mb ≠ p.1) ∧ v.ownBlock ≠ some p.1
section
variable {l : Int} {N B : Nat} {L : List (Nat × Obj)} {w0 w w' : World} {O X mb : Nat} {v : Value} {s : St}
theorem PM.mlt (h : PM l N B L w0 O X mb v s w) : mb < w.heap.size := by
  obtain ⟨G, n, _, hM, _⟩ := h.map
  exact hM.lt
/-- Whatever leaves its blocks leaves the search. -/
theorem PM.kept (h : PM l N B L w0 O X mb v s w) {row : Option Nat} (hg : w.grownBy w' row) (hlo : ∀ j, row = some j → w0.heap.size ≤ j) (hO : row ≠ some O) (hX : row ≠ some X) (hm : row ≠ some mb) (hv : row = none ∨ v.ownBlock ≠ row) (hL : ∀ p ∈ L, row ≠ some p.1) : PM l N B L w0 O X mb v s w' := by
  obtain ⟨G, n, hn, hM, hS⟩ := h.map
  have K : ∀ {b : Nat} {o : Obj}, w.heap[b]? = some o → row ≠ some b → w'.heap[b]? = some o := fun {b o} hb hne => (hg.block b (blk_lt hb) (fun e => hne e.symm)).trans hb
  refine ⟨h.below.grown hg h.below.size hlo, h.ne, h.lo, K h.bO hO, K h.bX hX, ⟨G, n, hn, hM.kept hg (fun e => hm e.symm), hS⟩, h.own.kept hg ?_, h.ob, fun p hp => ⟨K (h.bL p hp).1 (hL p hp), (h.bL p hp).2⟩⟩
  rcases hv with e | e
  · subst e
    cases hq : v.ownBlock with
    | none => exact .inl rfl
    | some g => exact .inr (by intro e2; cases e2)
  · exact .inr (fun e2 => e e2)
theorem PM.next (h : PM l N B L w0 O X mb v s w) (hb : Below w.heap.size w w') : PM l N B L w0 O X mb v s w' := by
  obtain ⟨G, n, hn, hM, hS⟩ := h.map
  exact ⟨h.below.trans (hb.mono h.below.size), h.ne, h.lo, h.bO.below hb h.bO.lt, h.bX.below hb h.bX.lt, ⟨G, n, hn, hM.below hb hM.lt, hS⟩, ownsRow_next h.own hb, h.ob, fun p hp => ⟨(hb.block p.1 (blk_lt (h.bL p hp).1)).trans (h.bL p hp).1, (h.bL p hp).2⟩⟩
theorem PM.add (h : PM l N B L w0 O X mb v s w) {g : Nat} {G : Obj} (hg : w.heap[g]? = some G) (hne : O ≠ g ∧ X ≠ g ∧ mb ≠ g) (hv : v.ownBlock ≠ some g) : PM l N B ((g, G) :: L) w0 O X mb v s w := by
  refine ⟨h.below, h.ne, h.lo, h.bO, h.bX, h.map, h.own, h.ob, fun p hp => ?_⟩
  rcases List.mem_cons.1 hp with rfl | hp
  · exact ⟨hg, hne, hv⟩
  · exact h.bL p hp
theorem PM.far (h : PM l N B L w0 O X mb v s w) (hb : Below w.heap.size w w') {g : Nat} {G : Obj} (hg : w'.heap[g]? = some G) (hl : w.heap.size ≤ g) : PM l N B ((g, G) :: L) w0 O X mb v s w' := by
  have l1 := h.bO.lt
  have l2 := h.bX.lt
  have l3 := h.mlt
  refine (h.next hb).add hg ⟨by omega, by omega, by omega⟩ (fun e => ?_)
  have := (h.own.lt _ e).2
  omega
theorem PM.sub (h : PM l N B L w0 O X mb v s w) {L' : List (Nat × Obj)} (hL : ∀ p ∈ L', p ∈ L) : PM l N B L' w0 O X mb v s w :=
  ⟨h.below, h.ne, h.lo, h.bO, h.bX, h.map, h.own, h.ob, fun p hp => h.bL p (hL p hp)⟩
theorem PM.mono (h : PM l N B L w0 O X mb v s w) {B' : Nat} (hB : B ≤ B') : PM l N B' L w0 O X mb v s w := by
  obtain ⟨G, n, hn, hM, hS⟩ := h.map
  exact ⟨h.below, h.ne, h.lo, h.bO, h.bX, ⟨G, n, Nat.le_trans hn hB, hM, hS⟩, h.own, h.ob, h.bL⟩
theorem PM.mem {g : Nat} {G : Obj} (h : PM l N B L w0 O X mb v s w) (hp : (g, G) ∈ L) : w.heap[g]? = some G := (h.bL (g, G) hp).1
/-- A landing has been laid. -/
theorem PM.stored (h : PM l N B L w0 O X mb v s w) {s' : St} {n : Nat} {G : Value → Option Value} (hM : MapAt Try.prog 64 w' mb n G) (hn : n ≤ B + 1) (hq : s'.q = s.q) (hS : FSb l N s' G) (ht : w.mapTurned w' mb) : PM l N (B + 1) L w0 O X mb v s' w' := by
  have hg := ht.grown
  have K : ∀ {b : Nat} {o : Obj}, w.heap[b]? = some o → mb ≠ b → w'.heap[b]? = some o := fun {b o} hb hne => (hg.block b (blk_lt hb) (fun e => hne (Option.some.inj e).symm)).trans hb
  have hlo : ∀ j, some mb = some j → w0.heap.size ≤ j := fun j hj => by
    have e : mb = j := Option.some.inj hj
    exact e ▸ h.lo.2.2
  refine ⟨h.below.grown hg h.below.size hlo, h.ne, h.lo, K h.bO h.ne.2.1, K h.bX h.ne.2.2, ⟨G, n, hn, hM, hS⟩, ?_, h.ob, fun p hp => ⟨K (h.bL p hp).1 (h.bL p hp).2.1.2.2, (h.bL p hp).2⟩⟩
  rw [hq]
  exact h.own.kept hg (.inr h.ob.2.2)
/-- The order has been appended to, behind the new element's own block, and is laid. -/
theorem PM.push (h : PM l N B L w0 O X mb v s w) {a : Int} {g cap H : Nat} {o : Obj} (hown : w'.ownsRow w0.heap.size 64 2 (.slice (some ⟨g, 0, none⟩) (s.q.length + 1) cap) (s.q.length + 1) (bvals l s.q ++ [.int .u16 (bkN l a), .bool (bkF l a)]))
    (hgrow : (w.alloc o).grownBy w' v.ownBlock) (hat : v.ownBlock = some g ∨ g = H) (hH : w.heap.size < H) {s' : St} (hq : s'.q = s.q ++ [a]) (hs : ∀ G, FSb l N s G → FSb l N s' G) :
    PM l N B L w0 O X mb (.slice (some ⟨g, 0, none⟩) (s.q.length + 1) cap) s' (w'.setCell ⟨O, 0, none⟩ (.slice (some ⟨g, 0, none⟩) (s.q.length + 1) cap)) := by
  obtain ⟨G, n, hn, hF, hS⟩ := h.map
  have l1 := h.bO.lt
  have l2 := h.bX.lt
  have l3 := hF.lt
  have K : ∀ {b : Nat} {o' : Obj}, w.heap[b]? = some o' → v.ownBlock ≠ some b → w'.heap[b]? = some o' := fun {b o'} hk hne => (hgrow.block b (by have := blk_lt hk; simp; omega) (fun e => hne e.symm)).trans ((Below.heap_alloc w o b (blk_lt hk)).trans hk)
  have G2 : ∀ {b : Nat}, b < w.heap.size → v.ownBlock ≠ some b → g ≠ b := fun {b} hb hne e => by
    rcases hat with e2 | e2
    · exact hne (by rw [e2, e])
    · omega
  have hbel : Below w0.heap.size w0 w' := by
    refine (h.below.alloc h.below.size o).grown hgrow (by have := h.below.size; simp; omega) (fun j hj => ?_)
    exact (h.own.lt j hj).1
  have hgO := G2 l1 h.ob.1
  have hgX := G2 l2 h.ob.2.1
  have hgm := G2 l3 h.ob.2.2
  refine ⟨hbel.setCell h.lo.1 _, h.ne, h.lo, ?_, bG_set (K h.bX h.ob.2.1) h.ne.1 _ _, ⟨G, n, hn, ?_, hs G hS⟩, ?_, ⟨fun e => hgO (by injection e), fun e => hgX (by injection e), fun e => hgm (by injection e)⟩, fun p hp => ?_⟩
  · have hb2 : Blk w' O #[v] 89 := K h.bO h.ob.1
    exact hb2.set 0 (.slice (some ⟨g, 0, none⟩) (s.q.length + 1) cap)
  · refine MapAt.setCell (MapAt.kept (hF.alloc o) hgrow (fun e => h.ob.2.2 e.symm)) ?_ _
    exact h.ne.2.1
  · rw [hq, bvals_snoc, List.length_append]
    exact ownsRow_set hown _ _ (fun e => hgO (by injection e))
  · obtain ⟨q1, q2, q3⟩ := h.bL p hp
    have l5 := blk_lt q1
    exact ⟨bG_set (K q1 q3) q2.1 _ _, q2, fun e => G2 l5 q3 (by injection e)⟩
end
/-- A search in memory abides what a loop over an iterator turns, if its blocks lie below. -/
theorem PM.ownFrom {β : Type} {C : Nat} {li : Int} {N O X mb : Nat} {w0 : World} {L : List (Nat × Obj)} (B : β → Nat) (f : β → St) (hO : O < C) (hX : X < C) (hm : mb < C) (hL : ∀ p ∈ L, p.1 < C) (h0 : w0.heap.size ≤ C) :
    OwnFrom C (fun (p : β) W => ∃ g cap, PM li N (B p) L w0 O X mb (.slice (some ⟨g, 0, none⟩) (f p).q.length cap) (f p) W) := by
  rintro p W W' row ⟨g, cap, h⟩ hg hr
  refine ⟨g, cap, h.kept hg (fun j e => Nat.le_trans h0 (hr j e).1) (fun e => by have := (hr _ e).1; omega) (fun e => by have := (hr _ e).1; omega) (fun e => by have := (hr _ e).1; omega) ?_ (fun p hp e => by have := (hr _ e).1; have := hL p hp; omega)⟩
  cases hrow : row with
  | none => exact .inl rfl
  | some r =>
    refine .inr (fun e => ?_)
    obtain ⟨o, ho, hc⟩ := (hr r hrow).2
    have e2 : g = r := Option.some.inj e
    rcases h.own.2 with h1 | ⟨g2, cap2, cur, e3, _, hgb, _⟩
    · exact absurd h1.1 (by intro e4; cases e4)
    · obtain rfl : g = g2 := by injection e3 with e4; injection e4 with e5; injection e5
      rw [← e2, hgb] at ho
      cases ho
      cases hc
end Go.Proofs.Ytoeoilhbekhnbaa
