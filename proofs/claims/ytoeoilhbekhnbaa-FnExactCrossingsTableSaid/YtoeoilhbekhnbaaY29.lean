/-
  The search of all banks, as a list of lists: what the program and the model both do.
-/
import Derived.Test.YtoeoilhbekhnbaaY24
namespace Go.Proofs.Ytoeoilhbekhnbaa
open Go.RowKit
set_option maxRecDepth 100000
set_option linter.unusedVariables false

/-- What a search knows: crossings, ways, banks before and loads by number; the queue. -/
structure St where
  tb : List Int
  wy : List Int
  fr : List Int
  by' : List Int
  q : List Int
/-- A bank is found, if it was not. -/
def St.find (s : St) (at' tt : Nat) (x : Int) : St :=
  if s.tb.getD tt 0 < 0 then { s with tb := s.tb.set tt (s.tb.getD at' 0 + 1), fr := s.fr.set tt at', by' := s.by'.set tt x, q := s.q ++ [(tt : Int)] } else s
/-- One more crossing: the ways are added. -/
def St.add (s : St) (at' tt : Nat) : St :=
  if s.tb.getD tt 0 = s.tb.getD at' 0 + 1 then { s with wy := s.wy.set tt (IntKind.i64.wrap (s.wy.getD tt 0 + s.wy.getD at' 0)) } else s
def St.one (l : Int) (at' : Nat) (s : St) (x : Int) : St :=
  (s.find at' (nxI l (bkN l at') (bkF l at') x).toNat x).add at' (nxI l (bkN l at') (bkF l at') x).toNat
def St.bank (l k : Int) (xs : List Int) (s : St) (at' : Nat) : St := (ldA l k xs (bkN l at') (bkF l at')).foldl (St.one l at') s
/-- After i banks of the queue. -/
def St.run (l k : Int) (xs : List Int) (s : St) : Nat → St
  | 0 => s
  | i + 1 => if i < (St.run l k xs s i).q.length then St.bank l k xs (St.run l k xs s i) ((St.run l k xs s i).q.getD i 0).toNat else St.run l k xs s i
/-- At first only the first bank is known. -/
def St.first (N f : Nat) : St := { tb := (List.replicate N (-1)).set f 0, wy := (List.replicate N 0).set f 1, fr := List.replicate N 0, by' := List.replicate N 0, q := [(f : Int)] }
structure Inv (N : Nat) (s : St) : Prop where
  tb : s.tb.length = N
  wy : s.wy.length = N
  fr : s.fr.length = N
  by' : s.by'.length = N
  here : ∀ a ∈ s.q, 0 ≤ a ∧ a < N ∧ 0 ≤ s.tb.getD a.toNat 0
  known : ∀ i, i < N → 0 ≤ s.tb.getD i 0 → (i : Int) ∈ s.q
  once : s.q.Nodup
  far : ∀ i, i < N → -1 ≤ s.tb.getD i 0 ∧ s.tb.getD i 0 < s.q.length
theorem getD_set (xs : List Int) (i j : Nat) (v : Int) (hi : i < xs.length) : (xs.set i v).getD j 0 = if j = i then v else xs.getD j 0 := by
  rw [List.getD_eq_getElem?_getD, List.getD_eq_getElem?_getD, List.getElem?_set]
  by_cases h : i = j
  · subst h; rw [if_pos rfl, if_pos rfl, if_pos hi]; rfl
  · rw [if_neg h, if_neg (fun e => h e.symm)]
theorem Inv.short {N : Nat} {s : St} (h : Inv N s) : s.q.length ≤ N := by
  have h2 : s.q ⊆ (List.range N).map (fun i : Nat => (i : Int)) := fun a ha => by
    have := h.here a ha
    exact List.mem_map.2 ⟨a.toNat, List.mem_range.2 (by omega), by simp; omega⟩
  have h3 := h.once.length_le_of_subset h2
  simpa using h3
theorem Inv.find {N : Nat} {s : St} (h : Inv N s) {at' tt : Nat} (ha : (at' : Int) ∈ s.q) (ht : tt < N) (x : Int) : Inv N (s.find at' tt x) := by
  unfold St.find
  split
  · rename_i hn
    have hnot : (tt : Int) ∉ s.q := fun hm => by have := (h.here _ hm).2.2; rw [Int.toNat_natCast] at this; omega
    have hat := h.here _ ha
    have hfar := h.far at' (by omega)
    rw [Int.toNat_natCast] at hat
    refine ⟨by simp [h.tb], h.wy, by simp [h.fr], by simp [h.by'], ?_, ?_, ?_, ?_⟩
    · intro a hm
      rw [List.mem_append, List.mem_singleton] at hm
      dsimp only
      rw [getD_set _ _ _ _ (by rw [h.tb]; exact ht)]
      rcases hm with hm | rfl
      · have := h.here a hm
        refine ⟨this.1, this.2.1, ?_⟩
        split
        · omega
        · exact this.2.2
      · refine ⟨by omega, by omega, ?_⟩
        rw [if_pos (by simp)]
        omega
    · intro i hi hp
      dsimp only at hp ⊢
      rw [getD_set _ _ _ _ (by rw [h.tb]; exact ht)] at hp
      rw [List.mem_append, List.mem_singleton]
      by_cases e : i = tt
      · exact .inr (by rw [e])
      · rw [if_neg e] at hp
        exact .inl (h.known i hi hp)
    · dsimp only
      rw [List.nodup_append]
      refine ⟨h.once, by simp, ?_⟩
      intro a ha' b hb
      rw [List.mem_singleton] at hb
      rintro rfl
      exact hnot (hb ▸ ha')
    · intro i hi
      dsimp only
      rw [getD_set _ _ _ _ (by rw [h.tb]; exact ht), List.length_append]
      have h1 := h.far i hi
      simp only [List.length_singleton]
      split <;> omega
  · exact h
theorem Inv.add {N : Nat} {s : St} (h : Inv N s) (at' tt : Nat) : Inv N (s.add at' tt) := by
  unfold St.add
  split
  · exact ⟨h.tb, by simp [h.wy], h.fr, h.by', h.here, h.known, h.once, h.far⟩
  · exact h
theorem add_q (s : St) (at' tt : Nat) : (s.add at' tt).q = s.q := by unfold St.add; split <;> rfl
theorem find_q (s : St) (at' tt : Nat) (x : Int) : s.q <+: (s.find at' tt x).q := by unfold St.find; split; exact List.prefix_append _ _; exact List.prefix_refl _
theorem one_q (l : Int) (at' : Nat) (s : St) (x : Int) : s.q <+: (s.one l at' x).q := by unfold St.one; rw [add_q]; exact find_q _ _ _ _
theorem Inv.one {l : Int} {N : Nat} {s : St} (h : Inv N s) {at' : Nat} (ha : (at' : Int) ∈ s.q) {x : Int} (hx : 0 ≤ nxI l (bkN l at') (bkF l at') x ∧ nxI l (bkN l at') (bkF l at') x < N) : Inv N (s.one l at' x) :=
  (h.find ha (by omega) x).add _ _
theorem Inv.fold {l : Int} {N : Nat} {at' : Nat} : ∀ (L : List Int) (s : St), Inv N s → (at' : Int) ∈ s.q → (∀ x ∈ L, 0 ≤ nxI l (bkN l at') (bkF l at') x ∧ nxI l (bkN l at') (bkF l at') x < N) → Inv N (L.foldl (St.one l at') s) ∧ s.q <+: (L.foldl (St.one l at') s).q
  | [], s, h, _, _ => ⟨h, List.prefix_refl _⟩
  | x :: L, s, h, ha, hx => by
    have h1 := h.one ha (hx x List.mem_cons_self)
    have hp := one_q l at' s x
    obtain ⟨h2, h3⟩ := Inv.fold L _ h1 (hp.subset ha) (fun y hy => hx y (List.mem_cons_of_mem _ hy))
    exact ⟨h2, hp.trans h3⟩
theorem ldA_nx {l k : Int} {xs : List Int} {n : Int} {f : Bool} {N : Nat} (hl : 1 ≤ l ∧ l ≤ 8) (hN : (N : Int) = 2 * (allI l + 1)) : ∀ x ∈ ldA l k xs n f, 0 ≤ nxI l n f x ∧ nxI l n f x < N := fun x hx => by
  have := nx_lt hl hx
  omega
theorem Inv.bank {l k : Int} {xs : List Int} {N : Nat} {s : St} (h : Inv N s) (hl : 1 ≤ l ∧ l ≤ 8) (hN : (N : Int) = 2 * (allI l + 1)) {at' : Nat} (ha : (at' : Int) ∈ s.q) : Inv N (s.bank l k xs at') ∧ s.q <+: (s.bank l k xs at').q :=
  Inv.fold _ _ h ha (ldA_nx hl hN)
theorem Inv.run {l k : Int} {xs : List Int} {N : Nat} {s : St} (h : Inv N s) (hl : 1 ≤ l ∧ l ≤ 8) (hN : (N : Int) = 2 * (allI l + 1)) : ∀ i, Inv N (s.run l k xs i) ∧ s.q <+: (s.run l k xs i).q
  | 0 => ⟨h, List.prefix_refl _⟩
  | i + 1 => by
    obtain ⟨h1, h2⟩ := Inv.run h hl hN i (k := k) (xs := xs)
    unfold St.run
    split
    · rename_i hlt
      have hm : ((s.run l k xs i).q.getD i 0) ∈ (s.run l k xs i).q := by
        rw [List.getD_eq_getElem?_getD, List.getElem?_eq_getElem hlt]
        exact List.getElem_mem hlt
      have hn := h1.here _ hm
      have h3 := h1.bank (k := k) (xs := xs) hl hN (at' := ((s.run l k xs i).q.getD i 0).toNat) (by rw [Int.toNat_of_nonneg hn.1]; exact hm)
      exact ⟨h3.1, h2.trans h3.2⟩
    · exact ⟨h1, h2⟩
theorem Inv.first {N f : Nat} (hf : f < N) : Inv N (St.first N f) := by
  have hg : ∀ i, i < N → ((List.replicate N (-1 : Int)).set f 0).getD i 0 = if i = f then 0 else -1 := fun i hi => by
    rw [getD_set _ _ _ _ (by simpa using hf)]
    split
    · rfl
    · simp [List.getD_eq_getElem?_getD, hi]
  refine ⟨by simp [St.first], by simp [St.first], by simp [St.first], by simp [St.first], ?_, ?_, by simp [St.first], ?_⟩
  · intro a ha
    obtain rfl : a = (f : Int) := by simpa [St.first] using ha
    refine ⟨by omega, by omega, ?_⟩
    show 0 ≤ ((List.replicate N (-1 : Int)).set f 0).getD (f : Int).toNat 0
    rw [Int.toNat_natCast, hg f hf, if_pos rfl]
    exact Int.le_refl _
  · intro i hi hp
    have hp' : 0 ≤ ((List.replicate N (-1 : Int)).set f 0).getD i 0 := hp
    rw [hg i hi] at hp'
    by_cases e : i = f
    · subst e; simp [St.first]
    · rw [if_neg e] at hp'; omega
  · intro i hi
    show -1 ≤ ((List.replicate N (-1 : Int)).set f 0).getD i 0 ∧ ((List.replicate N (-1 : Int)).set f 0).getD i 0 < (1 : Nat)
    rw [hg i hi]
    split <;> omega
end Go.Proofs.Ytoeoilhbekhnbaa
