/-
  A search over numbered states, breadth first: what programs and models do alike.
-/
import Derived.Test.YtjmgalmndpjcoaaBase
namespace Go.Proofs.Ytjmgalmndpjcoaa
open Go.RowKit
set_option linter.unusedVariables false

/-- What a search knows, by number: steps (-1: not found), what came before, by which move; the queue. -/
structure GS where
  tb : List Int
  fr : List Int
  mv : List Int
  q : List Int
def GS.find (s : GS) (a t : Nat) (j : Nat) : GS :=
  if s.tb.getD t 0 < 0 then { tb := s.tb.set t (s.tb.getD a 0 + 1), fr := s.fr.set t a, mv := s.mv.set t j, q := s.q ++ [(t : Int)] } else s
def GS.one (nx : Nat → Nat → Option Nat) (a : Nat) (s : GS) (j : Nat) : GS :=
  match nx a j with
  | none => s
  | some t => s.find a t j
/-- After j moves from state a. -/
def GS.part (nx : Nat → Nat → Option Nat) (a : Nat) (s : GS) : Nat → GS
  | 0 => s
  | j + 1 => GS.one nx a (GS.part nx a s j) j
/-- After i states of the queue. -/
def GS.run (nx : Nat → Nat → Option Nat) (M : Nat) (s : GS) : Nat → GS
  | 0 => s
  | i + 1 => if i < (GS.run nx M s i).q.length then GS.part nx ((GS.run nx M s i).q.getD i 0).toNat (GS.run nx M s i) M else GS.run nx M s i
def GS.first (N f : Nat) : GS := { tb := (List.replicate N (-1)).set f 0, fr := List.replicate N 0, mv := List.replicate N 0, q := [(f : Int)] }
structure GInv (N M : Nat) (s : GS) : Prop where
  tb : s.tb.length = N
  fr : s.fr.length = N
  mv : s.mv.length = N
  here : ∀ a ∈ s.q, 0 ≤ a ∧ a < N ∧ 0 ≤ s.tb.getD a.toNat 0
  known : ∀ i, i < N → 0 ≤ s.tb.getD i 0 → (i : Int) ∈ s.q
  once : s.q.Nodup
  far : ∀ i, i < N → -1 ≤ s.tb.getD i 0 ∧ s.tb.getD i 0 < s.q.length
  back : ∀ i, i < N → 0 ≤ s.fr.getD i 0 ∧ s.fr.getD i 0 < N ∧ 0 ≤ s.mv.getD i 0 ∧ (s.mv.getD i 0 = 0 ∨ s.mv.getD i 0 < M)
  prev : ∀ i, i < N → 0 < s.tb.getD i 0 → s.tb.getD (s.fr.getD i 0).toNat 0 = s.tb.getD i 0 - 1 ∧ s.mv.getD i 0 < M
theorem gs_set (xs : List Int) (i j : Nat) (v : Int) (hi : i < xs.length) : (xs.set i v).getD j 0 = if j = i then v else xs.getD j 0 := by
  rw [List.getD_eq_getElem?_getD, List.getD_eq_getElem?_getD, List.getElem?_set]
  by_cases h : i = j
  · subst h; rw [if_pos rfl, if_pos rfl, if_pos hi]; rfl
  · rw [if_neg h, if_neg (fun e => h e.symm)]
theorem gs_rep (N : Nat) (v : Int) (i : Nat) (h : i < N) : (List.replicate N v).getD i 0 = v := by
  simp [List.getD_eq_getElem?_getD, h]
theorem GInv.short {N M : Nat} {s : GS} (h : GInv N M s) : s.q.length ≤ N := by
  have h2 : s.q ⊆ (List.range N).map (fun i : Nat => (i : Int)) := fun a ha => by
    have := h.here a ha
    exact List.mem_map.2 ⟨a.toNat, List.mem_range.2 (by omega), by simp; omega⟩
  have h3 := h.once.length_le_of_subset h2
  simpa using h3
theorem GInv.find {N M : Nat} {s : GS} (h : GInv N M s) {a t : Nat} (ha : (a : Int) ∈ s.q) (ht : t < N) {j : Nat} (hj : j < M) : GInv N M (s.find a t j) := by
  unfold GS.find
  split
  · rename_i hn
    have hnot : (t : Int) ∉ s.q := fun hm => by have := (h.here _ hm).2.2; rw [Int.toNat_natCast] at this; omega
    have hat := h.here _ ha
    have hfar := h.far a (by omega)
    rw [Int.toNat_natCast] at hat
    have hat2 : a ≠ t := fun e => hnot (e ▸ ha)
    refine ⟨by simp [h.tb], by simp [h.fr], by simp [h.mv], ?_, ?_, ?_, ?_, ?_, ?_⟩
    · intro b hm
      rw [List.mem_append, List.mem_singleton] at hm
      dsimp only
      rw [gs_set _ _ _ _ (by rw [h.tb]; exact ht)]
      rcases hm with hm | rfl
      · have := h.here b hm
        refine ⟨this.1, this.2.1, ?_⟩
        split
        · omega
        · exact this.2.2
      · refine ⟨by omega, by omega, ?_⟩
        rw [if_pos (by simp)]
        omega
    · intro i hi hp
      dsimp only at hp ⊢
      rw [gs_set _ _ _ _ (by rw [h.tb]; exact ht)] at hp
      rw [List.mem_append, List.mem_singleton]
      by_cases e : i = t
      · exact .inr (by rw [e])
      · rw [if_neg e] at hp
        exact .inl (h.known i hi hp)
    · dsimp only
      rw [List.nodup_append]
      refine ⟨h.once, by simp, ?_⟩
      intro b hb c hc
      rw [List.mem_singleton] at hc
      rintro rfl
      exact hnot (hc ▸ hb)
    · intro i hi
      dsimp only
      rw [gs_set _ _ _ _ (by rw [h.tb]; exact ht), List.length_append]
      have h1 := h.far i hi
      simp only [List.length_singleton]
      split <;> omega
    · intro i hi
      dsimp only
      rw [gs_set _ _ _ _ (by rw [h.fr]; exact ht), gs_set _ _ _ _ (by rw [h.mv]; exact ht)]
      have h1 := h.back i hi
      split
      · exact ⟨by omega, by omega, by omega, .inr (by omega)⟩
      · exact h1
    · intro i hi
      dsimp only
      have gT : ∀ k, (s.tb.set t (s.tb.getD a 0 + 1)).getD k 0 = if k = t then s.tb.getD a 0 + 1 else s.tb.getD k 0 := fun k => gs_set _ _ _ _ (by rw [h.tb]; exact ht)
      have gF : ∀ k, (s.fr.set t (a : Int)).getD k 0 = if k = t then (a : Int) else s.fr.getD k 0 := fun k => gs_set _ _ _ _ (by rw [h.fr]; exact ht)
      have gM : ∀ k, (s.mv.set t (j : Int)).getD k 0 = if k = t then (j : Int) else s.mv.getD k 0 := fun k => gs_set _ _ _ _ (by rw [h.mv]; exact ht)
      rw [gF, gM, gT, gT]
      by_cases e : i = t
      · subst e
        rw [if_pos rfl, if_pos rfl, if_pos rfl, Int.toNat_natCast, if_neg hat2]
        intro _
        exact ⟨by omega, by omega⟩
      · rw [if_neg e, if_neg e, if_neg e]
        intro hp
        have h1 := h.prev i hi hp
        refine ⟨?_, h1.2⟩
        rw [if_neg]
        · exact h1.1
        · intro e2
          rw [e2] at h1
          omega
  · exact h
theorem gfind_q (s : GS) (a t j : Nat) : s.q <+: (s.find a t j).q := by unfold GS.find; split; exact List.prefix_append _ _; exact List.prefix_refl _
theorem gone_q (nx : Nat → Nat → Option Nat) (a : Nat) (s : GS) (j : Nat) : s.q <+: (GS.one nx a s j).q := by
  unfold GS.one; split; exact List.prefix_refl _; exact gfind_q _ _ _ _
theorem GInv.one {nx : Nat → Nat → Option Nat} {N M : Nat} {s : GS} (h : GInv N M s) {a : Nat} (ha : (a : Int) ∈ s.q) {j : Nat} (hj : j < M) (hn : ∀ t, nx a j = some t → t < N) : GInv N M (GS.one nx a s j) := by
  unfold GS.one
  split
  · exact h
  · rename_i t e
    exact h.find ha (hn t e) hj
theorem GInv.part {nx : Nat → Nat → Option Nat} {N M : Nat} {s : GS} (h : GInv N M s) {a : Nat} (ha : (a : Int) ∈ s.q) (hn : ∀ j t, nx a j = some t → t < N) : ∀ j, j ≤ M → GInv N M (GS.part nx a s j) ∧ s.q <+: (GS.part nx a s j).q
  | 0, _ => ⟨h, List.prefix_refl _⟩
  | j + 1, hj => by
    obtain ⟨h1, h2⟩ := GInv.part h ha hn j (by omega)
    exact ⟨h1.one (h2.subset ha) (by omega) (hn j), h2.trans (gone_q _ _ _ _)⟩
theorem GS.run_next {nx : Nat → Nat → Option Nat} {M : Nat} {s : GS} {i : Nat} (h : i < (GS.run nx M s i).q.length) : GS.run nx M s (i + 1) = GS.part nx ((GS.run nx M s i).q.getD i 0).toNat (GS.run nx M s i) M := by
  show (if i < (GS.run nx M s i).q.length then _ else _) = _
  rw [if_pos h]
theorem GS.run_stop {nx : Nat → Nat → Option Nat} {M : Nat} {s : GS} {i : Nat} (h : (GS.run nx M s i).q.length ≤ i) : ∀ k, i ≤ k → GS.run nx M s k = GS.run nx M s i := by
  intro k hk
  obtain ⟨d, rfl⟩ : ∃ d, k = i + d := ⟨k - i, by omega⟩
  clear hk
  induction d with
  | zero => rfl
  | succ d ih =>
    show (if i + d < (GS.run nx M s (i + d)).q.length then _ else GS.run nx M s (i + d)) = _
    rw [ih, if_neg (by omega)]
theorem gs_mem {s : GS} {i : Nat} (h : i < s.q.length) : s.q.getD i 0 ∈ s.q := by
  rw [List.getD_eq_getElem?_getD, List.getElem?_eq_getElem h]
  exact List.getElem_mem h
theorem GInv.run {nx : Nat → Nat → Option Nat} {N M : Nat} {s : GS} (h : GInv N M s) (hn : ∀ a j t, a < N → nx a j = some t → t < N) : ∀ i, GInv N M (GS.run nx M s i) ∧ s.q <+: (GS.run nx M s i).q
  | 0 => ⟨h, List.prefix_refl _⟩
  | i + 1 => by
    obtain ⟨h1, h2⟩ := GInv.run h hn i
    by_cases hlt : i < (GS.run nx M s i).q.length
    · rw [GS.run_next hlt]
      have hm := gs_mem hlt
      have hh := h1.here _ hm
      have h3 := h1.part (nx := nx) (a := ((GS.run nx M s i).q.getD i 0).toNat) (by rw [Int.toNat_of_nonneg hh.1]; exact hm) (fun j t => hn _ j t (by omega)) M (Nat.le_refl _)
      exact ⟨h3.1, h2.trans h3.2⟩
    · rw [GS.run_stop (i := i) (by omega) (i + 1) (by omega)]
      exact ⟨h1, h2⟩
theorem GInv.first {N M f : Nat} (hf : f < N) : GInv N M (GS.first N f) := by
  have hg : ∀ i, i < N → ((List.replicate N (-1 : Int)).set f 0).getD i 0 = if i = f then 0 else -1 := fun i hi => by
    rw [gs_set _ _ _ _ (by simpa using hf)]
    split
    · rfl
    · exact gs_rep _ _ _ hi
  refine ⟨by simp [GS.first], by simp [GS.first], by simp [GS.first], ?_, ?_, by simp [GS.first], ?_, ?_, ?_⟩
  · intro a ha
    obtain rfl : a = (f : Int) := by simpa [GS.first] using ha
    refine ⟨by omega, by omega, ?_⟩
    show 0 ≤ ((List.replicate N (-1 : Int)).set f 0).getD (f : Int).toNat 0
    rw [Int.toNat_natCast, hg f hf, if_pos rfl]
    exact Int.le_refl _
  · intro i hi hp
    have hp' : 0 ≤ ((List.replicate N (-1 : Int)).set f 0).getD i 0 := hp
    rw [hg i hi] at hp'
    by_cases e : i = f
    · subst e; simp [GS.first]
    · rw [if_neg e] at hp'; omega
  · intro i hi
    show -1 ≤ ((List.replicate N (-1 : Int)).set f 0).getD i 0 ∧ ((List.replicate N (-1 : Int)).set f 0).getD i 0 < (1 : Nat)
    rw [hg i hi]
    split <;> omega
  · intro i hi
    show 0 ≤ (List.replicate N (0 : Int)).getD i 0 ∧ (List.replicate N (0 : Int)).getD i 0 < N ∧ 0 ≤ (List.replicate N (0 : Int)).getD i 0 ∧ _
    rw [gs_rep _ _ _ hi]
    exact ⟨by omega, by omega, by omega, .inl (gs_rep _ _ _ hi)⟩
  · intro i hi hp
    have hp' : 0 < ((List.replicate N (-1 : Int)).set f 0).getD i 0 := hp
    rw [hg i hi] at hp'
    split at hp' <;> omega
/-- The whole search. -/
def GS.all (nx : Nat → Nat → Option Nat) (M N f : Nat) : GS := GS.run nx M (GS.first N f) N
theorem GS.all_of {nx : Nat → Nat → Option Nat} {M N f i : Nat} (hf : f < N) (hn : ∀ a j t, a < N → nx a j = some t → t < N) (h : (GS.run nx M (GS.first N f) i).q.length ≤ i) : GS.run nx M (GS.first N f) i = GS.all nx M N f := by
  unfold GS.all
  rcases Nat.le_total i N with h1 | h1
  · exact (GS.run_stop h N h1).symm
  · exact GS.run_stop (((GInv.first hf).run hn N).1.short) i h1
theorem GInv.all {nx : Nat → Nat → Option Nat} {M N f : Nat} (hf : f < N) (hn : ∀ a j t, a < N → nx a j = some t → t < N) : GInv N M (GS.all nx M N f) := ((GInv.first hf).run hn N).1
end Go.Proofs.Ytjmgalmndpjcoaa
