/-
  A text cut at its blanks: what the library's cutting gives, beside all parts (for any bound).
-/
import Derived.Test.YteicfelaelhaiaaDoorSP1
import Derived.Lib.IndexLaws
namespace Go.Proofs.YteicfelaelhaiaaDoor
open Go.RowKit
set_option maxRecDepth 100000

theorem spl_sum (c : UInt8) (l : List UInt8) : ((spl c l).map List.length).sum + (spl c l).length = l.length + 1 := by
  induction l with
  | nil => simp [spl]
  | cons b l ih =>
    have h1 := (spl_len c l).1
    unfold spl
    by_cases e : b = c
    · rw [if_pos e]; simp only [List.map_cons, List.sum_cons, List.length_cons, List.length_nil]; omega
    · rw [if_neg e]
      cases hs : spl c l with
      | nil => rw [hs] at h1; simp at h1
      | cons p r =>
        rw [hs] at ih
        simp only [List.map_cons, List.sum_cons, List.length_cons, List.headD_cons, List.tail_cons] at ih ⊢
        omega
theorem sum_ge (L : List (List UInt8)) (h : ∀ x ∈ L, x ≠ []) : L.length ≤ (L.map List.length).sum := by
  induction L with
  | nil => simp
  | cons p r ih =>
    have h1 := ih (fun x hx => h x (List.mem_cons_of_mem _ hx))
    have h2 := h p List.mem_cons_self
    have h3 : 1 ≤ p.length := by
      cases p with
      | nil => exact absurd rfl h2
      | cons _ _ => simp
    simp only [List.map_cons, List.sum_cons, List.length_cons]; omega
theorem le_sum (L : List (List UInt8)) : ∀ x ∈ L, x.length ≤ (L.map List.length).sum := by
  induction L with
  | nil => intro x hx; exact absurd hx List.not_mem_nil
  | cons p r ih =>
    intro x hx
    simp only [List.map_cons, List.sum_cons]
    rcases List.mem_cons.1 hx with rfl | h
    · omega
    · have := ih x h; omega
theorem split_first {l : List UInt8} {c : UInt8} {o : Nat} (h : l[o]? = some c) : l = l.take o ++ c :: l.drop (o + 1) := by
  have hlt : o < l.length := by
    rcases Nat.lt_or_ge o l.length with h' | h'
    · exact h'
    · rw [List.getElem?_eq_none h'] at h; exact absurd h (by simp)
  have e : l[o] = c := by rw [List.getElem?_eq_getElem hlt] at h; exact Option.some.inj h
  rw [← e, ← List.drop_eq_getElem_cons hlt, List.take_append_drop]
/-- The parts that the library cuts off, k at the most and a rest, and all parts. -/
theorem splitK_spl (c : UInt8) : ∀ (k : Nat) (l : List UInt8), ((spl c l).length ≤ k + 1 ∧ Lib.splitK [c] 0 k l = spl c l) ∨ (k + 1 < (spl c l).length ∧ ∃ r D, Lib.splitK [c] 0 k l = D ++ [r] ∧ c ∈ r)
  | 0, l => by
    by_cases h : c ∈ l
    · right
      refine ⟨?_, l, [], rfl, h⟩
      obtain ⟨o, ho⟩ := List.getElem?_of_mem h
      have hno : Lib.indexByte l c ≠ -1 := fun e => Lib.indexByte_none e o ho
      have hge : -1 ≤ Lib.indexByte l c := by rw [← Lib.index_one]; exact Lib.index_ge l [c]
      obtain ⟨j, hj⟩ : ∃ j : Nat, Lib.indexByte l c = j := ⟨(Lib.indexByte l c).toNat, by omega⟩
      have h2 := Lib.indexByte_some hj
      rw [split_first h2.1, spl_hit c _ _ (fun b hb => by
        obtain ⟨i, hi⟩ := List.getElem?_of_mem hb
        rcases Nat.lt_or_ge i j with h' | h'
        · rw [List.getElem?_take_of_lt h'] at hi
          rintro rfl
          exact h2.2 i h' hi
        · rw [List.getElem?_eq_none (by rw [List.length_take]; omega)] at hi; exact absurd hi (by simp))]
      have := (spl_len c (l.drop (j + 1))).1
      simp only [List.length_cons]; omega
    · left
      have e := spl_end c l (fun b hb e => h (e ▸ hb))
      rw [e]
      exact ⟨Nat.le_refl _, rfl⟩
  | k + 1, l => by
    by_cases hm : Lib.index l [c] = -1
    · left
      have e := spl_end c l (fun b hb e => by
        rw [Lib.index_one] at hm
        obtain ⟨i, hi⟩ := List.getElem?_of_mem hb
        rw [e] at hi
        exact Lib.indexByte_none hm i hi)
      rw [e, Lib.splitK, if_pos (beq_iff_eq.2 hm)]
      exact ⟨by simp, by first | rfl | trivial⟩
    · have hge := Lib.index_ge l [c]
      obtain ⟨j, hj⟩ : ∃ j : Nat, Lib.index l [c] = j := ⟨(Lib.index l [c]).toNat, by omega⟩
      have h2 := Lib.indexByte_some (by rw [← Lib.index_one]; exact hj)
      have e := spl_hit c (l.take j) (l.drop (j + 1)) (fun b hb => by
        obtain ⟨i, hi⟩ := List.getElem?_of_mem hb
        rcases Nat.lt_or_ge i j with h' | h'
        · rw [List.getElem?_take_of_lt h'] at hi
          rintro rfl
          exact h2.2 i h' hi
        · rw [List.getElem?_eq_none (by rw [List.length_take]; omega)] at hi; exact absurd hi (by simp))
      rw [← split_first h2.1] at e
      have e2 : Lib.splitK [c] 0 (k + 1) l = l.take j :: Lib.splitK [c] 0 k (l.drop (j + 1)) := by
        rw [Lib.splitK, if_neg (fun e => hm (beq_iff_eq.1 e)), hj]; rfl
      rw [e, e2]
      rcases splitK_spl c k (l.drop (j + 1)) with ⟨h3, h4⟩ | ⟨h3, r, D, h4, h5⟩
      · left; rw [h4]; simp only [List.length_cons]; exact ⟨by omega, by trivial⟩
      · right; rw [h4]; simp only [List.length_cons]; exact ⟨by omega, r, l.take j :: D, rfl, h5⟩
/-- All parts of a text between its blanks. -/
def wds (s : ByteArray) : List ByteArray := (spl 32 s.data.toList).map fun l => ⟨l.toArray⟩
/-- The parts that SplitN hands back for n. -/
def wdM (n : Nat) (s : ByteArray) : List ByteArray := Lib.splitB ⟨#[32]⟩ 0 (min n (s.size + 1) - 1) s
theorem ba_list (x : ByteArray) : (⟨x.data.toList.toArray⟩ : ByteArray) = x := by simp
theorem wdM_wds (n : Nat) (hn : 1 ≤ n) (s : ByteArray) : wdM n s = wds s ∨ (n < (wds s).length ∧ ∃ x ∈ wdM n s, (32 : UInt8) ∈ x.data.toList) := by
  have hd := Lib.splitB_data ⟨#[32]⟩ 0 (min n (s.size + 1) - 1) s
  have e0 : (⟨#[32]⟩ : ByteArray).data.toList = [32] := rfl
  rw [e0] at hd
  have hl := (spl_len 32 s.data.toList).2
  have hsl : s.data.toList.length = s.size := Array.length_toList
  rcases splitK_spl 32 (min n (s.size + 1) - 1) s.data.toList with ⟨h3, h4⟩ | ⟨h3, r, D, h4, h5⟩
  · left
    rw [h4] at hd
    unfold wds
    rw [← hd, List.map_map]
    show wdM n s = (Lib.splitB ⟨#[32]⟩ 0 (min n (s.size + 1) - 1) s).map _
    unfold wdM
    exact ((List.map_congr_left (g := id) (fun x _ => ba_list x)).trans (List.map_id _)).symm
  · right
    refine ⟨by unfold wds; rw [List.length_map]; omega, ?_⟩
    rw [h4] at hd
    have hm : r ∈ (Lib.splitB ⟨#[32]⟩ 0 (min n (s.size + 1) - 1) s).map (·.data.toList) := by rw [hd]; simp
    obtain ⟨x, hx, rfl⟩ := List.mem_map.1 hm
    exact ⟨x, hx, h5⟩
theorem wds_ne (s : ByteArray) : 1 ≤ (wds s).length := by unfold wds; rw [List.length_map]; exact (spl_len _ _).1
theorem wds_size (s : ByteArray) : ∀ x ∈ wds s, x.size ≤ s.size := by
  intro x hx
  obtain ⟨l, hl, rfl⟩ := List.mem_map.1 hx
  have h1 := le_sum _ l hl
  have h2 := spl_sum 32 s.data.toList
  have h3 := (spl_len 32 s.data.toList).1
  have hsl : s.data.toList.length = s.size := Array.length_toList
  show l.toArray.size ≤ s.size
  rw [List.size_toArray]; omega
theorem wds_len (s : ByteArray) (h : ∀ x ∈ wds s, x ≠ ⟨#[]⟩) : (wds s).length ≤ s.size := by
  have h1 := sum_ge (spl 32 s.data.toList) (fun l hl e => h ⟨l.toArray⟩ (List.mem_map.2 ⟨l, hl, rfl⟩) (by rw [e]))
  have h2 := spl_sum 32 s.data.toList
  have h3 := (spl_len 32 s.data.toList).1
  have hsl : s.data.toList.length = s.size := Array.length_toList
  unfold wds; rw [List.length_map]; omega
theorem wds_le (s : ByteArray) : (wds s).length ≤ s.size + 1 := by
  have := (spl_len 32 s.data.toList).2
  have hsl : s.data.toList.length = s.size := Array.length_toList
  unfold wds; rw [List.length_map]; omega
theorem splitB_part (sep : ByteArray) : ∀ (k : Nat) (s : ByteArray), ∀ x ∈ Lib.splitB sep 0 k s, x.size ≤ s.size
  | 0, s => by intro x hx; rw [Lib.splitB_zero, List.mem_singleton] at hx; rw [hx]; exact Nat.le_refl _
  | k + 1, s => by
    intro x hx
    unfold Lib.splitB at hx
    split at hx
    · rw [List.mem_singleton] at hx; rw [hx]; exact Nat.le_refl _
    · rcases List.mem_cons.1 hx with rfl | h
      · rw [ByteArray.size_extract]; omega
      · have := splitB_part sep k _ x h; rw [ByteArray.size_extract] at this; omega
/-- The row of parts. -/
theorem wd_at {w : World} {B g cap n : Nat} {T : TypeId} {X : List ByteArray} (h : w.ownsRow B T 1 (.slice (some ⟨g, 0, none⟩) n cap) X.length (X.map Value.string)) {k : Nat} (hk : k < X.length) :
    w.cell? ⟨g, k, none⟩ = some (.string (X.getD k ⟨#[]⟩)) := by
  rcases h.2 with ⟨he, _⟩ | ⟨g', cap', cur, hv, _, hg, hnc, _, hs, htake⟩
  · exact absurd he (by simp)
  · simp only [Value.slice.injEq, Option.some.injEq, Addr.mk.injEq] at hv
    obtain ⟨⟨rfl, _, _⟩, _, _⟩ := hv
    have h1 : (cur.toList.take (X.length * 1))[k]? = (X.map Value.string)[k]? := by rw [htake]
    rw [Nat.mul_one, List.getElem?_take_of_lt hk, List.getElem?_map, List.getElem?_eq_getElem hk] at h1
    simp only [Option.map_some] at h1
    have h2 : cur[k]? = some (.string X[k]) := by simpa using h1
    simp [World.cell?, hg, h2, List.getD_eq_getElem?_getD, List.getElem?_eq_getElem hk]
theorem row_ne {w : World} {B C S S' : Nat} {T U : TypeId} {v v' : Value} {n n' : Nat} {xs xs' : List Value} (h : w.ownsRow B T S v n xs) (h' : w.ownsRow C U S' v' n' xs') (hne : T ≠ U) : v.ownBlock = none ∨ v.ownBlock ≠ v'.ownBlock := by
  rcases h.2 with ⟨rfl, _⟩ | ⟨g, cap, cur, rfl, _, hg, _⟩
  · exact .inl rfl
  · right
    rcases h'.2 with ⟨rfl, _⟩ | ⟨g', cap', cur', rfl, _, hg', _⟩
    · simp [Value.ownBlock]
    · simp only [Value.ownBlock, ne_eq, Option.some.injEq]
      rintro rfl
      rw [hg] at hg'
      simp only [Option.some.injEq, Obj.cells.injEq] at hg'
      exact hne hg'.2.1
theorem row_slice {w : World} {B : Nat} {T : TypeId} {v : Value} {n : Nat} {xs : List Value} (h : w.ownsRow B T 1 v n xs) (hn : 1 ≤ n) : ∃ g cap, v = .slice (some ⟨g, 0, none⟩) n cap := by
  rcases h.2 with ⟨_, h0⟩ | ⟨g, cap, cur, rfl, _⟩
  · omega
  · exact ⟨g, cap, rfl⟩
theorem row_cells {w : World} {B N : Nat} {T : TypeId} {X : List ByteArray} (hB : B ≤ w.heap.size) (hN : X.length ≤ N) (hm : N ≤ maxLen) :
    (w.alloc (.cells (Lib.cellsOf X N) T)).ownsRow B T 1 (.slice (some ⟨w.heap.size, 0, none⟩) X.length N) X.length (X.map Value.string) := by
  refine ⟨by simp, .inr ⟨w.heap.size, N, Lib.cellsOf X N, rfl, hB, heap_alloc_new w _, hN, hm, by rw [Lib.cellsOf_size hN, Nat.mul_one], ?_⟩⟩
  rw [Nat.mul_one]
  unfold Lib.cellsOf
  simp
theorem getD_mem {X : List ByteArray} {k : Nat} (hk : k < X.length) : X.getD k ⟨#[]⟩ ∈ X := by
  rw [List.getD_eq_getElem?_getD, List.getElem?_eq_getElem hk]; exact List.getElem_mem hk
end Go.Proofs.YteicfelaelhaiaaDoor
