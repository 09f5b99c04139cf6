/-
  The amounts that can be had: what both sides mark and list.
-/
import Derived.Test.YtjmgalmndpjcoaaJS6
import Derived.Test.YtjmgalmndpjcoaaOwn
import Derived.Laws.Rows
namespace Go.Proofs.Ytjmgalmndpjcoaa
open Go.RowKit
set_option maxRecDepth 100000
set_option linter.unusedVariables false

def bcells (bs : List Bool) : Array Value := (bs.map Value.bool).toArray
theorem bcells_size (bs : List Bool) : (bcells bs).size = bs.length := by simp [bcells]
theorem bcells_get (bs : List Bool) (i : Nat) (h : i < bs.length) : (bcells bs)[i]? = some (.bool (bs.getD i false)) := by
  simp [bcells, List.getD_eq_getElem?_getD, List.getElem?_eq_getElem h]
theorem bcells_set (bs : List Bool) (i : Nat) (v : Bool) : (bcells bs).setIfInBounds i (.bool v) = bcells (bs.set i v) := by
  simp [bcells, List.map_set]
/-- After the first k jugs of a water. -/
noncomputable def mkJ (J : List Int) (a : Int) (bs : List Bool) : Nat → List Bool
  | 0 => bs
  | k + 1 => (mkJ J a bs k).set (atV J a k).toNat true
theorem mkJ_len (J : List Int) (a : Int) (bs : List Bool) : ∀ k, (mkJ J a bs k).length = bs.length
  | 0 => rfl
  | k + 1 => by show ((mkJ J a bs k).set _ _).length = _; rw [List.length_set, mkJ_len J a bs k]
/-- After the first i waters of the queue. -/
noncomputable def mkQ (J : List Int) (q : List Int) : Nat → List Bool
  | 0 => List.replicate 61 false
  | i + 1 => mkJ J (q.getD i 0) (mkQ J q i) J.length
theorem mkQ_len (J : List Int) (q : List Int) : ∀ i, (mkQ J q i).length = 61
  | 0 => by simp [mkQ]
  | i + 1 => by show (mkJ J _ (mkQ J q i) J.length).length = 61; rw [mkJ_len, mkQ_len J q i]
/-- The marked ones of the first k. -/
def amts (bs : List Bool) : Nat → List Int
  | 0 => []
  | k + 1 => if bs.getD k false = true then amts bs k ++ [(k : Int)] else amts bs k
theorem amts_len (bs : List Bool) : ∀ k, (amts bs k).length ≤ k
  | 0 => Nat.le_refl _
  | k + 1 => by
    have h := amts_len bs k
    unfold amts
    split
    · rw [List.length_append]; simp; omega
    · omega
noncomputable def aiL (J : List Int) (x : Nat → Int) (t : Bool) : List Int := if okZ J x = true then amts (mkQ J (gsJ J x t).q (gsJ J x t).q.length) 61 else []
theorem index_had (bs : List Bool) (hl : bs.length = 61) (k : Nat) (hk : k < 61) (w : World) : (Instr.index 89 (.agg (bcells bs)) (.int .i64 k)).run Try.prog w = .ok (.bool (bs.getD k false)) w := by
  have hu := run_underlying (P := Try.prog) Try.underlying89
  have hi : ∀ w, (sizeOf 4).run Try.prog w = .ok 1 w := fun w => by kernel_rfl
  have hg : ∀ w, (isAgg 4).run Try.prog w = .ok false w := fun w => by kernel_rfl
  have hk2 : ¬ 61 ≤ k := by omega
  have hc := bcells_get bs k (by omega)
  have hs : k < (bcells bs).size := by rw [bcells_size]; omega
  rw [Array.getElem?_eq_getElem hs] at hc
  have hc2 := Option.some.inj hc
  simp [Instr.index, hu, hi, hg, asIntOf, part, go_sem, hs, hc2]
  exact fun h => absurd h hk2
theorem info_had : (Try.prog.info? 89).map (·.size) = some 61 := by kernel_rfl
theorem OwnV.ofOwns64 {B B' n : Nat} {w : World} {v : Value} {xs : List Int} (h : w.ownsRow B 2 1 v n (xs.map (Value.int .i64))) (hn : n = xs.length) (hB : B' ≤ B) : OwnV .i64 B' w v xs := by
  subst hn
  by_cases h0 : xs = []
  · subst h0
    rcases h.2 with ⟨hv, _⟩ | ⟨g9, cap9, cur9, hv, _⟩
    · exact .inl ⟨rfl, none, 0, hv⟩
    · exact .inl ⟨rfl, some ⟨g9, 0, none⟩, cap9, hv⟩
  · rcases h.2 with ⟨_, hx⟩ | ⟨g, cap, cur, hv, hBg, hg, _⟩
    · exact absurd (List.eq_nil_of_length_eq_zero hx) h0
    · refine .inr ⟨g, cap, hv, by omega, blk_lt hg, fun j hj => ?_, fun j => by simp [World.frozen?, hg]⟩
      have e : ∀ j, (⟨g, 0, none⟩ : Addr).add j = ⟨g, j, none⟩ := fun j => by unfold Addr.add; split <;> simp_all
      have h1 := h.cells (g := g) (by rw [hv]; rfl) j (.int .i64 (xs.getD j 0)) (by rw [List.getElem?_map, List.getElem?_eq_getElem hj, List.getD_eq_getElem?_getD, List.getElem?_eq_getElem hj]; rfl)
      rw [e] at h1
      simpa using h1
theorem num_one (xs : List Int) : ∀ u ∈ xs.map (Value.int .i64), u.oneCell' = true := fun u hu => by
  obtain ⟨x, _, rfl⟩ := List.mem_map.1 hu
  rfl
end Go.Proofs.Ytjmgalmndpjcoaa
