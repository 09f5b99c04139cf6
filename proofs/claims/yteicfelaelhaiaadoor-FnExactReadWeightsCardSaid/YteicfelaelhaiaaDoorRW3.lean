/-
  ReadWeights: when the program takes a text.
-/
import Derived.Test.YteicfelaelhaiaaDoorRW2
import Derived.Lib.ParseIntBTie
namespace Go.Proofs.YteicfelaelhaiaaDoor
open Go.RowKit
set_option maxRecDepth 100000
set_option linter.unusedVariables false

def POk (x : ByteArray) : Prop := ∃ v, Lib.parseIntB 16 x.data.toList = .ok v
def yvB (x : ByteArray) : Int := match Lib.parseIntB 16 x.data.toList with | .ok v => v | _ => 0
theorem yv_ok {x : ByteArray} {v : Int} (h : Lib.parseIntB 16 x.data.toList = .ok v) : yvB x = v := by unfold yvB; rw [h]
def yW (X : List ByteArray) : List Int := X.map yvB
theorem yW_len (X : List ByteArray) : (yW X).length = X.length := by unfold yW; rw [List.length_map]
theorem yW_get {X : List ByteArray} {j : Nat} (hj : j < X.length) : (yW X).getD j 0 = yvB (X.getD j ⟨#[]⟩) := by
  unfold yW; rw [List.getD_eq_getElem?_getD, List.getD_eq_getElem?_getD, List.getElem?_map, List.getElem?_eq_getElem hj]; rfl
theorem yvB_bd (x : ByteArray) : -32768 ≤ yvB x ∧ yvB x ≤ 32767 := by
  unfold yvB
  cases h : Lib.parseIntB 16 x.data.toList with
  | ok v => have := Lib.parseIntB_bounds h; simp only; simp at this; omega
  | «syntax» => simp
  | range => simp
theorem yW_i16 (X : List ByteArray) : I16 (yW X) := by
  intro j
  rcases Nat.lt_or_ge j X.length with hj | hj
  · rw [yW_get hj]; exact yvB_bd _
  · rw [List.getD_eq_getElem?_getD, List.getElem?_eq_none (by rw [yW_len]; exact hj)]; simp
theorem ok2000 {xs : List Int} (h : OkW xs) : ∀ j, 0 ≤ xs.getD j 0 ∧ xs.getD j 0 ≤ 2000 := by
  intro j
  have hsum : ∀ k, k ≤ xs.length → 0 ≤ sumI (xs.take k) ∧ ∀ i, i < k → xs.getD i 0 ≤ sumI (xs.take k) := by
    intro k
    induction k with
    | zero => intro _; exact ⟨by simp [sumI], fun i hi => absurd hi (Nat.not_lt_zero _)⟩
    | succ k ih =>
      intro hk
      have h1 := ih (by omega)
      have h2 := (h.2.2.1 k (by omega)).1
      rw [take_getD xs k (by omega), sumI_snoc]
      refine ⟨by omega, fun i hi => ?_⟩
      rcases Nat.lt_or_ge i k with h3 | h3
      · have := h1.2 i h3; omega
      · have : i = k := by omega
        subst this; omega
  rcases Nat.lt_or_ge j xs.length with hj | hj
  · have h1 := (hsum xs.length (Nat.le_refl _)).2 j hj
    rw [List.take_length] at h1
    have h2 := (h.2.2.1 j hj).1
    have h3 := h.2.2.2
    omega
  · rw [List.getD_eq_getElem?_getD, List.getElem?_eq_none hj]; simp
theorem jL_get (f : Nat → ByteArray) {k j : Nat} (h : j < k) : (jL f k)[j]? = some (f j) := by unfold jL; simp [h]
theorem jT_list (f : Nat → ByteArray) (k : Nat) : (jT f k).data.toList = jn 32 ((jL f k).map (·.data.toList)) := by rw [← jL_join, jn_lib]
theorem ba_eq {a b : ByteArray} (h : a.data.toList = b.data.toList) : a = b := ByteArray.ext (Array.toList_inj.1 h)
theorem nm_dcV (n : Nat) : nmB (dcV n) = n := by
  show nmL 0 (Lib.decDigits n).toArray.toList = n
  rw [List.toList_toArray, nm_dec]
theorem okN_dcV (n : Nat) (h : n ≤ 2000) : okN (dcV n).data.toList = true := by
  have h1 : (dcV n).size ≤ 4 := dcV_len 4 n (by show n < 10000; omega) (by decide)
  have h2 : (dcV n).data.toList.length = (dcV n).size := Array.length_toList
  have h3 : (dcV n).data.toList = Lib.decDigits n := by show (Lib.decDigits n).toArray.toList = _; rw [List.toList_toArray]
  exact cb_t ⟨by rw [h3]; exact cn_dec n, by omega⟩
theorem dcV_no (n : Nat) : ∀ b ∈ (dcV n).data.toList, b ≠ 32 := by
  have h3 : (dcV n).data.toList = Lib.decDigits n := by show (Lib.decDigits n).toArray.toList = _; rw [List.toList_toArray]
  rw [h3]
  rintro b hb rfl
  exact absurd (dec_isD n 32 hb) (by decide)
theorem dcV_of {x : ByteArray} (h : okN x.data.toList = true) : dcV (nmB x) = x := by
  apply ba_eq
  show (Lib.decDigits (nmL 0 x.data.toList)).toArray.toList = _
  rw [List.toList_toArray]
  exact dec_nm _ _ rfl (okN_t h).1
/-- A text that joins decimal texts has them as its parts. -/
theorem wds_jT (f : Nat → ByteArray) (k : Nat) (hk : 1 ≤ k) (hf : ∀ j, ∀ b ∈ (f j).data.toList, b ≠ 32) : wds (jT f k) = jL f k := by
  unfold wds
  rw [jT_list, spl_jn 32 _ (by
    intro e
    have := congrArg List.length e
    rw [List.length_map, jL_len, List.length_nil] at this; omega) (by
    intro x hx
    obtain ⟨y, hy, rfl⟩ := List.mem_map.1 hx
    unfold jL at hy
    obtain ⟨j, _, rfl⟩ := List.mem_map.1 hy
    exact hf j), List.map_map]
  exact (List.map_congr_left (g := id) (fun x _ => ba_list x)).trans (List.map_id _)
theorem wd_empty : wdM 17 ⟨#[]⟩ = [⟨#[]⟩] := by
  have h := Lib.splitB_data ⟨#[32]⟩ 0 0 ⟨#[]⟩
  unfold wdM
  rw [show min 17 ((⟨#[]⟩ : ByteArray).size + 1) - 1 = 0 from rfl, Lib.splitB_zero]
theorem take_ok {s : ByteArray} (hp : ∀ x ∈ wdM 17 s, POk x) (ht : wtV (yW (wdM 17 s)) = s) : GdW (wds s) ∧ nmW (wds s) = yW (wdM 17 s) := by
  cases hok : okW (yW (wdM 17 s)) with
  | false =>
    exfalso
    rw [wt_f hok] at ht
    subst ht
    obtain ⟨v, hv⟩ := hp ⟨#[]⟩ (by rw [wd_empty]; simp)
    have : Lib.parseIntB 16 (⟨#[]⟩ : ByteArray).data.toList = .«syntax» := rfl
    rw [this] at hv
    cases hv
  | true =>
    have hO := okW_of hok
    rw [wt_t hok] at ht
    generalize yW (wdM 17 s) = ys at *
    have hb := ok2000 hO
    have hw : wds s = jL (ntX ys) ys.length := by
      rw [← ht]; exact wds_jT _ _ hO.1 (fun j => dcV_no _)
    have hn : nmW (wds s) = ys := by
      rw [hw]
      unfold nmW
      apply List.ext_getElem?
      intro i
      rw [List.getElem?_map]
      rcases Nat.lt_or_ge i ys.length with h | h
      · rw [jL_get _ h, List.getElem?_eq_getElem h]
        simp only [Option.map_some]
        have h1 := hb i
        have e : ys.getD i 0 = ys[i] := by rw [List.getD_eq_getElem?_getD, List.getElem?_eq_getElem h]; rfl
        rw [show nmB (ntX ys i) = (ys.getD i 0).toNat from nm_dcV _, Int.toNat_of_nonneg h1.1, e]
      · rw [List.getElem?_eq_none h, List.getElem?_eq_none (by rw [jL_len]; exact h)]; rfl
    refine ⟨⟨fun x hx => ?_, by rw [hn]; exact hO⟩, hn⟩
    rw [hw] at hx
    unfold jL at hx
    obtain ⟨j, _, rfl⟩ := List.mem_map.1 hx
    have h1 := hb j
    exact ⟨okN_dcV _ (by omega), by rw [show nmB (ntX ys j) = (ys.getD j 0).toNat from nm_dcV _]; omega⟩
theorem take_of {s : ByteArray} (h : GdW (wds s)) : (∀ x ∈ wdM 17 s, POk x) ∧ wtV (yW (wdM 17 s)) = s := by
  have hl : (wds s).length ≤ 16 := by have := h.2.2.1; rw [nmW_len] at this; exact this
  have hX : wdM 17 s = wds s := by
    rcases wdM_wds 17 (by decide) s with e | ⟨e, _⟩
    · exact e
    · omega
  have hpv : ∀ x ∈ wds s, Lib.parseIntB 16 x.data.toList = .ok ((nmB x : Nat) : Int) := fun x hx =>
    parse_cn _ (okN_t (h.1 x hx).1).1 (by have := (h.1 x hx).2; unfold nmB at this; omega)
  have hy : yW (wds s) = nmW (wds s) := by
    unfold yW nmW
    exact List.map_congr_left (fun x hx => yv_ok (hpv x hx))
  rw [hX]
  refine ⟨fun x hx => ⟨_, hpv x hx⟩, ?_⟩
  rw [hy, wt_t (show okW (nmW (wds s)) = true from cb_t h.2)]
  apply ba_eq
  have hj : jL (ntX (nmW (wds s))) (nmW (wds s)).length = wds s := by
    apply List.ext_getElem?
    intro i
    rcases Nat.lt_or_ge i (wds s).length with hi | hi
    · rw [jL_get _ (by rw [nmW_len]; exact hi), List.getElem?_eq_getElem hi]
      have e : (nmW (wds s)).getD i 0 = ((nmB (wds s)[i] : Nat) : Int) := by
        unfold nmW; rw [List.getD_eq_getElem?_getD, List.getElem?_map, List.getElem?_eq_getElem hi]; rfl
      unfold ntX
      rw [e, Int.toNat_natCast, dcV_of (h.1 _ (List.getElem_mem hi)).1]
    · rw [List.getElem?_eq_none (by rw [jL_len, nmW_len]; exact hi), List.getElem?_eq_none hi]
  rw [jT_list, hj]
  unfold wds
  rw [List.map_map]
  rw [show (fun x : ByteArray => x.data.toList) ∘ (fun l : List UInt8 => (⟨l.toArray⟩ : ByteArray)) = id from by funext l; simp, List.map_id, jn_spl]
end Go.Proofs.YteicfelaelhaiaaDoor
