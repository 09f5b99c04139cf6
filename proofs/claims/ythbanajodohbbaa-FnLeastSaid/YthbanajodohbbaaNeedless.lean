/-
  Weights with one left out, and the walk of without.
-/
import Derived.Test.YthbanajodohbbaaRun
import Derived.ArgAppend
import Derived.StillTailTactics
import Derived.IntWalk
namespace Go.Proofs.Ythbanajodohbbaa
open Go.RowKit Go.Maps
set_option linter.unusedVariables false

def rmv (ws : List Int) (i : Nat) : List Int := ws.take i ++ ws.drop (i + 1)
theorem rmv_len {ws : List Int} {i : Nat} (h : i < ws.length) : (rmv ws i).length = ws.length - 1 := by
  unfold rmv; rw [List.length_append, List.length_take, List.length_drop]; omega
theorem rmv_mem {ws : List Int} {i : Nat} {x : Int} (h : x ∈ rmv ws i) : x ∈ ws := by
  unfold rmv at h
  rcases List.mem_append.1 h with h | h
  · exact List.mem_of_mem_take h
  · exact List.mem_of_mem_drop h
theorem rmv_getD (ws : List Int) (i j : Nat) (hi : i < ws.length) : (rmv ws i).getD j 0 = if j < i then ws.getD j 0 else ws.getD (j + 1) 0 := by
  unfold rmv
  rw [List.getD_eq_getElem?_getD, List.getD_eq_getElem?_getD, List.getD_eq_getElem?_getD]
  by_cases h : j < i
  · rw [if_pos h, List.getElem?_append_left (by rw [List.length_take]; omega), List.getElem?_take, if_pos h]
  · rw [if_neg h, List.getElem?_append_right (by rw [List.length_take]; omega), List.getElem?_drop, List.length_take]
    congr 2
    omega
/-- All masses up to most can be weighed. -/
def Cov (ws : List Int) (both : Bool) (most : Int) : Prop := ∀ j : Int, 1 ≤ j → j ≤ most → 0 < wayFn (plOf both) ws ws.length j
theorem isRun_ex {W : Int → Int} (hz : ∀ s, 2000 < s → W s = 0) : ∃ r, IsRun W r := by
  have key : ∀ n : Nat, (∀ j : Int, 1 ≤ j → j ≤ n → 0 < W j) ∨ ∃ r, IsRun W r := by
    intro n
    induction n with
    | zero => exact .inl (fun j a b => absurd b (by omega))
    | succ n ih =>
      rcases ih with h | h
      · by_cases hn : 0 < W ((n : Int) + 1)
        · refine .inl (fun j a b => ?_)
          by_cases e : j = (n : Int) + 1
          · rw [e]; exact hn
          · exact h j a (by omega)
        · exact .inr ⟨n, by omega, h, hn⟩
      · exact .inr h
  rcases key 2001 with h | h
  · have := h 2001 (by omega) (by omega)
    rw [hz 2001 (by omega)] at this
    omega
  · exact h
theorem run_ge {W : Int → Int} (hz : ∀ s, 2000 < s → W s = 0) (most : Int) (h0 : 1 ≤ most) : most ≤ runV W ↔ ∀ j, 1 ≤ j → j ≤ most → 0 < W j := by
  obtain ⟨r, hr⟩ := isRun_ex hz
  rw [runV_eq hr]
  constructor
  · exact fun h j a b => hr.2.1 j a (by omega)
  · intro h
    by_cases hc : most ≤ r
    · exact hc
    · exact absurd (h (r + 1) (by have := hr.1; omega) (by omega)) hr.2.2
theorem run_cov (ws : List Int) (both : Bool) (most : Int) (hz : ∀ s, 2000 < s → wayFn (plOf both) ws ws.length s = 0) (h0 : 1 ≤ most) : most ≤ runV (wayFn (plOf both) ws ws.length) ↔ Cov ws both most := run_ge hz most h0
theorem miss_cov (ws : List Int) (both : Bool) (most : Int) (h0 : 1 ≤ most) : missTo (plOf both) ws most.toNat = [] ↔ Cov ws both most := by
  have hp := fun s => (wayFn_bd both ws ws.length s).1
  rcases missTo_first (plOf both) ws most.toNat with ⟨h1, h2⟩ | ⟨e, h1, h2, h3, h4, h5, h6⟩
  · refine ⟨fun _ j a b => ?_, fun _ => h1⟩
    have := h2 j a (by omega)
    have := hp j
    omega
  · refine ⟨fun h => absurd h h2, fun h => ?_⟩
    have := h e h3 (by omega)
    omega
/-- The first index below n with H, and code 0; or 0 and the code 6. -/
def IsFirst (n : Nat) (H : Nat → Prop) (r : Int × Int) : Prop := (∃ i : Nat, i < n ∧ H i ∧ (∀ k, k < i → ¬ H k) ∧ r = ((i : Int), 0)) ∨ ((∀ k, k < n → ¬ H k) ∧ r = (0, 6))
noncomputable def fstV (n : Nat) (H : Nat → Prop) : Int × Int := @Classical.epsilon (Int × Int) ⟨(0, 0)⟩ (IsFirst n H)
theorem isFirst_eq {n : Nat} {H : Nat → Prop} {r q : Int × Int} (h : IsFirst n H r) (h2 : IsFirst n H q) : r = q := by
  rcases h with ⟨i, a1, a2, a3, rfl⟩ | ⟨a1, rfl⟩ <;> rcases h2 with ⟨k, b1, b2, b3, rfl⟩ | ⟨b1, rfl⟩
  · rcases Nat.lt_trichotomy i k with e | e | e
    · exact absurd a2 (b3 i e)
    · rw [e]
    · exact absurd b2 (a3 k e)
  · exact absurd a2 (b1 i a1)
  · exact absurd b2 (a1 k b1)
  · rfl
theorem fstV_eq {n : Nat} {H : Nat → Prop} {r : Int × Int} (h : IsFirst n H r) : fstV n H = r := isFirst_eq (@Classical.epsilon_spec _ (IsFirst n H) ⟨r, h⟩) h
noncomputable def nlV (ws : List Int) (most : Int) (both : Bool) : Int × Int :=
  if okW ws = true then (if cb (1 ≤ most ∧ most ≤ 2000) = true then (if cb (Cov ws both most) = true then fstV ws.length (fun i => Cov (rmv ws i) both most) else (0, 4)) else (0, 2)) else (0, 1)
theorem Try.info_n16 : (Try.prog.info? 41).map (fun i => (i.zero, i.size, i.bytes)) = some (some (.int .i16 0), 1, 2) := by kernel_rfl
theorem cells_take {w : World} {b off : Nat} {ws : List Int} (h : At .i16 w b off ws) (i : Nat) : ∀ j u, ((ws.take i).map (Value.int .i16))[j]? = some u → w.cell? ⟨b, off + j, none⟩ = some u := by
  intro j u hu
  rw [List.getElem?_map, List.getElem?_take] at hu
  by_cases hj : j < i
  · rw [if_pos hj] at hu
    by_cases hl : j < ws.length
    · rw [List.getElem?_eq_getElem hl] at hu
      rw [h j hl, List.getD_eq_getElem?_getD, List.getElem?_eq_getElem hl]
      simpa using hu
    · rw [List.getElem?_eq_none (by omega)] at hu; cases hu
  · rw [if_neg hj] at hu; cases hu
theorem cells_drop {w : World} {b off : Nat} {ws : List Int} (h : At .i16 w b off ws) (i : Nat) : ∀ j u, ((ws.drop i).map (Value.int .i16))[j]? = some u → w.cell? ((⟨b, off + i, none⟩ : Addr).add j) = some u := by
  intro j u hu
  rw [List.getElem?_map, List.getElem?_drop] at hu
  by_cases hl : i + j < ws.length
  · rw [List.getElem?_eq_getElem hl] at hu
    have e : (⟨b, off + i, none⟩ : Addr).add j = ⟨b, off + (i + j), none⟩ := by simp [Addr.add, Nat.add_assoc]
    rw [e, h (i + j) hl, List.getD_eq_getElem?_getD, List.getElem?_eq_getElem hl]
    simpa using hu
  · rw [List.getElem?_eq_none (by omega)] at hu; cases hu
theorem rmv_map {ws : List Int} {i : Nat} : (rmv ws i).map (Value.int .i16) = (ws.take i).map (Value.int .i16) ++ (ws.drop (i + 1)).map (Value.int .i16) := by
  unfold rmv; rw [List.map_append]
theorem oneCells (xs : List Int) : ∀ u ∈ xs.map (Value.int .i16), u.oneCell' = true := by
  intro u hu
  obtain ⟨x, _, rfl⟩ := List.mem_map.1 hu
  rfl
theorem At.take {w : World} {b off : Nat} {ws : List Int} (h : At .i16 w b off ws) (i : Nat) (hi : i + 1 = ws.length) : At .i16 w b off (rmv ws i) := by
  intro j hj
  rw [rmv_len (by omega)] at hj
  rw [h j (by omega), rmv_getD _ _ _ (by omega), if_pos (by omega)]
theorem OwnV.parts {B : Nat} {w : World} {v : Value} {xs : List Int} (h : OwnV .i16 B w v xs) (hx : 0 < xs.length) : ∃ g c, v = .slice (some ⟨g, 0, none⟩) xs.length c ∧ g < w.heap.size ∧ At .i16 w g 0 xs := by
  rcases h with ⟨rfl, _⟩ | ⟨g, c, rfl, _, hg, hA, _⟩
  · exact absurd hx (by simp)
  · exact ⟨g, c, rfl, hg, hA⟩
set_option maxRecDepth 100000 in
theorem without_any (b off c : Nat) (ws : List Int) (i : Nat) (w : World) (hb : b < w.heap.size) (hc : At .i16 w b off ws) (hl : ws.length ≤ 16) (hlc : ws.length ≤ c) (hi : i < ws.length) :
    Calls Try.prog 21 #[.slice (some ⟨b, off, none⟩) ws.length c, .int .i64 i] w fun e w' => ∃ g o2 c2, e = .returned (.slice (some ⟨g, o2, none⟩) (rmv ws i).length c2) ∧ g < w'.heap.size ∧ At .i16 w' g o2 (rmv ws i) ∧ Below w.heap.size w w' := by
  obtain ⟨i0, hinf, hz0, hz1, hz2⟩ := info_parts Try.info_n16
  have h1 : (i : Int) + 1 ≤ (ws.length : Int) := by omega
  have h2 : (i : Int) ≤ (c : Int) := by omega
  have HC := Lib.hid hc
  have hw : IntKind.i64.wrap ((i : Int) + 1) = (i : Int) + 1 := IntWalk.i64_in _ (by omega)
  have hw0 : 0 ≤ (i : Int) + 1 := by omega
  have hwt : ((i : Int) + 1).toNat = i + 1 := by omega
  clear hc
  by_cases hce : c = i + 1
  · have hend : i + 1 = ws.length := by omega
    have HE := Lib.hid hend
    subst hce
    have hle3 : (i : Int) ≤ (i : Int) + 1 := by omega
    clear hend
    go_enter Try.func21, Try.ntmps21
    go_wp2
    refine wp_region_still_tail 8 (by kernel_rfl) (by kernel_rfl) ?_
    simp only [List.take_succ_cons, List.take_zero, List.drop_succ_cons, List.drop_zero]
    iterate 8 still_step
    refine wpStill_nil ?_
    clear hw hw0 hwt
    have HB := Lib.hid (show Below w.heap.size w w.drew from (Below.refl _ _).drew)
    have hc2 : At .i16 w.drew b off ws := HC.out
    have hbl : b < w.drew.heap.size := hb
    change wpList _ _ _ _ _ w.drew
    generalize w.drew = w2 at *
    have hm0 : ws.length - (i + 1) = 0 := by have := HE.out; omega
    refine wpList_append_arg w2 rfl _ _ _ rfl 41 i0 (.int .i16 0) 1 2 Try.underlying26 hinf hz0 hz1 hz2 rfl (by decide) b off i i ((ws.take i).map (Value.int .i16)) rfl (by simp; omega) (cells_take hc2 i) ⟨b, off, none⟩ 0 _ [] rfl rfl (by simp) (by simp) (by simp) (by unfold maxLen; omega) (by omega) (fun _ => ?_) (fun h => absurd h (by omega))
    have hlen : (rmv ws i).length = i := by rw [rmv_len hi]; have := HE.out; omega
    have HR := Lib.hid (And.intro hbl (hc2.take i HE.out))
    have hset : w2.setCells b (off + i * i0.size) [] = w2 := rfl
    clear hc2 hbl hinf hz0 hz1 hz2 hm0
    rw [World.setCells]
    go_wp2
    go_ret
    refine ⟨b, off, i, by rw [hlen]; rfl, HR.out.1, HR.out.2, HB.out⟩
  · have hlt : i + 1 < ws.length ∨ i + 1 = ws.length := by omega
    go_enter Try.func21, Try.ntmps21
    go_wp2
    refine wp_region_still_tail 8 (by kernel_rfl) (by kernel_rfl) ?_
    simp only [List.take_succ_cons, List.take_zero, List.drop_succ_cons, List.drop_zero]
    iterate 8 still_step
    refine wpStill_nil ?_
    clear hw hw0 hwt
    have HB := Lib.hid (show Below w.heap.size w w.drew from (Below.refl _ _).drew)
    have hc2 : At .i16 w.drew b off ws := HC.out
    have hbl : b < w.drew.heap.size := hb
    change wpList _ _ _ _ _ w.drew
    generalize w.drew = w2 at *
    rcases hlt with hlt | hend
    · have hlen : (rmv ws i).length = i + (ws.length - (i + 1)) := by rw [rmv_len hi]; omega
      refine wpList_append_arg w2 rfl _ _ _ rfl 41 i0 (.int .i16 0) 1 2 Try.underlying26 hinf hz0 hz1 hz2 rfl (by decide) b off i i ((ws.take i).map (Value.int .i16)) rfl (by simp; omega) (cells_take hc2 i) ⟨b, off + (i + 1), none⟩ (ws.length - (i + 1)) _ ((ws.drop (i + 1)).map (Value.int .i16)) rfl (by simp) (cells_drop hc2 (i + 1)) (oneCells _) (fun h => absurd h (by omega)) (by unfold maxLen; omega) (by omega) (fun h => absurd h (by omega)) (fun _ v' w' hown hgr => ?_)
      rw [← rmv_map] at hown
      have HP := Lib.hid ((OwnV.ofOwns hlen.symm hown).parts (by omega))
      have HB2 := Lib.hid (HB.out.grown hgr HB.out.size (fun k h => by cases h))
      clear hc2 hbl hinf hz0 hz1 hz2 hown hgr HC
      obtain ⟨g, c2, hv, hg, hA⟩ := HP.out
      have HV := Lib.hid (And.intro hg hA)
      subst hv
      clear hg hA HP
      go_wp2
      go_ret
      exact ⟨g, 0, c2, by rw [hlen]; rfl, HV.out.1, HV.out.2, HB2.out⟩
    · have hlen : (rmv ws i).length = i + (ws.length - (i + 1)) := by rw [rmv_len hi]; omega
      refine wpList_append_arg w2 rfl _ _ _ rfl 41 i0 (.int .i16 0) 1 2 Try.underlying26 hinf hz0 hz1 hz2 rfl (by decide) b off i i ((ws.take i).map (Value.int .i16)) rfl (by simp; omega) (cells_take hc2 i) ⟨b, off + (i + 1), none⟩ (ws.length - (i + 1)) _ [] rfl (by simp; omega) (by simp) (by simp) (by simp) (by unfold maxLen; omega) (by omega) (fun _ => ?_) (fun h => absurd h (by omega))
      have HR := Lib.hid (And.intro hbl (hc2.take i hend))
      clear hc2 hbl hinf hz0 hz1 hz2 HC
      rw [World.setCells]
      go_wp2
      go_ret
      have hlen' : (rmv ws i).length = i := by omega
      refine ⟨b, off, i, by rw [hlen']; rfl, HR.out.1, HR.out.2, HB.out⟩
theorem rmv_bd {ws : List Int} {i : Nat} (hi : i < ws.length) (h : ∀ j, j < ws.length → 1 ≤ ws.getD j 0 ∧ ws.getD j 0 ≤ 2000) : ∀ j, j < (rmv ws i).length → 1 ≤ (rmv ws i).getD j 0 ∧ (rmv ws i).getD j 0 ≤ 2000 := by
  intro j hj
  rw [rmv_len hi] at hj
  rw [rmv_getD _ _ _ hi]
  split
  · exact h j (by omega)
  · exact h (j + 1) (by omega)
end Go.Proofs.Ythbanajodohbbaa
