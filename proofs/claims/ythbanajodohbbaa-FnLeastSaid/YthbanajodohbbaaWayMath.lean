/-
  Maps of numbers as functions, and how the ways to a sum are counted weight by weight.
-/
import Derived.Test.YthbanajodohbbaaLaw
import Derived.Maps.RangeWalk
import Derived.Maps.OwnOps
import Derived.Maps.OwnSet
import Derived.Maps.Views
namespace Go.Proofs.Ythbanajodohbbaa
open Go.RowKit Go.Maps

abbrev D0 := DataW Unit
abbrev ky (s : Int) : Lit := .int .i64 s
abbrev dl (c : Int) : D0 := .lit (.int .i64 c)
/-- The map reads as the function f, 0 where there is no entry; its keys lie within B. -/
def MapIs (D : D0) (f : Int → Int) (B : Int) : Prop :=
  IsMap D ∧ (∀ s, D.atKey (ky s) (dl 0) = dl (f s)) ∧ ∀ kl, has D kl = true → ∃ s, kl = ky s ∧ -B ≤ s ∧ s ≤ B
theorem ky_ne {a b : Int} (h : a ≠ b) : ky a ≠ ky b := fun e => h (by injection e)
theorem ky_same (a : Int) : (ky a).sameKey (ky a) = true := WideAt.sameKey_self trivial
theorem ky_other {a b : Int} (h : a ≠ b) : (ky a).sameKey (ky b) = false := sameKey_ne (ky_ne h)
theorem dl_inj {a b : Int} (h : dl a = dl b) : a = b := by injection h with h; injection h
theorem MapIs.put {D : D0} {f : Int → Int} {B : Int} (h : MapIs D f B) {s v : Int} (hs : -B ≤ s ∧ s ≤ B) : MapIs (D.put (ky s) (dl v)) (fun x => if x = s then v else f x) B := by
  obtain ⟨hm, ha, hk⟩ := h
  refine ⟨hm.put _ _, fun x => ?_, fun kl hh => ?_⟩
  · show _ = dl (if x = s then v else f x)
    by_cases e : x = s
    · subst e; rw [if_pos rfl]; exact atKey_put_same (k := ky x) hm trivial _ _
    · rw [if_neg e, atKey_put_other (ky_ne e)]; exact ha x
  · by_cases e : kl = ky s
    · exact ⟨s, e, hs⟩
    · rw [has_put_other e] at hh; exact hk kl hh
theorem MapIs.congr {D : D0} {f g : Int → Int} {B B' : Int} (h : MapIs D f B) (e : ∀ s, f s = g s) (hB : B ≤ B') : MapIs D g B' :=
  ⟨h.1, fun s => by rw [h.2.1 s, e s], fun kl hh => by obtain ⟨s, h1, h2, h3⟩ := h.2.2 kl hh; exact ⟨s, h1, by omega, by omega⟩⟩
theorem mapIs_empty (B : Int) : MapIs (.map []) (fun _ => 0) B := ⟨isMap_empty, fun _ => rfl, fun kl h => by cases h⟩
theorem MapIs.zero {D : D0} {f : Int → Int} {B : Int} (h : MapIs D f B) {s : Int} (hn : has D (ky s) = false) : f s = 0 := by
  have h1 := h.2.1 s
  rw [atKey_of_not_has hn] at h1
  exact (dl_inj h1).symm

/-! ### the ways -/
def plOf (both : Bool) : List Int := if both then [-1, 0, 1] else [0, 1]
def wayFn (pl ws : List Int) : Nat → Int → Int
  | 0, s => if s = 0 then 1 else 0
  | k + 1, s => (pl.map (fun x => wayFn pl ws k (s - x * ws.getD k 0))).sum
/-- What an entry that is over has brought to the sum s. -/
def Hf (f : Int → Int) (wt : Int) (left : Lit → Bool) (s x : Int) : Int := if left (ky (s - x * wt)) = true then 0 else f (s - x * wt)
def Gf (pl : List Int) (f : Int → Int) (wt : Int) (left : Lit → Bool) (s : Int) : Int := (pl.map (Hf f wt left s)).sum
def GM (pl : List Int) (m : Nat) (f : Int → Int) (wt : Int) (left' left : Lit → Bool) (s : Int) : Int := ((pl.take m).map (Hf f wt left' s)).sum + ((pl.drop m).map (Hf f wt left s)).sum
theorem GM_zero (pl : List Int) (f : Int → Int) (wt : Int) (left' left : Lit → Bool) (s : Int) : GM pl 0 f wt left' left s = Gf pl f wt left s := by simp [GM, Gf]
theorem GM_end (pl : List Int) (f : Int → Int) (wt : Int) (left' left : Lit → Bool) (s : Int) : GM pl pl.length f wt left' left s = Gf pl f wt left' s := by simp [GM, Gf]
theorem Hf_came {f : Int → Int} {wt : Int} {left : Lit → Bool} {q : Int} (hq : left (ky q) = true) (s x : Int) :
    Hf f wt (fun z => left z && !z.sameKey (ky q)) s x = Hf f wt left s x + (if s - x * wt = q then f q else 0) := by
  unfold Hf
  by_cases e : s - x * wt = q
  · rw [e, if_pos rfl, hq, if_pos rfl]
    simp [ky_same]
  · simp [ky_other e, e]
theorem GM_step (pl : List Int) (m : Nat) (hm : m < pl.length) {f : Int → Int} {wt : Int} {left : Lit → Bool} {q : Int} (hq : left (ky q) = true) (s : Int) :
    GM pl (m + 1) f wt (fun z => left z && !z.sameKey (ky q)) left s = GM pl m f wt (fun z => left z && !z.sameKey (ky q)) left s + (if s = q + pl.getD m 0 * wt then f q else 0) := by
  unfold GM
  rw [take_getD pl m hm, List.map_append, List.sum_append, List.drop_eq_getElem_cons hm, List.map_cons, List.sum_cons]
  have e : pl.getD m 0 = pl[m] := by simp [List.getD_eq_getElem?_getD, List.getElem?_eq_getElem hm]
  rw [e]
  simp only [List.map_cons, List.map_nil, List.sum_cons, List.sum_nil]
  rw [Hf_came hq s pl[m]]
  have e2 : (s - pl[m] * wt = q) ↔ (s = q + pl[m] * wt) := by omega
  by_cases h : s = q + pl[m] * wt
  · rw [if_pos h, if_pos (e2.2 h)]; omega
  · rw [if_neg h, if_neg (fun k => h (e2.1 k))]; omega
theorem sum_zeros {α : Type} (l : List α) : (l.map (fun _ => (0 : Int))).sum = 0 := by
  induction l with
  | nil => rfl
  | cons a t ih => rw [List.map_cons, List.sum_cons, ih]; rfl
theorem Gf_start (pl : List Int) {D : D0} {f : Int → Int} {B : Int} (h : MapIs D f B) (wt s : Int) : Gf pl f wt (has D) s = 0 := by
  unfold Gf
  have : pl.map (Hf f wt (has D) s) = pl.map (fun _ => (0 : Int)) := by
    apply List.map_congr_left
    intro x _
    unfold Hf
    cases hh : has D (ky (s - x * wt))
    · simp [h.zero hh]
    · simp
  rw [this]
  exact sum_zeros pl
theorem Gf_done (pl : List Int) (f : Int → Int) (wt : Int) {left : Lit → Bool} (hl : ∀ kl, left kl = false) (s : Int) : Gf pl f wt left s = (pl.map (fun x => f (s - x * wt))).sum := by
  unfold Gf Hf
  simp [hl]
theorem sum_bd {α : Type} (l : List α) (h : α → Int) (M : Int) (hb : ∀ x ∈ l, 0 ≤ h x ∧ h x ≤ M) : 0 ≤ (l.map h).sum ∧ (l.map h).sum ≤ l.length * M := by
  induction l with
  | nil => simp
  | cons a t ih =>
    have h1 := ih (fun x hx => hb x (List.mem_cons_of_mem _ hx))
    have h2 := hb a (List.mem_cons_self ..)
    simp only [List.map_cons, List.sum_cons, List.length_cons]
    have e : ((t.length + 1 : Nat) : Int) * M = (t.length : Int) * M + M := by rw [Int.natCast_add, Int.add_mul]; simp
    rw [e]
    omega
theorem Hf_bd {f : Int → Int} {M : Int} (hf : ∀ s, 0 ≤ f s ∧ f s ≤ M) (wt : Int) (left : Lit → Bool) (s x : Int) : 0 ≤ Hf f wt left s x ∧ Hf f wt left s x ≤ M := by
  unfold Hf
  have := hf (s - x * wt)
  split <;> omega
theorem GM_bd (pl : List Int) (m : Nat) {f : Int → Int} {M : Int} (hf : ∀ s, 0 ≤ f s ∧ f s ≤ M) (wt : Int) (left' left : Lit → Bool) (s : Int) :
    0 ≤ GM pl m f wt left' left s ∧ GM pl m f wt left' left s ≤ pl.length * M := by
  unfold GM
  have h1 := sum_bd (pl.take m) (Hf f wt left' s) M (fun x _ => Hf_bd hf wt left' s x)
  have h2 := sum_bd (pl.drop m) (Hf f wt left s) M (fun x _ => Hf_bd hf wt left s x)
  have hl : (pl.take m).length + (pl.drop m).length = pl.length := by rw [← List.length_append, List.take_append_drop]
  have e : (pl.length : Int) * M = ((pl.take m).length : Int) * M + ((pl.drop m).length : Int) * M := by rw [← Int.add_mul, ← hl, Int.natCast_add]
  rw [e]
  omega
theorem plOf_length (both : Bool) : (plOf both).length ≤ 3 := by cases both <;> decide
theorem plOf_bd (both : Bool) (m : Nat) : -1 ≤ (plOf both).getD m 0 ∧ (plOf both).getD m 0 ≤ 1 := by
  cases both
  · match m with
    | 0 => decide
    | 1 => decide
    | n + 2 => simp [plOf]
  · match m with
    | 0 => decide
    | 1 => decide
    | 2 => decide
    | n + 3 => simp [plOf]
theorem wayFn_bd (both : Bool) (ws : List Int) (k : Nat) (s : Int) : 0 ≤ wayFn (plOf both) ws k s ∧ wayFn (plOf both) ws k s ≤ 3 ^ k := by
  induction k generalizing s with
  | zero => unfold wayFn; split <;> simp
  | succ k ih =>
    unfold wayFn
    have h1 := sum_bd (plOf both) (fun x => wayFn (plOf both) ws k (s - x * ws.getD k 0)) (3 ^ k) (fun x _ => ih _)
    have h2 := plOf_length both
    have h3 : (0 : Int) ≤ 3 ^ k := Int.pow_nonneg (by omega)
    have h4 : ((plOf both).length : Int) * 3 ^ k ≤ 3 * 3 ^ k := Int.mul_le_mul_of_nonneg_right (by omega) h3
    rw [Int.pow_succ]
    omega
theorem pow3_16 (k : Nat) (h : k ≤ 16) : (1 : Int) ≤ 3 ^ k ∧ (3 : Int) ^ k ≤ 43046721 := by
  have h1 : (1 : Nat) ≤ 3 ^ k := Nat.one_le_pow _ _ (by omega)
  have h2 : (3 : Nat) ^ k ≤ 3 ^ 16 := Nat.pow_le_pow_right (by omega) h
  have h3 : (3 : Nat) ^ 16 = 43046721 := by decide
  have e : ((3 ^ k : Nat) : Int) = 3 ^ k := by simp
  omega
theorem sum_take_step (ws : List Int) (k : Nat) (hk : k < ws.length) : sumI (ws.take (k + 1)) = sumI (ws.take k) + ws.getD k 0 := by
  rw [take_getD ws k hk, sumI_snoc]
theorem sum_take_pos {ws : List Int} (h : ∀ j, j < ws.length → 1 ≤ ws.getD j 0) (k : Nat) (hk : k ≤ ws.length) : 0 ≤ sumI (ws.take k) := by
  induction k with
  | zero => simp [sumI]
  | succ k ih =>
    have h1 := ih (by omega)
    have h2 := h k (by omega)
    rw [sum_take_step ws k (by omega)]
    omega
theorem sum_take_le {ws : List Int} (h : ∀ j, j < ws.length → 1 ≤ ws.getD j 0) (d : Nat) : ∀ k, k + d = ws.length → sumI (ws.take k) ≤ sumI ws := by
  induction d with
  | zero => intro k hk; rw [List.take_of_length_le (by omega)]; exact Int.le_refl _
  | succ d ih =>
    intro k hk
    have h1 := ih (k + 1) (by omega)
    have h2 := h k (by omega)
    rw [sum_take_step ws k (by omega)] at h1
    omega
theorem okW_sum {ws : List Int} (h : OkW ws) (k : Nat) (hk : k ≤ ws.length) : 0 ≤ sumI (ws.take k) ∧ sumI (ws.take k) ≤ 2000 := by
  have h1 : ∀ j, j < ws.length → 1 ≤ ws.getD j 0 := fun j hj => (h.2.2.1 j hj).1
  have h2 := sum_take_le h1 (ws.length - k) k (by omega)
  have h3 := h.2.2.2
  exact ⟨sum_take_pos h1 k hk, by omega⟩
theorem okW_bd {ws : List Int} (h : OkW ws) : ∀ j, j < ws.length → 1 ≤ ws.getD j 0 ∧ ws.getD j 0 ≤ 2000 := fun j hj => by
  have h1 := (h.2.2.1 j hj).1
  have h2 := okW_sum h j (by omega)
  have h3 := okW_sum h (j + 1) (by omega)
  rw [sum_take_step ws j hj] at h3
  omega
theorem mem_plOf {both : Bool} {x : Int} (h : x ∈ plOf both) : x = -1 ∨ x = 0 ∨ x = 1 := by
  cases both
  · simp [plOf] at h; omega
  · simp [plOf] at h; omega
theorem wayFn_out {ws : List Int} (h : OkW ws) (both : Bool) (k : Nat) (hk : k ≤ ws.length) : ∀ s, s < -(sumI (ws.take k)) ∨ sumI (ws.take k) < s → wayFn (plOf both) ws k s = 0 := by
  induction k with
  | zero =>
    intro s hs
    have : s ≠ 0 := by simp [sumI] at hs; omega
    unfold wayFn
    rw [if_neg this]
  | succ k ih =>
    intro s hs
    rw [sum_take_step ws k (by omega)] at hs
    have hw := (okW_bd h k (by omega)).1
    unfold wayFn
    have e : (plOf both).map (fun x => wayFn (plOf both) ws k (s - x * ws.getD k 0)) = (plOf both).map (fun _ => (0 : Int)) := by
      apply List.map_congr_left
      intro x hx
      refine ih (by omega) _ ?_
      rcases mem_plOf hx with rfl | rfl | rfl <;> omega
    rw [e]
    exact sum_zeros _
end Go.Proofs.Ythbanajodohbbaa
