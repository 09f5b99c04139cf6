/-
  The fewest weights to a sum: the model's numbers, and that there are some just where there is a way.
-/
import Derived.Test.YthbanajodohbbaaWayMath
namespace Go.Proofs.Ythbanajodohbbaa
open Go.RowKit Go.Maps

def fewStep (f : Int → Int) (wt s acc x : Int) : Int :=
  if f (s - x * wt) < 0 then acc else if acc < 0 ∨ f (s - x * wt) + x * x < acc then f (s - x * wt) + x * x else acc
/-- The last d weights: how few of them balance s, -1 if none do. -/
def fewFn (pl ws : List Int) : Nat → Int → Int
  | 0, s => if s = 0 then 0 else -1
  | d + 1, s => pl.foldl (fewStep (fewFn pl ws d) (ws.getD (ws.length - (d + 1)) 0) s) (-1)
/-- .. after m of the places. -/
def fewPart (pl : List Int) (f : Int → Int) (wt s : Int) (m : Nat) : Int := (pl.take m).foldl (fewStep f wt s) (-1)
theorem fewPart_step (pl : List Int) (f : Int → Int) (wt s : Int) (m : Nat) (h : m < pl.length) : fewPart pl f wt s (m + 1) = fewStep f wt s (fewPart pl f wt s m) (pl.getD m 0) := by
  unfold fewPart
  rw [take_getD pl m h, List.foldl_append]
  rfl
theorem fewPart_all (pl : List Int) (f : Int → Int) (wt s : Int) : fewPart pl f wt s pl.length = pl.foldl (fewStep f wt s) (-1) := by
  unfold fewPart; rw [List.take_length]
theorem fewStep_pos (f : Int → Int) (wt s acc x : Int) : 0 ≤ fewStep f wt s acc x ↔ 0 ≤ acc ∨ 0 ≤ f (s - x * wt) := by
  unfold fewStep
  have hx : 0 ≤ x * x := by
    rcases Int.le_total 0 x with h | h
    · exact Int.mul_nonneg h h
    · exact Int.mul_nonneg_of_nonpos_of_nonpos h h
  generalize x * x = y at *
  generalize f (s - x * wt) = r at *
  split
  · omega
  · split <;> omega
theorem fewFold_pos (f : Int → Int) (wt s : Int) (l : List Int) : ∀ acc, 0 ≤ l.foldl (fewStep f wt s) acc ↔ 0 ≤ acc ∨ ∃ x ∈ l, 0 ≤ f (s - x * wt) := by
  induction l with
  | nil => intro acc; simp
  | cons a t ih =>
    intro acc
    rw [List.foldl_cons, ih, fewStep_pos]
    constructor
    · rintro ((h | h) | ⟨x, hx, h⟩)
      · exact .inl h
      · exact .inr ⟨a, List.mem_cons_self .., h⟩
      · exact .inr ⟨x, List.mem_cons_of_mem _ hx, h⟩
    · rintro (h | ⟨x, hx, h⟩)
      · exact .inl (.inl h)
      · rcases List.mem_cons.1 hx with rfl | hx
        · exact .inl (.inr h)
        · exact .inr ⟨x, hx, h⟩
theorem sum_pos_iff (l : List Int) (h : Int → Int) (hn : ∀ x, 0 ≤ h x) : 0 < (l.map h).sum ↔ ∃ x ∈ l, 0 < h x := by
  induction l with
  | nil => simp
  | cons a t ih =>
    rw [List.map_cons, List.sum_cons]
    have h1 := hn a
    have h2 : 0 ≤ (t.map h).sum := by
      clear ih
      induction t with
      | nil => simp
      | cons b u ih2 => rw [List.map_cons, List.sum_cons]; have := hn b; omega
    constructor
    · intro h3
      by_cases h4 : 0 < h a
      · exact ⟨a, List.mem_cons_self .., h4⟩
      · obtain ⟨x, hx, h5⟩ := ih.1 (by omega)
        exact ⟨x, List.mem_cons_of_mem _ hx, h5⟩
    · rintro ⟨x, hx, h5⟩
      rcases List.mem_cons.1 hx with rfl | hx
      · omega
      · have := ih.2 ⟨x, hx, h5⟩; omega
/-- What the first k, and the last d weights bring, placed by p. -/
def pSum (p : Nat → Int) (ws : List Int) : Nat → Int
  | 0 => 0
  | k + 1 => pSum p ws k + p k * ws.getD k 0
def sSum (p : Nat → Int) (ws : List Int) : Nat → Int
  | 0 => 0
  | d + 1 => sSum p ws d + p (ws.length - (d + 1)) * ws.getD (ws.length - (d + 1)) 0
theorem pSum_sSum (p : Nat → Int) (ws : List Int) (k d : Nat) (h : k + d = ws.length) : pSum p ws k + sSum p ws d = pSum p ws ws.length := by
  induction d generalizing k with
  | zero => rw [show k = ws.length by omega]; simp [sSum]
  | succ d ih =>
    have h1 := ih (k + 1) (by omega)
    have e : ws.length - (d + 1) = k := by omega
    rw [show pSum p ws (k + 1) = pSum p ws k + p k * ws.getD k 0 from rfl] at h1
    rw [show sSum p ws (d + 1) = sSum p ws d + p (ws.length - (d + 1)) * ws.getD (ws.length - (d + 1)) 0 from rfl, e]
    omega
theorem pSum_congr {p q : Nat → Int} (ws : List Int) (k : Nat) (h : ∀ j, j < k → p j = q j) : pSum p ws k = pSum q ws k := by
  induction k with
  | zero => rfl
  | succ k ih => unfold pSum; rw [ih (fun j hj => h j (by omega)), h k (by omega)]
theorem sSum_congr {p q : Nat → Int} (ws : List Int) (d : Nat) (hd : d ≤ ws.length) (h : ∀ j, ws.length - d ≤ j → j < ws.length → p j = q j) : sSum p ws d = sSum q ws d := by
  induction d with
  | zero => rfl
  | succ d ih => unfold sSum; rw [ih (by omega) (fun j h1 h2 => h j (by omega) h2), h (ws.length - (d + 1)) (by omega) (by omega)]
theorem way_iff (both : Bool) (ws : List Int) (k : Nat) : ∀ s, 0 < wayFn (plOf both) ws k s ↔ ∃ p : Nat → Int, (∀ j, j < k → p j ∈ plOf both) ∧ pSum p ws k = s := by
  induction k with
  | zero =>
    intro s
    unfold wayFn
    constructor
    · intro h
      refine ⟨fun _ => 0, fun j hj => absurd hj (by omega), ?_⟩
      split at h
      · rename_i e; exact e.symm
      · omega
    · rintro ⟨p, _, h⟩
      rw [if_pos (show s = 0 from h.symm)]
      omega
  | succ k ih =>
    intro s
    rw [show wayFn (plOf both) ws (k + 1) s = ((plOf both).map (fun x => wayFn (plOf both) ws k (s - x * ws.getD k 0))).sum from rfl,
      sum_pos_iff _ (fun x => wayFn (plOf both) ws k (s - x * ws.getD k 0)) (fun x => (wayFn_bd both ws k _).1)]
    constructor
    · rintro ⟨x, hx, h⟩
      obtain ⟨p, hp, hs⟩ := (ih _).1 h
      refine ⟨fun j => if j = k then x else p j, fun j hj => ?_, ?_⟩
      · show (if j = k then x else p j) ∈ plOf both
        by_cases e : j = k
        · rw [if_pos e]; exact hx
        · rw [if_neg e]; exact hp j (by omega)
      · unfold pSum
        rw [pSum_congr (q := p) ws k (fun j hj => by show (if j = k then x else p j) = p j; rw [if_neg (by omega)]), hs]
        show s - x * ws.getD k 0 + (if k = k then x else p k) * ws.getD k 0 = s
        rw [if_pos rfl]
        omega
    · rintro ⟨p, hp, hs⟩
      refine ⟨p k, hp k (by omega), (ih _).2 ⟨p, fun j hj => hp j (by omega), ?_⟩⟩
      rw [← hs, show pSum p ws (k + 1) = pSum p ws k + p k * ws.getD k 0 from rfl]
      omega
theorem few_iff (pl ws : List Int) (d : Nat) (hd : d ≤ ws.length) : ∀ s, 0 ≤ fewFn pl ws d s ↔ ∃ p : Nat → Int, (∀ j, ws.length - d ≤ j → j < ws.length → p j ∈ pl) ∧ sSum p ws d = s := by
  induction d with
  | zero =>
    intro s
    unfold fewFn
    constructor
    · intro h
      refine ⟨fun _ => 0, fun j h1 h2 => absurd h2 (by omega), ?_⟩
      split at h
      · rename_i e; exact e.symm
      · omega
    · rintro ⟨p, _, h⟩
      rw [if_pos (show s = 0 from h.symm)]
      omega
  | succ d ih =>
    intro s
    rw [show fewFn pl ws (d + 1) s = pl.foldl (fewStep (fewFn pl ws d) (ws.getD (ws.length - (d + 1)) 0) s) (-1) from rfl, fewFold_pos]
    constructor
    · rintro (h | ⟨x, hx, h⟩)
      · omega
      obtain ⟨p, hp, hs⟩ := (ih (by omega) _).1 h
      refine ⟨fun j => if j = ws.length - (d + 1) then x else p j, fun j h1 h2 => ?_, ?_⟩
      · show (if j = ws.length - (d + 1) then x else p j) ∈ pl
        by_cases e : j = ws.length - (d + 1)
        · rw [if_pos e]; exact hx
        · rw [if_neg e]; exact hp j (by omega) h2
      · unfold sSum
        rw [sSum_congr (q := p) ws d (by omega) (fun j h1 h2 => by show (if j = ws.length - (d + 1) then x else p j) = p j; rw [if_neg (by omega)]), hs]
        show s - x * ws.getD (ws.length - (d + 1)) 0 + (if ws.length - (d + 1) = ws.length - (d + 1) then x else p (ws.length - (d + 1))) * ws.getD (ws.length - (d + 1)) 0 = s
        rw [if_pos rfl]
        omega
    · rintro ⟨p, hp, hs⟩
      refine .inr ⟨p (ws.length - (d + 1)), hp _ (by omega) (by omega), (ih (by omega) _).2 ⟨p, fun j h1 h2 => hp j (by omega) h2, ?_⟩⟩
      rw [← hs, show sSum p ws (d + 1) = sSum p ws d + p (ws.length - (d + 1)) * ws.getD (ws.length - (d + 1)) 0 from rfl]
      omega
/-- A least number is known just where there is a way. -/
theorem few_way (both : Bool) (ws : List Int) (s : Int) : 0 ≤ fewFn (plOf both) ws ws.length s ↔ 0 < wayFn (plOf both) ws ws.length s := by
  rw [few_iff _ ws ws.length (Nat.le_refl _) s, way_iff]
  constructor
  · rintro ⟨p, hp, hs⟩
    refine ⟨p, fun j hj => hp j (by omega) hj, ?_⟩
    have := pSum_sSum p ws 0 ws.length (by omega)
    rw [← this, hs]
    simp [pSum]
  · rintro ⟨p, hp, hs⟩
    refine ⟨p, fun j _ hj => hp j hj, ?_⟩
    have := pSum_sSum p ws 0 ws.length (by omega)
    rw [show pSum p ws 0 = 0 from rfl] at this
    omega
theorem fewStep_bd {f : Int → Int} {M : Int} (hf : ∀ s, -1 ≤ f s ∧ f s ≤ M) (wt s acc x : Int) (ha : -1 ≤ acc ∧ acc ≤ M + 1) (hx : x = -1 ∨ x = 0 ∨ x = 1) : -1 ≤ fewStep f wt s acc x ∧ fewStep f wt s acc x ≤ M + 1 := by
  unfold fewStep
  have h := hf (s - x * wt)
  have hy : 0 ≤ x * x ∧ x * x ≤ 1 := by rcases hx with rfl | rfl | rfl <;> decide
  generalize f (s - x * wt) = r at *
  generalize x * x = y at *
  split
  · omega
  · split <;> omega
theorem fewFold_bd {f : Int → Int} {M : Int} (hf : ∀ s, -1 ≤ f s ∧ f s ≤ M) (wt s : Int) (l : List Int) (hl : ∀ x ∈ l, x = -1 ∨ x = 0 ∨ x = 1) : ∀ acc, -1 ≤ acc ∧ acc ≤ M + 1 → -1 ≤ l.foldl (fewStep f wt s) acc ∧ l.foldl (fewStep f wt s) acc ≤ M + 1 := by
  induction l with
  | nil => intro acc h; exact h
  | cons a t ih =>
    intro acc h
    rw [List.foldl_cons]
    exact ih (fun x hx => hl x (List.mem_cons_of_mem _ hx)) _ (fewStep_bd hf wt s acc a h (hl a (List.mem_cons_self ..)))
theorem few_bd (both : Bool) (ws : List Int) (d : Nat) : ∀ s, -1 ≤ fewFn (plOf both) ws d s ∧ fewFn (plOf both) ws d s ≤ d := by
  induction d with
  | zero => intro s; unfold fewFn; split <;> simp
  | succ d ih =>
    intro s
    have h := fewFold_bd ih (ws.getD (ws.length - (d + 1)) 0) s (plOf both) (fun x hx => mem_plOf hx) (-1) (by omega)
    have e : ((d + 1 : Nat) : Int) = (d : Int) + 1 := by omega
    rw [e]
    exact h
theorem fewPart_bd {both : Bool} {f : Int → Int} {M : Int} (hf : ∀ s, -1 ≤ f s ∧ f s ≤ M) (hM : 0 ≤ M) (wt s : Int) (m : Nat) : -1 ≤ fewPart (plOf both) f wt s m ∧ fewPart (plOf both) f wt s m ≤ M + 1 :=
  fewFold_bd hf wt s _ (fun _ hx => mem_plOf (List.mem_of_mem_take hx)) (-1) (by omega)
theorem sSum_bd {ws : List Int} (h : OkW ws) (p : Nat → Int) (d : Nat) (hd : d ≤ ws.length) (hp : ∀ j, ws.length - d ≤ j → j < ws.length → p j = -1 ∨ p j = 0 ∨ p j = 1) :
    -(sumI ws - sumI (ws.take (ws.length - d))) ≤ sSum p ws d ∧ sSum p ws d ≤ sumI ws - sumI (ws.take (ws.length - d)) := by
  induction d with
  | zero => simp [sSum]
  | succ d ih =>
    have h1 := ih (by omega) (fun j h1 h2 => hp j (by omega) h2)
    have h2 := sum_take_step ws (ws.length - (d + 1)) (by omega)
    have e : ws.length - (d + 1) + 1 = ws.length - d := by omega
    rw [e] at h2
    have h3 := (okW_bd h (ws.length - (d + 1)) (by omega)).1
    have h4 := hp (ws.length - (d + 1)) (by omega) (by omega)
    rw [show sSum p ws (d + 1) = sSum p ws d + p (ws.length - (d + 1)) * ws.getD (ws.length - (d + 1)) 0 from rfl]
    rcases h4 with e4 | e4 | e4 <;> rw [e4] <;> omega
theorem few_out {ws : List Int} (h : OkW ws) (both : Bool) (d : Nat) (hd : d ≤ ws.length) (s : Int) (hs : s < -2000 ∨ 2000 < s) : fewFn (plOf both) ws d s < 0 := by
  by_cases h0 : 0 ≤ fewFn (plOf both) ws d s
  · obtain ⟨p, hp, e⟩ := (few_iff _ ws d hd s).1 h0
    have h1 := sSum_bd h p d hd (fun j h1 h2 => mem_plOf (hp j h1 h2))
    have h2 := (okW_sum h (ws.length - d) (by omega)).1
    have h3 := h.2.2.2
    omega
  · omega
theorem few_step (both : Bool) (ws : List Int) (d : Nat) (s : Int) : fewFn (plOf both) ws (d + 1) s = fewPart (plOf both) (fewFn (plOf both) ws d) (ws.getD (ws.length - (d + 1)) 0) s (plOf both).length := (fewPart_all _ _ _ _).symm
end Go.Proofs.Ythbanajodohbbaa
