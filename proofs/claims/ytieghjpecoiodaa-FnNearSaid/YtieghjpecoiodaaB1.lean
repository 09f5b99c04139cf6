/-
  The model's cases of a task with up to 80 coins.
-/
import Derived.Test.YtieghjpecoiodaaA2
namespace Go.Proofs.Ytieghjpecoiodaa
open Go.RowKit Go.Shelf
set_option maxRecDepth 100000
set_option linter.unusedVariables false

/-- The cells of cases, one behind the other. -/
def cvals (cs : List Cs) : List Value := cs.flatMap (fun x => [.int .i8 x.1, .bool x.2])
theorem cvals_snoc (cs : List Cs) (x : Cs) : cvals (cs ++ [x]) = cvals cs ++ [.int .i8 x.1, .bool x.2] := by simp [cvals]
theorem cvals_len (cs : List Cs) : (cvals cs).length = cs.length * 2 := by
  induction cs with
  | nil => rfl
  | cons m ms ih => rw [show cvals (m :: ms) = [.int .i8 m.1, .bool m.2] ++ cvals ms from rfl, List.length_append, ih, List.length_cons]; simp; omega
theorem Try.infoC : (Try.prog.info? 37).map (fun i => (i.zero, i.size, i.bytes)) = some (some (.agg #[.int .i8 0, .bool false]), 2, 2) := by kernel_rfl

/-- What the loop of the model keeps. -/
structure LcK (c k : Int) (nn gg : Bool) (w wr : World) : Prop where
  b0 : Blk wr w.heap.size #[.int .i8 c, .int .i8 k, .bool nn, .bool gg] 30
  bel : Below w.heap.size w wr
theorem LcK.below {c k : Int} {nn gg : Bool} {w wr w' : World} (h : LcK c k nn gg w wr) (hb : Below wr.heap.size wr w') : LcK c k nn gg w w' := ⟨h.b0.below hb h.b0.lt, h.bel.trans (hb.mono h.bel.size)⟩
theorem LcK.grown {c k : Int} {nn gg : Bool} {w wr w' : World} {row : Option Nat} (h : LcK c k nn gg w wr) (hg : wr.grownBy w' row) (h1 : ∀ k, row = some k → w.heap.size + 1 ≤ k) : LcK c k nn gg w w' :=
  ⟨(hg.block _ h.b0.lt (fun e => by have := h1 _ e.symm; omega)).trans h.b0, h.bel.grown hg h.bel.size (fun k e => by have := h1 _ e; omega)⟩
set_option maxHeartbeats 4000000 in
theorem l03Cases80 (m : Nat) (k : Int) (gg : Bool) (w : World) (hm : m ≤ 80) (hk : 0 ≤ k ∧ k ≤ 2) :
    Calls Try.prog 22 #[taskV m k true gg] w fun e W' => ∃ v, e = .returned v ∧ W'.ownsRow (w.heap.size + 1) 37 2 v (upC k true m).length (cvals (upC k true m)) ∧ Below w.heap.size w W' := by
  obtain ⟨i0, hi, hz0, hz1, hz2⟩ := info_parts Try.infoC
  have hk8 : -128 ≤ k ∧ k ≤ 127 := by omega
  have hm8 : (m : Int) ≤ 80 := by omega
  have k0 := blk_new w #[.int .i8 (m : Int), .int .i8 k, .bool true, .bool gg] 30
  have hB := (Below.refl w.heap.size w).alloc (Nat.le_refl _) (.cells #[.int .i8 (m : Int), .int .i8 k, .bool true, .bool gg] 30)
  have hS0 : LcK m k true gg w (w.alloc (.cells #[.int .i8 (m : Int), .int .i8 k, .bool true, .bool gg] 30)) := ⟨k0, hB⟩
  have hSZ := hS0.below ((Below.refl _ _).alloc (Nat.le_refl _) (.cells #[] 37))
  have hownZ := World.ownsRow_made (base := w.heap.size + 1) (e := 37) (size := 2) (w.alloc (.cells #[.int .i8 (m : Int), .int .i8 k, .bool true, .bool gg] 30)) #[] 0 (by simp) (by unfold maxLen; omega) (by simp)
  rw [World.size_alloc] at hownZ
  clear k0 hB hS0
  obtain ⟨hS, hown⟩ := And.intro hSZ hownZ
  clear hSZ hownZ
  go_enter Try.func22, Try.ntmps22
  replace hown : ((w.alloc (.cells #[.int .i8 (m : Int), .int .i8 k, .bool true, .bool gg] 30)).alloc (.cells #[] 37)).ownsRow (w.heap.size + 1) 37 2 (.slice (some ⟨w.heap.size + 1, 0, none⟩) 0 0) ([] : List Cs).length (cvals []) := hown
  obtain ⟨c0, c1, c2, c3, -⟩ := hS.b0.four
  go_wp2_with (at_builtin; refine wpList_append_own _ rfl _ _ 31 rfl (w.heap.size + 1) 37 i0 (.agg #[.int .i8 0, .bool false]) 2 2 Try.underlying31 hi hz0 hz1 hz2 rfl (by decide) _ _ _ rfl (hown.alloc _) ⟨w.heap.size + 1 + 1, 0, none⟩ 1 1 [.int .i8 (-1), .bool false] rfl rfl (World.news_of_block (cs := #[.int .i8 (-1), .bool false]) (t := 37) (fr := (0, 0)) (by have := heap_alloc_new ((w.alloc (.cells #[.int .i8 (m : Int), .int .i8 k, .bool true, .bool gg] 30)).alloc (.cells #[] 37)) (.cells #[.int .i8 (-1), .bool false] 37); simpa using this)) (by simp [Value.oneCell']) (by unfold maxLen; simp) (by simp) (by have := hS.b0.lt; simp <;> omega) ?_)
  intro v' w1 hown' hgrow _
  have hS1 : LcK m k true gg w w1 := ((hS.below ((Below.refl _ _).alloc (Nat.le_refl _) (.cells #[.int .i8 (-1), .bool false] 37))).grown hgrow (fun j hj => (hown.lt j hj).1))
  have hO1 : w1.ownsRow (w.heap.size + 1) 37 2 v' (upC k true 0).length (cvals (upC k true 0)) := hown'
  clear hown' hgrow hown hS c0 c1 c2 c3
  obtain ⟨hown, hS⟩ := And.intro hO1 hS1
  clear hO1 hS1
  go_wp2
  go_loopw [3, 4] (fun v iv wr => ∃ i : Nat, iv = .int .i8 (i : Int) ∧ i ≤ m ∧ wr.ownsRow (w.heap.size + 1) 37 2 v (upC k true i).length (cvals (upC k true i)) ∧ LcK m k true gg w wr) (fun _ iv _ => m - (intOf iv).toNat)
  case atStart => exact ⟨0, rfl, Nat.zero_le _, hown, hS⟩
  case round =>
    clear hown hS
    obtain ⟨i, rfl, hi', hown, hS⟩ := hrel
    by_cases hlt : i < m
    case neg =>
      obtain rfl : i = m := by omega
      have HO := Lib.hid hown
      have HS := Lib.hid hS
      obtain ⟨c0, c1, c2, c3, -⟩ := hS.b0.four
      clear hown hS
      go_wp2
      go_ret
      exact ⟨_, rfl, HO.out, HS.out.bel⟩
    have hltz : (i : Int) < (m : Int) := by omega
    have hL := upC_len k true i
    have Hs := Lib.hid (upC_succ k true i)
    rcases k_of hk with rfl | rfl | rfl
    · simp only [cOf0] at Hs
      have hkk : ((0 : Int) != 1) = true := by decide
      have hkl : ((0 : Int) != 0) = false := by decide
      obtain ⟨wq, rfl⟩ : ∃ wq : World, wq = wr := ⟨_, rfl⟩
      obtain ⟨c0, c1, c2, c3, -⟩ := hS.b0.four
      go_wp2_with (at_builtin; refine wpList_append_own _ rfl _ _ 31 rfl (w.heap.size + 1) 37 i0 (.agg #[.int .i8 0, .bool false]) 2 2 Try.underlying31 hi hz0 hz1 hz2 rfl (by decide) _ _ _ rfl (hown.alloc _) ⟨wq.heap.size, 0, none⟩ 1 1 [.int .i8 (i : Int), .bool true] rfl rfl (World.news_of_block (cs := #[.int .i8 (i : Int), .bool true]) (t := 37) (fr := (0, 0)) (heap_alloc_new wq _)) (by simp [Value.oneCell']) (by unfold maxLen; (try simp only [List.length_append, List.length_singleton]); omega) (by (try simp only [List.length_append, List.length_singleton]); omega) (by have := hS.b0.lt; simp <;> omega) ?_)
      intro v' w1 hown' hgrow _
      have hS1 : LcK m 0 true gg w w1 := ((hS.below ((Below.refl wq.heap.size wq).alloc (Nat.le_refl _) (.cells #[.int .i8 (i : Int), .bool true] 37))).grown hgrow (fun j hj => (hown.lt j hj).1))
      have hO1 : w1.ownsRow (w.heap.size + 1) 37 2 v' (upC 0 true i ++ [((i : Int), true)]).length (cvals (upC 0 true i ++ [((i : Int), true)])) := by rw [cvals_snoc]; simpa only [List.length_append, List.length_singleton] using hown'
      clear hown' hgrow hown hS c0 c1 c2 c3
      obtain ⟨hown, hS⟩ := And.intro hO1 hS1
      clear hO1 hS1
      have HR := Lib.hid hown
      have HT := Lib.hid hS
      obtain ⟨c0, c1, c2, c3, -⟩ := hS.b0.four
      clear hown hS
      go_wp2
      go_roundw
      case rel => exact ⟨i + 1, by go_num, by omega, by rw [Hs.out]; simpa [List.append_assoc] using HR.out, HT.out⟩
      case measure => simp [intOf]; omega
    · simp only [cOf1] at Hs
      have hkk : ((1 : Int) != 1) = false := by decide
      have hkl : ((1 : Int) != 0) = true := by decide
      obtain ⟨wq, rfl⟩ : ∃ wq : World, wq = wr := ⟨_, rfl⟩
      obtain ⟨c0, c1, c2, c3, -⟩ := hS.b0.four
      go_wp2_with (at_builtin; refine wpList_append_own _ rfl _ _ 31 rfl (w.heap.size + 1) 37 i0 (.agg #[.int .i8 0, .bool false]) 2 2 Try.underlying31 hi hz0 hz1 hz2 rfl (by decide) _ _ _ rfl (hown.alloc _) ⟨wq.heap.size, 0, none⟩ 1 1 [.int .i8 (i : Int), .bool false] rfl rfl (World.news_of_block (cs := #[.int .i8 (i : Int), .bool false]) (t := 37) (fr := (0, 0)) (heap_alloc_new wq _)) (by simp [Value.oneCell']) (by unfold maxLen; (try simp only [List.length_append, List.length_singleton]); omega) (by (try simp only [List.length_append, List.length_singleton]); omega) (by have := hS.b0.lt; simp <;> omega) ?_)
      intro v' w1 hown' hgrow _
      have hS1 : LcK m 1 true gg w w1 := ((hS.below ((Below.refl wq.heap.size wq).alloc (Nat.le_refl _) (.cells #[.int .i8 (i : Int), .bool false] 37))).grown hgrow (fun j hj => (hown.lt j hj).1))
      have hO1 : w1.ownsRow (w.heap.size + 1) 37 2 v' (upC 1 true i ++ [((i : Int), false)]).length (cvals (upC 1 true i ++ [((i : Int), false)])) := by rw [cvals_snoc]; simpa only [List.length_append, List.length_singleton] using hown'
      clear hown' hgrow hown hS c0 c1 c2 c3
      obtain ⟨hown, hS⟩ := And.intro hO1 hS1
      clear hO1 hS1
      have HR := Lib.hid hown
      have HT := Lib.hid hS
      obtain ⟨c0, c1, c2, c3, -⟩ := hS.b0.four
      clear hown hS
      go_wp2
      go_roundw
      case rel => exact ⟨i + 1, by go_num, by omega, by rw [Hs.out]; simpa [List.append_assoc] using HR.out, HT.out⟩
      case measure => simp [intOf]; omega
    · simp only [cOf2] at Hs
      have hkk : ((2 : Int) != 1) = true := by decide
      have hkl : ((2 : Int) != 0) = true := by decide
      obtain ⟨wq, rfl⟩ : ∃ wq : World, wq = wr := ⟨_, rfl⟩
      obtain ⟨c0, c1, c2, c3, -⟩ := hS.b0.four
      go_wp2_with (at_builtin; refine wpList_append_own _ rfl _ _ 31 rfl (w.heap.size + 1) 37 i0 (.agg #[.int .i8 0, .bool false]) 2 2 Try.underlying31 hi hz0 hz1 hz2 rfl (by decide) _ _ _ rfl (hown.alloc _) ⟨wq.heap.size, 0, none⟩ 1 1 [.int .i8 (i : Int), .bool true] rfl rfl (World.news_of_block (cs := #[.int .i8 (i : Int), .bool true]) (t := 37) (fr := (0, 0)) (heap_alloc_new wq _)) (by simp [Value.oneCell']) (by unfold maxLen; (try simp only [List.length_append, List.length_singleton]); omega) (by (try simp only [List.length_append, List.length_singleton]); omega) (by have := hS.b0.lt; simp <;> omega) ?_)
      intro v' w1 hown' hgrow _
      have hS1 : LcK m 2 true gg w w1 := ((hS.below ((Below.refl wq.heap.size wq).alloc (Nat.le_refl _) (.cells #[.int .i8 (i : Int), .bool true] 37))).grown hgrow (fun j hj => (hown.lt j hj).1))
      have hO1 : w1.ownsRow (w.heap.size + 1) 37 2 v' (upC 2 true i ++ [((i : Int), true)]).length (cvals (upC 2 true i ++ [((i : Int), true)])) := by rw [cvals_snoc]; simpa only [List.length_append, List.length_singleton] using hown'
      clear hown' hgrow hown hS c0 c1 c2 c3
      obtain ⟨hown, hS⟩ := And.intro hO1 hS1
      clear hO1 hS1
      obtain ⟨wq, rfl⟩ : ∃ wq : World, wq = w1 := ⟨_, rfl⟩
      obtain ⟨c0, c1, c2, c3, -⟩ := hS.b0.four
      go_wp2_with (at_builtin; refine wpList_append_own _ rfl _ _ 31 rfl (w.heap.size + 1) 37 i0 (.agg #[.int .i8 0, .bool false]) 2 2 Try.underlying31 hi hz0 hz1 hz2 rfl (by decide) _ _ _ rfl (hown.alloc _) ⟨wq.heap.size, 0, none⟩ 1 1 [.int .i8 (i : Int), .bool false] rfl rfl (World.news_of_block (cs := #[.int .i8 (i : Int), .bool false]) (t := 37) (fr := (0, 0)) (heap_alloc_new wq _)) (by simp [Value.oneCell']) (by unfold maxLen; (try simp only [List.length_append, List.length_singleton]); omega) (by (try simp only [List.length_append, List.length_singleton]); omega) (by have := hS.b0.lt; simp <;> omega) ?_)
      intro v' w1 hown' hgrow _
      have hS1 : LcK m 2 true gg w w1 := ((hS.below ((Below.refl wq.heap.size wq).alloc (Nat.le_refl _) (.cells #[.int .i8 (i : Int), .bool false] 37))).grown hgrow (fun j hj => (hown.lt j hj).1))
      have hO1 : w1.ownsRow (w.heap.size + 1) 37 2 v' (upC 2 true i ++ [((i : Int), true)] ++ [((i : Int), false)]).length (cvals (upC 2 true i ++ [((i : Int), true)] ++ [((i : Int), false)])) := by rw [cvals_snoc]; simpa only [List.length_append, List.length_singleton] using hown'
      clear hown' hgrow hown hS c0 c1 c2 c3
      obtain ⟨hown, hS⟩ := And.intro hO1 hS1
      clear hO1 hS1
      have HR := Lib.hid hown
      have HT := Lib.hid hS
      obtain ⟨c0, c1, c2, c3, -⟩ := hS.b0.four
      clear hown hS
      go_wp2
      go_roundw
      case rel => exact ⟨i + 1, by go_num, by omega, by rw [Hs.out]; simpa [List.append_assoc] using HR.out, HT.out⟩
      case measure => simp [intOf]; omega
end Go.Proofs.Ytieghjpecoiodaa
