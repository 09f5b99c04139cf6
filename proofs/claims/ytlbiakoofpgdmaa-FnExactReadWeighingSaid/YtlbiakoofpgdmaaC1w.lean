/-
  The law's helper that copies a weighing.
-/
import Derived.Test.YtlbiakoofpgdmaaC1
namespace Go.Proofs.Ytlbiakoofpgdmaa
open Go.RowKit
set_option maxRecDepth 100000
set_option linter.unusedVariables false

theorem weigC_set (f : Nat → Int) (i : Nat) (hi : i < 14) (v : Int) : (weigC f).setIfInBounds i (.int .i8 v) = weigC (fun j => if j = i then v else f j) := by
  match i, hi with
  | 0, _ => rfl
  | 1, _ => rfl
  | 2, _ => rfl
  | 3, _ => rfl
  | 4, _ => rfl
  | 5, _ => rfl
  | 6, _ => rfl
  | 7, _ => rfl
  | 8, _ => rfl
  | 9, _ => rfl
  | 10, _ => rfl
  | 11, _ => rfl
  | 12, _ => rfl
  | 13, _ => rfl
theorem weigC_congr {f g : Nat → Int} (h : ∀ j, j < 14 → f j = g j) : weigC f = weigC g := by
  unfold weigC
  rw [h 0 (by decide), h 1 (by decide), h 2 (by decide), h 3 (by decide), h 4 (by decide), h 5 (by decide), h 6 (by decide), h 7 (by decide), h 8 (by decide), h 9 (by decide), h 10 (by decide), h 11 (by decide), h 12 (by decide), h 13 (by decide)]
theorem Blk.fourteen {w : World} {b : Nat} {x : Nat → Int} {t : TypeId} (h : Blk w b (weigC x) t) :
    w.cell? ⟨b, 0, none⟩ = some (.int .i8 (x 0)) ∧ w.cell? ⟨b, 1, none⟩ = some (.int .i8 (x 1)) ∧ w.cell? ⟨b, 2, none⟩ = some (.int .i8 (x 2)) ∧ w.cell? ⟨b, 3, none⟩ = some (.int .i8 (x 3)) ∧ w.cell? ⟨b, 4, none⟩ = some (.int .i8 (x 4)) ∧ w.cell? ⟨b, 5, none⟩ = some (.int .i8 (x 5)) ∧ w.cell? ⟨b, 6, none⟩ = some (.int .i8 (x 6)) ∧ w.cell? ⟨b, 7, none⟩ = some (.int .i8 (x 7)) ∧ w.cell? ⟨b, 8, none⟩ = some (.int .i8 (x 8)) ∧ w.cell? ⟨b, 9, none⟩ = some (.int .i8 (x 9)) ∧ w.cell? ⟨b, 10, none⟩ = some (.int .i8 (x 10)) ∧ w.cell? ⟨b, 11, none⟩ = some (.int .i8 (x 11)) ∧ w.cell? ⟨b, 12, none⟩ = some (.int .i8 (x 12)) ∧ w.cell? ⟨b, 13, none⟩ = some (.int .i8 (x 13)) ∧ ∀ i, w.frozen? ⟨b, i, none⟩ = false :=
  ⟨h.cell 0, h.cell 1, h.cell 2, h.cell 3, h.cell 4, h.cell 5, h.cell 6, h.cell 7, h.cell 8, h.cell 9, h.cell 10, h.cell 11, h.cell 12, h.cell 13, h.free⟩
theorem wsetAt {n : Nat} {a w : World} (h : Below n a w) {b : Nat} (hb : n ≤ b) (o : Nat) (v : Value) : Below n a (w.setCell ⟨b, o, none⟩ v) := h.setCell hb v
theorem Blk.wset {w : World} {b : Nat} {t : TypeId} {f : Nat → Int} (h : Blk w b (weigC f) t) (i : Nat) (hi : i < 14) (v : Int) : Blk (w.setCell ⟨b, i, none⟩ (.int .i8 v)) b (weigC (fun j => if j = i then v else f j)) t := by
  have := h.set i (.int .i8 v)
  rwa [weigC_set _ i hi] at this
theorem Blk.set14 {w : World} {b : Nat} {t : TypeId} {z : Nat → Int} (x : Nat → Int) (h : Blk w b (weigC z) t) : Blk ((((((((((((((w.setCell ⟨b, 0, none⟩ (.int .i8 (x 0))).setCell ⟨b, 1, none⟩ (.int .i8 (x 1))).setCell ⟨b, 2, none⟩ (.int .i8 (x 2))).setCell ⟨b, 3, none⟩ (.int .i8 (x 3))).setCell ⟨b, 4, none⟩ (.int .i8 (x 4))).setCell ⟨b, 5, none⟩ (.int .i8 (x 5))).setCell ⟨b, 6, none⟩ (.int .i8 (x 6))).setCell ⟨b, 7, none⟩ (.int .i8 (x 7))).setCell ⟨b, 8, none⟩ (.int .i8 (x 8))).setCell ⟨b, 9, none⟩ (.int .i8 (x 9))).setCell ⟨b, 10, none⟩ (.int .i8 (x 10))).setCell ⟨b, 11, none⟩ (.int .i8 (x 11))).setCell ⟨b, 12, none⟩ (.int .i8 (x 12))).setCell ⟨b, 13, none⟩ (.int .i8 (x 13))) b (weigC x) t := by
  have k := ((((((((((((((h.wset 0 (by decide) (x 0)).wset 1 (by decide) (x 1)).wset 2 (by decide) (x 2)).wset 3 (by decide) (x 3)).wset 4 (by decide) (x 4)).wset 5 (by decide) (x 5)).wset 6 (by decide) (x 6)).wset 7 (by decide) (x 7)).wset 8 (by decide) (x 8)).wset 9 (by decide) (x 9)).wset 10 (by decide) (x 10)).wset 11 (by decide) (x 11)).wset 12 (by decide) (x 12)).wset 13 (by decide) (x 13))
  refine (congrArg (fun c => Blk ((((((((((((((w.setCell ⟨b, 0, none⟩ (.int .i8 (x 0))).setCell ⟨b, 1, none⟩ (.int .i8 (x 1))).setCell ⟨b, 2, none⟩ (.int .i8 (x 2))).setCell ⟨b, 3, none⟩ (.int .i8 (x 3))).setCell ⟨b, 4, none⟩ (.int .i8 (x 4))).setCell ⟨b, 5, none⟩ (.int .i8 (x 5))).setCell ⟨b, 6, none⟩ (.int .i8 (x 6))).setCell ⟨b, 7, none⟩ (.int .i8 (x 7))).setCell ⟨b, 8, none⟩ (.int .i8 (x 8))).setCell ⟨b, 9, none⟩ (.int .i8 (x 9))).setCell ⟨b, 10, none⟩ (.int .i8 (x 10))).setCell ⟨b, 11, none⟩ (.int .i8 (x 11))).setCell ⟨b, 12, none⟩ (.int .i8 (x 12))).setCell ⟨b, 13, none⟩ (.int .i8 (x 13))) b c t) (weigC_congr (g := x) fun j hj => ?_)).mp k
  match j, hj with
  | 0, _ => rfl
  | 1, _ => rfl
  | 2, _ => rfl
  | 3, _ => rfl
  | 4, _ => rfl
  | 5, _ => rfl
  | 6, _ => rfl
  | 7, _ => rfl
  | 8, _ => rfl
  | 9, _ => rfl
  | 10, _ => rfl
  | 11, _ => rfl
  | 12, _ => rfl
  | 13, _ => rfl
theorem below14 {n : Nat} {a w : World} (h : Below n a w) {b : Nat} (hb : n ≤ b) (x : Nat → Int) : Below n a ((((((((((((((w.setCell ⟨b, 0, none⟩ (.int .i8 (x 0))).setCell ⟨b, 1, none⟩ (.int .i8 (x 1))).setCell ⟨b, 2, none⟩ (.int .i8 (x 2))).setCell ⟨b, 3, none⟩ (.int .i8 (x 3))).setCell ⟨b, 4, none⟩ (.int .i8 (x 4))).setCell ⟨b, 5, none⟩ (.int .i8 (x 5))).setCell ⟨b, 6, none⟩ (.int .i8 (x 6))).setCell ⟨b, 7, none⟩ (.int .i8 (x 7))).setCell ⟨b, 8, none⟩ (.int .i8 (x 8))).setCell ⟨b, 9, none⟩ (.int .i8 (x 9))).setCell ⟨b, 10, none⟩ (.int .i8 (x 10))).setCell ⟨b, 11, none⟩ (.int .i8 (x 11))).setCell ⟨b, 12, none⟩ (.int .i8 (x 12))).setCell ⟨b, 13, none⟩ (.int .i8 (x 13))) := (wsetAt (wsetAt (wsetAt (wsetAt (wsetAt (wsetAt (wsetAt (wsetAt (wsetAt (wsetAt (wsetAt (wsetAt (wsetAt (wsetAt h hb 0 _) hb 1 _) hb 2 _) hb 3 _) hb 4 _) hb 5 _) hb 6 _) hb 7 _) hb 8 _) hb 9 _) hb 10 _) hb 11 _) hb 12 _) hb 13 _)
set_option maxHeartbeats 2000000 in
theorem toWeighing_any (x : Nat → Int) (w : World) :
    Calls Try.prog 10 #[weigV x] w fun e w' => e = .returned (weigV x) ∧ Below w.heap.size w w' := by
  have F0 := (((FR.start w).box (weigC x) 25).box (weigC (fun _ => 0)) 34).box (weigC (fun _ => 0)) 34
  simp only [World.size_alloc] at F0
  have HF0 := Lib.hid F0
  clear F0
  go_enter Try.func10, Try.ntmps10
  go_wp2
  go_loopw [4] (fun iv wr => ∃ i : Nat, iv = .int .i64 (i : Int) ∧ i ≤ 14 ∧ FR w [(w.heap.size + 1 + 1, weigC (fun j => if j < i then x j else 0), 34), (w.heap.size + 1, weigC (fun _ => 0), 34), (w.heap.size, weigC x, 25)] wr) (fun iv _ => 14 - (intOf iv).toNat)
  case atStart => exact ⟨0, rfl, by omega, HF0.out⟩
  case round =>
    obtain ⟨i, rfl, hi, F1⟩ := hrel
    by_cases hlt : i < 14
    · have h1 := Blk.weig (x := x) (F1.blk _ (List.mem_cons_of_mem _ (List.mem_cons_of_mem _ List.mem_cons_self))) i hlt
      have h2 := Blk.weig (x := fun j => if j < i then x j else 0) (F1.blk _ List.mem_cons_self) i hlt
      have h3 := (F1.blk _ List.mem_cons_self).free i
      dsimp only at h1 h2 h3
      have hF := Lib.hid (F1.setTop i (.int .i8 (x i)))
      have hiz : (i : Int) < 14 := by omega
      have HE := Lib.hid (show (weigC (fun j => if j < i then x j else 0)).setIfInBounds i (.int .i8 (x i)) = weigC (fun j => if j < i + 1 then x j else 0) from by
        rw [weigC_set _ i hlt]
        refine weigC_congr fun j hj => ?_
        by_cases e : j = i
        · subst e; simp
        · by_cases e2 : j < i
          · simp [e, e2, Nat.lt_succ_of_lt e2]
          · simp [e, e2, show ¬ j < i + 1 by omega])
      rw [HE.out] at hF
      clear F1
      generalize x i = xi at *
      go_wp2
      go_roundw
      case rel => exact ⟨i + 1, by go_num, by omega, hF.out⟩
      case measure => simp [intOf]; omega
    · obtain rfl : i = 14 := by omega
      have HE := Lib.hid (show weigC (fun j => if j < 14 then x j else 0) = weigC x from weigC_congr fun j hj => by simp [hj])
      rw [HE.out] at F1
      obtain ⟨c0, c1, c2, c3, c4, c5, c6, c7, c8, c9, c10, c11, c12, c13, -⟩ := Blk.fourteen (x := x) (F1.blk _ List.mem_cons_self)
      obtain ⟨d0, d1, d2, d3, d4, d5, d6, d7, d8, d9, d10, d11, d12, d13, d14⟩ := Blk.fourteen (x := fun _ => 0) (F1.blk _ (List.mem_cons_of_mem _ List.mem_cons_self))
      have HF := Lib.hid F1
      clear F1
      go_wp2
      have hR : ∀ W2 : World, Blk W2 (w.heap.size + 1) (weigC x) 34 → ∀ tmps : Array Value, tmps.getD 2 undef = .pointer (some ⟨w.heap.size + 1, 0, none⟩) → (results Try.f10 tmps).run Try.prog W2 = .ok (weigV x) W2 := by
        intro W2 K tmps ht
        have ht' : tmps[2]?.getD undef = .pointer (some ⟨w.heap.size + 1, 0, none⟩) := by simpa using ht
        obtain ⟨e0, e1, e2, e3, e4, e5, e6, e7, e8, e9, e10, e11, e12, e13, -⟩ := K.fourteen
        simp [results, Try.results10, go_sem, e0, e1, e2, e3, e4, e5, e6, e7, e8, e9, e10, e11, e12, e13, ht']
      exact bodyPost_ret (v := weigV x) (hR _ (Blk.set14 (w := wr) (b := w.heap.size + 1) (z := fun _ => 0) x (HF.out.blk _ (List.mem_cons_of_mem _ List.mem_cons_self))) _ rfl) rfl ⟨rfl, below14 HF.out.below (by omega) x⟩
theorem toWeighing_fr {w0 W : World} {L : List (Nat × Array Value × TypeId)} (h : FR w0 L W) (x : Nat → Int) :
    Calls Try.prog 10 #[weigV x] W fun e w' => e = .returned (weigV x) ∧ FR w0 L w' := Calls.fr h (toWeighing_any x W)
end Go.Proofs.Ytlbiakoofpgdmaa
