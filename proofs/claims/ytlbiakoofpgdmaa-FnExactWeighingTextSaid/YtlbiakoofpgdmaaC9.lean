/-
  The walks of ValidWeighing and its model.
-/
import Derived.Test.YtlbiakoofpgdmaaC6
import Derived.Test.YtlbiakoofpgdmaaC1w
namespace Go.Proofs.Ytlbiakoofpgdmaa
open Go.RowKit Go.Shelf
set_option maxRecDepth 100000
set_option linter.unusedVariables false

/-- How many coins there are, the good one being one of them. -/
def plI (c : Int) (g : Bool) : Int := if g = true then c + 1 else c
def wl (x : Nat → Int) : List Int := (List.range 14).map x
theorem wl_len (x : Nat → Int) : (wl x).length = 14 := by simp [wl]
theorem wl_get (x : Nat → Int) (i : Nat) (hi : i < 14) : (wl x).getD i 0 = x i := by simp [wl, List.getD_eq_getElem?_getD, hi]
def s14 (x : Nat → Int) (k : Nat) : Int := sumI ((wl x).take k)
theorem s14_succ (x : Nat → Int) (k : Nat) (hk : k < 14) : s14 x (k + 1) = s14 x k + x k := by
  unfold s14
  rw [take_getD _ _ (by rw [wl_len]; exact hk), sumI_snoc, wl_get x k hk]
theorem s14_bd (x : Nat → Int) (hx : W8 x) (k : Nat) (hk : k ≤ 14) : -128 * (k : Int) ≤ s14 x k ∧ s14 x k ≤ 127 * (k : Int) := by
  induction k with
  | zero => simp [s14, sumI]
  | succ k ih =>
    have := ih (by omega)
    have h2 := hx k (by omega)
    rw [s14_succ x k (by omega)]
    omega
/-- Each number is a sign, and each coin on a pan is there. -/
def Fit (c : Int) (g : Bool) (x : Nat → Int) (k : Nat) : Prop := ∀ i, i < k → (-1 ≤ x i ∧ x i ≤ 1) ∧ (x i ≠ 0 → (i : Int) < plI c g)
def OkG (c : Int) (g : Bool) (x : Nat → Int) : Prop := Fit c g x 14 ∧ s14 x 14 = 0
noncomputable def okGw (c : Int) (g : Bool) (x : Nat → Int) : Bool := cb (OkG c g x)
noncomputable def okG (c k : Int) (g : Bool) (x : Nat → Int) : Bool := okT c k && okGw c g x
theorem Fit.succ {c : Int} {g : Bool} {x : Nat → Int} {k : Nat} (h : Fit c g x k) (h1 : -1 ≤ x k ∧ x k ≤ 1) (h2 : x k ≠ 0 → (k : Int) < plI c g) : Fit c g x (k + 1) := fun i hi => by
  by_cases e : i = k
  · subst e; exact ⟨h1, h2⟩
  · exact h i (by omega)
theorem l03There_any (c k : Int) (n g : Bool) (i : Nat) (w : World) (hc : B8 c) (hi : i ≤ 14) :
    Calls Try.prog 53 #[taskV c k n g, .int .i64 (i : Int)] w fun e w' => e = .returned (.bool (decide ((i : Int) < plI c g))) ∧ Below w.heap.size w w' := by
  unfold B8 at hc
  have HB := Lib.hid ((Below.refl w.heap.size w).alloc (Nat.le_refl _) (.cells #[.int .i8 c, .int .i8 k, .bool n, .bool g] 32))
  have hiz : (i : Int) ≤ 14 := by omega
  unfold plI
  generalize (i : Int) = j at *
  by_cases h1 : j < c
  · have hr : decide (j < if g = true then c + 1 else c) = true := by cases g <;> simp <;> omega
    rw [hr]
    clear hr
    go_enter Try.func53, Try.ntmps53
    go_wp2
    go_ret
    exact ⟨rfl, HB.out⟩
  · by_cases h2 : j = c
    · subst h2
      have hr : decide (j < if g = true then j + 1 else j) = g := by cases g <;> simp <;> omega
      rw [hr]
      clear hr
      go_enter Try.func53, Try.ntmps53
      go_wp2
      go_ret
      exact ⟨rfl, HB.out⟩
    · have hr : decide (j < if g = true then c + 1 else c) = false := by cases g <;> simp <;> omega
      rw [hr]
      have hq : (j == c) = false := by simpa using h2
      clear hr h2
      go_enter Try.func53, Try.ntmps53
      go_wp2
      go_ret
      exact ⟨rfl, HB.out⟩
theorem placesOf_any (c k : Int) (n g : Bool) (w : World) (hc : B8 c) :
    Calls Try.prog 46 #[taskV c k n g] w fun e w' => e = .returned (.int .i64 (plI c g)) ∧ Below w.heap.size w w' := by
  unfold B8 at hc
  have HB := Lib.hid ((Below.refl w.heap.size w).alloc (Nat.le_refl _) (.cells #[.int .i8 c, .int .i8 k, .bool n, .bool g] 32))
  unfold plI
  cases g
  · go_enter Try.func46, Try.ntmps46
    go_wp2
    go_ret
    exact ⟨rfl, HB.out⟩
  · go_enter Try.func46, Try.ntmps46
    go_wp2
    go_ret
    exact ⟨rfl, HB.out⟩
set_option maxHeartbeats 4000000 in
theorem l03Weighing_any (c k : Int) (n g : Bool) (x : Nat → Int) (w : World) (hc : B8 c) (hx : W8 x) :
    Calls Try.prog 38 #[taskV c k n g, weigV x] w fun e w' => e = .returned (.bool (okGw c g x)) ∧ Below w.heap.size w w' := by
  have F0 := ((FR.start w).box #[.int .i8 c, .int .i8 k, .bool n, .bool g] 32).box (weigC x) 34
  simp only [World.size_alloc] at F0
  have HT := Lib.hid (fun i W hi => l03There_any c k n g i W hc hi)
  clear hc
  go_enter Try.func38, Try.ntmps38
  go_wp2_with fail
  go_loopw [5, 6] (fun sv iv wr => ∃ i : Nat, iv = .int .i64 (i : Int) ∧ i ≤ 14 ∧ sv = .int .i64 (s14 x i) ∧ Fit c g x i ∧ FR w [(w.heap.size + 1, weigC x, 34), (w.heap.size, #[.int .i8 c, .int .i8 k, .bool n, .bool g], 32)] wr) (fun _ iv _ => 14 - (intOf iv).toNat)
  case atStart => exact ⟨0, rfl, by omega, by simp [s14, sumI], fun i h => absurd h (by omega), F0⟩
  case round =>
    clear F0
    obtain ⟨i, rfl, hi, rfl, hf, F1⟩ := hrel
    have hb := s14_bd x hx i hi
    have HFit := Lib.hid hf
    clear hf
    by_cases hlt : i < 14
    case neg =>
      obtain rfl : i = 14 := by omega
      have HR := Lib.hid (show okGw c g x = (s14 x 14 == 0) from by
        by_cases h : s14 x 14 = 0
        · rw [show okGw c g x = true from cb_t ⟨HFit.out, h⟩]; simp [h]
        · rw [show okGw c g x = false from cb_f (fun h' => h h'.2)]; simp [h])
      have HF := Lib.hid F1.below
      clear F1
      generalize s14 x 14 = s at *
      go_wp2
      go_ret
      exact ⟨retb HR.out.symm, HF.out⟩
    have hiz : (i : Int) < 14 := by omega
    have h1 := Blk.weig (x := x) (F1.blk _ List.mem_cons_self) i hlt
    have hxi := hx i hlt
    have HTi := Lib.hid (fun W => HT.out i W hi)
    have HS := Lib.hid (s14_succ x i hlt)
    have HN := Lib.hid (fun a b => HFit.out.succ (k := i) a b)
    have HX := Lib.hid (show (¬ (-1 ≤ x i ∧ x i ≤ 1) ∨ (x i ≠ 0 ∧ ¬ (i : Int) < plI c g)) → okGw c g x = false from fun h => cb_f (fun h' => by
      have := h'.1 i hlt
      rcases h with h | h
      · exact h this.1
      · exact h.2 (this.2 h.1)))
    dsimp only at h1
    generalize hgx : x i = xi at *
    have HGX := Lib.hid hgx
    clear hgx HFit
    by_cases hs1 : xi < -1
    · have HR := Lib.hid (HX.out (.inl (by omega)))
      have HF := Lib.hid F1.below
      have hd : decide (xi < -1) = true := by simpa using hs1
      clear F1
      go_wp2
      go_ret
      exact ⟨retb HR.out.symm, HF.out⟩
    have hd1 : decide (xi < -1) = false := by simpa using hs1
    by_cases hs2 : 1 < xi
    · have HR := Lib.hid (HX.out (.inl (by omega)))
      have HF := Lib.hid F1.below
      have hd : decide (1 < xi) = true := by simpa using hs2
      clear F1
      go_wp2
      go_ret
      exact ⟨retb HR.out.symm, HF.out⟩
    have hd2 : decide (1 < xi) = false := by simpa using hs2
    by_cases hz : xi = 0
    · have HF := Lib.hid F1
      have HN2 := Lib.hid (HN.out (by omega) (fun h => absurd hz h))
      have hq : (xi != 0) = false := by simpa using hz
      clear F1 hz
      go_wp2
      go_roundw
      case rel => exact ⟨i + 1, by go_num, by omega, by rw [HS.out], HN2.out, HF.out⟩
      case measure => simp [intOf]; omega
    have hq : (xi != 0) = true := by simpa using hz
    obtain ⟨c0, c1, c2, c3, -⟩ := (F1.blk _ (List.mem_cons_of_mem _ List.mem_cons_self)).four
    by_cases hp : (i : Int) < plI c g
    · have HN2 := Lib.hid (HN.out (by omega) (fun _ => hp))
      rw [show decide ((i : Int) < plI c g) = true from by simpa using hp] at HTi
      clear hz hp
      go_wp2_with fail
      refine (HTi.out _).mono ?_
      rintro e w2 ⟨rfl, hb2⟩
      have F2 := F1.next hb2
      have h2 := Blk.weig (x := x) (F2.blk _ List.mem_cons_self) i hlt
      dsimp only at h2
      rw [HGX.out] at h2
      have HF := Lib.hid F2
      clear hb2 F1 F2 c0 c1 c2 c3
      go_wp2
      go_roundw
      case rel => exact ⟨i + 1, by go_num, by omega, by rw [HS.out], HN2.out, HF.out⟩
      case measure => simp [intOf]; omega
    · have HR := Lib.hid (HX.out (.inr ⟨hz, hp⟩))
      rw [show decide ((i : Int) < plI c g) = false from by simpa using hp] at HTi
      clear hz hp
      go_wp2_with fail
      refine (HTi.out _).mono ?_
      rintro e w2 ⟨rfl, hb2⟩
      have HF := Lib.hid (F1.next hb2).below
      clear hb2 F1 c0 c1 c2 c3
      go_wp2
      go_ret
      exact ⟨retb HR.out.symm, HF.out⟩
theorem specValidWeighing_any (c k : Int) (n g : Bool) (x : Nat → Int) (w : World) (hc : B8 c) (hk : B8 k) (hx : W8 x) :
    Calls Try.prog 28 #[taskV c k n g, weigV x] w fun e w' => e = .returned (.bool (okG c k g x)) ∧ Below w.heap.size w w' := by
  have F0 := ((FR.start w).box #[.int .i8 c, .int .i8 k, .bool n, .bool g] 32).box (weigC x) 34
  simp only [World.size_alloc] at F0
  have HV := Lib.hid (fun W => l03Ok_any c k n g W hc hk)
  have HW := Lib.hid (fun W => l03Weighing_any c k n g x W hc hx)
  unfold okG
  clear hc hk hx
  cases hok : okT c k
  · rw [hok] at HV
    simp only [Bool.false_and]
    obtain ⟨c0, c1, c2, c3, -⟩ := (F0.blk _ (List.mem_cons_of_mem _ List.mem_cons_self)).four
    go_enter Try.func28, Try.ntmps28
    go_wp2_with fail
    refine (HV.out _).mono ?_
    rintro e w2 ⟨rfl, hb2⟩
    have HF := Lib.hid (F0.next hb2).below
    clear hb2 F0 c0 c1 c2 c3
    go_wp2
    go_ret
    exact ⟨rfl, HF.out⟩
  · rw [hok] at HV
    simp only [Bool.true_and]
    obtain ⟨c0, c1, c2, c3, -⟩ := (F0.blk _ (List.mem_cons_of_mem _ List.mem_cons_self)).four
    go_enter Try.func28, Try.ntmps28
    go_wp2_with fail
    refine (HV.out _).mono ?_
    rintro e w2 ⟨rfl, hb2⟩
    have F1 := F0.next hb2
    clear hb2 F0 c0 c1 c2 c3
    obtain ⟨c0, c1, c2, c3, -⟩ := (F1.blk _ (List.mem_cons_of_mem _ List.mem_cons_self)).four
    obtain ⟨d0, d1, d2, d3, d4, d5, d6, d7, d8, d9, d10, d11, d12, d13, -⟩ := Blk.fourteen (x := x) (F1.blk _ List.mem_cons_self)
    go_wp2_with fail
    refine (HW.out _).mono ?_
    rintro e w3 ⟨rfl, hb3⟩
    have HF := Lib.hid (F1.next hb3).below
    clear hb3 F1 c0 c1 c2 c3 d0 d1 d2 d3 d4 d5 d6 d7 d8 d9 d10 d11 d12 d13
    go_wp2
    go_ret
    exact ⟨rfl, HF.out⟩
theorem okP_fit (c : Int) (g : Bool) (x : Nat → Int) (h : okP (wl x) = false) : okGw c g x = false := cb_f (fun h' => by
  refine absurd (cb_t (p := OkP (wl x)) ?_) (by rw [show cb (OkP (wl x)) = false from h]; simp)
  intro j hj
  rw [wl_len] at hj
  rw [wl_get x j hj]
  exact (h'.1 j hj).1)
theorem fit_okP (x : Nat → Int) (h : okP (wl x) = true) : ∀ i, i < 14 → -1 ≤ x i ∧ x i ≤ 1 := fun i hi => by
  have := of_cb (p := OkP (wl x)) h i (by rw [wl_len]; exact hi)
  rwa [wl_get x i hi] at this
theorem idx_weig (x : Nat → Int) (i : Nat) (hi : i < 14) (w : World) : (Instr.index 34 (weigV x) (.int .i64 (i : Int))).run Try.prog w = .ok (.int .i8 (x i)) w := by
  have z3 := Try.sizeOf22
  have a3 := Try.isAgg22
  match i, hi with
  | 0, _ => simp [Instr.index, go_sem, z3, a3]
  | 1, _ => simp [Instr.index, go_sem, z3, a3]
  | 2, _ => simp [Instr.index, go_sem, z3, a3]
  | 3, _ => simp [Instr.index, go_sem, z3, a3]
  | 4, _ => simp [Instr.index, go_sem, z3, a3]
  | 5, _ => simp [Instr.index, go_sem, z3, a3]
  | 6, _ => simp [Instr.index, go_sem, z3, a3]
  | 7, _ => simp [Instr.index, go_sem, z3, a3]
  | 8, _ => simp [Instr.index, go_sem, z3, a3]
  | 9, _ => simp [Instr.index, go_sem, z3, a3]
  | 10, _ => simp [Instr.index, go_sem, z3, a3]
  | 11, _ => simp [Instr.index, go_sem, z3, a3]
  | 12, _ => simp [Instr.index, go_sem, z3, a3]
  | 13, _ => simp [Instr.index, go_sem, z3, a3]
set_option maxHeartbeats 4000000 in
theorem validWeighing_any (c k : Int) (n g : Bool) (x : Nat → Int) (w : World) (hc : B8 c) (hk : B8 k) (hx : W8 x) :
    Calls Try.prog 32 #[taskV c k n g, weigV x] w fun e w' => e = .returned (.bool (okG c k g x)) ∧ Below w.heap.size w w' := by
  have F0 := ((FR.start w).box #[.int .i8 c, .int .i8 k, .bool n, .bool g] 32).box (weigC x) 34
  simp only [World.size_alloc] at F0
  have HV := Lib.hid (fun W => validTask_any c k n g W hc hk)
  have HP := Lib.hid (fun W => placesOf_any c k n g W hc)
  have HSg := Lib.hid (fun W (h : Blk W (w.heap.size + 1) (weigC x) 34) => signsOnly_any (w.heap.size + 1) 0 14 (wl x) W (by rw [wl_len]; omega) (fun j hj => by rw [wl_len] at hj; rw [Nat.zero_add, wl_get x j hj]; exact Blk.weig (x := x) h j hj))
  rw [wl_len] at HSg
  unfold okG
  clear hk
  cases hok : okT c k
  · rw [hok] at HV
    simp only [Bool.false_and]
    obtain ⟨c0, c1, c2, c3, -⟩ := (F0.blk _ (List.mem_cons_of_mem _ List.mem_cons_self)).four
    go_enter Try.func32, Try.ntmps32
    go_wp2_with fail
    refine (HV.out _).mono ?_
    rintro e w2 ⟨rfl, hb2⟩
    have HF := Lib.hid (F0.next hb2).below
    clear hb2 F0 c0 c1 c2 c3
    go_wp2
    go_ret
    exact ⟨rfl, HF.out⟩
  · rw [hok] at HV
    simp only [Bool.true_and]
    obtain ⟨c0, c1, c2, c3, -⟩ := (F0.blk _ (List.mem_cons_of_mem _ List.mem_cons_self)).four
    have hplb : -128 ≤ plI c g ∧ plI c g ≤ 128 := by unfold B8 at hc; unfold plI; split <;> omega
    cases hsg : okP (wl x)
    · have HR := Lib.hid (okP_fit c g x hsg)
      rw [hsg] at HSg
      clear hc hx
      go_enter Try.func32, Try.ntmps32
      go_wp2_with fail
      refine (HV.out _).mono ?_
      rintro e w2 ⟨rfl, hb2⟩
      have F1 := F0.next hb2
      clear hb2 F0 c0 c1 c2 c3
      go_wp2_with fail
      refine (HSg.out _ (F1.blk _ List.mem_cons_self)).mono ?_
      rintro e w3 ⟨rfl, rfl⟩
      have HF := Lib.hid F1.below
      clear F1
      go_wp2
      go_ret
      exact ⟨retb HR.out.symm, HF.out⟩
    have HSf := Lib.hid (fit_okP x hsg)
    rw [hsg] at HSg
    clear hc
    go_enter Try.func32, Try.ntmps32
    go_wp2_with fail
    refine (HV.out _).mono ?_
    rintro e w2 ⟨rfl, hb2⟩
    have F1 := F0.next hb2
    clear hb2 F0 c0 c1 c2 c3
    go_wp2_with fail
    refine (HSg.out _ (F1.blk _ List.mem_cons_self)).mono ?_
    rintro e w3 ⟨rfl, rfl⟩
    obtain ⟨d0, d1, d2, d3, d4, d5, d6, d7, d8, d9, d10, d11, d12, d13, -⟩ := Blk.fourteen (x := x) (F1.blk _ List.mem_cons_self)
    go_wp2_with fail
    clear d0 d1 d2 d3 d4 d5 d6 d7 d8 d9 d10 d11 d12 d13
    go_loopw [5, 17] (fun sv iv wr => ∃ i : Nat, iv = .int .i64 (i : Int) ∧ i ≤ 14 ∧ sv = .int .i64 (s14 x i) ∧ Fit c g x i ∧ FR w [(w.heap.size + 1, weigC x, 34), (w.heap.size, #[.int .i8 c, .int .i8 k, .bool n, .bool g], 32)] wr) (fun _ iv _ => 14 - (intOf iv).toNat)
    case atStart => exact ⟨0, rfl, by omega, by simp [s14, sumI], fun i h => absurd h (by omega), F1⟩
    case round =>
      clear F1
      obtain ⟨i, rfl, hi, rfl, hf, F2⟩ := hrel
      have hb := s14_bd x hx i hi
      have HFit := Lib.hid hf
      clear hf
      by_cases hlt : i < 14
      case neg =>
        obtain rfl : i = 14 := by omega
        have HR := Lib.hid (show okGw c g x = (s14 x 14 == 0) from by
          by_cases h : s14 x 14 = 0
          · rw [show okGw c g x = true from cb_t ⟨HFit.out, h⟩]; simp [h]
          · rw [show okGw c g x = false from cb_f (fun h' => h h'.2)]; simp [h])
        have HF := Lib.hid F2.below
        clear F2
        generalize s14 x 14 = s at *
        go_wp2
        go_ret
        exact ⟨retb HR.out.symm, HF.out⟩
      have hiz : (i : Int) < 14 := by omega
      have hxi := HSf.out i hlt
      have hget := fun W => idx_weig x i hlt W
      have HS := Lib.hid (s14_succ x i hlt)
      have HN := Lib.hid (fun b => HFit.out.succ (k := i) hxi b)
      have HX := Lib.hid (show (x i ≠ 0 ∧ ¬ (i : Int) < plI c g) → okGw c g x = false from fun h => cb_f (fun h' => h.2 ((h'.1 i hlt).2 h.1)))
      generalize hgx : x i = xi at *
      have HGX := Lib.hid hgx
      clear hgx HFit
      by_cases hz : xi = 0
      · have HF := Lib.hid F2
        have HN2 := Lib.hid (HN.out (fun h => absurd hz h))
        have hq : (xi != 0) = false := by simpa using hz
        clear F2 hz
        go_wp2
        go_roundw
        case rel => exact ⟨i + 1, by go_num, by omega, by rw [HS.out], HN2.out, HF.out⟩
        case measure => simp [intOf]; omega
      have hq : (xi != 0) = true := by simpa using hz
      obtain ⟨c0, c1, c2, c3, -⟩ := (F2.blk _ (List.mem_cons_of_mem _ List.mem_cons_self)).four
      by_cases hp : (i : Int) < plI c g
      · have HN2 := Lib.hid (HN.out (fun _ => hp))
        have hd : decide (plI c g ≤ (i : Int)) = false := by simpa using hp
        have hpi : ¬ plI c g ≤ (i : Int) := by omega
        clear hz hp
        generalize plI c g = pl at *
        go_wp2_with fail
        refine (HP.out _).mono ?_
        rintro e w4 ⟨rfl, hb2⟩
        have HF := Lib.hid (F2.next hb2)
        clear hb2 F2 c0 c1 c2 c3
        go_wp2
        go_roundw
        case rel => exact ⟨i + 1, by go_num, by omega, by rw [HS.out], HN2.out, HF.out⟩
        case measure => simp [intOf]; omega
      · have HR := Lib.hid (HX.out ⟨hz, hp⟩)
        have hd : decide (plI c g ≤ (i : Int)) = true := by simp; omega
        have hpi : plI c g ≤ (i : Int) := by omega
        clear hz hp
        generalize plI c g = pl at *
        go_wp2_with fail
        refine (HP.out _).mono ?_
        rintro e w4 ⟨rfl, hb2⟩
        have HF := Lib.hid (F2.next hb2).below
        clear hb2 F2 c0 c1 c2 c3
        go_wp2
        go_ret
        exact ⟨retb HR.out.symm, HF.out⟩
end Go.Proofs.Ytlbiakoofpgdmaa
