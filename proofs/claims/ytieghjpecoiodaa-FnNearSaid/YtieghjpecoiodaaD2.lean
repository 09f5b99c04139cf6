/-
  The walks of ValidWord and its model.
-/
import Derived.Test.YtieghjpecoiodaaD1
namespace Go.Proofs.Ytieghjpecoiodaa
open Go.RowKit
set_option maxRecDepth 100000
set_option linter.unusedVariables false

/-- The first k cells of x are letters of a word of l letters. -/
def FitD (l : Int) (x : Nat → Int) (k : Nat) : Prop := ∀ i, i < k → (-1 ≤ x i ∧ x i ≤ 1) ∧ (l ≤ (i : Int) → x i = 0)
def OkD (l : Int) (x : Nat → Int) : Prop := (1 ≤ l ∧ l ≤ 4) ∧ FitD l x 4
noncomputable def okD (l : Int) (x : Nat → Int) : Bool := cb (OkD l x)
theorem FitD.succ {l : Int} {x : Nat → Int} {k : Nat} (h : FitD l x k) (h1 : -1 ≤ x k ∧ x k ≤ 1) (h2 : l ≤ (k : Int) → x k = 0) : FitD l x (k + 1) := fun i hi => by
  by_cases e : i = k
  · subst e; exact ⟨h1, h2⟩
  · exact h i (by omega)
theorem okD_t {l : Int} {x : Nat → Int} (h : okD l x = true) : (1 ≤ l ∧ l ≤ 4) ∧ ∀ i, i < 4 → (-1 ≤ x i ∧ x i ≤ 1) ∧ (l ≤ (i : Int) → x i = 0) := of_cb h
theorem l04Letters_any (l : Int) (w : World) : Calls Try.prog 36 #[.int .i64 l] w fun e w' => e = .returned (.bool (inB l 1 4)) ∧ w = w' := by
  have H := Lib.hid (fun W => l00In_any l 1 4 W)
  generalize inB l 1 4 = r at *
  go_enter Try.func36, Try.ntmps36
  go_wp2_with fail
  refine (H.out _).mono ?_
  rintro e w2 ⟨rfl, rfl⟩
  go_wp2
  go_ret
  exact ⟨rfl, rfl⟩
set_option maxHeartbeats 2000000 in
theorem l04Word_any (l : Int) (x : Nat → Int) (w : World) (hl : -9223372036854775808 ≤ l ∧ l ≤ 9223372036854775807) (hx : W4 x) :
    Calls Try.prog 35 #[.int .i64 l, wordV x] w fun e w' => e = .returned (.bool (okD l x)) ∧ Below w.heap.size w w' := by
  have F0 := (FR.start w).box (wordC x) 40
  have HL := Lib.hid (fun W => l04Letters_any l W)
  have HB := Lib.hid F0.below
  have HK := Lib.hid (F0.blk _ List.mem_cons_self)
  clear F0
  go_enter Try.func35, Try.ntmps35
  go_wp2_with fail
  go_loop [5] (fun iv => ∃ i : Nat, iv = .int .i64 (i : Int) ∧ i ≤ 4 ∧ FitD l x i) (fun iv => 4 - (intOf iv).toNat)
  case atStart => exact ⟨0, rfl, by omega, fun i h => absurd h (by omega)⟩
  case round =>
    obtain ⟨i, rfl, hi, hf⟩ := hrel
    have HFit := Lib.hid hf
    clear hf
    by_cases hlt : i < 4
    case neg =>
      obtain rfl : i = 4 := by omega
      have HR := Lib.hid (show okD l x = inB l 1 4 from by
        unfold okD inB
        by_cases h : 1 ≤ l ∧ l ≤ 4
        · rw [cb_t (p := OkD l x) ⟨h, HFit.out⟩, cb_t h]
        · rw [cb_f (p := OkD l x) (fun h' => h h'.1), cb_f h])
      generalize inB l 1 4 = r at *
      go_wp2_with fail
      refine (HL.out _).mono ?_
      rintro e w2 ⟨rfl, rfl⟩
      go_wp2
      go_ret
      exact ⟨retb HR.out.symm, HB.out⟩
    have hiz : (i : Int) < 4 := by omega
    have h1 := Blk.word (x := x) HK.out i hlt
    have hxi := hx i hlt
    have HN := Lib.hid (fun a b => HFit.out.succ (k := i) a b)
    have HX := Lib.hid (show (¬ (-1 ≤ x i ∧ x i ≤ 1) ∨ (l ≤ (i : Int) ∧ x i ≠ 0)) → okD l x = false from fun h => cb_f (fun h' => by
      have := h'.2 i hlt
      rcases h with h | h
      · exact h this.1
      · exact h.2 (this.2 h.1)))
    generalize hgx : x i = xi at *
    clear hgx HFit hx
    by_cases hs1 : xi < -1
    · have HR := Lib.hid (HX.out (.inl (by omega)))
      have hd : decide (xi < -1) = true := by simpa using hs1
      clear HX
      go_wp2
      go_ret
      exact ⟨retb HR.out.symm, HB.out⟩
    have hd1 : decide (xi < -1) = false := by simpa using hs1
    by_cases hs2 : 1 < xi
    · have HR := Lib.hid (HX.out (.inl (by omega)))
      have hd : decide (1 < xi) = true := by simpa using hs2
      clear HX
      go_wp2
      go_ret
      exact ⟨retb HR.out.symm, HB.out⟩
    have hd2 : decide (1 < xi) = false := by simpa using hs2
    by_cases hq : l ≤ (i : Int)
    · have hd3 : decide (l ≤ (i : Int)) = true := by simpa using hq
      by_cases hz : xi = 0
      · subst hz
        have HN2 := Lib.hid (HN.out (by omega) (fun _ => rfl))
        clear HX HN
        go_wp2
        go_round
        case rel => exact ⟨i + 1, by go_num, by omega, HN2.out⟩
        case measure => simp [intOf]; omega
      · have HR := Lib.hid (HX.out (.inr ⟨hq, hz⟩))
        have hd4 : (xi != 0) = true := by simpa using hz
        clear HX HN
        go_wp2
        go_ret
        exact ⟨retb HR.out.symm, HB.out⟩
    · have hd3 : decide (l ≤ (i : Int)) = false := by simpa using hq
      have HN2 := Lib.hid (HN.out (by omega) (fun h => absurd h hq))
      clear HX HN
      go_wp2
      go_round
      case rel => exact ⟨i + 1, by go_num, by omega, HN2.out⟩
      case measure => simp [intOf]; omega
/-- The index of the first number that isn't 0; -1 if there is none. -/
def AllZ (xs : List Int) (k : Nat) : Prop := ∀ j, j < k → xs.getD j 0 = 0
noncomputable def allZ (xs : List Int) : Bool := cb (AllZ xs xs.length)
theorem vw1_any (x : Int) (w : World) : Calls Try.prog 68 #[.int .i8 x] w fun e w' => e = .returned (.bool (x != 0)) ∧ w = w' := by
  go_enter Try.func68, Try.ntmps68
  go_wp2
  go_ret
  exact ⟨rfl, rfl⟩
set_option maxHeartbeats 2000000 in
theorem indexZ_any (b off c : Nat) (xs : List Int) (w : World) (hn : xs.length ≤ 1048576) (hc : At .i8 w b off xs) :
    Calls Try.prog 72 #[.slice (some ⟨b, off, none⟩) xs.length c, .func (.func 68) #[] #[]] w fun e w' => ∃ r : Int, e = .returned (.int .i64 r) ∧ (decide (0 ≤ r) = !(allZ xs)) ∧ w = w' := by
  go_enter Try.func72, Try.ntmps72
  go_wp2
  go_loopw [8] (fun i wr => ∃ k : Nat, i = .int .i64 k ∧ k ≤ xs.length ∧ AllZ xs k ∧ wr = w) (fun i _ => xs.length - (intOf i).toNat)
  case atStart => exact ⟨0, rfl, Nat.zero_le _, fun j h => absurd h (by omega), rfl⟩
  case round =>
    obtain ⟨k, rfl, hk, hno, rfl⟩ := hrel
    have HN := Lib.hid hno
    clear hno
    by_cases hlt : k < xs.length
    · have h1 := hc k hlt
      have hkl : (k : Int) < (xs.length : Int) := by omega
      have HC := Lib.hid (fun y W => vw1_any y W)
      by_cases hz : xs.getD k 0 = 0
      · have HNN := Lib.hid (show AllZ xs (k + 1) from fun j hj => by
          by_cases e : j = k
          · subst e; exact hz
          · exact HN.out j (by omega))
        rw [hz] at h1
        clear hz
        go_wp2_with fail
        refine (HC.out _ _).mono ?_
        rintro e w2 ⟨rfl, rfl⟩
        go_wp2
        go_roundw
        case rel => exact ⟨k + 1, by go_num, by omega, HNN.out, trivial⟩
        case measure => simp [intOf]; omega
      · have HR := Lib.hid (show allZ xs = false from cb_f (fun h => hz (h k hlt)))
        have hne : (xs.getD k 0 != 0) = true := by simpa using hz
        generalize xs.getD k 0 = y at *
        clear hz
        go_wp2_with fail
        refine (HC.out _ _).mono ?_
        rintro e w2 ⟨rfl, rfl⟩
        go_wp2
        go_ret
        exact ⟨k, rfl, by rw [HR.out]; simp, rfl⟩
    · have HR := Lib.hid (show allZ xs = true from cb_t (fun j hj => HN.out j (by omega)))
      go_wp2
      go_ret
      exact ⟨-1, rfl, by rw [HR.out]; rfl, rfl⟩
theorem containsZ_any (b off c : Nat) (xs : List Int) (w : World) (hn : xs.length ≤ 1048576) (hc : At .i8 w b off xs) :
    Calls Try.prog 67 #[.slice (some ⟨b, off, none⟩) xs.length c, .func (.func 68) #[] #[]] w fun e w' => e = .returned (.bool (!(allZ xs))) ∧ w = w' := by
  have H := Lib.hid (fun W hc => indexZ_any b off c xs W hn hc)
  go_enter Try.func67, Try.ntmps67
  go_wp2_with fail
  refine (H.out _ hc).mono ?_
  rintro e w2 ⟨r, rfl, hr, rfl⟩
  have HR := Lib.hid hr
  clear hr
  go_wp2
  go_ret
  exact ⟨retb HR.out, rfl⟩
/-- The four cells as a list. -/
def dl (x : Nat → Int) : List Int := [x 0, x 1, x 2, x 3]
theorem dl_get (x : Nat → Int) (i : Nat) (hi : i < 4) : (dl x).getD i 0 = x i := by
  match i, hi with
  | 0, _ => rfl
  | 1, _ => rfl
  | 2, _ => rfl
  | 3, _ => rfl
theorem dl_drop (x : Nat → Int) (l i : Nat) (hi : l + i < 4) : ((dl x).drop l).getD i 0 = x (l + i) := by
  rw [List.getD_eq_getElem?_getD, List.getElem?_drop, ← List.getD_eq_getElem?_getD, dl_get x _ hi]
theorem okD_parts (l : Nat) (x : Nat → Int) (hl : 1 ≤ l ∧ l ≤ 4) : okD l x = (okP (dl x) && allZ ((dl x).drop l)) := by
  have hlen : ((dl x).drop l).length = 4 - l := by simp [dl]
  have h : OkD l x ↔ OkP (dl x) ∧ AllZ ((dl x).drop l) ((dl x).drop l).length := by
    constructor
    · intro h
      refine ⟨fun j hj => ?_, fun j hj => ?_⟩
      · rw [dl_get x j (by simpa [dl] using hj)]; exact (h.2 j (by simpa [dl] using hj)).1
      · rw [hlen] at hj
        rw [dl_drop x l j (by omega)]
        exact (h.2 (l + j) (by omega)).2 (by omega)
    · intro h
      refine ⟨by omega, fun j hj => ⟨?_, fun hlj => ?_⟩⟩
      · have := h.1 j (by simpa [dl] using hj)
        rwa [dl_get x j hj] at this
      · have := h.2 (j - l) (by rw [hlen]; omega)
        rwa [dl_drop x l (j - l) (by omega), show l + (j - l) = j by omega] at this
  exact cb_and h
theorem okD_out (l : Int) (x : Nat → Int) (h : ¬ (1 ≤ l ∧ l ≤ 4)) : okD l x = false := cb_f (fun h' => h h'.1)
set_option maxHeartbeats 2000000 in
theorem validWord_any (l : Int) (x : Nat → Int) (w : World) (hl : -9223372036854775808 ≤ l ∧ l ≤ 9223372036854775807) (hx : W4 x) :
    Calls Try.prog 55 #[.int .i64 l, wordV x] w fun e w' => e = .returned (.bool (okD l x)) ∧ Below w.heap.size w w' := by
  have F0 := (FR.start w).box (wordC x) 40
  have HB := Lib.hid F0.below
  have HK := Lib.hid (F0.blk _ List.mem_cons_self)
  clear F0
  have HW := Lib.hid (fun W => within_any l 1 4 W)
  by_cases hl4 : 1 ≤ l ∧ l ≤ 4
  · rw [show inB l 1 4 = true from cb_t hl4] at HW
    obtain ⟨n, rfl⟩ : ∃ n : Nat, l = n := ⟨l.toNat, by omega⟩
    have hn4 : 1 ≤ n ∧ n ≤ 4 := by omega
    have HR := Lib.hid (okD_parts n x hn4)
    have HS := Lib.hid (signsOnly_any w.heap.size 0 4 (dl x) (w.alloc (.cells (wordC x) 40)) (by simp [dl]) (fun j hj => by
      rw [Nat.zero_add, dl_get x j (by simpa [dl] using hj)]
      exact Blk.word (x := x) HK.out j (by simpa [dl] using hj)))
    have hlen : ((dl x).drop n).length = 4 - n := by simp [dl]
    by_cases h4 : n = 4
    · subst h4
      have HC := Lib.hid (containsZ_any w.heap.size 0 0 [] (w.alloc (.cells (wordC x) 40)) (by simp) (fun j hj => by simp at hj))
      rw [show allZ [] = true from cb_t (fun j hj => by simp at hj)] at HC
      rw [show (dl x).drop 4 = [] from rfl, show allZ [] = true from cb_t (fun j hj => by simp at hj)] at HR
      rw [show (dl x).length = 4 from rfl] at HS
      generalize okP (dl x) = r at *
      clear hlen hl hx
      go_enter Try.func55, Try.ntmps55
      go_wp2_with fail
      refine (HW.out _).mono ?_
      rintro e w2 ⟨rfl, rfl⟩
      go_wp2_with fail
      refine HS.out.mono ?_
      rintro e w2 ⟨rfl, rfl⟩
      cases r
      · go_wp2
        go_ret
        exact ⟨retb (by rw [HR.out]; rfl), HB.out⟩
      · go_wp2_with fail
        refine HC.out.mono ?_
        rintro e w2 ⟨rfl, rfl⟩
        go_wp2
        go_ret
        exact ⟨retb (by rw [HR.out]; simp), HB.out⟩
    have hn3 : n < 4 := by omega
    have hn3z : (n : Int) < 4 := by omega
    have hne : (4 - n == 0) = false := by simp; omega
    have HC := Lib.hid (containsZ_any w.heap.size n (4 - n) ((dl x).drop n) (w.alloc (.cells (wordC x) 40)) (by omega) (fun j hj => by
      rw [hlen] at hj
      rw [dl_drop x n j (by omega)]
      exact Blk.word (x := x) HK.out (n + j) (by omega)))
    rw [hlen] at HC
    rw [show (dl x).length = 4 from rfl] at HS
    generalize okP (dl x) = r at *
    generalize allZ ((dl x).drop n) = s at *
    clear hlen hl hx
    go_enter Try.func55, Try.ntmps55
    go_wp2_with fail
    refine (HW.out _).mono ?_
    rintro e w2 ⟨rfl, rfl⟩
    go_wp2_with fail
    refine HS.out.mono ?_
    rintro e w2 ⟨rfl, rfl⟩
    cases r
    · go_wp2
      go_ret
      exact ⟨retb (by rw [HR.out]; rfl), HB.out⟩
    · go_wp2_with fail
      refine HC.out.mono ?_
      rintro e w2 ⟨rfl, rfl⟩
      go_wp2
      go_ret
      exact ⟨retb (by rw [HR.out]; simp), HB.out⟩
  · rw [show inB l 1 4 = false from cb_f hl4] at HW
    have HR := Lib.hid (okD_out l x hl4)
    go_enter Try.func55, Try.ntmps55
    go_wp2_with fail
    refine (HW.out _).mono ?_
    rintro e w2 ⟨rfl, rfl⟩
    go_wp2
    go_ret
    exact ⟨retb HR.out.symm, HB.out⟩
end Go.Proofs.Ytieghjpecoiodaa
