/-
  The walks of MovesText's model.
-/
import Derived.Test.YtadegplgmicaoaaTWord
namespace Go.Proofs.Ytadegplgmicaoaa
open Go.RowKit
set_option maxRecDepth 100000
set_option linter.unusedVariables false

def OkAt (ms : List Mv) (j : Nat) : Prop := OkM 4 (mvI ms j).1 (mvI ms j).2.1 (mvI ms j).2.2
def OkUp (ms : List Mv) (k : Nat) : Prop := ∀ j, j < k → OkAt ms j
theorem OkUp.snoc {ms : List Mv} {k : Nat} (h : OkUp ms k) (h1 : OkAt ms k) : OkUp ms (k + 1) := fun j hj => by
  by_cases e : j = k
  · rw [e]; exact h1
  · exact h j (by omega)
/-- Moves that have a text. -/
def OkT (ms : List Mv) : Prop := ms.length ≤ 200 ∧ OkUp ms ms.length
/-- The text of the first k moves. -/
def accB (ms : List Mv) : Nat → ByteArray
  | 0 => ⟨#[]⟩
  | k + 1 => (if 0 < k then accB ms k ++ ⟨#[32]⟩ else accB ms k) ++ wordB (mvI ms k).1 (mvI ms k).2.1 (mvI ms k).2.2
noncomputable def mtB (ms : List Mv) : ByteArray := if cb (OkT ms) = true then accB ms ms.length else ⟨#[]⟩
theorem wordB_size (k f t : Int) : (wordB k f t).size ≤ 3 := by
  unfold wordB
  split
  · rw [ByteArray.size_append, ByteArray.size_append]; exact Nat.le_refl 3
  · split
    · rw [ByteArray.size_append]; exact Nat.le_succ 2
    · rw [ByteArray.size_append]; exact Nat.le_succ 2
theorem accB_size (ms : List Mv) (k : Nat) : (accB ms k).size ≤ 4 * k := by
  induction k with
  | zero => exact Nat.le_refl 0
  | succ k ih =>
    unfold accB
    have h := wordB_size (mvI ms k).1 (mvI ms k).2.1 (mvI ms k).2.2
    rw [ByteArray.size_append]
    split
    · rw [ByteArray.size_append]
      have : (⟨#[32]⟩ : ByteArray).size = 1 := rfl
      omega
    · omega
theorem l02Jug_any (f : Int) (w : World) (hf : -128 ≤ f ∧ f ≤ 127) : Calls Try.prog 17 #[.int .i8 f] w fun e w' => e = .returned (.bool (inB f 0 3)) ∧ w = w' := by
  have HI := Lib.hid (fun W => l00In_any f 0 3 W)
  generalize inB f 0 3 = r at *
  go_enter Try.func17, Try.ntmps17
  go_wp2_with (go_at_call 16; refine (HI.out _).mono ?_; rintro e w' ⟨rfl, rfl⟩)
  go_ret
  exact ⟨rfl, rfl⟩
theorem okM4 (k f g : Int) : OkM 4 k f g ↔ (inB k 0 2 = true ∧ inB f 0 3 = true ∧ inB g 0 3 = true) ∧ ¬ (k ≠ 0 ∧ g ≠ 0) := by
  constructor
  · rintro ⟨h1, h2⟩
    refine ⟨⟨cb_t ?_, cb_t ?_, cb_t ?_⟩, ?_⟩
    · rcases h2 with h | h | h <;> omega
    · omega
    · rcases h2 with h | h | h <;> omega
    · rintro ⟨a, b⟩; rcases h2 with h | h | h <;> omega
  · rintro ⟨⟨h1, h2, h3⟩, h4⟩
    have a1 : 0 ≤ k ∧ k ≤ 2 := of_cb h1
    have a2 : 0 ≤ f ∧ f ≤ 3 := of_cb h2
    have a3 : 0 ≤ g ∧ g ≤ 3 := of_cb h3
    refine ⟨by omega, ?_⟩
    by_cases hk : k = 0
    · exact .inl ⟨hk, by omega⟩
    · have hg : g = 0 := by
        by_cases e : g = 0
        · exact e
        · exact absurd ⟨hk, e⟩ h4
      rcases (show k = 1 ∨ k = 2 by omega) with h | h
      · exact .inr (.inl ⟨h, hg⟩)
      · exact .inr (.inr ⟨h, hg⟩)
theorem l02Moves_any (b off c : Nat) (ms : List Mv) (w : World) (hn : ms.length ≤ 1048576) (hb : b < w.heap.size) (hc : MAt w b off ms) (hM : Mall ms) :
    Calls Try.prog 9 #[.slice (some ⟨b, off, none⟩) ms.length c] w fun e w' => e = .returned (.bool (cb (OkT ms))) ∧ Below w.heap.size w w' := by
  have HM := Lib.hid hM
  clear hM
  go_enter Try.func9, Try.ntmps9
  go_wp2
  go_loopw [3] (fun i wr => ∃ k : Nat, i = .int .i64 k ∧ k ≤ ms.length ∧ OkUp ms k ∧ Below w.heap.size w wr) (fun i _ => ms.length - (intOf i).toNat)
  case atStart => exact ⟨0, rfl, Nat.zero_le _, fun j h => absurd h (by omega), Below.refl _ _⟩
  case round =>
    obtain ⟨k, rfl, hk, hup, hB⟩ := hrel
    have HU := Lib.hid hup
    clear hup
    by_cases hlt : k < ms.length
    · obtain ⟨c0, c1, c2⟩ := (hc.below hB hb) k hlt
      have hkl : (k : Int) < (ms.length : Int) := by omega
      have hkb := (HM.out k).bk
      have hfb := (HM.out k).bf
      have hgb := (HM.out k).bg
      have HOK := Lib.hid (okM4 (mvI ms k).1 (mvI ms k).2.1 (mvI ms k).2.2)
      have HAT := Lib.hid (show OkAt ms k ↔ OkM 4 (mvI ms k).1 (mvI ms k).2.1 (mvI ms k).2.2 from Iff.rfl)
      have HBA := Lib.hid (hB.alloc hB.size (.cells #[.int .i8 (mvI ms k).1, .int .i8 (mvI ms k).2.1, .int .i8 (mvI ms k).2.2] 32))
      generalize (mvI ms k).1 = v0 at *
      generalize (mvI ms k).2.1 = v1 at *
      generalize (mvI ms k).2.2 = v2 at *
      have HIK := Lib.hid (fun W => l00In_any v0 0 2 W)
      have HIF := Lib.hid (fun W => l02Jug_any v1 W hfb)
      have HIG := Lib.hid (fun W => l02Jug_any v2 W hgb)
      have HBAD := Lib.hid (show ¬ OkM 4 v0 v1 v2 → cb (OkT ms) = false from fun h => cb_f (fun h2 => h (HAT.out.1 (h2.2 k hlt))))
      generalize hA : inB v0 0 2 = A at *
      generalize hBq : inB v1 0 3 = Bq at *
      generalize hCq : inB v2 0 3 = Cq at *
      have HABC := Lib.hid (And.intro hA (And.intro hBq hCq))
      clear hA hBq hCq hB
      cases A
      · have hbad := Lib.hid (HBAD.out (fun h => by have := (HOK.out.1 h).1.1; cases this))
        go_wp2_with (go_at_call 16; refine (HIK.out _).mono ?_; rintro e w' ⟨rfl, rfl⟩)
        go_ret
        exact ⟨by rw [hbad.out]; rfl, HBA.out⟩
      cases Bq
      · have hbad := Lib.hid (HBAD.out (fun h => by have := (HOK.out.1 h).1.2.1; cases this))
        go_wp2_with (first | (go_at_call 16; refine (HIK.out _).mono ?_; rintro e w' ⟨rfl, rfl⟩) | (go_at_call 17; refine (HIF.out _).mono ?_; rintro e w' ⟨rfl, rfl⟩))
        go_ret
        exact ⟨by rw [hbad.out]; rfl, HBA.out⟩
      cases Cq
      · have hbad := Lib.hid (HBAD.out (fun h => by have := (HOK.out.1 h).1.2.2; cases this))
        go_wp2_with (first | (go_at_call 16; with_reducible refine (HIK.out _).mono ?_; rintro e w' ⟨rfl, rfl⟩) | (go_at_call 17; with_reducible refine (HIF.out _).mono ?_; rintro e w' ⟨rfl, rfl⟩) | (go_at_call 17; with_reducible refine (HIG.out _).mono ?_; rintro e w' ⟨rfl, rfl⟩))
        go_ret
        exact ⟨by rw [hbad.out]; rfl, HBA.out⟩
      by_cases hkg : v0 ≠ 0 ∧ v2 ≠ 0
      · have hbad := Lib.hid (HBAD.out (fun h => (HOK.out.1 h).2 hkg))
        have e1 : (v0 != 0) = true := by simpa using hkg.1
        have e2 : (v2 != 0) = true := by simpa using hkg.2
        clear hkg
        go_wp2_with (first | (go_at_call 16; with_reducible refine (HIK.out _).mono ?_; rintro e w' ⟨rfl, rfl⟩) | (go_at_call 17; with_reducible refine (HIF.out _).mono ?_; rintro e w' ⟨rfl, rfl⟩) | (go_at_call 17; with_reducible refine (HIG.out _).mono ?_; rintro e w' ⟨rfl, rfl⟩))
        go_ret
        exact ⟨by rw [hbad.out]; rfl, HBA.out⟩
      have HUN := Lib.hid (HU.out.snoc (HAT.out.2 (HOK.out.2 ⟨⟨rfl, rfl, rfl⟩, hkg⟩)))
      by_cases hv0 : v0 = 0
      · subst hv0
        clear hkg
        go_wp2_with (first | (go_at_call 16; with_reducible refine (HIK.out _).mono ?_; rintro e w' ⟨rfl, rfl⟩) | (go_at_call 17; with_reducible refine (HIF.out _).mono ?_; rintro e w' ⟨rfl, rfl⟩) | (go_at_call 17; with_reducible refine (HIG.out _).mono ?_; rintro e w' ⟨rfl, rfl⟩))
        go_roundw
        case rel => exact ⟨k + 1, by go_num, by omega, HUN.out, HBA.out⟩
        case measure => simp [intOf]; omega
      · have hv2 : v2 = 0 := by
          by_cases e : v2 = 0
          · exact e
          · exact absurd ⟨hv0, e⟩ hkg
        have e1 : (v0 != 0) = true := by simpa using hv0
        subst hv2
        clear hkg hv0
        go_wp2_with (first | (go_at_call 16; with_reducible refine (HIK.out _).mono ?_; rintro e w' ⟨rfl, rfl⟩) | (go_at_call 17; with_reducible refine (HIF.out _).mono ?_; rintro e w' ⟨rfl, rfl⟩) | (go_at_call 17; with_reducible refine (HIG.out _).mono ?_; rintro e w' ⟨rfl, rfl⟩))
        go_roundw
        case rel => exact ⟨k + 1, by go_num, by omega, HUN.out, HBA.out⟩
        case measure => simp [intOf]; omega
    · have hkk : k = ms.length := by omega
      have hres : cb (OkT ms) = decide ((ms.length : Int) ≤ 200) := by
        by_cases h : ms.length ≤ 200
        · rw [cb_t (p := OkT ms) ⟨h, by rw [← hkk]; exact HU.out⟩]; simp; omega
        · rw [cb_f (p := OkT ms) (fun h2 => h h2.1)]; simp; omega
      have HRES := Lib.hid hres
      clear hres hkk
      go_wp2
      go_ret
      exact ⟨by rw [HRES.out]; rfl, hB⟩
theorem l02MovesText_any (b off c : Nat) (ms : List Mv) (w : World) (hb : b < w.heap.size) (hc : MAt w b off ms) (hO : OkT ms) :
    Calls Try.prog 10 #[.slice (some ⟨b, off, none⟩) ms.length c] w fun e w' => e = .returned (.string (accB ms ms.length)) ∧ Below w.heap.size w w' := by
  have hl2 := hO.1
  have HO := Lib.hid hO.2
  clear hO
  go_enter Try.func10, Try.ntmps10
  go_wp2
  go_loopw [3, 4] (fun s i wr => ∃ k : Nat, i = .int .i64 k ∧ k ≤ ms.length ∧ s = .string (accB ms k) ∧ Below w.heap.size w wr) (fun _ i _ => ms.length - (intOf i).toNat)
  case atStart => exact ⟨0, rfl, Nat.zero_le _, rfl, Below.refl _ _⟩
  case round =>
    obtain ⟨k, rfl, hk, rfl, hB⟩ := hrel
    by_cases hlt : k < ms.length
    · obtain ⟨c0, c1, c2⟩ := (hc.below hB hb) k hlt
      have hkl : (k : Int) < (ms.length : Int) := by omega
      have hok := HO.out k hlt
      have hsz := accB_size ms k
      have HS := Lib.hid (show accB ms (k + 1) = (if 0 < k then accB ms k ++ ⟨#[32]⟩ else accB ms k) ++ wordB (mvI ms k).1 (mvI ms k).2.1 (mvI ms k).2.2 from rfl)
      have HBA := Lib.hid (hB.alloc hB.size (.cells #[.int .i8 (mvI ms k).1, .int .i8 (mvI ms k).2.1, .int .i8 (mvI ms k).2.2] 32))
      have hbs := hB.size
      unfold OkAt at hok
      generalize (mvI ms k).1 = v0 at *
      generalize (mvI ms k).2.1 = v1 at *
      generalize (mvI ms k).2.2 = v2 at *
      clear hB
      obtain ⟨pre, hpre, hps, HPRE⟩ : ∃ pre : ByteArray, (if 0 < k then accB ms k ++ ⟨#[32]⟩ else accB ms k) = pre ∧ pre.size ≤ 801 ∧ ∀ W : World, 0 < k → (Op.stringOp .add (accB ms k) ⟨#[32]⟩).run Try.prog W = .ok (.string pre) W := by
        refine ⟨_, rfl, ?_, fun W h => ?_⟩
        · split
          · rw [ByteArray.size_append]; have : (⟨#[32]⟩ : ByteArray).size = 1 := rfl; omega
          · omega
        · rw [if_pos h]
          exact run_string_add_sum W _ _ (by have : (⟨#[32]⟩ : ByteArray).size = 1 := rfl; omega)
      rw [hpre] at HS
      have hpre0 : k = 0 → accB ms k = pre := fun h => by rw [← hpre, if_neg (by omega)]
      clear hpre
      obtain ⟨fn, rfl⟩ : ∃ fn : Nat, v1 = fn := ⟨v1.toNat, by have := hok.1; omega⟩
      have hf4 : fn < 4 := by have := hok.1; omega
      have HL := Lib.hid (fun W => l02Letter_any fn hf4 W)
      rcases hok.2 with ⟨rfl, ht⟩ | ⟨rfl, rfl⟩ | ⟨rfl, rfl⟩
      · obtain ⟨tn, rfl⟩ : ∃ tn : Nat, v2 = tn := ⟨v2.toNat, by omega⟩
        have ht4 : tn < 4 := by omega
        have HT := Lib.hid (fun W => l02Letter_any tn ht4 W)
        rw [show wordB 0 fn tn = letB fn ++ ⟨#[62]⟩ ++ letB tn from rfl] at HS
        have hq1 := fun W => run_string_add_sum (P := Try.prog) W (letB fn) ⟨#[62]⟩ (by rw [show (letB fn).size = 1 from rfl]; decide)
        have hq2 := fun W => run_string_add_sum (P := Try.prog) W (letB fn ++ ⟨#[62]⟩) (letB tn) (by rw [ByteArray.size_append, show (letB fn).size = 1 from rfl, show (letB tn).size = 1 from rfl]; decide)
        have hq3 := fun W => run_string_add_sum (P := Try.prog) W pre (letB fn ++ ⟨#[62]⟩ ++ letB tn) (by rw [ByteArray.size_append, ByteArray.size_append, show (letB fn).size = 1 from rfl, show (letB tn).size = 1 from rfl, show (⟨#[62]⟩ : ByteArray).size = 1 from rfl]; omega)
        clear hok ht
        generalize letB fn = lf at *
        generalize letB tn = lt at *
        by_cases hk0 : k = 0
        · rw [hpre0 hk0]
          have hz0 : ¬ (0 : Int) < (k : Int) := by omega
          clear HPRE hpre0 hk0
          go_upto_region 10 with fail
          have K0 : Blk (wr.alloc (.cells #[.int .i8 0, .int .i8 fn, .int .i8 tn] 32)).drew wr.heap.size #[.int .i8 0, .int .i8 fn, .int .i8 tn] 32 := blk_new wr _ _
          have HB0 := Lib.hid (show Below w.heap.size w (wr.alloc (.cells #[.int .i8 0, .int .i8 fn, .int .i8 tn] 32)).drew from HBA.out.drew)
          go_region_held3 (fun W' => W'.cell? ⟨wr.heap.size, 1, none⟩ = some (.int .i8 fn) ∧ W'.cell? ⟨wr.heap.size, 2, none⟩ = some (.int .i8 tn))
            (first | exact ⟨K5.cell 1, K5.cell 2⟩ | exact ⟨K4.cell 1, K4.cell 2⟩ | exact ⟨K0.cell 1, K0.cell 2⟩)
            (first
              | (go_at_call 18; with_reducible refine (HL.out (wr.alloc (.cells #[.int .i8 0, .int .i8 fn, .int .i8 tn] 32)).drew).mono ?_; rintro e w4 ⟨rfl, hb4⟩; have K4 := K0.below hb4 K0.lt; have HB4 := Lib.hid (HB0.out.trans (hb4.mono HB0.out.size)))
              | (go_at_call 18; with_reducible refine (HT.out w4).mono ?_; rintro e w5 ⟨rfl, hb5⟩; have K5 := K4.below hb5 K4.lt; have HB5 := Lib.hid (HB4.out.trans (hb5.mono HB4.out.size))))
          clear K0 K4 K5 hb4 hb5
          go_wp2
          go_roundw
          case rel => exact ⟨k + 1, by go_num, by omega, by rw [HS.out], HB5.out⟩
          case measure => simp [intOf]; omega
        · have hk0' : (0 : Int) < (k : Int) := by omega
          have hadd := fun W => HPRE W (by omega)
          have hz0 : (0 : Int) < (k : Int) := by omega
          clear hk0 HPRE hpre0
          go_upto_region 10 with fail
          have K0 : Blk (wr.alloc (.cells #[.int .i8 0, .int .i8 fn, .int .i8 tn] 32)).drew wr.heap.size #[.int .i8 0, .int .i8 fn, .int .i8 tn] 32 := blk_new wr _ _
          have HB0 := Lib.hid (show Below w.heap.size w (wr.alloc (.cells #[.int .i8 0, .int .i8 fn, .int .i8 tn] 32)).drew from HBA.out.drew)
          go_region_held3 (fun W' => W'.cell? ⟨wr.heap.size, 1, none⟩ = some (.int .i8 fn) ∧ W'.cell? ⟨wr.heap.size, 2, none⟩ = some (.int .i8 tn))
            (first | exact ⟨K5.cell 1, K5.cell 2⟩ | exact ⟨K4.cell 1, K4.cell 2⟩ | exact ⟨K0.cell 1, K0.cell 2⟩)
            (first
              | (go_at_call 18; with_reducible refine (HL.out (wr.alloc (.cells #[.int .i8 0, .int .i8 fn, .int .i8 tn] 32)).drew).mono ?_; rintro e w4 ⟨rfl, hb4⟩; have K4 := K0.below hb4 K0.lt; have HB4 := Lib.hid (HB0.out.trans (hb4.mono HB0.out.size)))
              | (go_at_call 18; with_reducible refine (HT.out w4).mono ?_; rintro e w5 ⟨rfl, hb5⟩; have K5 := K4.below hb5 K4.lt; have HB5 := Lib.hid (HB4.out.trans (hb5.mono HB4.out.size))))
          clear K0 K4 K5 hb4 hb5
          go_wp2
          go_roundw
          case rel => exact ⟨k + 1, by go_num, by omega, by rw [HS.out], HB5.out⟩
          case measure => simp [intOf]; omega
      · rw [show wordB 1 fn 0 = ⟨#[43]⟩ ++ letB fn from rfl] at HS
        have hq1 := fun W => run_string_add_sum (P := Try.prog) W ⟨#[43]⟩ (letB fn) (by rw [show (letB fn).size = 1 from rfl]; decide)
        have hq3 := fun W => run_string_add_sum (P := Try.prog) W pre (⟨#[43]⟩ ++ letB fn) (by rw [ByteArray.size_append, show (letB fn).size = 1 from rfl, show (⟨#[43]⟩ : ByteArray).size = 1 from rfl]; omega)
        clear hok
        generalize letB fn = lf at *
        by_cases hk0 : k = 0
        · rw [hpre0 hk0]
          have hz0 : ¬ (0 : Int) < (k : Int) := by omega
          clear HPRE hpre0 hk0
          go_wp2_with fail
          refine (HL.out _).mono ?_
          rintro e w4 ⟨rfl, hb4⟩
          have HB4 := Lib.hid (HBA.out.trans (hb4.mono HBA.out.size))
          clear hb4
          go_wp2
          go_roundw
          case rel => exact ⟨k + 1, by go_num, by omega, by rw [HS.out], HB4.out⟩
          case measure => simp [intOf]; omega
        · have hk0' : (0 : Int) < (k : Int) := by omega
          have hadd := fun W => HPRE W (by omega)
          have hz0 : (0 : Int) < (k : Int) := by omega
          clear hk0 HPRE hpre0
          go_wp2_with fail
          refine (HL.out _).mono ?_
          rintro e w4 ⟨rfl, hb4⟩
          have HB4 := Lib.hid (HBA.out.trans (hb4.mono HBA.out.size))
          clear hb4
          go_wp2
          go_roundw
          case rel => exact ⟨k + 1, by go_num, by omega, by rw [HS.out], HB4.out⟩
          case measure => simp [intOf]; omega
      · rw [show wordB 2 fn 0 = ⟨#[45]⟩ ++ letB fn from rfl] at HS
        have hq1 := fun W => run_string_add_sum (P := Try.prog) W ⟨#[45]⟩ (letB fn) (by rw [show (letB fn).size = 1 from rfl]; decide)
        have hq3 := fun W => run_string_add_sum (P := Try.prog) W pre (⟨#[45]⟩ ++ letB fn) (by rw [ByteArray.size_append, show (letB fn).size = 1 from rfl, show (⟨#[45]⟩ : ByteArray).size = 1 from rfl]; omega)
        clear hok
        generalize letB fn = lf at *
        by_cases hk0 : k = 0
        · rw [hpre0 hk0]
          have hz0 : ¬ (0 : Int) < (k : Int) := by omega
          clear HPRE hpre0 hk0
          go_wp2_with fail
          refine (HL.out _).mono ?_
          rintro e w4 ⟨rfl, hb4⟩
          have HB4 := Lib.hid (HBA.out.trans (hb4.mono HBA.out.size))
          clear hb4
          go_wp2
          go_roundw
          case rel => exact ⟨k + 1, by go_num, by omega, by rw [HS.out], HB4.out⟩
          case measure => simp [intOf]; omega
        · have hk0' : (0 : Int) < (k : Int) := by omega
          have hadd := fun W => HPRE W (by omega)
          have hz0 : (0 : Int) < (k : Int) := by omega
          clear hk0 HPRE hpre0
          go_wp2_with fail
          refine (HL.out _).mono ?_
          rintro e w4 ⟨rfl, hb4⟩
          have HB4 := Lib.hid (HBA.out.trans (hb4.mono HBA.out.size))
          clear hb4
          go_wp2
          go_roundw
          case rel => exact ⟨k + 1, by go_num, by omega, by rw [HS.out], HB4.out⟩
          case measure => simp [intOf]; omega
    · have hkk : k = ms.length := by omega
      subst hkk
      go_wp2
      go_ret
      exact ⟨rfl, hB⟩
end Go.Proofs.Ytadegplgmicaoaa
