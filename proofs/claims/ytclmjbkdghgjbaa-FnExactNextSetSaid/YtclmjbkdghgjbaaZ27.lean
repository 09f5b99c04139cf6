/-
  The set of the first candidates: definitions; the model's walk.
-/
import Derived.Test.YtclmjbkdghgjbaaZ25
import Derived.Test.YtclmjbkdghgjbaaZ21
namespace Go.Proofs.Ytclmjbkdghgjbaa
open Go.RowKit
set_option maxRecDepth 100000
set_option linter.unusedVariables false

/-- A set with one number more. -/
def put1 (s : Int) (k : Nat) : Int := bits .or .u64 s (IntKind.u64.wrap (2 ^ k))
theorem put1_u (s : Int) (k : Nat) : U64 (put1 s k) := by
  unfold put1 U64
  rw [bits64_or]
  have := (bw s ||| bw (IntKind.u64.wrap (2 ^ k))).isLt
  omega
/-- What is left of the ask, and the set so far. -/
def sfStep (qs : List Ak) (p : (Nat → Int) × Int) (e : Int) : (Nat → Int) × Int :=
  if 0 < p.1 (lieN qs e.toNat qs.length) then (fun j => if j = lieN qs e.toNat qs.length then p.1 (lieN qs e.toNat qs.length) - 1 else p.1 j, put1 p.2 e.toNat) else p
def sfL (qs : List Ak) (a : Nat → Int) (L : List Int) : (Nat → Int) × Int := L.foldl (sfStep qs) (a, 0)
def sfG (kk : Int) (qs : List Ak) (a : Nat → Int) (n : Nat) : (Nat → Int) × Int := sfL qs a (candL kk qs n)
theorem sfL_snoc (qs : List Ak) (a : Nat → Int) (L : List Int) (e : Int) : sfL qs a (L ++ [e]) = sfStep qs (sfL qs a L) e := by
  unfold sfL; rw [List.foldl_append]; rfl
def SfOk (p : (Nat → Int) × Int) : Prop := (∀ j, j < 4 → 0 ≤ p.1 j ∧ p.1 j ≤ 60) ∧ U64 p.2
theorem sfStep_ok {qs : List Ak} {p : (Nat → Int) × Int} (h : SfOk p) (e : Int) : SfOk (sfStep qs p e) := by
  unfold sfStep
  by_cases hp : 0 < p.1 (lieN qs e.toNat qs.length)
  · rw [if_pos hp]
    refine ⟨fun j hj => ?_, put1_u _ _⟩
    show 0 ≤ (if j = lieN qs e.toNat qs.length then p.1 (lieN qs e.toNat qs.length) - 1 else p.1 j) ∧ (if j = lieN qs e.toNat qs.length then p.1 (lieN qs e.toNat qs.length) - 1 else p.1 j) ≤ 60
    by_cases h2 : j = lieN qs e.toNat qs.length
    · subst h2; rw [if_pos rfl]; have := h.1 _ hj; omega
    · rw [if_neg h2]; exact h.1 j hj
  · rw [if_neg hp]; exact h
theorem foldl_ok {qs : List Ak} (L : List Int) : ∀ p, SfOk p → SfOk (L.foldl (sfStep qs) p) := by
  induction L with
  | nil => exact fun p h => h
  | cons e L ih => exact fun p h => ih _ (sfStep_ok h e)
theorem sfL_ok {qs : List Ak} {a : Nat → Int} (ha : ∀ j, j < 4 → 0 ≤ a j ∧ a j ≤ 60) (L : List Int) : SfOk (sfL qs a L) := foldl_ok L _ ⟨ha, by simp [U64]⟩
theorem sf_cells {qs : List Ak} {p : (Nat → Int) × Int} {e : Int} {x : Nat} (hx : lieN qs e.toNat qs.length = x) (h4 : x < 4) (hp : 0 < p.1 x) : (staC p.1).setIfInBounds x (.int .i64 (p.1 x - 1)) = staC (sfStep qs p e).1 ∧ (sfStep qs p e).2 = put1 p.2 e.toNat := by
  subst hx
  have e1 : sfStep qs p e = (fun j => if j = lieN qs e.toNat qs.length then p.1 (lieN qs e.toNat qs.length) - 1 else p.1 j, put1 p.2 e.toNat) := by unfold sfStep; rw [if_pos hp]
  rw [e1]
  refine ⟨?_, rfl⟩
  have := sta_set p.1 (fun j => if j = lieN qs e.toNat qs.length then p.1 (lieN qs e.toNat qs.length) - 1 else p.1 j) (lieN qs e.toNat qs.length) h4 (fun j hj => by
    by_cases h : j = lieN qs e.toNat qs.length
    · rw [if_pos h]; simp [h]
    · simp [h])
  simpa using this
theorem sf_none {qs : List Ak} {p : (Nat → Int) × Int} {e : Int} {x : Nat} (hx : lieN qs e.toNat qs.length = x) (hp : ¬ 0 < p.1 x) : sfStep qs p e = p := by
  subst hx; unfold sfStep; rw [if_neg hp]
theorem sfG_t {kk : Int} {qs : List Ak} {a : Nat → Int} {n : Nat} (h : (lieN qs n qs.length : Int) ≤ kk) : sfG kk qs a (n + 1) = sfStep qs (sfG kk qs a n) (n : Int) := by
  unfold sfG; rw [candL_t h, sfL_snoc]
theorem sfG_f {kk : Int} {qs : List Ak} {a : Nat → Int} {n : Nat} (h : ¬ (lieN qs n qs.length : Int) ≤ kk) : sfG kk qs a (n + 1) = sfG kk qs a n := by
  unfold sfG; rw [candL_f h]
set_option maxHeartbeats 4000000 in
theorem l06Set_any (fb : Nat) (l : Nat) (kk : Int) (a : Option Addr) (c : Nat) (xs : List Ak) (y : Nat → Int) (w : World) (K : Blk w fb #[.int .i8 l, .int .i8 kk, .slice a xs.length c] 25) (hs : Sla w.heap.size w a xs) (hn : xs.length ≤ 60) (hw : Aall xs) (hl : l ≤ 60) (hk : 0 ≤ kk ∧ kk ≤ 3) (hy : ∀ j, j < 4 → 0 ≤ y j ∧ y j ≤ 60) :
    Calls Try.prog 41 #[.pointer (some ⟨fb, 0, none⟩), staV y] w fun e w' => e = .returned (.int .u64 (sfG kk xs y l).2) ∧ Below w.heap.size w w' := by
  have F0 := (FR.start w).box (staC y) 40
  have HF0 := Lib.hid F0
  have HK := Lib.hid K
  have HS := Lib.hid hs
  have HQ := Lib.hid (fun k W hK hs (hk : k ≤ 63) => l06Lies_any fb l kk a c xs k W hK hs hn hw hk)
  have HLE := Lib.hid (fun k => Nat.le_trans (lieN_le xs k xs.length) hn)
  have HOK := Lib.hid (fun n => sfL_ok (qs := xs) hy (candL kk xs n))
  have hfb := K.lt
  clear F0 K hs hw hy
  go_enter Try.func41, Try.ntmps41
  go_wp2
  generalize w.alloc (Obj.cells (staC y) 40) = w1 at *
  go_loopw [5, 6, 7] (fun sv kv _ wr => ∃ k : Nat, kv = .int .i64 (k : Int) ∧ k ≤ l ∧ sv = .int .u64 (sfG kk xs y k).2 ∧ FR w [(w.heap.size, staC (sfG kk xs y k).1, 40)] wr) (fun _ kv _ _ => l - (intOf kv).toNat)
  case atStart => exact ⟨0, rfl, Nat.zero_le _, rfl, HF0.out⟩
  case round =>
    obtain ⟨k, rfl, hkl, rfl, hF⟩ := hrel
    have K1 := HK.out.below hF.below hfb
    obtain ⟨c0, c1, c2, -⟩ := K1.three
    by_cases hlt : k < l
    case neg =>
      obtain rfl : k = l := by omega
      have HB := Lib.hid hF.below
      clear hF hlt K1
      have hlt2 : ¬ k < k := by omega
      go_wp2
      go_ret
      exact ⟨rfl, HB.out⟩
    have hkz : (k : Int) < (l : Int) := by omega
    have HQk := Lib.hid (HQ.out k wr K1 (HS.out.up hF.below (Nat.le_refl _)) (by omega))
    have hle := HLE.out k
    have hok : SfOk (sfG kk xs y k) := HOK.out k
    by_cases hq : (lieN xs k xs.length : Int) ≤ kk
    · have hx4 : lieN xs k xs.length < 4 := by omega
      have HSN := Lib.hid (sfG_t (a := y) hq)
      obtain ⟨x, hgx⟩ : ∃ x, lieN xs k xs.length = x := ⟨_, rfl⟩
      rw [hgx] at hx4 HQk hle hq
      have hqq : decide ((x : Int) ≤ kk) = true := by simpa using hq
      have hsc := fun hp => sf_cells (qs := xs) (p := sfG kk xs y k) (e := (k : Int)) (x := x) (by rw [Int.toNat_natCast]; exact hgx) hx4 hp
      have hsn := fun hp => sf_none (qs := xs) (p := sfG kk xs y k) (e := (k : Int)) (x := x) (by rw [Int.toNat_natCast]; exact hgx) hp
      rw [← HSN.out] at hsc hsn
      rw [Int.toNat_natCast] at hsc
      generalize hg2 : sfG kk xs y (k + 1) = p2 at *
      have HG2 := Lib.hid hg2
      generalize sfG kk xs y k = p at *
      have HSC := Lib.hid hsc
      have HNO := Lib.hid hsn
      clear hsc hsn HSN hgx hg2
      go_wp2_with fail
      refine HQk.out.mono ?_
      rintro e w4 ⟨rfl, hb4⟩
      have F4 := hF.next hb4
      have K4 := K1.below hb4 K1.lt
      clear c0 c1 c2 hF K1 hb4
      obtain ⟨c0, c1, c2, -⟩ := K4.three
      have hxz : (x : Int) < 4 := by omega
      have d0 := Blk.sta (x := p.1) (F4.blk _ List.mem_cons_self) x hx4
      have f0 := (F4.blk _ List.mem_cons_self).free x
      dsimp only at d0 f0
      have hyx := hok.1 x hx4
      have hsu := hok.2
      unfold U64 at hsu
      by_cases hz : 0 < p.1 x
      · have h1 := F4.setTop x (.int .i64 (p.1 x - 1))
        rw [(HSC.out hz).1] at h1
        have HN := Lib.hid h1
        have HP2 := Lib.hid (show p2.2 = bits .or .u64 p.2 (IntKind.u64.wrap (2 ^ k)) from (HSC.out hz).2)
        generalize p.1 x = z at *
        generalize p.2 = s at *
        clear F4 K4 h1 hok HSC HNO
        go_wp2
        go_roundw
        case rel => exact ⟨k + 1, by go_num, by omega, by rw [HG2.out, HP2.out], by rw [HG2.out]; exact HN.out⟩
        case measure => simp [intOf]; omega
      · have HE := Lib.hid (HNO.out (by omega))
        have HF4 := Lib.hid F4
        generalize p.1 x = z at *
        have hzz : decide (0 < z) = false := by simpa using hz
        clear F4 K4 hok HSC HNO
        go_wp2
        go_roundw
        case rel => exact ⟨k + 1, by go_num, by omega, by rw [HG2.out, HE.out], by rw [HG2.out, HE.out]; exact HF4.out⟩
        case measure => simp [intOf]; omega
    · have HE := Lib.hid (sfG_f (a := y) hq)
      generalize hgx : lieN xs k xs.length = x at *
      have hqq : decide ((x : Int) ≤ kk) = false := by simpa using hq
      go_wp2_with fail
      refine HQk.out.mono ?_
      rintro e w4 ⟨rfl, hb4⟩
      have F4 := Lib.hid (hF.next hb4)
      have K4 := K1.below hb4 K1.lt
      clear c0 c1 c2 hF K1 hb4
      obtain ⟨c0, c1, c2, -⟩ := K4.three
      clear hgx K4
      go_wp2
      go_roundw
      case rel => exact ⟨k + 1, by go_num, by omega, by rw [HE.out], by rw [HE.out]; exact F4.out⟩
      case measure => simp [intOf]; omega
end Go.Proofs.Ytclmjbkdghgjbaa
