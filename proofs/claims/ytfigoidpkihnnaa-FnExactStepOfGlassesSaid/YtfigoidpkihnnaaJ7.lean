/-
  The walks of StepOfJugs, in the program and in its model: the greatest common divisor, by a loop and by a function that calls itself.
-/
import Derived.Test.YtfigoidpkihnnaaJ3
import Derived.Test.YtfigoidpkihnnaaH4
namespace Go.Proofs.Ytfigoidpkihnnaa
open Go.RowKit
set_option maxRecDepth 100000

theorem okZ_J {J : List Int} {x : Nat → Int} (h : okZ J x = true) : OkJ J := (of_cb (p := OkZ J x) h).1
noncomputable def codZ (J : List Int) (x : Nat → Int) : Int := if okZ J x = true then 0 else 1
theorem gcd_step (a b : Nat) : Nat.gcd b (a % b) = Nat.gcd a b := by
  rw [Nat.gcd_comm b (a % b), Nat.gcd_comm a b]; exact (Nat.gcd_rec b a).symm
theorem l01Gcd_any (n : Nat) : ∀ (a b : Nat) (w : World), b ≤ n → a ≤ 1000000 → b ≤ 1000000 →
    Calls Try.prog 26 #[.int .i64 (a : Int), .int .i64 (b : Int)] w fun e w' => e = .returned (.int .i64 ((Nat.gcd a b : Nat) : Int)) ∧ w = w' := by
  induction n with
  | zero =>
    intro a b w hb ha hb2
    obtain rfl : b = 0 := by omega
    rw [Nat.gcd_zero_right]
    go_enter Try.func26, Try.ntmps26
    go_wp2_with fail
    go_ret
    exact ⟨rfl, rfl⟩
  | succ n ih =>
    intro a b w hb ha hb2
    by_cases h0 : b = 0
    · subst h0
      rw [Nat.gcd_zero_right]
      clear ih
      go_enter Try.func26, Try.ntmps26
      go_wp2_with fail
      go_ret
      exact ⟨rfl, rfl⟩
    · have hm := Nat.mod_lt a (show 0 < b by omega)
      have hI := ih b (a % b) w (by omega) hb2 (by omega)
      rw [gcd_step] at hI
      have e : (((a % b : Nat) : Int)) = (a : Int) % (b : Int) := by simp
      rw [e] at hI
      have HI := Lib.hid hI
      have hne : ((b : Int) == 0) = false := by simp; omega
      have hb1 : (1 : Int) ≤ (b : Int) := by omega
      clear hI ih e hm
      go_enter Try.func26, Try.ntmps26
      go_wp2_with fail
      refine HI.out.mono ?_
      rintro e w' ⟨rfl, rfl⟩
      go_wp2_with fail
      go_ret
      exact ⟨rfl, rfl⟩
theorem divisor_any (a b : Nat) (w : World) (ha : a ≤ 1000000) (hb : b ≤ 1000000) :
    Calls Try.prog 33 #[.int .i64 (a : Int), .int .i64 (b : Int)] w fun e w' => e = .returned (.int .i64 ((Nat.gcd a b : Nat) : Int)) ∧ Dr w w' := by
  go_enter Try.func33, Try.ntmps33
  go_wp2
  go_loopw [0, 1] (fun p q wr => ∃ x y : Nat, p = .int .i64 x ∧ q = .int .i64 y ∧ x ≤ 1000000 ∧ y ≤ 1000000 ∧ Nat.gcd x y = Nat.gcd a b ∧ Dr w wr) (fun _ q _ => (intOf q).toNat)
  case atStart => exact ⟨a, b, rfl, rfl, ha, hb, rfl, Dr.refl _⟩
  case round =>
    obtain ⟨x, y, rfl, rfl, hx, hy, hg, hdr⟩ := hrel
    have Hg := Lib.hid hg
    clear hg
    by_cases h0 : y = 0
    · subst h0
      have H := Lib.hid (Nat.gcd_zero_right x)
      go_wp2
      go_ret
      exact ⟨reti (by rw [← Hg.out, H.out]), hdr⟩
    · have hm := Nat.mod_lt x (show 0 < y by omega)
      have hne : ((y : Int) == 0) = false := by simp; omega
      have hne2 : ((y : Int) != 0) = true := by simp; omega
      have hy1 : (1 : Int) ≤ (y : Int) := by omega
      have Hs := Lib.hid (gcd_step x y)
      clear h0
      go_wp2
      go_quiet (fail)
      go_wp2
      go_roundw
      case rel => exact ⟨y, x % y, rfl, by simp, hy, by omega, by rw [Hs.out, Hg.out], hdr.trans (Dr.of _ _)⟩
      case measure => simp [intOf]; omega

theorem Dr.blk {w w' : World} {b : Nat} {cs : Array Value} {t : TypeId} (h : Dr w w') (hk : Blk w b cs t) : Blk w' b cs t := by obtain ⟨q, rfl⟩ := h; exact hk
/-- The greatest common divisor of what the first k jugs hold and have. -/
def stepTo (J : List Int) (x : Nat → Int) : Nat → Nat
  | 0 => 0
  | k + 1 => Nat.gcd (Nat.gcd (stepTo J x k) (J.getD k 0).toNat) (x k).toNat
theorem stepTo_step (J : List Int) (x : Nat → Int) (k : Nat) : stepTo J x (k + 1) = Nat.gcd (Nat.gcd (stepTo J x k) (J.getD k 0).toNat) (x k).toNat := rfl
theorem stepTo_bd {J : List Int} (x : Nat → Int) {k : Nat} (hE : Each J k) : stepTo J x k ≤ 60 := by
  cases k with
  | zero => simp [stepTo]
  | succ k =>
    have h1 := hE k (by omega)
    rw [stepTo_step]
    have h2 : Nat.gcd (stepTo J x k) (J.getD k 0).toNat ≤ (J.getD k 0).toNat := Nat.gcd_le_right _ (by omega)
    have h3 : 0 < Nat.gcd (stepTo J x k) (J.getD k 0).toNat := Nat.gcd_pos_of_pos_right _ (by omega)
    have h4 := Nat.gcd_le_left (n := (x k).toNat) h3
    omega
theorem stepTo_mid {J : List Int} (x : Nat → Int) {k : Nat} (h1 : 1 ≤ J.getD k 0 ∧ J.getD k 0 ≤ 60) : Nat.gcd (stepTo J x k) (J.getD k 0).toNat ≤ 60 := by
  have h2 : Nat.gcd (stepTo J x k) (J.getD k 0).toNat ≤ (J.getD k 0).toNat := Nat.gcd_le_right _ (by omega)
  omega
noncomputable def sojV (J : List Int) (x : Nat → Int) : Int := if okZ J x = true then ((stepTo J x J.length : Nat) : Int) else 0
theorem okZ_X {J : List Int} {x : Nat → Int} (h : okZ J x = true) : OkX J x := (of_cb (p := OkZ J x) h).2
theorem stepOfJugs_any (b off c : Nat) (J : List Int) (x : Nat → Int) (t : Bool) (w : World) (hn : J.length ≤ 1048576) (hb : b < w.heap.size) (hc : At .i16 w b off J) (hi : I16 J) :
    Calls Try.prog 27 #[puzV (some ⟨b, off, none⟩) J.length c x t] w fun e w' => e = .returned (.tuple #[.int .i64 (sojV J x), .int .i64 (codZ J x)]) ∧ Below w.heap.size w w' := by
  have hB := (Below.refl w.heap.size w).alloc (Nat.le_refl _) (.cells #[.slice (some ⟨b, off, none⟩) J.length c, .int .i16 (x 0), .int .i16 (x 1), .int .i16 (x 2), .int .i16 (x 3), .bool t] 45)
  have k0 := blk_new w #[.slice (some ⟨b, off, none⟩) J.length c, .int .i16 (x 0), .int .i16 (x 1), .int .i16 (x 2), .int .i16 (x 3), .bool t] 45
  have hb1 := Nat.lt_of_lt_of_le hb hB.size
  have hc1 := hc.below hB hb
  have HO := Lib.hid (validPuzzle_any b off c J x t _ hn hb1 hc1 hi)
  have HB := Lib.hid hB
  have HX := Lib.hid (And.intro k0 hc1)
  obtain ⟨c0, c1, c2, c3, c4, c5, _⟩ := k0.six
  clear hB hc k0 hc1
  unfold codZ sojV
  cases hok : okZ J x
  · rw [hok] at HO
    clear hok
    simp only [Bool.false_eq_true, if_false]
    go_enter Try.func27, Try.ntmps27
    go_wp2_with fail
    refine HO.out.mono ?_
    rintro e w2 ⟨rfl, hb2⟩
    have HB2 := Lib.hid (HB.out.trans (hb2.mono HB.out.size))
    clear hb2
    go_wp2
    go_ret2
    exact ⟨rfl, HB2.out⟩
  · rw [hok] at HO
    have HJ := Lib.hid (okZ_J hok)
    have HXX := Lib.hid (okZ_X hok)
    clear hok
    simp only [if_true]
    go_enter Try.func27, Try.ntmps27
    go_wp2_with fail
    refine HO.out.mono ?_
    rintro e w2 ⟨rfl, hb2⟩
    have HB2 := Lib.hid (HB.out.trans (hb2.mono HB.out.size))
    clear c0 c1 c2 c3 c4 c5
    have HK := Lib.hid (HX.out.1.below hb2 HX.out.1.lt)
    have HC := Lib.hid (HX.out.2.below hb2 hb1)
    obtain ⟨c0, _, _, _, _, _, _⟩ := HK.out.six
    clear hb2 hb1
    go_wp2
    go_loopw [4, 5, 6, 13] (fun s _ _ i wr => ∃ k : Nat, k ≤ J.length ∧ i = .int .i64 k ∧ s = .int .i64 ((stepTo J x k : Nat) : Int) ∧ Dr w2 wr) (fun _ _ _ i _ => J.length - (intOf i).toNat)
    case atStart => exact ⟨0, Nat.zero_le _, rfl, rfl, Dr.refl _⟩
    case round =>
      obtain ⟨k, hk, rfl, rfl, hdr⟩ := hrel
      obtain ⟨c0, _, _, _, _, _, _⟩ := (hdr.blk HK.out).six
      by_cases hlt : k < J.length
      · have hk4 : k < 4 := by have := HJ.out.1.2; omega
        have hx := HJ.out.2.1 k hlt
        have hxx := HXX.out k hk4
        have hcell := (hdr.at HC.out) k hlt
        have hcw : wr.cell? ⟨w.heap.size, 1 + k, none⟩ = some (.int .i16 (x k)) := by
          rw [(hdr.blk HK.out).cell]
          match k, hk4 with
          | 0, _ => rfl
          | 1, _ => rfl
          | 2, _ => rfl
          | 3, _ => rfl
        have hg := stepTo_bd x (HJ.out.2.1.mono hk)
        have hg2 := stepTo_mid (J := J) (k := k) x hx
        have H := Lib.hid (stepTo_step J x k)
        obtain ⟨m, hm⟩ : ∃ m : Nat, J.getD k 0 = m := ⟨(J.getD k 0).toNat, by omega⟩
        obtain ⟨v, hv⟩ : ∃ v : Nat, x k = v := ⟨(x k).toNat, by omega⟩
        rw [hm] at hcell hx hxx hg2
        rw [hv] at hcw hxx
        have HM := Lib.hid hm
        have HV := Lib.hid hv
        clear hm hv
        generalize hgg : stepTo J x k = g at *
        have HGG := Lib.hid hgg
        clear hgg
        have hm60 : m ≤ 60 := by omega
        have hv60 : v ≤ 60 := by omega
        have hgm : Nat.gcd g m ≤ 60 := by simpa using hg2
        have hk4' : (k : Int) < 4 := by omega
        have hkl' : (k : Int) < (J.length : Int) := by omega
        clear hx hxx hg2
        have HD := Lib.hid (fun (a b : Nat) W (ha : a ≤ 1000000) (hb : b ≤ 1000000) => divisor_any a b W ha hb)
        go_wp2
        go_quiet ((go_at_call 33; exact Calls.quiet_dr (HD.out _ _ _ (by omega) (by omega))))
        go_wp2
        go_roundw
        case rel => exact ⟨k + 1, by omega, by go_num, by rw [H.out, HM.out, HV.out]; simp, hdr.trans (Dr.of _ _)⟩
        case measure => simp [intOf]; omega
      · obtain rfl : k = J.length := by omega
        go_wp2
        go_ret2
        exact ⟨rfl, HB2.out.trans (hdr.below.mono HB2.out.size)⟩
end Go.Proofs.Ytfigoidpkihnnaa
