/-
  The iterator of crossings.
-/
import Derived.Test.YtoeoilhbekhnbaaA1y
namespace Go.Proofs.Ytoeoilhbekhnbaa
open Go.RowKit Go.Shelf
set_option maxRecDepth 100000
set_option linter.unusedVariables false

attribute [local go_sem] Oper.semAt_some

/-- The loads below m with which a crossing can be made. -/
def ldT (l k : Int) (xs : List Int) (n : Int) (f : Bool) : Nat → List Int
  | 0 => []
  | m + 1 => if cdL l k xs n f (m : Int) = 0 then ldT l k xs n f m ++ [(m : Int)] else ldT l k xs n f m
theorem ldT_t {l k : Int} {xs : List Int} {n : Int} {f : Bool} {m : Nat} (h : cdL l k xs n f (m : Int) = 0) : ldT l k xs n f (m + 1) = ldT l k xs n f m ++ [(m : Int)] := by rw [ldT, if_pos h]
theorem ldT_f {l k : Int} {xs : List Int} {n : Int} {f : Bool} {m : Nat} (h : ¬ cdL l k xs n f (m : Int) = 0) : ldT l k xs n f (m + 1) = ldT l k xs n f m := by rw [ldT, if_neg h]
theorem ldT_pre (l k : Int) (xs : List Int) (n : Int) (f : Bool) {i m : Nat} (h : i ≤ m) : ldT l k xs n f i <+: ldT l k xs n f m := by
  induction m with
  | zero => rw [show i = 0 by omega]; exact List.prefix_refl _
  | succ m ih =>
    by_cases e : i = m + 1
    · rw [e]; exact List.prefix_refl _
    · refine (ih (by omega)).trans ?_
      by_cases h0 : cdL l k xs n f (m : Int) = 0
      · rw [ldT_t h0]; exact List.prefix_append _ _
      · rw [ldT_f h0]; exact List.prefix_refl _
theorem ldT_len (l k : Int) (xs : List Int) (n : Int) (f : Bool) (m : Nat) : (ldT l k xs n f m).length ≤ m := by
  induction m with
  | zero => exact Nat.le_refl _
  | succ m ih =>
    by_cases h0 : cdL l k xs n f (m : Int) = 0
    · rw [ldT_t h0]; simp; omega
    · rw [ldT_f h0]; omega
/-- All loads with which a crossing can be made. -/
def ldA (l k : Int) (xs : List Int) (n : Int) (f : Bool) : List Int := ldT l k xs n f ((allI l).toNat + 1)
theorem crossings_in (F : Fence) (m : Nat) (h5 : F.fn 61) (hro : F.round = none) (l k : Int) (a : Option Addr) (q c : Nat) (n : Int) (f : Bool) (w : World) :
    CallsIn F m Try.prog 61 #[ferV l k a q c, bankV n f] w fun e w' => e = .returned (.func (.func 70) #[] #[.pointer (some ⟨w.heap.size, 0, none⟩), .pointer (some ⟨w.heap.size + 1, 0, none⟩)]) ∧ w' = (w.alloc (.cells #[.int .i8 l, .int .i8 k, .slice a q c] 30)).alloc (.cells #[.int .u16 n, .bool f] 64) := by
  refine callsIn_of_wp Try.func61 rfl h5 ?_ hro
  simp only [Try.ntmps61, List.size_toArray, List.length_cons, List.length_nil, Nat.reduceAdd, Nat.reduceSub, Array.replicate_succ, Array.replicate_zero, List.push_toArray, List.append_toArray, List.nil_append, List.cons_append]
  gi_wp2
  go_ret
  exact ⟨rfl, rfl⟩
set_option maxHeartbeats 4000000 in
theorem crossings_gives (Bf Bb n₀ : Nat) (S : Nat → Prop) (hSf : S Bf) (hSb : S Bb) (hlt : Bf < Bb) (hS : ∀ b, S b → b ≤ Bb) (hn₀ : n₀ ≤ Bf) (l k : Int) (a : Option Addr) (c : Nat) (xs : List Int) (n : Int) (f : Bool) (hn : xs.length ≤ 1048576) (hw : U16 xs) (hl : 1 ≤ l ∧ l ≤ 8) (hk : 0 ≤ k ∧ k ≤ 8)
    (W : World) (hs : Sl .u16 n₀ W a xs) (hf : Blk W Bf #[.int .i8 l, .int .i8 k, .slice a xs.length c] 30) (hb : Blk W Bb #[.int .u16 n, .bool f] 64) :
    Gives Fence.wide 8 Try.prog 70 #[.pointer (some ⟨Bf, 0, none⟩), .pointer (some ⟨Bb, 0, none⟩)] (fun x : Int => #[.int .u16 x, bankV (xorI n x) (!f)]) n₀ S (ldA l k xs n f) W := by
  intro y B J Jx hB hy hJ hJx hY h0
  show CallsIn Fence.wide 8 Try.prog 70 #[.func (.yield y) #[] #[], .pointer (some ⟨Bf, 0, none⟩), .pointer (some ⟨Bb, 0, none⟩)] W _
  refine callsIn_of_wp Try.func70 rfl trivial ?_ rfl
  simp only [Try.ntmps70, List.size_toArray, List.length_cons, List.length_nil, Nat.reduceAdd, Nat.reduceSub, Array.replicate_succ, Array.replicate_zero, List.push_toArray, List.append_toArray, List.nil_append, List.cons_append]
  have HE := Lib.hid (fun V => everything_any l k a xs.length c V hl)
  have HC := Lib.hid (fun (V : World) (x : Int) (hs : Sl .u16 n₀ V a xs) (h : n₀ ≤ V.heap.size) (hx : 0 ≤ x ∧ x ≤ 65535) => codeOfLoad_any l k a c xs n f x V (hs.up (Below.refl _ _) h) hn hw hl hk hx)
  have hal := allI_le hl
  have HA := Lib.hid (show ldA l k xs n f = ldT l k xs n f ((allI l).toNat + 1) from rfl)
  obtain ⟨al, hal2⟩ : ∃ al : Nat, allI l = al := ⟨(allI l).toNat, by omega⟩
  rw [hal2] at HE HA hal
  simp only [Int.toNat_natCast] at HA
  clear hal2 hw hl hk
  obtain ⟨c0, c1, c2, -⟩ := hf.three
  have HJJ := Lib.hid (And.intro hJ (And.intro hJx hY))
  clear hJ hJx hY
  gi_wp2_with (first
    | (refine ⟨trivial, ?_⟩; gi_at_call 67; refine (callsIn_wide.2 (HE.out _)).mono ?_; rintro e w2 ⟨rfl, hb2⟩))
  have hst : J [] w2 := own_call HJJ.out.1 h0 hb2
  have hf2 := hf.below hb2 hf.lt
  have hbb2 := hb.below hb2 hb.lt
  have hB2 : Below n₀ W w2 := hb2.mono (by have := hf.lt; omega)
  clear c0 c1 c2 h0 hf hb hb2
  gi_loopw [8] (fun p wr => ∃ i : Nat, p = .int .u16 (i : Int) ∧ i ≤ al + 1 ∧ (Blk wr Bf #[.int .i8 l, .int .i8 k, .slice a xs.length c] 30 ∧ Blk wr Bb #[.int .u16 n, .bool f] 64) ∧ Below n₀ W wr ∧ J (ldT l k xs n f i) wr) (fun p _ => al + 1 - (intOf p).toNat)
  case atStart => exact ⟨0, rfl, Nat.zero_le _, ⟨hf2, hbb2⟩, hB2, hst⟩
  case round =>
    clear hst hf2 hbb2 hB2
    obtain ⟨i, rfl, hi, ⟨hf, hb⟩, hBr, hJs⟩ := hrel
    by_cases hlt2 : i < al + 1
    case neg =>
      obtain rfl : i = al + 1 := by omega
      have HJ2 := Lib.hid (show J (ldA l k xs n f) wr by rw [HA.out]; exact hJs)
      clear hJs
      gi_wp2
      go_end0
      exact ⟨⟨_, rfl⟩, .inl HJ2.out⟩
    have hltz : (i : Int) < (al : Int) + 1 := by omega
    have hi255 : i ≤ 255 := by omega
    have HCi := Lib.hid (HC.out wr (i : Int) (hs.below hBr) (by have := hf.lt; omega) (by omega))
    obtain ⟨c0, c1, c2, -⟩ := hf.three
    obtain ⟨d0, d1, -⟩ := hb.two
    have HBLK := Lib.hid (And.intro hf (And.intro hb (And.intro hBr hJs)))
    clear hf hb hBr hJs
    by_cases hcd : cdL l k xs n f (i : Int) = 0
    case neg =>
      have HT := Lib.hid (ldT_f hcd)
      have hne : (cdL l k xs n f (i : Int) == 0) = false := by simpa using hcd
      clear hcd
      generalize cdL l k xs n f (i : Int) = co at *
      gi_wp2_with (first
        | (refine ⟨trivial, ?_⟩; gi_at_call 71; refine (callsIn_wide.2 HCi.out).mono ?_; rintro e w3 ⟨rfl, hb3⟩))
      clear c0 c1 c2 d0 d1
      have hf3 := HBLK.out.1.below hb3 HBLK.out.1.lt
      have hb4 := HBLK.out.2.1.below hb3 HBLK.out.2.1.lt
      have hB3 := HBLK.out.2.2.1.trans (hb3.mono (by have := HBLK.out.1.lt; omega))
      have hJ3 := own_call HJJ.out.1 HBLK.out.2.2.2 hb3
      have HH := Lib.hid (And.intro hf3 (And.intro hb4 (And.intro hB3 hJ3)))
      clear hf3 hb4 hB3 hJ3 hb3
      gi_wp2
      refine ⟨trivial, ?_⟩
      gi_wp2
      refine ⟨fun _ h => (by cases h), ?_⟩
      gi_wp2
      go_roundw
      case rel => exact ⟨i + 1, by go_num, by omega, ⟨HH.out.1, HH.out.2.1⟩, HH.out.2.2.1, by rw [HT.out]; exact HH.out.2.2.2⟩
      case measure => simp [intOf]; omega
    have HT := Lib.hid (ldT_t hcd)
    have HPre := Lib.hid (show ldT l k xs n f i ++ [(i : Int)] <+: ldA l k xs n f by rw [← ldT_t hcd, HA.out]; exact ldT_pre l k xs n f (by omega))
    rw [hcd] at HCi
    clear hcd
    gi_wp2_with (first
      | (refine ⟨trivial, ?_⟩; gi_at_call 71; refine (callsIn_wide.2 HCi.out).mono ?_; rintro e w3 ⟨rfl, hb3⟩; have hb4 := HBLK.out.2.1.below hb3 HBLK.out.2.1.lt; obtain ⟨d0', d1', -⟩ := hb4.two)
      | (refine ⟨trivial, ?_⟩; gi_at_call 72; refine (callsIn_wide.2 (behind_any n f (i : Int) _)).mono ?_; rintro e w4 ⟨rfl, hb5⟩))
    have hf4 := (HBLK.out.1.below hb3 HBLK.out.1.lt).below hb5 (HBLK.out.1.below hb3 HBLK.out.1.lt).lt
    have hb6 := hb4.below hb5 hb4.lt
    have hB4 := (HBLK.out.2.2.1.trans (hb3.mono (by have := HBLK.out.1.lt; omega))).trans (hb5.mono (by have := (HBLK.out.1.below hb3 HBLK.out.1.lt).lt; omega))
    have hJ4 := own_call HJJ.out.1 (own_call HJJ.out.1 HBLK.out.2.2.2 hb3) hb5
    obtain ⟨fn0, tmps0, assign0, body0, hy0, hR0⟩ := HJJ.out.2.2 _ (i : Int) w4 hJ4 HPre.out (fun b hb => Nat.lt_of_le_of_lt (hS b hb) hb6.lt)
    have HH := Lib.hid (And.intro hf4 (And.intro hb6 hB4))
    clear hf4 hb6 hB4 hJ4 hb3 hb4 hb5 c0 c1 c2 d0 d1 d0' d1'
    rw [hy0]
    go_simp
    refine hR0.mono ?_
    rintro e W5 (⟨rfl, hJ5, hk5⟩ | ⟨rfl, hJx5, -⟩)
    · have hf6 := hk5.1.2 Bf _ _ hSf HH.out.1
      have hb7 := hk5.1.2 Bb _ _ hSb HH.out.2.1
      have HN := Lib.hid (And.intro hf6 (And.intro hb7 (And.intro (HH.out.2.2.trans hk5.1.1) hJ5)))
      clear hf6 hb7 hk5 hJ5
      gi_wp2
      go_roundw
      case rel => exact ⟨i + 1, by go_num, by omega, ⟨HN.out.1, HN.out.2.1⟩, HN.out.2.2.1, by rw [HT.out]; exact HN.out.2.2.2⟩
      case measure => simp [intOf]; omega
    · gi_wp2
      refine bodyPost_ret (results_none rfl _ _ _) rfl ?_
      exact ⟨⟨_, rfl⟩, .inr ⟨_, HPre.out, hJx5⟩⟩
end Go.Proofs.Ytoeoilhbekhnbaa
