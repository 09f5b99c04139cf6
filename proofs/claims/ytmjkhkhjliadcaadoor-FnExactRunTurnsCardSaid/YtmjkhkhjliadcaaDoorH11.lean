/-
  Waiting and turning: the program's way, what writes.
-/
import Derived.Test.YtmjkhkhjliadcaaDoorH10
namespace Go.Proofs.YtmjkhkhjliadcaaDoor
open Go.RowKit
set_option maxRecDepth 100000

theorem later_any (x : Nat → Int) (m : Int) (w : World) (hx : W16 x) (h0 : ∀ i, i < 4 → 0 ≤ x i) (hm0 : 0 ≤ m) (hm : ∀ i, i < 4 → 0 < x i → m ≤ x i) (hm2 : m ≤ 32767) :
    Calls Tryd.prog 45 #[watV x, .int .i16 m] w fun e w' => e = .returned (watV (wtTo x m 4)) ∧ Below w.heap.size w w' := by
  have k1 := (blk_new w #[.int .i16 (x 0), .int .i16 (x 1), .int .i16 (x 2), .int .i16 (x 3)] 27).alloc (.cells #[.int .i16 0, .int .i16 0, .int .i16 0, .int .i16 0] 27)
  have k2 := blk_new (w.alloc (.cells #[.int .i16 (x 0), .int .i16 (x 1), .int .i16 (x 2), .int .i16 (x 3)] 27)) #[.int .i16 0, .int .i16 0, .int .i16 0, .int .i16 0] 27
  have hB := ((Below.refl w.heap.size w).alloc (Nat.le_refl _) (.cells #[.int .i16 (x 0), .int .i16 (x 1), .int .i16 (x 2), .int .i16 (x 3)] 27)).alloc (by simp) (.cells #[.int .i16 0, .int .i16 0, .int .i16 0, .int .i16 0] 27)
  simp only [World.size_alloc] at k2
  have HX := Lib.hid hx
  have H0 := Lib.hid h0
  have HM := Lib.hid hm
  clear hx h0 hm
  go_enter Tryd.func45, Tryd.ntmps45
  go_wp2
  generalize hg : (w.alloc (.cells #[.int .i16 (x 0), .int .i16 (x 1), .int .i16 (x 2), .int .i16 (x 3)] 27)).alloc (.cells #[.int .i16 0, .int .i16 0, .int .i16 0, .int .i16 0] 27) = wb at *
  clear hg
  have K1 := Lib.hid k1.rows
  have K2 := Lib.hid k2
  have HB := Lib.hid hB
  clear k1 k2 hB
  go_loopw [5, 6, 8] (fun _ _ i wr => ∃ k : Nat, k ≤ 4 ∧ i = .int .i64 k ∧ wr.rowIs w.heap.size 27 4 (fun i => .int .i16 (wtTo x m k i)) ∧ Blk wr (w.heap.size + 1) #[.int .i16 0, .int .i16 0, .int .i16 0, .int .i16 0] 27 ∧ Below w.heap.size w wr) (fun _ _ i _ => 4 - (intOf i).toNat)
  case atStart => exact ⟨0, Nat.zero_le _, rfl, K1.out.congr (fun i _ => by simp [wtTo]), K2.out, HB.out⟩
  case round =>
    obtain ⟨k, hk, rfl, hr, hz, hB⟩ := hrel
    have HR := Lib.hid hr
    have HZ := Lib.hid hz
    have HB2 := Lib.hid hB
    by_cases hlt : k < 4
    · have hw := hr.cell (i := k) hlt
      have hfr := hr.frozen k
      clear hr hz hB
      have hold : wtTo x m k k = x k := by unfold wtTo; rw [if_neg (by omega)]
      rw [hold] at hw
      have hk4' : (k : Int) < 4 := by omega
      have hxk := HX.out k hlt
      have hx0 := H0.out k hlt
      have hix := fun W => index_top x hlt W
      by_cases hp : 0 < x k
      · have hmk := HM.out k hlt hp
        have HS := Lib.hid ((HR.out.set k (.int .i16 (if m < x k then x k - m else 0))).congr (g := fun i => .int .i16 (wtTo x m (k + 1) i)) (fun i _ => by
          unfold wtTo
          by_cases e : i = k
          · subst e
            by_cases h2 : m < x i
            · simp [hp, h2]
            · simp [hp, h2]; omega
          · simp only [e, if_false, show (i < k + 1) = (i < k) by simp; omega]))
        have HZ2 := Lib.hid (HZ.out.setOther (g := w.heap.size) (by omega) k (.int .i16 (if m < x k then x k - m else 0)))
        have HB3 := Lib.hid (HB2.out.setCell (show w.heap.size ≤ (⟨w.heap.size, k, none⟩ : Addr).block from Nat.le_refl _) (.int .i16 (if m < x k then x k - m else 0)))
        generalize hy : x k = y at *
        have HY := Lib.hid hy
        clear hy
        go_wp2
        go_roundw
        case rel => exact ⟨k + 1, by omega, by go_num, HS.out, HZ2.out, HB3.out⟩
        case measure => simp [intOf]; omega
      · have hx00 : x k = 0 := by omega
        have HS := Lib.hid ((HR.out.set k (.int .i16 0)).congr (g := fun i => .int .i16 (wtTo x m (k + 1) i)) (fun i _ => by
          unfold wtTo
          by_cases e : i = k
          · subst e; simp [hx00]
          · simp only [e, if_false, show (i < k + 1) = (i < k) by simp; omega]))
        have HZ2 := Lib.hid (HZ.out.setOther (g := w.heap.size) (by omega) k (.int .i16 0))
        have HB3 := Lib.hid (HB2.out.setCell (show w.heap.size ≤ (⟨w.heap.size, k, none⟩ : Addr).block from Nat.le_refl _) (.int .i16 0))
        rw [hx00] at hw hix
        clear hxk hx0 hp hold
        by_cases hm00 : m = 0
        · subst hm00
          clear hx00
          go_wp2
          go_roundw
          case rel => exact ⟨k + 1, by omega, by go_num, HS.out, HZ2.out, HB3.out⟩
          case measure => simp [intOf]; omega
        · have d1 : 0 - m ≤ 0 := by omega
          have d2 : ¬ (0 : Int) < 0 - m := by omega
          clear hx00
          go_wp2
          go_roundw
          case rel => exact ⟨k + 1, by omega, by go_num, HS.out, HZ2.out, HB3.out⟩
          case measure => simp [intOf]; omega
    · obtain rfl : k = 4 := by omega
      obtain ⟨e0, e1, e2, e3⟩ := row_four hr
      obtain ⟨z0, z1, z2, z3, z4⟩ := hz.four
      clear hr hz hB
      generalize hEE : wtTo x m 4 = E at *
      have HEE := Lib.hid hEE
      clear hEE
      go_wp2
      refine bodyPost_ret (v := watV E) (by simp [results, Tryd.results45, go_sem, z0, z1, z2, z3]) rfl ⟨by rw [HEE.out], ?_⟩
      have hle : w.heap.size ≤ w.heap.size + 1 := by omega
      exact (((HB2.out.setCell hle _).setCell hle _).setCell hle _).setCell hle _
theorem sets_any (a : Option Addr) (c n : Nat) (w : World) (hn : n ≤ 4) :
    Calls Tryd.prog 42 #[.slice a n c] w fun e w' => e = .returned (.int .u8 (2 ^ n)) ∧ w = w' := by
  have h : n = 0 ∨ n = 1 ∨ n = 2 ∨ n = 3 ∨ n = 4 := by omega
  rcases h with rfl | rfl | rfl | rfl | rfl
  all_goals
    go_enter Tryd.func42, Tryd.ntmps42
    go_wp2
    go_ret
    exact ⟨rfl, rfl⟩
theorem and_one (y : Int) (h : 0 ≤ y ∧ y ≤ 255) : bits .and .u8 y 1 = y.tmod 2 := by
  have h1 : bits .and .u8 y 1 = y % 2 := by go_bits2
  rw [h1, Int.tmod_eq_emod_of_nonneg h.1]
theorem bit_and {s : Int} (h : 0 ≤ s ∧ s ≤ 255) (k : Nat) : (bits .and .u8 (s / 2 ^ k) 1 == 1) = bitT s k := by
  have h1 : 0 ≤ s / 2 ^ k := Int.ediv_nonneg h.1 (Int.le_of_lt (Int.pow_pos (by omega)))
  have h2 : s / 2 ^ k ≤ s := Int.ediv_le_self _ h.1
  rw [and_one _ ⟨h1, by omega⟩]; rfl
/-- The cells of hourglasses. -/
def hgF (x : Nat → Int) (v : Value) (i : Nat) : Value := if i < 4 then .int .i16 (x i) else v
theorem hg_five {w : World} {h : Nat} {x : Nat → Int} {v : Value} {t : TypeId} (hr : w.rowIs h t 5 (hgF x v)) :
    w.cell? ⟨h, 0, none⟩ = some (.int .i16 (x 0)) ∧ w.cell? ⟨h, 1, none⟩ = some (.int .i16 (x 1)) ∧ w.cell? ⟨h, 2, none⟩ = some (.int .i16 (x 2)) ∧ w.cell? ⟨h, 3, none⟩ = some (.int .i16 (x 3)) ∧ w.cell? ⟨h, 4, none⟩ = some v :=
  ⟨hr.cell (by omega), hr.cell (by omega), hr.cell (by omega), hr.cell (by omega), hr.cell (by omega)⟩
theorem turnFar_any (h b off c : Nat) (J : List Int) (x : Nat → Int) (s : Int) (w : World) (hl : J.length ≤ 4) (hf : 2 ^ J.length ≤ s)
    (hr : w.rowIs h 47 5 (hgF x (.slice (some ⟨b, off, none⟩) J.length c))) :
    Calls Tryd.prog 34 #[.pointer (some ⟨h, 0, none⟩), .int .u8 s] w fun e w' => e = .returned (.iface 69 (.agg #[.int .u8 s])) ∧ w = w' := by
  obtain ⟨c0, c1, c2, c3, c4⟩ := hg_five hr
  have HS := Lib.hid (fun W => sets_any (some ⟨b, off, none⟩) c J.length W hl)
  have hp := pow_len hl
  generalize (2 : Int) ^ J.length = q at *
  have hd : decide (q ≤ s) = true := by simpa using hf
  go_enter Tryd.func34, Tryd.ntmps34
  go_wp2_with fail
  refine (HS.out _).mono ?_
  rintro e w' ⟨rfl, rfl⟩
  go_wp2
  go_ret
  exact ⟨rfl, rfl⟩
theorem turn_any (h b off c : Nat) (J : List Int) (x : Nat → Int) (s : Int) (w : World) (hl : J.length ≤ 4) (hE : Each J J.length) (hx : OkX J x) (hs : 0 ≤ s ∧ s ≤ 255) (hf : ¬ 2 ^ J.length ≤ s) (hbh : b < h) (hc : At .i16 w b off J)
    (hr : w.rowIs h 47 5 (hgF x (.slice (some ⟨b, off, none⟩) J.length c))) :
    Calls Tryd.prog 34 #[.pointer (some ⟨h, 0, none⟩), .int .u8 s] w fun e w' => e = .returned .nilIface ∧ w'.rowIs h 47 5 (hgF (trTo J x s J.length) (.slice (some ⟨b, off, none⟩) J.length c)) ∧ Below h w w' := by
  obtain ⟨c0, c1, c2, c3, c4⟩ := hg_five hr
  have HSS := Lib.hid (fun W => sets_any (some ⟨b, off, none⟩) c J.length W hl)
  have hp := pow_len hl
  have HC := Lib.hid hc
  have HX := Lib.hid hx
  have HE := Lib.hid hE
  have HR0 := Lib.hid hr
  clear hc hx hE hr
  generalize (2 : Int) ^ J.length = q at *
  have hd : decide (q ≤ s) = false := by simpa using hf
  go_enter Tryd.func34, Tryd.ntmps34
  go_wp2_with fail
  refine (HSS.out _).mono ?_
  rintro e w' ⟨rfl, rfl⟩
  go_wp2
  clear c0 c1 c2 c3 c4 hd hf hp
  go_loopw [5, 6, 22] (fun _ _ i wr => ∃ k : Nat, k ≤ J.length ∧ i = .int .i64 k ∧ wr.rowIs h 47 5 (hgF (trTo J x s k) (.slice (some ⟨b, off, none⟩) J.length c)) ∧ Below h w wr) (fun _ _ i _ => J.length - (intOf i).toNat)
  case atStart => exact ⟨0, Nat.zero_le _, rfl, HR0.out.congr (fun i _ => by unfold hgF; simp [trTo]), Below.refl _ _⟩
  case round =>
    obtain ⟨k, hk, rfl, hr, hB⟩ := hrel
    have HR := Lib.hid hr
    have HB2 := Lib.hid hB
    by_cases hlt : k < J.length
    · have hk4 : k < 4 := by omega
      have hcell := (HC.out.below hB hbh) k hlt
      have hw := hr.cell (i := k) (by omega)
      have hfr := hr.frozen k
      clear hr hB
      have hxk := HX.out k hk4
      have hJk := HE.out k hlt
      have hold : hgF (trTo J x s k) (.slice (some ⟨b, off, none⟩) J.length c) k = .int .i16 (x k) := by unfold hgF trTo; rw [if_pos hk4, if_neg (by omega)]
      rw [hold] at hw
      have hkl : (k : Int) < (J.length : Int) := by omega
      have hk4' : (k : Int) < 4 := by omega
      have hbb := bit_and hs k
      cases hbit : bitT s k
      · rw [hbit] at hbb
        have HS := Lib.hid (HR.out.congr (g := hgF (trTo J x s (k + 1)) (.slice (some ⟨b, off, none⟩) J.length c)) (fun i _ => by
          unfold hgF trTo
          by_cases e : i = k
          · subst e; simp [hbit]
          · simp only [show (i < k + 1) = (i < k) by simp; omega]))
        go_wp2
        go_roundw
        case rel => exact ⟨k + 1, by omega, by go_num, HS.out, HB2.out⟩
        case measure => simp [intOf]; omega
      · rw [hbit] at hbb
        have HS := Lib.hid ((HR.out.set k (.int .i16 (J.getD k 0 - x k))).congr (g := hgF (trTo J x s (k + 1)) (.slice (some ⟨b, off, none⟩) J.length c)) (fun i _ => by
          unfold hgF trTo
          by_cases e : i = k
          · subst e; simp [hbit, hk4]
          · simp only [e, if_false, show (i < k + 1) = (i < k) by simp; omega]))
        have HB3 := Lib.hid (HB2.out.setCell (show h ≤ (⟨h, k, none⟩ : Addr).block from Nat.le_refl _) (.int .i16 (J.getD k 0 - x k)))
        clear hold
        generalize J.getD k 0 = m at *
        generalize x k = y at *
        go_wp2
        go_region
        go_wp2
        go_roundw
        case rel => exact ⟨k + 1, by omega, by go_num, HS.out, HB3.out.drew⟩
        case measure => simp [intOf]; omega
    · obtain rfl : k = J.length := by omega
      clear hr hB
      go_wp2
      go_ret
      exact ⟨rfl, HR.out, HB2.out⟩
end Go.Proofs.YtmjkhkhjliadcaaDoor
