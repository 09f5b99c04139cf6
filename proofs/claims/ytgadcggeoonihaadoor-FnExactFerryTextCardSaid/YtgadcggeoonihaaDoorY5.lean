/-
  The walks of the model's ValidFerry.
-/
import Derived.Test.YtgadcggeoonihaaDoorY4
namespace Go.Proofs.YtgadcggeoonihaaDoor
open Go.RowKit
set_option maxRecDepth 100000
set_option linter.unusedVariables false

theorem Dr.blk {w w' : World} (h : Dr w w') {b : Nat} {cs : Array Value} {t : TypeId} (hb : Blk w b cs t) : Blk w' b cs t := by obtain ⟨q, rfl⟩ := h; exact hb
theorem blk_dr {w : World} {b : Nat} {cs : Array Value} {t : TypeId} (h : Blk w b cs t) (q : Nat) : Blk (w.drewN q) b cs t := h
theorem at_dr {k : IntKind} {w : World} {b off : Nat} {xs : List Int} (h : At k w b off xs) (q : Nat) : At k (w.drewN q) b off xs := h
set_option maxHeartbeats 4000000 in
theorem l05Ok_any (fb : Nat) (l k : Int) (a : Option Addr) (c : Nat) (xs : List Int) (w : World) (K : Blk w fb #[.int .i8 l, .int .i8 k, .slice a xs.length c] 28) (hs : Sl .u16 w.heap.size w a xs) (hl : B8 l) (hk : B8 k) (hn : xs.length ≤ 1048576) (hw : U16 xs) :
    Calls Tryd.prog 15 #[.pointer (some ⟨fb, 0, none⟩)] w fun e w' => e = .returned (.bool (okY l k xs)) ∧ Dr w w' := by
  have HL := Lib.hid (fun W => l00In_any l 1 8 W)
  have HK := Lib.hid (fun W => l00In_any k 0 l W)
  unfold B8 at hl hk
  obtain ⟨c0, c1, c2, -⟩ := K.three
  by_cases h8 : 1 ≤ l ∧ l ≤ 8
  case neg =>
    have HR := Lib.hid (okY_n1 (k := k) (xs := xs) h8)
    rw [show inB l 1 8 = false from cb_f h8] at HL
    clear h8
    go_enter Tryd.func15, Tryd.ntmps15
    go_wp2
    go_quiet ((go_at_call 31; exact Calls.quiet_same (HL.out _)))
    go_wp2
    go_ret
    exact ⟨retb HR.out.symm, Dr.of _ _⟩
  rw [show inB l 1 8 = true from cb_t h8] at HL
  by_cases h2 : 0 ≤ k ∧ k ≤ l
  case neg =>
    have HR := Lib.hid (okY_n2 (l := l) (xs := xs) h2)
    rw [show inB k 0 l = false from cb_f h2] at HK
    clear h8 h2
    go_enter Tryd.func15, Tryd.ntmps15
    go_wp2
    go_quiet ((go_at_call 31; first | with_reducible exact Calls.quiet_same (HL.out _) | with_reducible exact Calls.quiet_same (HK.out _)))
    go_wp2
    go_ret
    exact ⟨retb HR.out.symm, Dr.of _ _⟩
  rw [show inB k 0 l = true from cb_t h2] at HK
  by_cases h20 : (xs.length : Int) ≤ 20
  case neg =>
    have HR := Lib.hid (okY_n3 (l := l) (k := k) h20)
    have h21 : (20 : Int) < xs.length := by omega
    clear h8 h2 h20
    go_enter Tryd.func15, Tryd.ntmps15
    go_wp2
    go_quiet ((go_at_call 31; first | with_reducible exact Calls.quiet_same (HL.out _) | with_reducible exact Calls.quiet_same (HK.out _)))
    go_wp2
    go_ret
    exact ⟨retb HR.out.symm, Dr.of _ _⟩
  have HT := Lib.hid (okY_y h8 h2 h20)
  have HA := Lib.hid (fun W (h : Blk W fb #[.int .i8 l, .int .i8 k, .slice a xs.length c] 28) => l05All_any fb l _ _ W h h8)
  have KH := Lib.hid K
  have hs' : xs = [] ∨ ∃ b off, a = some ⟨b, off, none⟩ ∧ At .u16 w b off xs := by
    rcases hs with h | ⟨b, off, e, _, h⟩
    · exact .inl h
    · exact .inr ⟨b, off, e, h⟩
  have HS := Lib.hid hs'
  have HW := Lib.hid (fun j => And.intro (l05Size_any (xs.getD j 0) · (hw j)) (hw j))
  clear h8 h2 hw hs hs' K
  obtain ⟨n, hnn⟩ : ∃ n, xs.length = n := ⟨_, rfl⟩
  have HNN := Lib.hid hnn
  rw [hnn] at HA KH c2 hn h20
  clear hnn
  go_enter Tryd.func15, Tryd.ntmps15
  go_wp2
  go_quiet ((go_at_call 31; first | with_reducible exact Calls.quiet_same (HL.out _) | with_reducible exact Calls.quiet_same (HK.out _)))
  go_wp2
  clear c0 c1 c2
  go_loopw [3] (fun i wr => ∃ j : Nat, i = .int .i64 j ∧ j ≤ n ∧ (∀ m, m < j → badR l (xs.getD m 0) = false) ∧ Dr w wr) (fun i _ => n - (intOf i).toNat)
  case atStart => exact ⟨0, rfl, Nat.zero_le _, fun j h => absurd h (by omega), Dr.of _ _⟩
  case round =>
    obtain ⟨j, rfl, hj, ha, hd⟩ := hrel
    have HD := Lib.hid hd
    have KR := Lib.hid (show Blk wr fb _ _ from hd.blk KH.out)
    obtain ⟨c0, c1, c2, -⟩ := KR.out.three
    have HAL := Lib.hid ha
    clear ha
    by_cases hlt : j < n
    case neg =>
      have HR := Lib.hid (show okY l k xs = true by rw [HT.out, any_f (fun i hi => HAL.out i (by rw [HNN.out] at hi; omega))]; rfl)
      go_wp2
      go_ret
      exact ⟨retb HR.out.symm, HD.out⟩
    have hkl : (j : Int) < (n : Int) := by omega
    rcases HS.out with h0 | ⟨b, off, rfl, hc⟩
    · have := HNN.out; subst h0; simp at this; omega
    have p0 := (hd.at hc) j (by rw [HNN.out]; exact hlt)
    clear hd
    have HZ := Lib.hid (HW.out j).1
    have HF := Lib.hid (fun (h : badR l (xs.getD j 0) = true) => (show okY l k xs = false by rw [HT.out, any_t (by rw [HNN.out]; exact hlt) h]; rfl))
    have HN := Lib.hid (fun (h : badR l (xs.getD j 0) = false) => (show ∀ m, m < j + 1 → badR l (xs.getD m 0) = false from fun m hm => by
        by_cases e : m = j
        · subst e; exact h
        · exact HAL.out m (by omega)))
    have HB := Lib.hid (show badR l (xs.getD j 0) = (!(bits .andNot .u16 (xs.getD j 0) (allI l) == 0) || decide ((sz (xs.getD j 0).toNat : Int) < 2)) from rfl)
    generalize xs.getD j 0 = x at *
    generalize allI l = al at *
    have hz := sz_le x.toNat
    clear hc HS
    go_wp2
    generalize sz x.toNat = z at *
    cases hq : (bits .andNot .u16 x al == 0)
    · have HR := Lib.hid (HF.out (by rw [HB.out, hq]; rfl))
      have hq2 : ¬ (bits .andNot .u16 x al = 0) := by simpa using hq
      clear HB HF HN
      go_quiet ((first | (go_at_call 32; exact Calls.quiet_same (HA.out _ (blk_dr KR.out _))) | (go_at_call 33; exact Calls.quiet_same (HZ.out _))))
      go_wp2
      go_ret
      exact ⟨retb HR.out.symm, HD.out.trans (Dr.of _ _)⟩
    · have hq2 : bits .andNot .u16 x al = 0 := by simpa using hq
      rw [hq] at HB
      by_cases h2 : (z : Int) < 2
      · have HR := Lib.hid (HF.out (by rw [HB.out, decide_eq_true h2]; rfl))
        clear HB HF HN hq
        go_quiet ((first | (go_at_call 32; exact Calls.quiet_same (HA.out _ (blk_dr KR.out _))) | (go_at_call 33; exact Calls.quiet_same (HZ.out _))))
        go_wp2
        go_ret
        exact ⟨retb HR.out.symm, HD.out.trans (Dr.of _ _)⟩
      · have HR := Lib.hid (HN.out (by rw [HB.out, decide_eq_false h2]; rfl))
        clear HB HF HN hq
        go_quiet ((first | (go_at_call 32; exact Calls.quiet_same (HA.out _ (blk_dr KR.out _))) | (go_at_call 33; exact Calls.quiet_same (HZ.out _))))
        go_wp2
        go_roundw
        case rel => exact ⟨j + 1, by go_num, by omega, HR.out, HD.out.trans (Dr.of _ _)⟩
        case measure => simp [intOf]; omega
end Go.Proofs.YtgadcggeoonihaaDoor
