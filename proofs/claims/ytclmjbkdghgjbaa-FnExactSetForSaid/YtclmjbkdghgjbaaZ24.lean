/-
  The state of a game: the model's walk.
-/
import Derived.Test.YtclmjbkdghgjbaaZ23
import Derived.Test.YtclmjbkdghgjbaaZ14
namespace Go.Proofs.Ytclmjbkdghgjbaa
open Go.RowKit
set_option maxRecDepth 100000
set_option linter.unusedVariables false

/-- How many of a list of candidates have j wrong answers. -/
def stL (qs : List Ak) (L : List Int) (j : Nat) : Int := (L.countP (fun e => lieN qs e.toNat qs.length == j) : Int)
def stG (kk : Int) (qs : List Ak) (n : Nat) : Nat → Int := stL qs (candL kk qs n)
theorem stL_snoc (qs : List Ak) (L : List Int) (e : Int) (j : Nat) : stL qs (L ++ [e]) j = if j = lieN qs e.toNat qs.length then stL qs L (lieN qs e.toNat qs.length) + 1 else stL qs L j := by
  unfold stL
  rw [List.countP_append]
  by_cases h : j = lieN qs e.toNat qs.length
  · subst h; simp
  · have h2 : ¬ lieN qs e.toNat qs.length = j := fun e => h e.symm
    rw [if_neg h]; simp [h2]
theorem stL_le (qs : List Ak) (L : List Int) (j : Nat) : 0 ≤ stL qs L j ∧ stL qs L j ≤ L.length := by
  unfold stL
  have : List.countP (fun e => lieN qs e.toNat qs.length == j) L ≤ L.length := List.countP_le_length
  omega
theorem stL_cells (qs : List Ak) (L : List Int) (e : Int) (h : lieN qs e.toNat qs.length < 4) : (staC (stL qs L)).setIfInBounds (lieN qs e.toNat qs.length) (.int .i64 (stL qs L (lieN qs e.toNat qs.length) + 1)) = staC (stL qs (L ++ [e])) := by
  have e1 : stL qs L (lieN qs e.toNat qs.length) + 1 = stL qs (L ++ [e]) (lieN qs e.toNat qs.length) := by rw [stL_snoc, if_pos rfl]
  rw [e1]
  refine sta_set _ _ _ h (fun j hj => ?_)
  rw [stL_snoc]
  by_cases h2 : j = lieN qs e.toNat qs.length
  · rw [if_pos h2, if_pos h2, stL_snoc, if_pos rfl]
  · rw [if_neg h2, if_neg h2]
theorem candL_t {kk : Int} {qs : List Ak} {n : Nat} (h : (lieN qs n qs.length : Int) ≤ kk) : candL kk qs (n + 1) = candL kk qs n ++ [(n : Int)] := by
  show (if (lieN qs n qs.length : Int) ≤ kk then candL kk qs n ++ [(n : Int)] else candL kk qs n) = _
  rw [if_pos h]
theorem candL_f {kk : Int} {qs : List Ak} {n : Nat} (h : ¬ (lieN qs n qs.length : Int) ≤ kk) : candL kk qs (n + 1) = candL kk qs n := by
  show (if (lieN qs n qs.length : Int) ≤ kk then candL kk qs n ++ [(n : Int)] else candL kk qs n) = _
  rw [if_neg h]
theorem stG_zero (kk : Int) (qs : List Ak) : stG kk qs 0 = fun _ => 0 := by funext j; simp [stG, candL, stL]
theorem res_l06State {W : World} {b : Nat} {v0 v1 v2 v3 : Value} (K : Blk W b #[v0, v1, v2, v3] 40) (tmps : Array Value) (h2 : tmps.getD 2 undef = .pointer (some ⟨b, 0, none⟩)) : (results Try.f38 tmps).run Try.prog W = .ok (.agg #[v0, v1, v2, v3]) W := by
  have h2' : tmps[2]?.getD undef = .pointer (some ⟨b, 0, none⟩) := by simpa using h2
  obtain ⟨e0, e1, e2, e3, -⟩ := K.four
  simp [results, Try.results38, go_sem, e0, e1, e2, e3, h2']
set_option maxHeartbeats 4000000 in
theorem l06State_any (fb : Nat) (l : Nat) (kk : Int) (a : Option Addr) (c : Nat) (xs : List Ak) (w : World) (K : Blk w fb #[.int .i8 l, .int .i8 kk, .slice a xs.length c] 25) (hs : Sla w.heap.size w a xs) (hn : xs.length ≤ 60) (hw : Aall xs) (hl : l ≤ 60) (hk : 0 ≤ kk ∧ kk ≤ 3) :
    Calls Try.prog 38 #[.pointer (some ⟨fb, 0, none⟩)] w fun e w' => e = .returned (staV (stG kk xs l)) ∧ Below w.heap.size w w' := by
  have F0 := ((FR.start w).box (staC (fun _ => 0)) 40).box (staC (fun _ => 0)) 40
  simp only [World.size_alloc] at F0
  have HF0 := Lib.hid (show FR w [(w.heap.size + 1, staC (stG kk xs 0), 40), (w.heap.size, staC (fun _ => 0), 40)] _ from by rw [stG_zero]; exact F0)
  have HK := Lib.hid K
  have HS := Lib.hid hs
  have HQ := Lib.hid (fun k W hK hs (hk : k ≤ 63) => l06Lies_any fb l kk a c xs k W hK hs hn hw hk)
  have HLE := Lib.hid (fun k => Nat.le_trans (lieN_le xs k xs.length) hn)
  have hfb := K.lt
  clear F0 K hs hw
  go_enter Try.func38, Try.ntmps38
  go_wp2
  generalize (w.alloc (Obj.cells (staC (fun _ => 0)) 40)).alloc (Obj.cells (staC (fun _ => 0)) 40) = w1 at *
  go_loopw [4, 5] (fun kv _ wr => ∃ k : Nat, kv = .int .i64 (k : Int) ∧ k ≤ l ∧ FR w [(w.heap.size + 1, staC (stG kk xs k), 40), (w.heap.size, staC (fun _ => 0), 40)] wr) (fun kv _ _ => l - (intOf kv).toNat)
  case atStart => exact ⟨0, rfl, Nat.zero_le _, HF0.out⟩
  case round =>
    obtain ⟨k, rfl, hkl, hF⟩ := hrel
    have K1 := HK.out.below hF.below hfb
    obtain ⟨c0, c1, c2, -⟩ := K1.three
    by_cases hlt : k < l
    case neg =>
      obtain rfl : k = l := by omega
      have hlt2 : ¬ k < k := by omega
      have k0 := hF.blk _ List.mem_cons_self
      have k1 := hF.blk _ (List.mem_cons_of_mem _ List.mem_cons_self)
      have HB0 := Lib.hid hF.below
      generalize hgz : stG kk xs k = z at *
      have HE := Lib.hid hgz
      have HR := Lib.hid (Blk.setAll k1 (.int .i64 (z 0)) (.int .i64 (z 1)) (.int .i64 (z 2)) (.int .i64 (z 3)))
      have HB := Lib.hid (below_setAll HB0.out (Nat.le_refl _) (.int .i64 (z 0)) (.int .i64 (z 1)) (.int .i64 (z 2)) (.int .i64 (z 3)))
      obtain ⟨d0, d1, d2, d3, -⟩ := k0.four
      obtain ⟨e0, e1, e2, e3, e4⟩ := k1.four
      clear hF k0 k1 hgz hlt
      go_wp2
      exact bodyPost_ret (res_l06State HR.out _ rfl) rfl ⟨by rw [HE.out], HB.out⟩
    have hkz : (k : Int) < (l : Int) := by omega
    have HQk := Lib.hid (HQ.out k wr K1 (HS.out.up hF.below (Nat.le_refl _)) (by omega))
    have hle := HLE.out k
    by_cases hq : (lieN xs k xs.length : Int) ≤ kk
    · have hx4 : lieN xs k xs.length < 4 := by omega
      have HG := Lib.hid (show ∀ wr', FR w [(w.heap.size + 1, staC (stG kk xs k), 40), (w.heap.size, staC (fun _ => 0), 40)] wr' → FR w [(w.heap.size + 1, staC (stG kk xs (k + 1)), 40), (w.heap.size, staC (fun _ => 0), 40)] (wr'.setCell ⟨w.heap.size + 1, lieN xs k xs.length, none⟩ (.int .i64 (stG kk xs k (lieN xs k xs.length) + 1))) from fun wr' h => by
        have h1 := h.setTop (lieN xs k xs.length) (.int .i64 (stG kk xs k (lieN xs k xs.length) + 1))
        have h2 := stL_cells xs (candL kk xs k) (k : Int) (by rw [Int.toNat_natCast]; exact hx4)
        rw [Int.toNat_natCast] at h2
        rw [show (staC (stG kk xs k)).setIfInBounds (lieN xs k xs.length) (.int .i64 (stG kk xs k (lieN xs k xs.length) + 1)) = staC (stG kk xs (k + 1)) from by unfold stG; rw [h2, ← candL_t hq]] at h1
        exact h1)
      have hbz := stL_le xs (candL kk xs k) (lieN xs k xs.length)
      have hbl := candL_len kk xs k
      have HZ := Lib.hid (show stG kk xs k (lieN xs k xs.length) = stL xs (candL kk xs k) (lieN xs k xs.length) from rfl)
      rw [← HZ.out] at hbz
      generalize hgx : lieN xs k xs.length = x at *
      have hqq : decide ((x : Int) ≤ kk) = true := by simpa using hq
      go_wp2_with fail
      refine HQk.out.mono ?_
      rintro e w4 ⟨rfl, hb4⟩
      have F4 := hF.next hb4
      have K4 := K1.below hb4 K1.lt
      clear c0 c1 c2 hF K1 hb4
      obtain ⟨c0, c1, c2, -⟩ := K4.three
      have hxz : (x : Int) < 4 := by omega
      have d0 := Blk.sta (x := stG kk xs k) (F4.blk _ List.mem_cons_self) x hx4
      have f0 := (F4.blk _ List.mem_cons_self).free x
      have HN := Lib.hid (HG.out _ F4)
      dsimp only at d0 f0
      generalize stG kk xs k x = z at *
      clear hgx F4 K4
      go_wp2
      go_roundw
      case rel => exact ⟨k + 1, by go_num, by omega, HN.out⟩
      case measure => simp [intOf]; omega
    · have HE := Lib.hid (show stG kk xs (k + 1) = stG kk xs k from by unfold stG; rw [candL_f hq])
      generalize hgx : lieN xs k xs.length = x at *
      have hqq : decide ((x : Int) ≤ kk) = false := by simpa using hq
      go_wp2_with fail
      refine HQk.out.mono ?_
      rintro e w4 ⟨rfl, hb4⟩
      have F4 := Lib.hid (hF.next hb4)
      have K4 := K1.below hb4 K1.lt
      clear c0 c1 c2 hF K1 hb4
      obtain ⟨c0, c1, c2, -⟩ := K4.three
      clear hgx K4
      go_wp2
      go_roundw
      case rel => exact ⟨k + 1, by go_num, by omega, by rw [HE.out]; exact F4.out⟩
      case measure => simp [intOf]; omega
end Go.Proofs.Ytclmjbkdghgjbaa
