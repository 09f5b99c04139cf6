/-
  The state of a game: the program's walk.
-/
import Derived.Test.YtclmjbkdghgjbaaZ24
import Derived.Test.YtclmjbkdghgjbaaOwn
namespace Go.Proofs.Ytclmjbkdghgjbaa
open Go.RowKit
set_option maxRecDepth 100000
set_option linter.unusedVariables false

theorem candL_mem (kk : Int) (qs : List Ak) (n : Nat) : ∀ e ∈ candL kk qs n, ∃ k, k < n ∧ e = (k : Int) ∧ (lieN qs k qs.length : Int) ≤ kk := by
  induction n with
  | zero => intro e he; simp [candL] at he
  | succ n ih =>
    intro e he
    by_cases h : (lieN qs n qs.length : Int) ≤ kk
    · rw [candL_t h, List.mem_append] at he
      rcases he with he | he
      · obtain ⟨k, hk, h1, h2⟩ := ih e he
        exact ⟨k, by omega, h1, h2⟩
      · simp at he; exact ⟨n, by omega, he, h⟩
    · rw [candL_f h] at he
      obtain ⟨k, hk, h1, h2⟩ := ih e he
      exact ⟨k, by omega, h1, h2⟩
theorem candL_get (kk : Int) (qs : List Ak) (n i : Nat) (h : i < (candL kk qs n).length) : ∃ k, k < n ∧ (candL kk qs n).getD i 0 = (k : Int) ∧ (lieN qs k qs.length : Int) ≤ kk := by
  apply candL_mem
  rw [List.getD_eq_getElem?_getD, List.getElem?_eq_getElem h]
  exact List.getElem_mem h
theorem At.setOther {k : IntKind} {w : World} {b off : Nat} {xs : List Int} (h : At k w b off xs) {g : Nat} (hg : b ≠ g) (i : Nat) (v : Value) : At k (w.setCell ⟨g, i, none⟩ v) b off xs := fun j hj => by
  rw [World.cell?_setCell_other _ _ _ _ (by simp <;> omega)]
  exact h j hj
theorem At.next {k : IntKind} {w w' : World} {b off : Nat} {xs : List Int} (h : At k w b off xs) (hb : b < w.heap.size) (hB : Below w.heap.size w w') : At k w' b off xs := h.below hB hb
theorem res_stateM {W : World} {b : Nat} {v0 v1 v2 v3 : Value} (K : Blk W b #[v0, v1, v2, v3] 40) (tmps : Array Value) (h2 : tmps.getD 2 undef = .pointer (some ⟨b, 0, none⟩)) : (results Try.f39 tmps).run Try.prog W = .ok (.agg #[v0, v1, v2, v3]) W := by
  have h2' : tmps[2]?.getD undef = .pointer (some ⟨b, 0, none⟩) := by simpa using h2
  obtain ⟨e0, e1, e2, e3, -⟩ := K.four
  simp [results, Try.results39, go_sem, e0, e1, e2, e3, h2']
set_option maxHeartbeats 4000000 in
theorem stateM_any (l : Nat) (kk : Int) (a : Option Addr) (c : Nat) (xs : List Ak) (w : World) (hs : Sla w.heap.size w a xs) (hn : xs.length ≤ 60) (hw : Aall xs) (hl : l ≤ 60) (hk : 0 ≤ kk ∧ kk ≤ 3) :
    Calls Try.prog 39 #[gamV l kk a xs.length c] w fun e w' => e = .returned (staV (stG kk xs l)) ∧ Below w.heap.size w w' := by
  have F0 := (((FR.start w).box #[.int .i8 l, .int .i8 kk, .slice a xs.length c] 25).box (staC (fun _ => 0)) 40).box (staC (fun _ => 0)) 40
  simp only [World.size_alloc] at F0
  have HC := Lib.hid (fun W hs => candidates_any l kk a c xs W hs hn hw hl hk)
  have HS := Lib.hid hs
  have HQ := Lib.hid (fun k W hs (hk : k ≤ 63) => liesForM_any l kk a c xs k W hs hn hw hk)
  have HLE := Lib.hid (fun k => Nat.le_trans (lieN_le xs k xs.length) hn)
  have HCG := Lib.hid (candL_get kk xs l)
  have HLN := Lib.hid (candL_len kk xs l)
  have HG := Lib.hid (show stG kk xs l = stL xs (candL kk xs l) from rfl)
  obtain ⟨c0, c1, c2, -⟩ := (F0.blk (w.heap.size, #[.int .i8 l, .int .i8 kk, .slice a xs.length c], 25) (by simp)).three
  generalize hgL : candL kk xs l = L at *
  clear hs hw hgL
  go_enter Try.func39, Try.ntmps39
  go_wp2_with fail
  refine (HC.out _ (HS.out.up F0.below (Nat.le_refl _))).mono ?_
  rintro e w2 ⟨u, rfl, hown, hb⟩
  have F1 := F0.next hb
  have hS0 : stL xs (L.take 0) = fun _ => 0 := by funext j; simp [stL]
  rcases OwnV.ofOwns (by simp) hown with ⟨hnil, a', c', hu⟩ | ⟨g, cp, hu, hg, hg2, hat, -⟩
  · subst hu
    have k0 := F1.blk _ List.mem_cons_self
    have k1 := F1.blk _ (List.mem_cons_of_mem _ List.mem_cons_self)
    have HE := Lib.hid (show stG kk xs l = fun _ => 0 from by rw [HG.out, hnil]; funext j; simp [stL])
    have HR := Lib.hid (Blk.setAll k1 (.int .i64 0) (.int .i64 0) (.int .i64 0) (.int .i64 0))
    have HB := Lib.hid (below_setAll F1.below (show w.heap.size ≤ w.heap.size + 1 by omega) (.int .i64 0) (.int .i64 0) (.int .i64 0) (.int .i64 0))
    obtain ⟨d0, d1, d2, d3, -⟩ := k0.four
    obtain ⟨e0, e1, e2, e3, e4⟩ := k1.four
    clear hb F0 F1 k0 k1 c0 c1 c2 hown hS0
    go_wp2
    refine wp_loop_rounds 1 ?_
    rw [rounds_succ]
    go_wp2
    exact bodyPost_ret (res_stateM HR.out _ rfl) rfl ⟨by rw [HE.out], HB.out⟩
  subst hu
  have hgs : w.heap.size + 1 + 1 < g := by simp at hg; omega
  have HA := Lib.hid hat
  have HF1 := Lib.hid F1
  clear hb F0 F1 c0 c1 c2 hown hat hg
  go_wp2
  go_loopw [5, 9] (fun _ iv wr => ∃ i : Nat, iv = .int .i64 (i : Int) ∧ i ≤ L.length ∧ FR w [(w.heap.size + 1 + 1, staC (stL xs (L.take i)), 40), (w.heap.size + 1, staC (fun _ => 0), 40), (w.heap.size, #[.int .i8 l, .int .i8 kk, .slice a xs.length c], 25)] wr ∧ At .i64 wr g 0 L ∧ g < wr.heap.size) (fun _ iv _ => L.length - (intOf iv).toNat)
  case atStart => exact ⟨0, rfl, Nat.zero_le _, by rw [hS0]; exact HF1.out, HA.out, hg2⟩
  case round =>
    obtain ⟨i, rfl, hi, hF, hat, hgl⟩ := hrel
    have hll : L.length ≤ 60 := by have := HLN.out; omega
    by_cases hlt : i < L.length
    case neg =>
      obtain rfl : i = L.length := by omega
      rw [List.take_length] at hF
      have k0 := hF.blk _ List.mem_cons_self
      have k1 := hF.blk _ (List.mem_cons_of_mem _ List.mem_cons_self)
      have HB0 := Lib.hid hF.below
      rw [← HG.out] at k0
      generalize hgz : stG kk xs l = z at *
      have HE := Lib.hid hgz
      have HR := Lib.hid (Blk.setAll k1 (.int .i64 (z 0)) (.int .i64 (z 1)) (.int .i64 (z 2)) (.int .i64 (z 3)))
      have HB := Lib.hid (below_setAll HB0.out (show w.heap.size ≤ w.heap.size + 1 by omega) (.int .i64 (z 0)) (.int .i64 (z 1)) (.int .i64 (z 2)) (.int .i64 (z 3)))
      obtain ⟨d0, d1, d2, d3, -⟩ := k0.four
      obtain ⟨e0, e1, e2, e3, e4⟩ := k1.four
      clear hF k0 k1 hgz hat hS0
      go_wp2
      exact bodyPost_ret (res_stateM HR.out _ rfl) rfl ⟨by rw [HE.out], HB.out⟩
    have hlz : (i : Int) < (L.length : Int) := by omega
    have p0 := hat i hlt
    rw [Nat.zero_add] at p0
    obtain ⟨k, hkl, hke, hkk⟩ := HCG.out i hlt
    rw [hke] at p0
    have hx4 : lieN xs k xs.length < 4 := by omega
    have HQk := Lib.hid (HQ.out k wr (HS.out.up hF.below (Nat.le_refl _)) (by omega))
    have HGN := Lib.hid (show ∀ wr', FR w [(w.heap.size + 1 + 1, staC (stL xs (L.take i)), 40), (w.heap.size + 1, staC (fun _ => 0), 40), (w.heap.size, #[.int .i8 l, .int .i8 kk, .slice a xs.length c], 25)] wr' → FR w [(w.heap.size + 1 + 1, staC (stL xs (L.take (i + 1))), 40), (w.heap.size + 1, staC (fun _ => 0), 40), (w.heap.size, #[.int .i8 l, .int .i8 kk, .slice a xs.length c], 25)] (wr'.setCell ⟨w.heap.size + 1 + 1, lieN xs k xs.length, none⟩ (.int .i64 (stL xs (L.take i) (lieN xs k xs.length) + 1))) from fun wr' h => by
      have h1 := h.setTop (lieN xs k xs.length) (.int .i64 (stL xs (L.take i) (lieN xs k xs.length) + 1))
      have h2 := stL_cells xs (L.take i) (k : Int) (by rw [Int.toNat_natCast]; exact hx4)
      rw [Int.toNat_natCast, ← hke, ← take_getD L i hlt] at h2
      rw [h2] at h1
      exact h1)
    have hbz := stL_le xs (L.take i) (lieN xs k xs.length)
    have hbl : (L.take i).length ≤ 60 := by rw [List.length_take]; omega
    obtain ⟨c0, c1, c2, -⟩ := (hF.blk (w.heap.size, #[.int .i8 l, .int .i8 kk, .slice a xs.length c], 25) (by simp)).three
    dsimp only at c0 c1 c2
    generalize hgx : lieN xs k xs.length = x at *
    clear hgx hS0 hke
    go_wp2_with fail
    refine HQk.out.mono ?_
    rintro e w4 ⟨rfl, hb4⟩
    have F4 := hF.next hb4
    have HA4 := Lib.hid (And.intro (hat.next hgl hb4) (Nat.lt_of_lt_of_le hgl hb4.size))
    clear c0 c1 c2 hF hb4 hat p0
    have hxz : (x : Int) < 4 := by omega
    have d0 := Blk.sta (x := stL xs (L.take i)) (F4.blk _ List.mem_cons_self) x hx4
    have f0 := (F4.blk _ List.mem_cons_self).free x
    have HN := Lib.hid (HGN.out _ F4)
    dsimp only at d0 f0
    generalize stL xs (L.take i) x = z at *
    clear F4
    go_wp2
    go_roundw
    case rel => exact ⟨i + 1, by go_num, by omega, HN.out, HA4.out.1.setOther (by omega) _ _, by simpa using HA4.out.2⟩
    case measure => simp [intOf]; omega
end Go.Proofs.Ytclmjbkdghgjbaa
