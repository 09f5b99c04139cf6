/-
  IsBalanced and its model, on.
-/
import Derived.Test.YtlkkjjbihgiiiaaE6
namespace Go.Proofs.Ytlkkjjbihgiiiaa
open Go.RowKit
set_option maxRecDepth 100000
set_option linter.unusedVariables false

noncomputable def fxC (l k : Int) (ws : List Wf) : Int := if okX l k ws = true then 0 else 1
noncomputable def ibV (l k : Int) (ws : List Wf) : Bool := okX l k ws && balB l ws
theorem own_of {w W : World} {a : Option Addr} {ws : List Wf} (h : Slw w.heap.size w a ws) (hb : Below w.heap.size w W) (h0 : 1 ≤ (ws.length : Int)) : ∃ b off, a = some ⟨b, off, none⟩ ∧ b < W.heap.size ∧ WAt W b off ws := by
  rcases h with rfl | ⟨b, off, rfl, h1, h2⟩
  · simp at h0
  · exact ⟨b, off, rfl, Nat.lt_of_lt_of_le h1 hb.size, h2.below hb h1⟩
set_option maxHeartbeats 2000000 in
theorem isBalanced_any (l k : Int) (a : Option Addr) (c : Nat) (ws : List Wf) (w : World) (hs : Slw w.heap.size w a ws) (hl : B8 l) (hk : B8 k) (hn : ws.length ≤ 1048576) (hw : Wall ws) :
    Calls Try.prog 17 #[fixV l k a ws.length c] w fun e w' => e = .returned (.tuple #[.bool (ibV l k ws), .int .i64 (fxC l k ws)]) ∧ Below w.heap.size w w' := by
  have F0 := (FR.start w).box #[.int .i8 l, .int .i8 k, .slice a ws.length c] 30
  have hs0 : Slw (w.alloc (.cells #[.int .i8 l, .int .i8 k, .slice a ws.length c] 30)).heap.size (w.alloc (.cells #[.int .i8 l, .int .i8 k, .slice a ws.length c] 30)) a ws := by
    rcases hs with h | ⟨b, off, e, h1, h2⟩
    · exact .inl h
    · exact .inr ⟨b, off, e, by simp; omega, h2.below F0.below h1⟩
  obtain ⟨c0, c1, c2, -⟩ := (F0.blk _ List.mem_cons_self).three
  unfold ibV fxC
  cases hok : okX l k ws
  · have HO := Lib.hid (openFixed_f l k a c ws _ hs0 hl hk hn hw hok)
    clear hok hs hs0 hw hl hk
    simp only [Bool.false_and, Bool.false_eq_true, if_false]
    go_enter Try.func17, Try.ntmps17
    go_wp2_with fail
    refine HO.out.mono ?_
    rintro e w2 ⟨rfl, hb⟩
    have F1 := F0.next hb
    have HB := Lib.hid (F1.box nopC 64).below
    clear hb F0 F1 c0 c1 c2 HO
    go_wp2
    go_ret2
    exact ⟨rfl, HB.out⟩
  · have HO := Lib.hid (openFixed_t l k a c ws _ hs0 hl hk hn hw hok)
    have hx := okX_t hok
    obtain ⟨b, off, rfl, hb1, hc1⟩ := own_of hs (Below.refl _ _) hx.2.2.1.1
    have h80 := hx.2.2.1.2
    have hb0 := Lib.hid (show BalI ws l.toNat → BalI ws l.toNat from id)
    have HBB := Lib.hid (fun W (h : Below w.heap.size w W) => balanced_any b off c l k ws W (by omega) hx.1 hk (Nat.lt_of_lt_of_le hb1 h.size) (hc1.below h hb1))
    clear hok hs hs0 hw hl hk hx hb0 hc1 hb1 h80
    simp only [Bool.true_and, if_true]
    generalize balB l ws = r at *
    go_enter Try.func17, Try.ntmps17
    go_wp2_with fail
    refine HO.out.mono ?_
    rintro e w2 ⟨rfl, hb⟩
    have F1 := F0.next hb
    clear hb F0 c0 c1 c2 HO
    have F2 := F1.box (opC (some ⟨b, off, none⟩) ws.length c l k) 64
    obtain ⟨d0, d1, d2, d3, d4, d5, -⟩ := (F2.blk _ List.mem_cons_self).six
    go_wp2_with fail
    refine (HBB.out _ F2.below).mono ?_
    rintro e w3 ⟨rfl, hb⟩
    have HB := Lib.hid (F2.next hb).below
    clear hb F1 F2 d0 d1 d2 d3 d4 d5 HBB
    go_wp2
    go_ret2
    exact ⟨rfl, HB.out⟩
theorem sm_ev {l k : Int} {ws : List Wf} (h : OkX l k ws) (i : Nat) (hi : i < 4) : sm ws i ws.length = 0 ↔ evI ws i = true := by
  rw [sm_on ws i ws.length (okX_sign h i hi)]
  unfold evI
  rw [beq_iff_eq]
  omega
set_option maxHeartbeats 4000000 in
theorem l04Balanced_any (fb b off c : Nat) (l k : Int) (ws : List Wf) (w : World) (K : Blk w fb #[.int .i8 l, .int .i8 k, .slice (some ⟨b, off, none⟩) ws.length c] 30) (hx : OkX l k ws) (hc : WAt w b off ws) :
    Calls Try.prog 39 #[.pointer (some ⟨fb, 0, none⟩)] w fun e w' => e = .returned (.bool (balB l ws)) ∧ w = w' := by
  have hl := hx.1
  have h80 := hx.2.2.1.2
  obtain ⟨c0, c1, c2, -⟩ := K.three
  obtain ⟨n, rfl⟩ : ∃ n : Nat, l = n := ⟨l.toNat, by omega⟩
  have HSM := Lib.hid (fun i hi => sm_ev hx i hi)
  have HBD := Lib.hid (fun i (hi : i < 4) k (hk : k ≤ ws.length) => sm_bd ws i k (fun j hj => okX_sign hx i hi j (by omega)))
  have HSG := Lib.hid (fun i (hi : i < 4) j (hj : j < ws.length) => okX_sign hx i hi j hj)
  have hT := Lib.hid (show BalI ws n → balB (n : Int) ws = true from fun h => cb_t (by simpa using h))
  have hX := Lib.hid (show ∀ i, i < n → evI ws i = false → balB (n : Int) ws = false from fun i hi h => cb_f (fun h' => by rw [h' i (by simpa using hi)] at h; cases h))
  clear hx K
  go_enter Try.func39, Try.ntmps39
  go_wp2
  go_loop [3] (fun iv => ∃ i : Nat, iv = .int .i8 (i : Int) ∧ i ≤ n ∧ BalI ws i) (fun iv => n - (intOf iv).toNat)
  case atStart => exact ⟨0, rfl, Nat.zero_le _, fun i h => absurd h (by omega)⟩
  case round =>
    obtain ⟨i, rfl, hi, hf⟩ := hrel
    have HFit := Lib.hid hf
    clear hf
    by_cases hlt : i < n
    case neg =>
      obtain rfl : i = n := by omega
      have HR := Lib.hid (hT.out HFit.out)
      go_wp2
      go_ret
      exact ⟨retb HR.out.symm, rfl⟩
    have hiz : (i : Int) < (n : Int) := by omega
    have hi4 : i < 4 := by omega
    have hiz4 : (i : Int) < 4 := by omega
    have HSMi := Lib.hid (HSM.out i hi4)
    have HXi := Lib.hid (hX.out i hlt)
    have HNi := Lib.hid (show evI ws i = true → BalI ws (i + 1) from fun h j hj => by
      by_cases e : j = i
      · subst e; exact h
      · exact HFit.out j (by omega))
    have HBDi := Lib.hid (HBD.out i hi4)
    have HSGi := Lib.hid (HSG.out i hi4)
    have HC := Lib.hid (fun j (hj : j < ws.length) => hc j hj i hi4)
    have HS0 := Lib.hid (show sm ws i 0 = 0 from rfl)
    have HSS := Lib.hid (show ∀ j, sm ws i (j + 1) = sm ws i j + wI ws j i from fun j => rfl)
    go_wp2
    generalize hS : sm ws i = S at *
    clear hS
    go_loop [4, 5] (fun sv jv => ∃ j : Nat, jv = .int .i64 (j : Int) ∧ j ≤ ws.length ∧ sv = .int .i64 (S j)) (fun _ jv => ws.length - (intOf jv).toNat)
    case atStart => exact ⟨0, rfl, Nat.zero_le _, by rw [HS0.out]⟩
    case round =>
      obtain ⟨j, rfl, hj, rfl⟩ := hrel
      have hbd := HBDi.out j hj
      by_cases hlt2 : j < ws.length
      case neg =>
        obtain rfl : j = ws.length := by omega
        generalize S ws.length = s at *
        by_cases hz : s = 0
        · have HN2 := Lib.hid (HNi.out (HSMi.out.1 hz))
          have hq : (s != 0) = false := by simpa using hz
          clear hz
          go_wp2
          go_round
          case rel => exact ⟨i + 1, by go_num, by omega, HN2.out⟩
          case measure => simp [intOf]; omega
        · have HR := Lib.hid (HXi.out (by
            cases h : evI ws i
            · rfl
            · exact absurd (HSMi.out.2 h) hz))
          have hq : (s != 0) = true := by simpa using hz
          clear hz
          go_wp2
          go_ret
          exact ⟨retb HR.out.symm, rfl⟩
      have hjz : (j : Int) < (ws.length : Int) := by omega
      have hcell := HC.out j hlt2
      have hsg := HSGi.out j hlt2
      have HSj := Lib.hid (HSS.out j)
      generalize S j = s at *
      generalize wI ws j i = x at *
      go_wp2
      go_round
      case rel => exact ⟨j + 1, by go_num, by omega, by rw [HSj.out]⟩
      case measure => simp [intOf]; omega
theorem specIsBalanced_any (l k : Int) (a : Option Addr) (c : Nat) (ws : List Wf) (w : World) (hs : Slw w.heap.size w a ws) (hl : B8 l) (hk : B8 k) (hn : ws.length ≤ 1048576) (hw : Wall ws) :
    Calls Try.prog 16 #[fixV l k a ws.length c] w fun e w' => e = .returned (.tuple #[.bool (ibV l k ws), .int .i64 (fxC l k ws)]) ∧ Below w.heap.size w w' := by
  have F0 := (FR.start w).box #[.int .i8 l, .int .i8 k, .slice a ws.length c] 30
  have hs0 : Slw (w.alloc (.cells #[.int .i8 l, .int .i8 k, .slice a ws.length c] 30)).heap.size (w.alloc (.cells #[.int .i8 l, .int .i8 k, .slice a ws.length c] 30)) a ws := by
    rcases hs with h | ⟨b, off, e, h1, h2⟩
    · exact .inl h
    · exact .inr ⟨b, off, e, by simp; omega, h2.below F0.below h1⟩
  have HO := Lib.hid (l04Ok_any w.heap.size l k a c ws _ (F0.blk _ List.mem_cons_self) hs0 hl hk hn hw)
  unfold ibV fxC
  cases hok : okX l k ws
  · rw [hok] at HO
    clear hok hs hs0 hw hl hk
    simp only [Bool.false_and, Bool.false_eq_true, if_false]
    go_enter Try.func16, Try.ntmps16
    go_wp2_with fail
    refine HO.out.mono ?_
    rintro e w2 ⟨rfl, hb⟩
    have HB := Lib.hid (F0.next hb).below
    clear hb F0 HO
    go_wp2
    go_ret2
    exact ⟨rfl, HB.out⟩
  · rw [hok] at HO
    have hx := okX_t hok
    obtain ⟨b, off, rfl, hb1, hc1⟩ := own_of hs (Below.refl _ _) hx.2.2.1.1
    have HBB := Lib.hid (fun W (h : Below w.heap.size w W) (K) => l04Balanced_any w.heap.size b off c l k ws W K hx (hc1.below h hb1))
    clear hok hs hs0 hw hl hk hx hc1 hb1
    simp only [Bool.true_and, if_true]
    generalize balB l ws = r at *
    go_enter Try.func16, Try.ntmps16
    go_wp2_with fail
    refine HO.out.mono ?_
    rintro e w2 ⟨rfl, hb⟩
    have F1 := F0.next hb
    clear hb F0 HO
    go_wp2_with fail
    refine (HBB.out _ F1.below (F1.blk _ List.mem_cons_self)).mono ?_
    rintro e w3 ⟨rfl, rfl⟩
    have HB := Lib.hid F1.below
    clear F1 HBB
    go_wp2
    go_ret2
    exact ⟨rfl, HB.out⟩
end Go.Proofs.Ytlkkjjbihgiiiaa
