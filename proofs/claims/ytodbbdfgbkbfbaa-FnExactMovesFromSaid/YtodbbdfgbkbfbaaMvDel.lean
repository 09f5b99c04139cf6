/-
  The walk of slices.DeleteFunc at moves.
-/
import Derived.Test.YtodbbdfgbkbfbaaMvFrom
namespace Go.Proofs.Ytodbbdfgbkbfbaa
open Go.RowKit
set_option maxRecDepth 100000
set_option linter.unusedVariables false

theorem below_sc {B g : Nat} (hg : B ≤ g) : ∀ (vs : List Value) (o : Nat) (w : World), Below B w (w.setCells g o vs)
  | [], _, w => Below.refl _ _
  | v :: vs, o, w => ((Below.refl B w).setCell (show B ≤ (⟨g, o, none⟩ : Addr).block from hg) v).trans (below_sc hg vs (o + 1) _)
theorem deleteFunc_any (w0 : World) (b off c : Nat) (J : List Int) (x y : Nat → Int) (t : Bool) (PB WB g cc : Nat) (ms : List Mv) (w : World) (hJ : OkJ J) (hy : OkX J y) (hM : Mall ms) (hn : ms.length ≤ 28) (hcc : ms.length ≤ cc) (h : MfK w0 b off c J x y t PB WB w) (hg : g < w.heap.size) (hc : MAt w g 0 ms) (hfr : ∀ j, w.frozen? ⟨g, j, none⟩ = false) (h1 : PB < g) (h2 : WB < g) (h3 : b < g) :
    Calls Try.prog 34 #[.slice (some ⟨g, 0, none⟩) ms.length cc, mfV PB WB] w fun e w' => e = .returned (.slice (some ⟨g, 0, none⟩) (kp J t y ms).length cc) ∧ g < w'.heap.size ∧ MAt w' g 0 (kp J t y ms) ∧ (∀ j, w'.frozen? ⟨g, j, none⟩ = false) ∧ Below g w w' := by
  have HI := Lib.hid (indexFunc_any w0 b off c J x y t PB WB g cc ms w hJ hy hM (by omega) h hg hc)
  have HM := Lib.hid hM
  clear hM
  go_enter Try.func34, Try.ntmps34
  go_wp2_with fail
  refine HI.out.mono ?_
  rintro e w1 ⟨r, rfl, hr, hb1⟩
  have hB1 : Below g w w1 := hb1.mono (Nat.le_of_lt hg)
  have hc1 := hc.below hb1 hg
  have hf1 : ∀ j, w1.frozen? ⟨g, j, none⟩ = false := fun j => by rw [hb1.frozen (p := ⟨g, j, none⟩) hg]; exact hfr j
  have hg1 := Nat.lt_of_lt_of_le hg hb1.size
  have hK1 := h.below hb1
  clear hb1 h hc hfr HI
  rcases hr with ⟨rfl, hall⟩ | ⟨i0, rfl, hi0, hbad, hno⟩
  · have hkeep : kp J t y ms = ms := by
      have := kp_all (J := J) (t := t) (y := y) (ms := ms) ms.length (Nat.le_refl _) hall
      rwa [List.take_length] at this
    have HR := Lib.hid (And.intro hc1 hf1)
    have HKP := Lib.hid hkeep
    clear hall hc1 hf1 hkeep
    go_wp2
    go_ret
    exact ⟨by rw [HKP.out]; rfl, hg1, by rw [HKP.out]; exact HR.out.1, HR.out.2, hB1⟩
  · have hk0 : kp J t y (ms.take i0) = ms.take i0 := kp_all i0 (by omega) hno
    have hl0 : (kp J t y (ms.take i0)).length = i0 := by rw [hk0, List.length_take]; omega
    have hS0 : DelSt J t y ms g i0 w1 := by
      refine ⟨?_, fun q a b => ?_, fun q hq => ?_, hf1, hg1⟩
      · rw [hk0]
        intro q hq
        have hq2 : q < i0 := by rw [List.length_take] at hq; omega
        have e : mvI (ms.take i0) q = mvI ms q := by
          unfold mvI
          rw [List.getD_eq_getElem?_getD, List.getD_eq_getElem?_getD, List.getElem?_take_of_lt hq2]
        rw [e]
        exact hc1 q (by omega)
      · have := hc1 q b
        rwa [Nat.zero_add] at this
      · have h3 := hc1 (q / 3) (by omega)
        rw [Nat.zero_add] at h3
        rcases (show q = q / 3 * 3 ∨ q = q / 3 * 3 + 1 ∨ q = q / 3 * 3 + 2 by omega) with e | e | e
        · rw [e, h3.1]; rfl
        · rw [e, h3.2.1]; rfl
        · rw [e, h3.2.2]; rfl
    have HS0 := Lib.hid (hS0.skip hi0 hbad)
    have hl1 : (kp J t y (ms.take (i0 + 1))).length = i0 := by rw [kp_step hi0, if_pos hbad, hl0]
    have HL1 := Lib.hid hl1
    have hmi : (i0 : Int) < (ms.length : Int) := by omega
    have hmm : ((i0 : Int) == -1) = false := by simp <;> omega
    have hgs := hg1
    clear hS0 hc1 hf1 hk0 hl0 hno hbad hl1
    go_wp2
    go_loopw [5, 6] (fun iv jv wr => ∃ i j : Nat, iv = .int .i64 i ∧ jv = .int .i64 j ∧ j ≤ ms.length ∧ i < j ∧ (kp J t y (ms.take j)).length = i ∧ DelSt J t y ms g j wr ∧ Below g w1 wr) (fun _ jv _ => ms.length - (intOf jv).toNat)
    case atStart => exact ⟨i0, i0 + 1, rfl, by go_num, by omega, by omega, HL1.out, HS0.out, Below.refl _ _⟩
    case round =>
      obtain ⟨i, j, rfl, rfl, hj, hij, hlen, hS, hB⟩ := hrel
      by_cases hlt : j < ms.length
      · obtain ⟨c0, c1, c2⟩ := hS.rest j (Nat.le_refl _) hlt
        have hjl : (j : Int) < (ms.length : Int) := by omega
        have hil : (i : Int) < (ms.length : Int) := by omega
        have hBA := (Below.refl wr.heap.size wr).alloc (Nat.le_refl _) (.cells #[.int .i8 (mvI ms j).1, .int .i8 (mvI ms j).2.1, .int .i8 (mvI ms j).2.2] 38)
        have HC := Lib.hid (mf1_any w0 b off c J x y t PB WB (mvI ms j).1 (mvI ms j).2.1 (mvI ms j).2.2 _ hJ hy (HM.out j) ((hK1.belowG (hB.mono (Nat.le_refl _)) h1 h2 h3).below hBA))
        have HBD := Lib.hid (show bad J t y ms j = (movC J t y (mvI ms j).1 (mvI ms j).2.1 (mvI ms j).2.2 != 0) from rfl)
        have HS := Lib.hid (hS.below hBA)
        have hwl := hS.lt
        have HLE := Lib.hid hlen
        have HBW := Lib.hid (hB.trans (hBA.mono (Nat.le_of_lt hwl)))
        have HTK := Lib.hid (fun (W : World) (h : DelSt J t y ms g j W) (hb : bad J t y ms j = false) => h.take hlt hb i hlen (by omega))
        clear hlen hS hB hBA
        generalize (movC J t y (mvI ms j).1 (mvI ms j).2.1 (mvI ms j).2.2 != 0) = C at *
        generalize (mvI ms j).1 = v0 at *
        generalize (mvI ms j).2.1 = v1 at *
        generalize (mvI ms j).2.2 = v2 at *
        go_wp2_with fail
        refine HC.out.mono ?_
        rintro e w4 ⟨rfl, hb4⟩
        have hS4 := HS.out.below hb4
        have HB4 := Lib.hid (HBW.out.trans (hb4.mono (Nat.le_of_lt HS.out.lt)))
        have hbx : w4.cell? ⟨wr.heap.size, 0, none⟩ = some (.int .i8 v0) ∧ w4.cell? ⟨wr.heap.size, 1, none⟩ = some (.int .i8 v1) ∧ w4.cell? ⟨wr.heap.size, 2, none⟩ = some (.int .i8 v2) := by
          have k := (blk_new wr #[.int .i8 v0, .int .i8 v1, .int .i8 v2] 38)
          have k2 := k.below hb4 k.lt
          exact ⟨k2.cell 0, k2.cell 1, k2.cell 2⟩
        obtain ⟨x0, x1, x2⟩ := hbx
        clear c0 c1 c2 hb4 HC HBW HS
        cases C
        · obtain ⟨o0, e0⟩ := Option.isSome_iff_exists.1 (hS4.some (i * 3) (by omega))
          obtain ⟨o1, e1⟩ := Option.isSome_iff_exists.1 (hS4.some (i * 3 + 1) (by omega))
          obtain ⟨o2, e2⟩ := Option.isSome_iff_exists.1 (hS4.some (i * 3 + 2) (by omega))
          have hff := hS4.free
          have HT := Lib.hid (HTK.out w4 hS4 HBD.out)
          have HLN := Lib.hid (show (kp J t y (ms.take (j + 1))).length = i + 1 by rw [kp_step hlt, HBD.out, if_neg (by simp), List.length_append, HLE.out]; rfl)
          clear hS4 HTK
          go_wp2
          go_roundw
          case rel => exact ⟨i + 1, j + 1, by go_num, by go_num, by omega, by omega, HLN.out, HT.out, ((HB4.out.setCell (Nat.le_refl _) _).setCell (Nat.le_refl _) _).setCell (Nat.le_refl _) _⟩
          case measure => simp [intOf]; omega
        · have HT := Lib.hid (hS4.skip hlt HBD.out)
          have HLN := Lib.hid (show (kp J t y (ms.take (j + 1))).length = i by rw [kp_step hlt, HBD.out, if_pos rfl, HLE.out])
          clear hS4 HTK
          go_wp2
          go_roundw
          case rel => exact ⟨i, j + 1, rfl, by go_num, by omega, by omega, HLN.out, HT.out, HB4.out⟩
          case measure => simp [intOf]; omega
      · have hjj : j = ms.length := by omega
        have hkl : (kp J t y ms).length = i := by rw [hjj, List.take_length] at hlen; exact hlen
        have HKL := Lib.hid hkl
        have hne : cc ≠ i := by omega
        have hi1 : (i : Int) ≤ (ms.length : Int) := by omega
        have hi2 : (i : Int) ≤ (cc : Int) := by omega
        have hnj : ¬ (j : Int) < (ms.length : Int) := by omega
        have HCL := Lib.hid (fun ty cq => clear3 wr ty g (i * 3) (ms.length - i) cq (by omega) (fun q hq => hS.some (i * 3 + q) (by omega)) (fun q hq => hS.free _))
        have hMA : MAt (wr.setCells g (i * 3) (List.replicate ((ms.length - i) * 3) (.int .i8 0))) g 0 (kp J t y ms) := by
          have hk := hS.kept
          rw [hjj, List.take_length] at hk
          intro q hq
          have hq2 : q < i := by omega
          have := hk q hq
          rw [World.cell?_setCells_out _ _ _ _ _ (fun _ _ => .inl (by show 0 + q * 3 < _; omega)), World.cell?_setCells_out _ _ _ _ _ (fun _ _ => .inl (by show 0 + q * 3 + 1 < _; omega)), World.cell?_setCells_out _ _ _ _ _ (fun _ _ => .inl (by show 0 + q * 3 + 2 < _; omega))]
          exact this
        have hFA : ∀ q, (wr.setCells g (i * 3) (List.replicate ((ms.length - i) * 3) (.int .i8 0))).frozen? ⟨g, q, none⟩ = false := fun q => by rw [World.frozen?_setCells]; exact hS.free q
        have hBS := below_sc (Nat.le_refl g) (List.replicate ((ms.length - i) * 3) (.int .i8 0)) (i * 3) wr
        have hGL := Nat.lt_of_lt_of_le hS.lt hBS.size
        have HZ := Lib.hid (And.intro hMA (And.intro hFA (And.intro (hB1.trans (hB.trans hBS)) hGL)))
        have hcl := HCL.out
        clear hMA hFA hBS hGL hS hB HCL hlen hjj hkl hlt
        go_wp2
        go_ret
        exact ⟨by rw [HKL.out]; rfl, HZ.out.2.2.2, HZ.out.1, HZ.out.2.1, HZ.out.2.2.1⟩
end Go.Proofs.Ytodbbdfgbkbfbaa
