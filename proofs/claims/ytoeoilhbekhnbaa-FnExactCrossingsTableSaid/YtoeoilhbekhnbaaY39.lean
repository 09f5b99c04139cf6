/-
  LeastBoat in the program.
-/
import Derived.Test.YtoeoilhbekhnbaaY36
import Derived.Test.YtoeoilhbekhnbaaY38
namespace Go.Proofs.Ytoeoilhbekhnbaa
open Go.RowKit Go.Maps Go.MapKept Go.ChangeMaps
set_option maxRecDepth 100000
set_option linter.unusedVariables false

theorem landings_any (l k : Int) (a : Option Addr) (c : Nat) (xs : List Int) (w : World) (hs : Sl .u16 w.heap.size w a xs) (hn : xs.length ≤ 1048576) (hw : U16 xs) (hl : 1 ≤ l ∧ l ≤ 8) (hk : 0 ≤ k ∧ k ≤ 8) :
    Calls Try.prog 39 #[ferV l k a xs.length c] w fun e w' => ∃ O X mb g cap, e = .returned (.map (some mb)) ∧ PM l (nB l) 200000 [] w O X mb (.slice (some ⟨g, 0, none⟩) (stA l k xs (nB l)).q.length cap) (stA l k xs (nB l)) w' :=
  callsIn_wide.1 (landings_in l k a c xs (nB l) w hs hn hw hl hk (nB_eq hl).1)
/-- The last bank by its number. -/
theorem last_bk {l : Int} (hl : 1 ≤ l ∧ l ≤ 8) : (bankV 0 true : Value) = bkV l ((laN l : Nat) : Int) := by
  have ha := allI_le hl
  have h1 := bk_of (l := l) (n := 0) (f := true) hl ⟨Int.le_refl _, by omega⟩
  have e : nmI l 0 true = ((laN l : Nat) : Int) := by rw [(nB_eq hl).2.2.1]; unfold nmI; simp
  rw [e] at h1
  unfold bkV
  rw [h1.1, h1.2.1]
theorem zeroLg' (w : World) : (zeroValue 66).run Try.prog w = .ok (.agg #[.int .u16 0, .bool false, .int .u16 0, .int .i16 0, .int .i64 0]) w := by kernel_rfl
/-- What the map says of the last bank. -/
theorem last_look {l k : Int} {xs : List Int} (hl : 1 ≤ l ∧ l ≤ 8) {G : Value → Option Value} (hS : FSb l (nB l) (stA l k xs (nB l)) G) :
    ∃ h1 h2 h3 h4 h5, (G (bankV 0 true)).getD (.agg #[.int .u16 0, .bool false, .int .u16 0, .int .i16 0, .int .i64 0]) = .agg #[.int .u16 h1, .bool h2, .int .u16 h3, .int .i16 h4, .int .i64 h5] ∧ (G (bankV 0 true)).isSome = scF l k xs := by
  have hN := nB_eq hl
  rw [last_bk hl, hS.1 _ hN.2.2.2]
  unfold lgO scF
  by_cases h : 0 ≤ (stA l k xs (nB l)).tb.getD (laN l) 0
  · rw [if_pos h, decide_eq_true h]
    exact ⟨_, _, _, _, _, rfl, rfl⟩
  · rw [if_neg h, decide_eq_false h]
    exact ⟨0, false, 0, 0, 0, rfl, rfl⟩
theorem bringsAll_any (l k : Int) (a : Option Addr) (c : Nat) (xs : List Int) (w : World) (hs : Sl .u16 w.heap.size w a xs) (hn : xs.length ≤ 1048576) (hw : U16 xs) (hl : 1 ≤ l ∧ l ≤ 8) (hk : 0 ≤ k ∧ k ≤ 8) :
    Calls Try.prog 43 #[ferV l k a xs.length c] w fun e w' => e = .returned (.bool (scF l k xs)) ∧ Below w.heap.size w w' := by
  have F0 := (FR.start w).box #[.int .i8 l, .int .i8 k, .slice a xs.length c] 30
  obtain ⟨c0, c1, c2, -⟩ := (F0.blk _ List.mem_cons_self).three
  have HL := Lib.hid (landings_any l k a c xs _ (hs.up F0.below (Nat.le_refl _)) hn hw hl hk)
  have HLB := Lib.hid (fun W => lastBank_any W)
  have HLK := Lib.hid (fun G (h : FSb l (nB l) (stA l k xs (nB l)) G) => last_look (k := k) (xs := xs) hl h)
  obtain ⟨kl, hkl⟩ := keyB_mk 0 true (by decide)
  have HKL := Lib.hid hkl
  generalize stA l k xs (nB l) = s at *
  generalize scF l k xs = r at *
  clear hs hw hl hk hkl
  go_enter Try.func43, Try.ntmps43
  go_wp2_with fail
  refine HL.out.mono ?_
  rintro e w2 ⟨O, X, mb, g, cap, rfl, hP⟩
  have F2 := F0.next hP.below
  obtain ⟨G, n, hnB, hM, hS⟩ := hP.map
  obtain ⟨h1, h2, h3, h4, h5, hv, hsm⟩ := HLK.out G hS
  have HM := Lib.hid hM
  have HB := Lib.hid F2.below
  have HV := Lib.hid hv
  have HSM := Lib.hid hsm
  clear c0 c1 c2 F0 HL hP hM hS F2 HLK hv hsm
  go_wp2_with fail
  refine (HLB.out w2).mono ?_
  rintro e w3 ⟨rfl, hb3⟩
  have HM3 := Lib.hid (HM.out.below hb3 HM.out.lt)
  have HB3 := Lib.hid (HB.out.trans (hb3.mono HB.out.size))
  clear hb3 HM HB HLB
  go_wp2_with (first
    | (at_lookup; refine wpList_lookH_ok rfl _ _ 60 rfl 66 keyB Try.underlying60 (zeroLg' _) rfl HM3.out (bankV 0 true) kl rfl HKL.out _ HV.out r HSM.out ?_)
    | fail)
  go_ret
  exact ⟨rfl, HB3.out.alloc HB3.out.size _⟩
set_option maxHeartbeats 1000000 in
theorem leastBoat_any (l k : Int) (a : Option Addr) (c : Nat) (xs : List Int) (w : World) (hs : Sl .u16 w.heap.size w a xs) (hl : B8 l) (hk : B8 k) (hn : xs.length ≤ 1048576) (hw : U16 xs) :
    Calls Try.prog 26 #[ferV l k a xs.length c] w fun e w' => e = .returned (.tuple #[.int .i64 (lbV l k xs), .int .i64 (ctC l k xs)]) ∧ Below w.heap.size w w' := by
  have F0 := (FR.start w).box #[.int .i8 l, .int .i8 k, .slice a xs.length c] 30
  obtain ⟨c0, c1, c2, -⟩ := (F0.blk _ List.mem_cons_self).three
  have HO := Lib.hid (validFerry_any l k a c xs _ (hs.up F0.below (Nat.le_refl _)) hl hk hn hw)
  have HF := Lib.hid F0
  unfold lbV ctC
  cases hok : okY l k xs
  · rw [hok] at HO
    simp only [Bool.false_eq_true, if_false]
    clear hok F0 hs hl hk hw
    go_enter Try.func26, Try.ntmps26
    go_wp2_with fail
    refine HO.out.mono ?_
    rintro e w2 ⟨rfl, hb⟩
    have HB := Lib.hid (HF.out.next hb).below
    clear hb HF HO c0 c1 c2
    go_wp2
    go_ret2
    exact ⟨rfl, HB.out⟩
  · rw [hok] at HO
    simp only [if_true]
    have h8 := (okY_t hok).1
    have HFL := Lib.hid (full_found hok hw)
    have HBA := Lib.hid (fun (b : Nat) (hb : b ≤ 8) (W : World) (hW : Below w.heap.size w W) => (show Calls Try.prog 43 #[ferV l (b : Int) a xs.length c] W fun e w' => e = .returned (.bool (fdB l b xs)) ∧ Below W.heap.size W w' from bringsAll_any l (b : Int) a c xs W (hs.up hW (Nat.le_refl _)) hn hw h8 (by omega)))
    have hlt9 : l.toNat ≤ 8 := by omega
    clear hok F0 hs hl hk hw
    obtain ⟨RR, hRR⟩ : ∃ RR, fnd l xs 9 0 = RR := ⟨_, rfl⟩
    rw [hRR]
    have HRR := Lib.hid hRR
    clear hRR
    go_enter Try.func26, Try.ntmps26
    go_wp2_with fail
    refine HO.out.mono ?_
    rintro e w2 ⟨rfl, hb⟩
    have F2 := HF.out.next hb
    have k2 := F2.blk _ List.mem_cons_self
    have hB2 := F2.below
    dsimp only at k2
    have HK3 := Lib.hid (show Blk (w2.setCell ⟨w.heap.size, 1, none⟩ (.int .i8 0)) w.heap.size #[.int .i8 l, .int .i8 ((0 : Nat) : Int), .slice a xs.length c] 30 from k2.set 1 (.int .i8 0))
    have HB3 := Lib.hid (hB2.setCell (p := ⟨w.heap.size, 1, none⟩) (Nat.le_refl _) (.int .i8 0))
    clear c0 c1 c2
    obtain ⟨c0, c1, c2, cf⟩ := k2.three
    have cf1 := cf 1
    clear hb HF HO F2 k2 hB2 cf
    go_upto_region 4 with fail
    clear c0 c1 c2 cf1
    generalize w2.setCell ⟨w.heap.size, 1, none⟩ (.int .i8 0) = w3 at *
    go_loopw [8] (fun _ wr => ∃ b : Nat, b ≤ l.toNat ∧ fnd l xs (9 - b) b = RR ∧ Blk wr w.heap.size #[.int .i8 l, .int .i8 (b : Int), .slice a xs.length c] 30 ∧ Below w.heap.size w wr) (fun _ wr => 9 - (intOf ((wr.cell? ⟨w.heap.size, 1, none⟩).getD undef)).toNat)
    case atStart => exact ⟨0, Nat.zero_le _, HRR.out, HK3.out, HB3.out⟩
    case round =>
      clear HK3 HB3
      obtain ⟨b, hb, hfn, hK, hB⟩ := hrel
      have hb8 : b ≤ 8 := by omega
      obtain ⟨c0, c1, c2, -⟩ := hK.three
      have HBB := Lib.hid (HBA.out b hb8 wr hB)
      have HBL := Lib.hid (show fdB l b xs = false → b < l.toNat from fun h => by
        rcases Nat.lt_or_ge b l.toNat with h1 | h1
        · exact h1
        · have e : b = l.toNat := by omega
          have := HFL.out
          rw [← e, h] at this
          cases this)
      obtain ⟨f, hf⟩ : ∃ f, 9 - b = f + 1 := ⟨8 - b, by omega⟩
      have HS1 := Lib.hid (show fdB l b xs = true → RR = b from fun h => by rw [← hfn, hf]; exact fnd_stop h)
      have HS2 := Lib.hid (show fdB l b xs = false → fnd l xs (9 - (b + 1)) (b + 1) = RR from fun h => by rw [← hfn, hf, show 9 - (b + 1) = f by omega]; exact (fnd_on h).symm)
      have HM0 := Lib.hid c1
      have HKB := Lib.hid (And.intro hK hB)
      have hwb : IntKind.i8.wrap ((b : Int) + 1) = (b : Int) + 1 := IntWalk.i8_in _ (by omega)
      generalize fdB l b xs = r at *
      clear hfn hK hB hf
      cases r
      · have hbl := HBL.out rfl
        have HR := Lib.hid (HS2.out rfl)
        go_wp2_with fail
        refine HBB.out.mono ?_
        rintro e w5 ⟨rfl, hb5⟩
        have k5 := HKB.out.1.below hb5 HKB.out.1.lt
        have hB5 := HKB.out.2.trans (hb5.mono HKB.out.2.size)
        have HK6 := Lib.hid (show Blk (w5.setCell ⟨w.heap.size, 1, none⟩ (.int .i8 ((b : Int) + 1))) w.heap.size #[.int .i8 l, .int .i8 ((b + 1 : Nat) : Int), .slice a xs.length c] 30 from k5.set 1 (.int .i8 ((b : Int) + 1)))
        have HB6 := Lib.hid (hB5.setCell (p := ⟨w.heap.size, 1, none⟩) (Nat.le_refl _) (.int .i8 ((b : Int) + 1)))
        clear c0 c1 c2 hb5
        obtain ⟨c0, c1, c2, cf⟩ := k5.three
        have cf1 := cf 1
        clear cf k5 hB5
        go_wp2
        go_roundw
        case rel => exact ⟨b + 1, by omega, HR.out, HK6.out, HB6.out⟩
        case measure =>
          have e1 := HK6.out.cell 1
          simp only [List.getElem?_toArray, List.getElem?_cons_zero, List.getElem?_cons_succ] at e1
          rw [e1, HM0.out]
          simp [intOf]; omega
      · have HR := Lib.hid (HS1.out rfl)
        go_wp2_with fail
        refine HBB.out.mono ?_
        rintro e w5 ⟨rfl, hb5⟩
        have k5 := HKB.out.1.below hb5 HKB.out.1.lt
        have HB5 := Lib.hid (HKB.out.2.trans (hb5.mono HKB.out.2.size))
        clear c0 c1 c2 hb5
        obtain ⟨c0, c1, c2, -⟩ := k5.three
        clear k5
        go_wp2
        go_ret2
        exact ⟨by rw [HR.out]; rfl, HB5.out⟩
end Go.Proofs.Ytoeoilhbekhnbaa
