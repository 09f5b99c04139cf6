/-
  LeastBoat: a boat for all things brings them over; the model's walk.
-/
import Derived.Test.YtoeoilhbekhnbaaY37
namespace Go.Proofs.Ytoeoilhbekhnbaa
open Go.RowKit
set_option maxRecDepth 100000
set_option linter.unusedVariables false

theorem fold_q {l : Int} {a : Nat} : ∀ (L : List Int) (s : St), s.q <+: (L.foldl (St.one l a) s).q
  | [], s => List.prefix_refl _
  | x :: L, s => (one_q l a s x).trans (fold_q L _)
theorem run_q {l k : Int} {xs : List Int} {s : St} {i : Nat} : ∀ d, (St.run l k xs s i).q <+: (St.run l k xs s (i + d)).q
  | 0 => List.prefix_refl _
  | d + 1 => by
    refine (run_q d).trans ?_
    by_cases h : i + d < (St.run l k xs s (i + d)).q.length
    · rw [show i + (d + 1) = i + d + 1 from rfl, run_next h]; exact fold_q _ _
    · rw [show i + (d + 1) = i + d + 1 from rfl, run_stop (i := i + d) (by omega) (i + d + 1) (by omega)]; exact List.prefix_refl _
def fdB (l : Int) (b : Nat) (xs : List Int) : Bool := decide (0 ≤ (stA l (b : Int) xs (nB l)).tb.getD (laN l) 0)
def fnd (l : Int) (xs : List Int) : Nat → Nat → Nat
  | 0, b => b
  | f + 1, b => if fdB l b xs = true then b else fnd l xs f (b + 1)
def lbV (l k : Int) (xs : List Int) : Int := if okY l k xs = true then (fnd l xs 9 0 : Nat) else 0
theorem full_c {l : Int} (hl : 1 ≤ l ∧ l ≤ 8) : offL l (allI l) false (allI l) = false ∧ (sz (allI l).toNat : Int) = l ∧ xorI (allI l) (allI l) = 0 ∧ aloI l 0 true = 0 ∧ bits .andNot .u16 0 (allI l) = 0 := by
  rcases l8 hl with rfl | rfl | rfl | rfl | rfl | rfl | rfl | rfl <;> exact ⟨by kernel_rfl, by kernel_rfl, by kernel_rfl, by kernel_rfl, by kernel_rfl⟩
theorem safe_none {l : Int} {xs : List Int} (h : xs.any (badR l) = false) (hw : U16 xs) : safeX xs 0 = true := by
  unfold safeX
  rw [Bool.not_eq_true', List.any_eq_false]
  intro r hr h2
  have h3 := List.any_eq_false.1 h r hr
  obtain ⟨i, hi, e⟩ := List.mem_iff_getElem.1 hr
  have h4 := hw i
  rw [List.getD_eq_getElem?_getD, List.getElem?_eq_getElem hi, Option.getD_some, e] at h4
  have h5 : bits .andNot .u16 r 0 = 0 := by unfold inS at h2; simpa using h2
  rw [bits_andNot, toNat_eq_zero] at h5
  have e0 : bv 0 = 0 := by kernel_rfl
  have h6 : bv r = 0 := by
    rw [e0, show (~~~(0 : BitVec 16)) = BitVec.allOnes 16 from rfl, BitVec.and_allOnes] at h5
    exact h5
  have h7 := bv_num h4
  rw [h6] at h7
  have h8 : r = 0 := by rw [← h7]; rfl
  apply h3
  rw [h8]
  unfold badR
  rw [show (sz (0 : Int).toNat : Int) = 0 by rw [show (0 : Int).toNat = 0 from rfl, sz_zero]; rfl]
  simp
theorem full_found {l k : Int} {xs : List Int} (h : okY l k xs = true) (hw : U16 xs) : fdB l l.toNat xs = true := by
  have hok := okY_t h
  have hl := hok.1
  have ha := allI_le hl
  have hN := nB_eq hl
  obtain ⟨c1, c2, c3, c4, c5⟩ := full_c hl
  obtain ⟨al, hal⟩ : ∃ al : Nat, allI l = al := ⟨(allI l).toNat, by omega⟩
  have hk : ((l.toNat : Nat) : Int) = l := by omega
  have hcd : cdL l l xs (al : Int) false (al : Int) = 0 := by
    rw [← hal]
    unfold cdL
    rw [if_neg (by rw [c1]; decide), if_neg (by rw [c2]; omega), if_pos]
    unfold bkX
    rw [c3, show (!false) = true from rfl, c4, c5, safe_none hok.2.2.2 hw]
    rfl
  have b1 : bkN l (al : Int) = al := by unfold bkN; rw [hal]; exact Int.emod_eq_of_lt (by omega) (by omega)
  have b2 : bkF l (al : Int) = false := by unfold bkF; exact decide_eq_false (by omega)
  have hnx : nxI l (al : Int) false (al : Int) = ((laN l : Nat) : Int) := by
    unfold nxI nmI
    rw [show xorI (al : Int) (al : Int) = 0 by rw [← hal]; exact c3, hN.2.2.1]
    simp
  have hA : (allI l).toNat = al := by omega
  have hI0 := Inv.first (N := nB l) (f := al) (by omega)
  have hm0 : ((al : Nat) : Int) ∈ (St.first (nB l) al).q := by simp [St.first]
  have hB : ((laN l : Nat) : Int) ∈ (St.bank l l xs (St.first (nB l) al) al).q := by
    unfold St.bank
    rw [b1, b2]
    have e : ldA l l xs (al : Int) false = ldT l l xs (al : Int) false al ++ [(al : Int)] := by unfold ldA; rw [hA]; exact ldT_t hcd
    rw [e, List.foldl_append]
    show _ ∈ (St.one l al (List.foldl (St.one l al) (St.first (nB l) al) (ldT l l xs (al : Int) false al)) (al : Int)).q
    have hI1 := Inv.fold (l := l) (at' := al) (ldT l l xs (al : Int) false al) _ hI0 hm0 (fun x hx => by
      rw [b1, b2]
      exact ldA_nx hl hN.1 x (by rw [e]; exact List.mem_append_left _ hx))
    generalize List.foldl (St.one l al) (St.first (nB l) al) (ldT l l xs (al : Int) false al) = s at *
    unfold St.one
    rw [b1, b2, hnx, Int.toNat_natCast, add_q]
    unfold St.find
    split
    · simp
    · rename_i hn
      exact hI1.1.known _ hN.2.2.2 (by omega)
  have h1 : St.run l l xs (St.first (nB l) al) 1 = St.bank l l xs (St.first (nB l) al) al := by
    have := run_next (l := l) (k := l) (xs := xs) (s := St.first (nB l) al) (i := 0) (by simp [St.run, St.first])
    rw [this]
    simp [St.run, St.first]
  have h2 := run_q (l := l) (k := l) (xs := xs) (s := St.first (nB l) al) (i := 1) (nB l - 1)
  rw [show 1 + (nB l - 1) = nB l by omega, h1] at h2
  have h3 := h2.subset hB
  have h4 := (stA_inv (k := l) (xs := xs) hl hN.1).here ((laN l : Nat) : Int) (by unfold stA; rw [hA]; exact h3)
  rw [Int.toNat_natCast] at h4
  unfold fdB
  rw [hk]
  exact decide_eq_true h4.2.2
theorem fnd_stop {l : Int} {xs : List Int} {f b : Nat} (h : fdB l b xs = true) : fnd l xs (f + 1) b = b := if_pos h
theorem fnd_on {l : Int} {xs : List Int} {f b : Nat} (h : fdB l b xs = false) : fnd l xs (f + 1) b = fnd l xs f (b + 1) := if_neg (by rw [h]; decide)
set_option maxHeartbeats 2000000 in
theorem specLeastBoat_any (l k : Int) (a : Option Addr) (c : Nat) (xs : List Int) (w : World) (hs : Sl .u16 w.heap.size w a xs) (hl : B8 l) (hk : B8 k) (hn : xs.length ≤ 1048576) (hw : U16 xs) :
    Calls Try.prog 25 #[ferV l k a xs.length c] w fun e w' => e = .returned (.tuple #[.int .i64 (lbV l k xs), .int .i64 (ctC l k xs)]) ∧ Below w.heap.size w w' := by
  have F0 := (FR.start w).box #[.int .i8 l, .int .i8 k, .slice a xs.length c] 30
  have HO := Lib.hid (l05Ok_any w.heap.size l k a c xs _ (F0.blk _ List.mem_cons_self) (hs.up F0.below (Nat.le_refl _)) hl hk hn hw)
  have HF := Lib.hid F0
  unfold lbV ctC
  cases hok : okY l k xs
  · rw [hok] at HO
    simp only [Bool.false_eq_true, if_false]
    clear hok F0 hs hl hk hw
    go_enter Try.func25, Try.ntmps25
    go_wp2_with fail
    refine HO.out.mono ?_
    rintro e w2 ⟨rfl, hd⟩
    have HB := Lib.hid (HF.out.next hd.below).below
    clear hd HF HO
    go_wp2
    go_ret2
    exact ⟨rfl, HB.out⟩
  · rw [hok] at HO
    simp only [if_true]
    have h8 := (okY_t hok).1
    have hN := nB_eq h8
    have HFL := Lib.hid (full_found hok hw)
    have HFD := Lib.hid (fun (b B : Nat) (hb : b ≤ 8) (W : World) (L : List (Nat × Array Value × TypeId)) (h : FR w ((B, #[.int .i8 l, .int .i8 (b : Int), .slice a xs.length c], 30) :: L) W) => l05Find_any B l (b : Int) a c xs (nB l) W (h.blk _ List.mem_cons_self) (hs.up h.below (Nat.le_refl _)) hn h8 (by omega) hN.1)
    have HLA := Lib.hid (fun (b B : Nat) (W : World) (L : List (Nat × Array Value × TypeId)) (h : FR w ((B, #[.int .i8 l, .int .i8 (b : Int), .slice a xs.length c], 30) :: L) W) => (show Calls Try.prog 41 _ W fun e w' => e = .returned (.int .i64 (laN l : Nat)) ∧ W = w' by
      rw [hN.2.2.1]; exact l05Last_any B l _ _ W (h.blk _ List.mem_cons_self) h8))
    have HIN := Lib.hid (fun b : Nat => stA_inv (k := (b : Int)) (xs := xs) h8 hN.1)
    have HDF := Lib.hid (fun b : Nat => (show fdB l b xs = decide (0 ≤ (stA l (b : Int) xs (nB l)).tb.getD (laN l) 0) from rfl))
    have hlaN := hN.2.2.2
    have hN5 := hN.2.1
    have HFN := Lib.hid (show fnd l xs 9 0 = fnd l xs 9 0 from rfl)
    generalize nB l = N at *
    generalize laN l = la at *
    have hlt9 : l.toNat ≤ 8 := by omega
    clear hok F0 hs hl hk hw hN
    have hlai : (la : Int) < (N : Int) := by omega
    obtain ⟨RR, hRR⟩ : ∃ RR, fnd l xs 9 0 = RR := ⟨_, rfl⟩
    rw [hRR]
    have HRR := Lib.hid hRR
    clear hRR HFN
    go_enter Try.func25, Try.ntmps25
    go_wp2_with fail
    refine HO.out.mono ?_
    rintro e w2 ⟨rfl, hd⟩
    have HF2 := Lib.hid (HF.out.next hd.below)
    clear hd HF HO
    go_wp2_with fail
    go_loopw [4] (fun bv wr => ∃ b : Nat, bv = .int .i8 (b : Int) ∧ b ≤ l.toNat ∧ fnd l xs (9 - b) b = RR ∧ FR w [(w.heap.size, #[.int .i8 l, .int .i8 k, .slice a xs.length c], 30)] wr) (fun bv _ => 9 - (intOf bv).toNat)
    case atStart => exact ⟨0, rfl, Nat.zero_le _, HRR.out, HF2.out⟩
    case round =>
      clear HF2
      obtain ⟨b, rfl, hb, hfn, hF⟩ := hrel
      have hb8 : b ≤ 8 := by omega
      obtain ⟨c0, c1, c2, -⟩ := (hF.blk _ List.mem_cons_self).three
      have FX := hF.box #[.int .i8 l, .int .i8 (b : Int), .slice a xs.length c] 30
      have HXF := Lib.hid (fun W h => HFD.out b wr.heap.size hb8 W [(w.heap.size, #[.int .i8 l, .int .i8 k, .slice a xs.length c], 30)] h)
      have HXL := Lib.hid (fun W h => HLA.out b wr.heap.size W [(w.heap.size, #[.int .i8 l, .int .i8 k, .slice a xs.length c], 30)] h)
      have HII := Lib.hid (HIN.out b)
      have HDD := Lib.hid (HDF.out b)
      have HBL := Lib.hid (show fdB l b xs = false → b < l.toNat from fun h => by
        rcases Nat.lt_or_ge b l.toNat with h1 | h1
        · exact h1
        · have e : b = l.toNat := by omega
          have := HFL.out
          rw [← e, h] at this
          cases this)
      generalize stA l (b : Int) xs N = s at *
      have hfar := HII.out.far la hlaN
      have hsh := HII.out.short
      have HTB := Lib.hid HII.out.tb
      obtain ⟨v, hv⟩ : ∃ v, s.tb.getD la 0 = v := ⟨_, rfl⟩
      rw [hv] at hfar HDD
      have HV := Lib.hid hv
      have HFN := Lib.hid hfn
      clear hv hfn HII hF
      have hwb : IntKind.i8.wrap ((b : Int) + 1) = (b : Int) + 1 := IntWalk.i8_in _ (by omega)
      go_upto_region 5 with fail
      clear c0 c1 c2
      generalize wr.alloc (.cells #[.int .i8 l, .int .i8 (b : Int), .slice a xs.length c] 30) = w5 at *
      generalize wr.heap.size = B5 at *
      by_cases hvp : 0 ≤ v
      · have hge : (v ≥ 0) = True := by simp [hvp]
        have HR := Lib.hid (show RR = b by
          have h1 : fdB l b xs = true := by rw [HDD.out]; exact decide_eq_true hvp
          obtain ⟨f, hf⟩ : ∃ f, 9 - b = f + 1 := ⟨8 - b, by omega⟩
          rw [← HFN.out, hf]; exact fnd_stop h1)
        go_region_with (first
          | (go_at_call 34; with_reducible refine (HXF.out _ (by first | assumption | exact FR.drew (by assumption))).mono ?_; rintro e w8 ⟨S, T, Y, Z, U, rfl, hM⟩; have F8 := FR.next (w := w5.drew) (by exact FX.drew) hM.below; have s0 := hM.bS.cell 0; have t1 : w8.cell? ⟨T, la, none⟩ = some (.int .i16 v) := by rw [hM.bT.cell, ← HV.out]; exact ncells_get _ _ _ (by rw [HTB.out]; exact hlaN)
             simp only [List.getElem?_toArray, List.getElem?_cons_zero] at s0)
          | (go_at_call 41; with_reducible refine (HXL.out _ (by first | assumption | exact FR.drew (by assumption))).mono ?_; rintro e w9 ⟨rfl, rfl⟩))
        all_goals
          have HB8 := Lib.hid F8.below
          clear s0 t1 F8 hM FX
          go_wp2
          go_ret2
          exact ⟨by rw [HR.out]; rfl, HB8.out⟩
      · have hge : (v ≥ 0) = False := by simp; omega
        have hd : fdB l b xs = false := by rw [HDD.out]; exact decide_eq_false hvp
        have hbl := HBL.out hd
        have HR := Lib.hid (show fnd l xs (9 - (b + 1)) (b + 1) = RR by
          obtain ⟨f, hf⟩ : ∃ f, 9 - b = f + 1 := ⟨8 - b, by omega⟩
          rw [← HFN.out, hf, show 9 - (b + 1) = f by omega]; exact (fnd_on hd).symm)
        clear hd
        go_region_with (first
          | (go_at_call 34; with_reducible refine (HXF.out _ (by first | assumption | exact FR.drew (by assumption))).mono ?_; rintro e w8 ⟨S, T, Y, Z, U, rfl, hM⟩; have F8 := FR.next (w := w5.drew) (by exact FX.drew) hM.below; have s0 := hM.bS.cell 0; have t1 : w8.cell? ⟨T, la, none⟩ = some (.int .i16 v) := by rw [hM.bT.cell, ← HV.out]; exact ncells_get _ _ _ (by rw [HTB.out]; exact hlaN)
             simp only [List.getElem?_toArray, List.getElem?_cons_zero] at s0)
          | (go_at_call 41; with_reducible refine (HXL.out _ (by first | assumption | exact FR.drew (by assumption))).mono ?_; rintro e w9 ⟨rfl, rfl⟩))
        all_goals
          have HF9 := Lib.hid (F8.tail (fun q L' e => by cases e; exact ⟨Nat.le_refl _, by simp⟩))
          clear s0 t1 F8 hM FX
          go_wp2
          go_roundw
          case rel => exact ⟨b + 1, by go_num, by omega, HR.out, HF9.out⟩
          case measure => simp [intOf]; omega
end Go.Proofs.Ytoeoilhbekhnbaa
