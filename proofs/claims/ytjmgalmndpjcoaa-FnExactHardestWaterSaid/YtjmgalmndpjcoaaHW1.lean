/-
  HardestWater, both sides.
-/
import Derived.Test.YtjmgalmndpjcoaaST3
import Derived.BigQuiet
namespace Go.Proofs.Ytjmgalmndpjcoaa
open Go.RowKit
set_option maxRecDepth 100000
set_option linter.unusedVariables false

theorem below_dN {B : Nat} {w W : World} (h : Below B w W) : ∀ n, Below B w (W.drewN n)
  | 0 => h
  | n + 1 => (below_dN h n).drew
/-- The first place of the greatest one of the numbers up to the place n. -/
def mxI (xs : List Int) : Nat → Nat
  | 0 => 0
  | n + 1 => if xs.getD (mxI xs n) 0 < xs.getD (n + 1) 0 then n + 1 else mxI xs n
theorem mxI_le (xs : List Int) : ∀ n, mxI xs n ≤ n
  | 0 => Nat.le_refl _
  | n + 1 => by
    have h1 := mxI_le xs n
    by_cases h : xs.getD (mxI xs n) 0 < xs.getD (n + 1) 0
    · rw [show mxI xs (n + 1) = n + 1 from if_pos h]; exact Nat.le_refl _
    · rw [show mxI xs (n + 1) = mxI xs n from if_neg h]; omega
theorem mxI_first (xs : List Int) : ∀ n j, j < mxI xs n → xs.getD j 0 < xs.getD (mxI xs n) 0
  | 0, j, h => by cases h
  | n + 1, j, h => by
    by_cases hc : xs.getD (mxI xs n) 0 < xs.getD (n + 1) 0
    · have e : mxI xs (n + 1) = n + 1 := if_pos hc
      rw [e] at h ⊢
      by_cases h2 : j < mxI xs n
      · have := mxI_first xs n j h2; omega
      · have hle : ∀ m j, j ≤ m → xs.getD j 0 ≤ xs.getD (mxI xs m) 0 := by
          intro m
          induction m with
          | zero => intro j hj; obtain rfl : j = 0 := by omega
                    exact Int.le_refl _
          | succ m ih =>
            intro j hj
            show _ ≤ xs.getD (if _ then _ else _) 0
            split
            · by_cases e : j = m + 1
              · subst e; exact Int.le_refl _
              · have := ih j (by omega); omega
            · by_cases e : j = m + 1
              · subst e; omega
              · exact ih j (by omega)
        have := hle n j (by omega)
        omega
    · have e : mxI xs (n + 1) = mxI xs n := if_neg hc
      rw [e] at h ⊢
      exact mxI_first xs n j h
noncomputable def hwI (J : List Int) (x : Nat → Int) (t : Bool) : Nat := mxI (gsJ J x t).tb (nW J - 1)
noncomputable def hwX (J : List Int) (x : Nat → Int) (t : Bool) : Nat → Int := if okZ J x = true then atV J (hwI J x t) else fun _ => 0
noncomputable def hwS (J : List Int) (x : Nat → Int) (t : Bool) : Int := if okZ J x = true then (gsJ J x t).tb.getD (hwI J x t) 0 else 0
set_option maxHeartbeats 2000000 in
theorem specHardestWater_any (b off c : Nat) (J : List Int) (x : Nat → Int) (t : Bool) (w : World) (hn : J.length ≤ 1048576) (hb : b < w.heap.size) (hc : At .i16 w b off J) :
    Calls Try.prog 31 #[puzV (some ⟨b, off, none⟩) J.length c x t] w fun e w' => e = .returned (.tuple #[watV (hwX J x t), .int .i64 (hwS J x t), .int .i64 (codZ J x)]) ∧ Below w.heap.size w w' := by
  have k0 := (blk_new w #[.slice (some ⟨b, off, none⟩) J.length c, .int .i16 (x 0), .int .i16 (x 1), .int .i16 (x 2), .int .i16 (x 3), .bool t] 32).alloc (.cells #[.int .i16 0, .int .i16 0, .int .i16 0, .int .i16 0] 30)
  have k2 := blk_new (w.alloc (.cells #[.slice (some ⟨b, off, none⟩) J.length c, .int .i16 (x 0), .int .i16 (x 1), .int .i16 (x 2), .int .i16 (x 3), .bool t] 32)) #[.int .i16 0, .int .i16 0, .int .i16 0, .int .i16 0] 30
  have hB := ((Below.refl w.heap.size w).alloc (Nat.le_refl _) (.cells #[.slice (some ⟨b, off, none⟩) J.length c, .int .i16 (x 0), .int .i16 (x 1), .int .i16 (x 2), .int .i16 (x 3), .bool t] 32)).alloc (by simp) (.cells #[.int .i16 0, .int .i16 0, .int .i16 0, .int .i16 0] 30)
  simp only [World.size_alloc] at k2
  have hc1 := hc.below hB hb
  have hb1 := Nat.lt_of_lt_of_le hb hB.size
  have HO := Lib.hid (l02Ok_any w.heap.size b off c J x t _ hn hb1 hc1 k0)
  have HK2 := Lib.hid k2
  have hle : w.heap.size ≤ w.heap.size + 1 := by omega
  unfold hwX hwS codZ
  clear hc k2
  cases hok : okZ J x
  · rw [hok] at HO
    simp only [Bool.false_eq_true, if_false]
    have HB := Lib.hid hB
    clear hok hB k0 hc1 hb1
    go_enter Try.func31, Try.ntmps31
    go_wp2_with fail
    refine HO.out.mono ?_
    rintro e w2 ⟨rfl, hb2⟩
    have HB2 := Lib.hid (HB.out.trans (hb2.mono HB.out.size))
    obtain ⟨z0, z1, z2, z3, z4⟩ := (HK2.out.below hb2 HK2.out.lt).four
    clear hb2 HB HO
    go_wp2
    refine bodyPost_ret (v := .tuple #[watV (fun _ => 0), .int .i64 0, .int .i64 1]) (by simp [results, Try.results31, go_sem, z0, z1, z2, z3]) rfl ⟨rfl, ?_⟩
    exact (((HB2.out.setCell hle _).setCell hle _).setCell hle _).setCell hle _
  · rw [hok] at HO
    simp only [if_true]
    have hJ := okZ_J hok
    have hx := okZ_X hok
    clear hok
    have hI := gsJ_inv (t := t) hJ hx
    have hnw := nW_eq hJ
    have HFD := Lib.hid (fun W2 (h1 : b < W2.heap.size) (h2 : At .i16 W2 b off J) (h3 : Blk W2 w.heap.size _ _) => (show Calls Try.prog 38 _ W2 fun e w' => ∃ S T Z U v, e = .returned (.pointer (some ⟨S, 0, none⟩)) ∧ JMem J.length (nW J) [] W2 S T Z U v (gsJ J x t) w' from l02Find_any w.heap.size b off c J x t W2 hJ hx h1 h2 h3))
    unfold hwI
    generalize gsJ J x t = s at *
    generalize hN : nW J = N at *
    have hN1 := hnw.2.1
    have hN2 := hnw.2.2
    have HAT := Lib.hid (fun (i : Nat) (hi : i < N) W (h1 : b < W.heap.size) (h2 : At .i16 W b off J) (h3 : Blk W w.heap.size _ _) => (show Calls Try.prog 51 #[.pointer (some ⟨w.heap.size, 0, none⟩), .int .i64 (i : Int)] W fun e w' => e = .returned (watV (atV J (i : Int))) ∧ Below W.heap.size W w' from l02At_any w.heap.size b off c J x t (i : Int) W hJ.1.2 hJ.2.1 (by omega) h1 h2 h3))
    have HI := Lib.hid hI
    have HTB := Lib.hid hI.tb
    clear hI hx hJ hnw hN
    have hmle := mxI_le s.tb (N - 1)
    have HB16 := Lib.hid (show -32768 ≤ s.tb.getD (mxI s.tb (N - 1)) 0 ∧ s.tb.getD (mxI s.tb (N - 1)) 0 ≤ 32767 by
      have h1 := HI.out.far (mxI s.tb (N - 1)) (by omega)
      have h2 := HI.out.short
      omega)
    generalize hm : mxI s.tb (N - 1) = m at *
    have HM := Lib.hid hm
    clear hm
    go_enter Try.func31, Try.ntmps31
    go_wp2_with fail
    refine HO.out.mono ?_
    rintro e w2 ⟨rfl, hb2⟩
    have hB2 := hB.trans (hb2.mono hB.size)
    replace k0 := k0.below hb2 k0.lt
    have k2 := HK2.out.below hb2 HK2.out.lt
    replace hc1 := hc1.below hb2 hb1
    replace hb1 := Nat.lt_of_lt_of_le hb1 hb2.size
    clear hb2 hB HO HK2
    go_wp2_with fail
    refine (HFD.out _ hb1 hc1 k0).mono ?_
    rintro e w4 ⟨S, T, Z, U, v, rfl, hM⟩
    have hb4 := hM.below
    have HB4 := Lib.hid (hB2.trans (hb4.mono hB2.size))
    have HLO := Lib.hid (show S ≠ w.heap.size + 1 ∧ T ≠ w.heap.size + 1 by have h1 := hM.lo; have h2 := k2.lt; omega)
    have HP4 := Lib.hid (And.intro (k0.below hb4 k0.lt) (And.intro (k2.below hb4 k2.lt) (And.intro (Nat.lt_of_lt_of_le hb1 hb4.size) (hc1.below hb4 hb1))))
    have HM4 := Lib.hid hM
    clear hM k0 k2 hc1 hb1 HFD hB2 hb4
    go_wp2_with fail
    go_loopw [6, 7] (fun av iv wr => ∃ k : Nat, k + 1 ≤ N ∧ iv = .int .i64 ((k : Int) + 1) ∧ av = .int .i64 (mxI s.tb k : Nat) ∧ Below w4.heap.size w4 wr) (fun _ iv _ => N - (intOf iv).toNat)
    case atStart => exact ⟨0, by omega, rfl, rfl, Below.refl _ _⟩
    case round =>
      obtain ⟨k, hk, rfl, rfl, hB⟩ := hrel
      have hR := HM4.out.next hB
      obtain ⟨s0, -, -, -, -⟩ := hR.bS.four
      by_cases hlt : k + 1 < N
      · have hkn : (k : Int) + 1 < (N : Int) := by omega
        have hmk := mxI_le s.tb k
        have hmn : (mxI s.tb k : Int) < (N : Int) := by omega
        have t1 : wr.cell? ⟨T, k + 1, none⟩ = some (.int .i16 (s.tb.getD (k + 1) 0)) := by
          rw [hR.bT.cell]; exact ncells_get _ _ _ (by rw [HTB.out]; exact hlt)
        have t2 : wr.cell? ⟨T, mxI s.tb k, none⟩ = some (.int .i16 (s.tb.getD (mxI s.tb k) 0)) := by
          rw [hR.bT.cell]; exact ncells_get _ _ _ (by rw [HTB.out]; omega)
        have HB := Lib.hid hB
        by_cases hgt : s.tb.getD (mxI s.tb k) 0 < s.tb.getD (k + 1) 0
        · have HS := Lib.hid (show mxI s.tb (k + 1) = k + 1 from if_pos hgt)
          clear hR hB
          generalize s.tb.getD (k + 1) 0 = y at *
          generalize s.tb.getD (mxI s.tb k) 0 = z at *
          generalize mxI s.tb k = m1 at *
          go_wp2
          go_quiet (fail)
          go_wp2
          go_roundw
          case rel => exact ⟨k + 1, by omega, by go_num, by rw [HS.out]; go_num, below_dN HB.out _⟩
          case measure => simp [intOf]; omega
        · have HS := Lib.hid (show mxI s.tb (k + 1) = mxI s.tb k from if_neg hgt)
          clear hR hB
          generalize s.tb.getD (k + 1) 0 = y at *
          generalize s.tb.getD (mxI s.tb k) 0 = z at *
          generalize mxI s.tb k = m1 at *
          go_wp2
          go_quiet (fail)
          go_wp2
          go_roundw
          case rel => exact ⟨k + 1, by omega, by go_num, by rw [HS.out], below_dN HB.out _⟩
          case measure => simp [intOf]; omega
      · obtain rfl : k = N - 1 := by omega
        have hkn : ¬ ((N - 1 : Nat) : Int) + 1 < (N : Int) := by omega
        rw [HM.out]
        have HB := Lib.hid hB
        have HB9 := Lib.hid (HB4.out.trans (hB.mono HB4.out.size))
        have hP := HP4.out.1.below hB HP4.out.1.lt
        have hQ := HP4.out.2.1.below hB HP4.out.2.1.lt
        have hbb := Nat.lt_of_lt_of_le HP4.out.2.2.1 hB.size
        have hcc := HP4.out.2.2.2.below hB HP4.out.2.2.1
        have t2 : Blk wr T (ncells .i16 s.tb) 23 := hR.bT
        have hSb := hR.bS
        have hlo := HLO.out
        have hml : m < s.tb.length := by rw [HTB.out]; omega
        have keepS : ∀ W', Below wr.heap.size wr W' → (W'.cell? ⟨S, 0, none⟩ = some (.slice (some ⟨T, 0, none⟩) N N) ∧ W'.cell? ⟨T, m, none⟩ = some (.int .i16 (s.tb.getD m 0))) := fun W' hb => ⟨(hSb.below hb hSb.lt).cell 0, ((t2.below hb t2.lt).cell m).trans (ncells_get _ _ _ hml)⟩
        generalize hE : atV J (m : Int) = E at *
        have HE := Lib.hid hE
        have keep2 : ∀ W', Below wr.heap.size wr W' → (((((W'.setCell ⟨w.heap.size + 1, 0, none⟩ (.int .i16 (E 0))).setCell ⟨w.heap.size + 1, 1, none⟩ (.int .i16 (E 1))).setCell ⟨w.heap.size + 1, 2, none⟩ (.int .i16 (E 2))).setCell ⟨w.heap.size + 1, 3, none⟩ (.int .i16 (E 3))).cell? ⟨S, 0, none⟩ = some (.slice (some ⟨T, 0, none⟩) N N) ∧ ((((W'.setCell ⟨w.heap.size + 1, 0, none⟩ (.int .i16 (E 0))).setCell ⟨w.heap.size + 1, 1, none⟩ (.int .i16 (E 1))).setCell ⟨w.heap.size + 1, 2, none⟩ (.int .i16 (E 2))).setCell ⟨w.heap.size + 1, 3, none⟩ (.int .i16 (E 3))).cell? ⟨T, m, none⟩ = some (.int .i16 (s.tb.getD m 0))) := fun W' hb => by
          have q1 := ((((hSb.below hb hSb.lt).setOther hlo.1 0 (.int .i16 (E 0))).setOther hlo.1 1 (.int .i16 (E 1))).setOther hlo.1 2 (.int .i16 (E 2))).setOther hlo.1 3 (.int .i16 (E 3))
          have q2 := ((((t2.below hb t2.lt).setOther hlo.2 0 (.int .i16 (E 0))).setOther hlo.2 1 (.int .i16 (E 1))).setOther hlo.2 2 (.int .i16 (E 2))).setOther hlo.2 3 (.int .i16 (E 3))
          exact ⟨q1.cell 0, (q2.cell m).trans (ncells_get _ _ _ hml)⟩
        have HCE := Lib.hid (fun W' (hb : Below wr.heap.size wr W') => (hQ.below hb hQ.lt).four)
        have HFIN := Lib.hid (fun W' (hb : Below wr.heap.size wr W') => (show Blk ((((W'.setCell ⟨w.heap.size + 1, 0, none⟩ (.int .i16 (E 0))).setCell ⟨w.heap.size + 1, 1, none⟩ (.int .i16 (E 1))).setCell ⟨w.heap.size + 1, 2, none⟩ (.int .i16 (E 2))).setCell ⟨w.heap.size + 1, 3, none⟩ (.int .i16 (E 3))) (w.heap.size + 1) #[.int .i16 (E 0), .int .i16 (E 1), .int .i16 (E 2), .int .i16 (E 3)] 30 ∧ Below w.heap.size w ((((W'.setCell ⟨w.heap.size + 1, 0, none⟩ (.int .i16 (E 0))).setCell ⟨w.heap.size + 1, 1, none⟩ (.int .i16 (E 1))).setCell ⟨w.heap.size + 1, 2, none⟩ (.int .i16 (E 2))).setCell ⟨w.heap.size + 1, 3, none⟩ (.int .i16 (E 3))) from
          ⟨((((hQ.below hb hQ.lt).set 0 (.int .i16 (E 0))).set 1 (.int .i16 (E 1))).set 2 (.int .i16 (E 2))).set 3 (.int .i16 (E 3)), ((((HB9.out.trans (hb.mono HB9.out.size)).setCell hle _).setCell hle _).setCell hle _).setCell hle _⟩))
        have HKI := Lib.hid (fun W' (hb : Below wr.heap.size wr W') => HAT.out m (by omega) W' (Nat.lt_of_lt_of_le hbb hb.size) (hcc.below hb hbb) (hP.below hb hP.lt))
        rw [hE] at HKI
        have HB0 := Lib.hid (show Below wr.heap.size wr wr.drew from (Below.refl _ _).drew)
        have hmN : (m : Int) < (N : Int) := by omega
        generalize hyy : s.tb.getD m 0 = y at *
        have HYY := Lib.hid hyy
        clear hyy hE hP hQ hbb hcc t2 hSb hR hB hml
        go_upto_region 10 with fail
        go_region_held3 (fun W' => W'.cell? ⟨S, 0, none⟩ = some (.slice (some ⟨T, 0, none⟩) N N) ∧ W'.cell? ⟨T, m, none⟩ = some (.int .i16 y))
          (first | exact keepS _ (by first | assumption | exact HB0.out) | exact keep2 _ (by first | assumption | exact HB0.out))
          (first
            | (go_at_call 51; with_reducible refine (HKI.out _ (by first | assumption | exact HB0.out)).mono ?_; rintro e w8 ⟨rfl, hb8⟩; have hq := Below.trans (by first | assumption | exact HB0.out) (hb8.mono (Below.size (by first | assumption | exact HB0.out))); obtain ⟨z0, z1, z2, z3, z4⟩ := HCE.out _ hq))
        all_goals
          have HRR := Lib.hid (HFIN.out w8 hq)
          clear keepS keep2 HCE HFIN HKI HB0 hq hb8 z0 z1 z2 z3 z4
          generalize (((w8.setCell ⟨w.heap.size + 1, 0, none⟩ (.int .i16 (E 0))).setCell ⟨w.heap.size + 1, 1, none⟩ (.int .i16 (E 1))).setCell ⟨w.heap.size + 1, 2, none⟩ (.int .i16 (E 2))).setCell ⟨w.heap.size + 1, 3, none⟩ (.int .i16 (E 3)) = w9 at *
          obtain ⟨z0, z1, z2, z3, -⟩ := HRR.out.1.four
          go_wp2
          have hwy : IntKind.i64.wrap y = y := IntWalk.i64_in _ (by have := HB16.out; omega)
          exact bodyPost_ret (v := .tuple #[watV E, .int .i64 y, .int .i64 0]) (by simp [results, Try.results31, go_sem, z0, z1, z2, z3, hwy]) rfl ⟨by rw [HE.out, HYY.out], HRR.out.2⟩
theorem maxW_any (h c : Nat) (xs : List Int) (w : World) (h1 : 1 ≤ xs.length) (hl : xs.length ≤ 5000) (hi : ∀ i, -32768 ≤ xs.getD i 0 ∧ xs.getD i 0 ≤ 32767) (hT : Blk w h (ncells .i16 xs) 23) :
    Calls Try.prog 54 #[.slice (some ⟨h, 0, none⟩) xs.length c] w fun e w' => e = .returned (.int .i16 (xs.getD (mxI xs (xs.length - 1)) 0)) ∧ w = w' := by
  have HI := Lib.hid hi
  have HT := Lib.hid hT
  have hd : decide ((xs.length : Int) < 1) = false := by simp; omega
  have hc0 := (hT.cell 0).trans (ncells_get _ _ _ (by omega))
  have hz : (0 : Int) < (xs.length : Int) := by omega
  clear hi hT
  go_enter Try.func54, Try.ntmps54
  generalize hx0 : xs.getD 0 0 = x0 at *
  have HX := Lib.hid hx0
  clear hx0
  go_wp2
  go_loop [3, 4] (fun m i => ∃ k : Nat, k + 1 ≤ xs.length ∧ i = .int .i64 ((k : Int) + 1) ∧ m = .int .i16 (xs.getD (mxI xs k) 0)) (fun _ i => xs.length - (intOf i).toNat)
  case atStart => exact ⟨0, by omega, rfl, by rw [show mxI xs 0 = 0 from rfl, HX.out]⟩
  case round =>
    obtain ⟨k, hk, rfl, rfl⟩ := hrel
    by_cases hlt : k + 1 < xs.length
    · have hcell := (HT.out.cell (k + 1)).trans (ncells_get _ _ _ hlt)
      have hm := HI.out (mxI xs k)
      have hx := HI.out (k + 1)
      by_cases hle : xs.getD (mxI xs k) 0 < xs.getD (k + 1) 0
      · have HS := Lib.hid (show xs.getD (mxI xs (k + 1)) 0 = xs.getD (k + 1) 0 by rw [show mxI xs (k + 1) = k + 1 from if_pos hle])
        generalize xs.getD (k + 1) 0 = x at *
        generalize xs.getD (mxI xs k) 0 = m at *
        have hnl : ¬ x ≤ m := by omega
        go_wp2
        go_round
        case rel => exact ⟨k + 1, by omega, by go_num, by rw [HS.out]⟩
        case measure => simp [intOf]; omega
      · have HS := Lib.hid (show xs.getD (mxI xs (k + 1)) 0 = xs.getD (mxI xs k) 0 by rw [show mxI xs (k + 1) = mxI xs k from if_neg hle])
        generalize xs.getD (k + 1) 0 = x at *
        generalize xs.getD (mxI xs k) 0 = m at *
        have hnl : x ≤ m := by omega
        go_wp2
        go_round
        case rel => exact ⟨k + 1, by omega, by go_num, by rw [HS.out]⟩
        case measure => simp [intOf]; omega
    · obtain rfl : k = xs.length - 1 := by omega
      go_wp2
      go_ret
      exact ⟨rfl, rfl⟩
theorem indexW_any (h c : Nat) (xs : List Int) (w : World) (h1 : 1 ≤ xs.length) (hl : xs.length ≤ 5000) (hT : Blk w h (ncells .i16 xs) 23) :
    Calls Try.prog 56 #[.slice (some ⟨h, 0, none⟩) xs.length c, .int .i16 (xs.getD (mxI xs (xs.length - 1)) 0)] w fun e w' => e = .returned (.int .i64 (mxI xs (xs.length - 1) : Nat)) ∧ w = w' := by
  have HF := Lib.hid (mxI_first xs (xs.length - 1))
  have hml := mxI_le xs (xs.length - 1)
  have HT := Lib.hid hT
  generalize mxI xs (xs.length - 1) = m at *
  clear hT
  obtain ⟨y, hy⟩ : ∃ y, xs.getD m 0 = y := ⟨_, rfl⟩
  rw [hy]
  have HY := Lib.hid hy
  clear hy
  go_enter Try.func56, Try.ntmps56
  go_wp2
  go_loop [8] (fun i => ∃ k : Nat, k ≤ m ∧ i = .int .i64 k) (fun i => xs.length - (intOf i).toNat)
  case atStart => exact ⟨0, Nat.zero_le _, rfl⟩
  case round =>
    obtain ⟨k, hk, rfl⟩ := hrel
    have hlt : k < xs.length := by omega
    have hli : (k : Int) < (xs.length : Int) := by omega
    have hcell := (HT.out.cell k).trans (ncells_get _ _ _ hlt)
    by_cases e : k = m
    · subst e
      rw [HY.out] at hcell
      go_wp2
      go_ret
      exact ⟨rfl, rfl⟩
    · have hne := HF.out k (by omega)
      rw [HY.out] at hne
      generalize xs.getD k 0 = x at *
      have hq : (y == x) = false := by simp; omega
      go_wp2
      go_round
      case rel => exact ⟨k + 1, by omega, by go_num⟩
      case measure => simp [intOf]; omega
set_option maxHeartbeats 2000000 in
theorem hardestWater_any (b off c : Nat) (J : List Int) (x : Nat → Int) (t : Bool) (w : World) (hn : J.length ≤ 1048576) (hb : b < w.heap.size) (hc : At .i16 w b off J) (hi : I16 J) :
    Calls Try.prog 32 #[puzV (some ⟨b, off, none⟩) J.length c x t] w fun e w' => e = .returned (.tuple #[watV (hwX J x t), .int .i64 (hwS J x t), .int .i64 (codZ J x)]) ∧ Below w.heap.size w w' := by
  have k0 := (blk_new w #[.slice (some ⟨b, off, none⟩) J.length c, .int .i16 (x 0), .int .i16 (x 1), .int .i16 (x 2), .int .i16 (x 3), .bool t] 32).alloc (.cells #[.int .i16 0, .int .i16 0, .int .i16 0, .int .i16 0] 30)
  have k2 := blk_new (w.alloc (.cells #[.slice (some ⟨b, off, none⟩) J.length c, .int .i16 (x 0), .int .i16 (x 1), .int .i16 (x 2), .int .i16 (x 3), .bool t] 32)) #[.int .i16 0, .int .i16 0, .int .i16 0, .int .i16 0] 30
  have hB := ((Below.refl w.heap.size w).alloc (Nat.le_refl _) (.cells #[.slice (some ⟨b, off, none⟩) J.length c, .int .i16 (x 0), .int .i16 (x 1), .int .i16 (x 2), .int .i16 (x 3), .bool t] 32)).alloc (by simp) (.cells #[.int .i16 0, .int .i16 0, .int .i16 0, .int .i16 0] 30)
  simp only [World.size_alloc] at k2
  have hc1 := hc.below hB hb
  have hb1 := Nat.lt_of_lt_of_le hb hB.size
  have HO := Lib.hid (validPuzzle_any b off c J x t _ hn hb1 hc1 hi)
  have HK2 := Lib.hid k2
  have hle : w.heap.size ≤ w.heap.size + 1 := by omega
  unfold hwX hwS codZ
  clear hc k2
  obtain ⟨c0, c1, c2, c3, c4, c5, -⟩ := k0.six
  cases hok : okZ J x
  · rw [hok] at HO
    simp only [Bool.false_eq_true, if_false]
    have HB := Lib.hid hB
    clear hok hB k0 hc1 hb1
    go_enter Try.func32, Try.ntmps32
    go_wp2_with fail
    refine HO.out.mono ?_
    rintro e w2 ⟨rfl, hb2⟩
    have HB2 := Lib.hid (HB.out.trans (hb2.mono HB.out.size))
    obtain ⟨z0, z1, z2, z3, z4⟩ := (HK2.out.below hb2 HK2.out.lt).four
    clear hb2 HB HO c0 c1 c2 c3 c4 c5
    go_wp2
    refine bodyPost_ret (v := .tuple #[watV (fun _ => 0), .int .i64 0, .int .i64 1]) (by simp [results, Try.results32, go_sem, z0, z1, z2, z3]) rfl ⟨rfl, ?_⟩
    exact (((HB2.out.setCell hle _).setCell hle _).setCell hle _).setCell hle _
  · rw [hok] at HO
    simp only [if_true]
    have hJ := okZ_J hok
    have hx := okZ_X hok
    clear hok
    have hI := gsJ_inv (t := t) hJ hx
    have hnw := nW_eq hJ
    have HFD := Lib.hid (fun W2 (h1 : b < W2.heap.size) (h2 : At .i16 W2 b off J) => stepsTable_any b off c J x t W2 hJ hx h1 h2)
    unfold hwI
    generalize gsJ J x t = s at *
    generalize hN : nW J = N at *
    have hN1 := hnw.2.1
    have hN2 := hnw.2.2
    have HAT := Lib.hid (fun (i : Nat) (hi : i < N) W (h1 : b < W.heap.size) (h2 : At .i16 W b off J) => (show Calls Try.prog 55 #[.slice (some ⟨b, off, none⟩) J.length c, .int .i64 (i : Int)] W fun e w' => e = .returned (watV (atV J (i : Int))) ∧ Below W.heap.size W w' from waterAt_any b off c J (i : Int) W hJ.1.2 hJ.2.1 (by omega) h1 h2))
    have HTB := Lib.hid hI.tb
    have hsh := hI.short
    have HI16 := Lib.hid (show ∀ i, -32768 ≤ s.tb.getD i 0 ∧ s.tb.getD i 0 ≤ 32767 from fun i => by
      by_cases h : i < N
      · have := hI.far i h; omega
      · rw [List.getD_eq_getElem?_getD, List.getElem?_eq_none (by have := hI.tb; omega)]; exact ⟨by decide, by decide⟩)
    clear hI hx hJ hnw hN hsh
    have hmle := mxI_le s.tb (N - 1)
    have HMX := Lib.hid (fun W h cc (hT : Blk W h (ncells .i16 s.tb) 23) => (show Calls Try.prog 54 #[.slice (some ⟨h, 0, none⟩) N cc] W fun e w' => e = .returned (.int .i16 (s.tb.getD (mxI s.tb (N - 1)) 0)) ∧ W = w' by
      have h := maxW_any h cc s.tb W (by have := HTB.out; omega) (by have := HTB.out; omega) HI16.out hT
      rw [HTB.out] at h; exact h))
    have HIX := Lib.hid (fun W h cc (hT : Blk W h (ncells .i16 s.tb) 23) => (show Calls Try.prog 56 #[.slice (some ⟨h, 0, none⟩) N cc, .int .i16 (s.tb.getD (mxI s.tb (N - 1)) 0)] W fun e w' => e = .returned (.int .i64 (mxI s.tb (N - 1) : Nat)) ∧ W = w' by
      have h := indexW_any h cc s.tb W (by have := HTB.out; omega) (by have := HTB.out; omega) hT
      rw [HTB.out] at h; exact h))
    have HB16 := Lib.hid (HI16.out (mxI s.tb (N - 1)))
    generalize mxI s.tb (N - 1) = m at *
    generalize s.tb.getD m 0 = y at *
    clear HI16
    go_enter Try.func32, Try.ntmps32
    go_wp2_with fail
    refine HO.out.mono ?_
    rintro e w2 ⟨rfl, hb2⟩
    have hB2 := hB.trans (hb2.mono hB.size)
    replace k0 := k0.below hb2 k0.lt
    have k2 := HK2.out.below hb2 HK2.out.lt
    replace hc1 := hc1.below hb2 hb1
    replace hb1 := Nat.lt_of_lt_of_le hb1 hb2.size
    clear hb2 hB HO HK2 c0 c1 c2 c3 c4 c5
    obtain ⟨c0, c1, c2, c3, c4, c5, -⟩ := k0.six
    go_wp2_with fail
    refine (HFD.out _ hb1 hc1).mono ?_
    rintro e w4 ⟨h, rfl, hh, hT, hb4⟩
    have HB4 := Lib.hid (hB2.trans (hb4.mono hB2.size))
    have HP4 := Lib.hid (And.intro (k0.below hb4 k0.lt) (And.intro (k2.below hb4 k2.lt) (And.intro (Nat.lt_of_lt_of_le hb1 hb4.size) (hc1.below hb4 hb1))))
    have HLO := Lib.hid (show h ≠ w.heap.size + 1 by have h2 := k2.lt; omega)
    have HT := Lib.hid hT
    clear hT k0 k2 hc1 hb1 HFD hB2 hb4 hh c0 c1 c2 c3 c4 c5
    go_wp2_with fail
    refine (HMX.out w4 h _ HT.out).mono ?_
    rintro e w5 ⟨rfl, rfl⟩
    have hP := HP4.out.1
    have hQ := HP4.out.2.1
    have hbb := HP4.out.2.2.1
    have hcc := HP4.out.2.2.2
    have keepS : ∀ W', Below w4.heap.size w4 W' → W'.cell? ⟨w.heap.size, 0, none⟩ = some (.slice (some ⟨b, off, none⟩) J.length c) := fun W' hb => (hP.below hb hP.lt).cell 0
    generalize hE : atV J (m : Int) = E at *
    have HE := Lib.hid hE
    have hne : w.heap.size ≠ w.heap.size + 1 := by omega
    have keep2 : ∀ W', Below w4.heap.size w4 W' → ((((W'.setCell ⟨w.heap.size + 1, 0, none⟩ (.int .i16 (E 0))).setCell ⟨w.heap.size + 1, 1, none⟩ (.int .i16 (E 1))).setCell ⟨w.heap.size + 1, 2, none⟩ (.int .i16 (E 2))).setCell ⟨w.heap.size + 1, 3, none⟩ (.int .i16 (E 3))).cell? ⟨w.heap.size, 0, none⟩ = some (.slice (some ⟨b, off, none⟩) J.length c) := fun W' hb => (((((hP.below hb hP.lt).setOther hne 0 (.int .i16 (E 0))).setOther hne 1 (.int .i16 (E 1))).setOther hne 2 (.int .i16 (E 2))).setOther hne 3 (.int .i16 (E 3))).cell 0
    have HCE := Lib.hid (fun W' (hb : Below w4.heap.size w4 W') => (hQ.below hb hQ.lt).four)
    have HFIN := Lib.hid (fun W' (hb : Below w4.heap.size w4 W') => (show Blk ((((W'.setCell ⟨w.heap.size + 1, 0, none⟩ (.int .i16 (E 0))).setCell ⟨w.heap.size + 1, 1, none⟩ (.int .i16 (E 1))).setCell ⟨w.heap.size + 1, 2, none⟩ (.int .i16 (E 2))).setCell ⟨w.heap.size + 1, 3, none⟩ (.int .i16 (E 3))) (w.heap.size + 1) #[.int .i16 (E 0), .int .i16 (E 1), .int .i16 (E 2), .int .i16 (E 3)] 30 ∧ Below w.heap.size w ((((W'.setCell ⟨w.heap.size + 1, 0, none⟩ (.int .i16 (E 0))).setCell ⟨w.heap.size + 1, 1, none⟩ (.int .i16 (E 1))).setCell ⟨w.heap.size + 1, 2, none⟩ (.int .i16 (E 2))).setCell ⟨w.heap.size + 1, 3, none⟩ (.int .i16 (E 3))) from
      ⟨((((hQ.below hb hQ.lt).set 0 (.int .i16 (E 0))).set 1 (.int .i16 (E 1))).set 2 (.int .i16 (E 2))).set 3 (.int .i16 (E 3)), ((((HB4.out.trans (hb.mono HB4.out.size)).setCell hle _).setCell hle _).setCell hle _).setCell hle _⟩))
    have HKI := Lib.hid (fun W' (hb : Below w4.heap.size w4 W') => HAT.out m (by omega) W' (Nat.lt_of_lt_of_le hbb hb.size) (hcc.below hb hbb))
    have HKX := Lib.hid (fun W' (hb : Below w4.heap.size w4 W') => HIX.out W' h N (HT.out.below hb HT.out.lt))
    rw [hE] at HKI
    have HB0 := Lib.hid (show Below w4.heap.size w4 w4.drew from (Below.refl _ _).drew)
    clear hE hP hQ hbb hcc hne
    go_upto_region 5 with fail
    go_region_held3 (fun W' => W'.cell? ⟨w.heap.size, 0, none⟩ = some (.slice (some ⟨b, off, none⟩) J.length c))
      (first | exact keepS _ (by first | assumption | exact HB0.out) | exact keep2 _ (by first | assumption | exact HB0.out))
      (first
        | (go_at_call 56; with_reducible refine (HKX.out _ (by first | assumption | exact HB0.out)).mono ?_; rintro e w7 ⟨rfl, rfl⟩)
        | (go_at_call 55; with_reducible refine (HKI.out _ (by first | assumption | exact HB0.out)).mono ?_; rintro e w8 ⟨rfl, hb8⟩; have hq := Below.trans (by first | assumption | exact HB0.out) (hb8.mono (Below.size (by first | assumption | exact HB0.out))); obtain ⟨z0, z1, z2, z3, z4⟩ := HCE.out _ hq))
    all_goals
      have HRR := Lib.hid (HFIN.out w8 hq)
      clear keepS keep2 HCE HFIN HKI HKX HB0 hq hb8 z0 z1 z2 z3 z4
      generalize (((w8.setCell ⟨w.heap.size + 1, 0, none⟩ (.int .i16 (E 0))).setCell ⟨w.heap.size + 1, 1, none⟩ (.int .i16 (E 1))).setCell ⟨w.heap.size + 1, 2, none⟩ (.int .i16 (E 2))).setCell ⟨w.heap.size + 1, 3, none⟩ (.int .i16 (E 3)) = w9 at *
      obtain ⟨z0, z1, z2, z3, -⟩ := HRR.out.1.four
      go_wp2
      have hwy : IntKind.i64.wrap y = y := IntWalk.i64_in _ (by have := HB16.out; omega)
      exact bodyPost_ret (v := .tuple #[watV E, .int .i64 y, .int .i64 0]) (by simp [results, Try.results32, go_sem, z0, z1, z2, z3, hwy]) rfl ⟨by rw [HE.out], HRR.out.2⟩
end Go.Proofs.Ytjmgalmndpjcoaa
