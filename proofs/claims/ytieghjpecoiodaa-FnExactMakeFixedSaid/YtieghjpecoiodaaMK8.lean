/-
  The program's MakeFixed.
-/
import Derived.Test.YtieghjpecoiodaaMK7
namespace Go.Proofs.Ytieghjpecoiodaa
open Go.RowKit
set_option maxRecDepth 100000
set_option linter.unusedVariables false

theorem gws_take (l : Nat) (I : List Nat) (q : Nat) : gws l (I.take q) = (gws l I).take (3 * q) := by
  induction I generalizing q with
  | nil => simp [gws]
  | cons n I ih =>
    cases q with
    | zero => simp [gws]
    | succ q =>
      rw [List.take_succ_cons, show gws l (n :: I.take q) = grp l n ++ gws l (I.take q) from rfl, ih, show gws l (n :: I) = grp l n ++ gws l I from rfl, List.take_append, show (grp l n).length = 3 from rfl, show 3 * (q + 1) - 3 = 3 * q by omega, List.take_of_length_le (l := grp l n) (by show 3 ≤ 3 * (q + 1); omega)]
theorem own_base {w : World} {b b' : Nat} {e : TypeId} {size n : Nat} {v : Value} {xs : List Value} (h : w.ownsRow b e size v n xs) (hb : b' ≤ b) : w.ownsRow b' e size v n xs :=
  ⟨h.1, h.2.imp id (fun ⟨g, cap, cur, hv, hbase, r⟩ => ⟨g, cap, cur, hv, Nat.le_trans hb hbase, r⟩)⟩
theorem own_put3 {w w2 wr : World} {n : Nat} {v : Value} {xs : List Value} (h : wr.ownsRow w2.heap.size 40 4 v n xs) (hb : w.heap.size + 1 ≤ w2.heap.size) (u0 u1 u2 : Value) :
    (((wr.setCell ⟨w.heap.size, 0, none⟩ u0).setCell ⟨w.heap.size, 1, none⟩ u1).setCell ⟨w.heap.size, 2, none⟩ u2).ownsRow (w.heap.size + 1) 40 4 v n xs := by
  have h1 := own_base h hb
  have own1 : ∀ {W : World} (i : Nat) (u : Value), W.ownsRow (w.heap.size + 1) 40 4 v n xs → (W.setCell ⟨w.heap.size, i, none⟩ u).ownsRow (w.heap.size + 1) 40 4 v n xs := fun {W} i u ho =>
    ho.kept (row := some w.heap.size) ⟨rfl, rfl, rfl, by simp, fun k hk hne => heap_setCell_other W _ k _ (fun e => hne (by rw [e]))⟩ (by
      cases hv : v.ownBlock with
      | none => exact .inl rfl
      | some j => exact .inr (fun e => by have h1 := (ho.lt j hv).1; have h2 := Option.some.inj e; omega))
  exact own1 _ _ (own1 _ _ (own1 _ _ h1))
set_option maxHeartbeats 4000000 in
theorem mf_outP (l k c : Int) (w : World) (h : ¬ MfO l k c) :
    Calls Try.prog 15 #[.int .i64 l, .int .i64 k, .int .i64 c] w fun e w' => e = .returned (.tuple #[fixV 0 0 none 0 0, .int .i64 2]) ∧ Below w.heap.size w w' := by
  have F0 := (FR.start w).box #[.int .i8 0, .int .i8 0, .slice none 0 0] 27
  have HB := Lib.hid F0.below
  obtain ⟨f0, f1, f2, f3⟩ := (F0.blk _ List.mem_cons_self).three
  have HL := Lib.hid (fun W => within_any l 1 4 W)
  have HK := Lib.hid (fun W => within_any k 0 2 W)
  have HN := Lib.hid (fun W => within_any c 1 80 W)
  clear F0
  by_cases h1 : 1 ≤ l ∧ l ≤ 4
  case neg =>
    rw [show inB l 1 4 = false from cb_f h1] at HL
    clear h h1
    go_enter Try.func15, Try.ntmps15
    go_wp2_with fail
    refine (HL.out _).mono ?_
    rintro e w2 ⟨rfl, rfl⟩
    go_wp2
    exact bodyPost_ret (v := .tuple #[fixV 0 0 none 0 0, .int .i64 2]) (by simp [results, Try.results15, go_sem]) rfl ⟨rfl, by repeat (first | exact HB.out | refine Below.setCell ?_ (by simp <;> omega) _)⟩
  rw [show inB l 1 4 = true from cb_t h1] at HL
  by_cases h2 : 0 ≤ k ∧ k ≤ 2
  case neg =>
    rw [show inB k 0 2 = false from cb_f h2] at HK
    clear h h1 h2
    go_enter Try.func15, Try.ntmps15
    go_wp2_with fail
    refine (HL.out _).mono ?_
    rintro e w2 ⟨rfl, rfl⟩
    go_wp2_with fail
    refine (HK.out _).mono ?_
    rintro e w2 ⟨rfl, rfl⟩
    go_wp2
    exact bodyPost_ret (v := .tuple #[fixV 0 0 none 0 0, .int .i64 2]) (by simp [results, Try.results15, go_sem]) rfl ⟨rfl, by repeat (first | exact HB.out | refine Below.setCell ?_ (by simp <;> omega) _)⟩
  rw [show inB k 0 2 = true from cb_t h2] at HK
  rw [show inB c 1 80 = false from cb_f (fun h3 => h ⟨h1, h2, h3⟩)] at HN
  clear h h1 h2
  go_enter Try.func15, Try.ntmps15
  go_wp2_with fail
  refine (HL.out _).mono ?_
  rintro e w2 ⟨rfl, rfl⟩
  go_wp2_with fail
  refine (HK.out _).mono ?_
  rintro e w2 ⟨rfl, rfl⟩
  go_wp2_with fail
  refine (HN.out _).mono ?_
  rintro e w2 ⟨rfl, rfl⟩
  go_wp2
  exact bodyPost_ret (v := .tuple #[fixV 0 0 none 0 0, .int .i64 2]) (by simp [results, Try.results15, go_sem]) rfl ⟨rfl, by repeat (first | exact HB.out | refine Below.setCell ?_ (by simp <;> omega) _)⟩
set_option maxHeartbeats 4000000 in
theorem mf_stateP (l k c : Int) (w : World) (h : MfO l k c) (h3 : c % 3 ≠ 0) :
    Calls Try.prog 15 #[.int .i64 l, .int .i64 k, .int .i64 c] w fun e w' => e = .returned (.tuple #[fixV 0 0 none 0 0, .int .i64 4]) ∧ Below w.heap.size w w' := by
  have F0 := (FR.start w).box #[.int .i8 0, .int .i8 0, .slice none 0 0] 27
  have HB := Lib.hid F0.below
  obtain ⟨f0, f1, f2, f3⟩ := (F0.blk _ List.mem_cons_self).three
  have HL := Lib.hid (fun W => within_any l 1 4 W)
  have HK := Lib.hid (fun W => within_any k 0 2 W)
  have HN := Lib.hid (fun W => within_any c 1 80 W)
  rw [show inB l 1 4 = true from cb_t h.1] at HL
  rw [show inB k 0 2 = true from cb_t h.2.1] at HK
  rw [show inB c 1 80 = true from cb_t h.2.2] at HN
  have hm : c.tmod 3 = c % 3 := Int.tmod_eq_emod_of_nonneg (by have := h.2.2; omega)
  have hmb : 0 ≤ c % 3 ∧ c % 3 ≤ 2 := by omega
  have hq : (c % 3 != 0) = true := by simpa using h3
  have hcc := h.2.2
  clear F0 h h3
  generalize c % 3 = r at *
  go_enter Try.func15, Try.ntmps15
  go_wp2_with fail
  refine (HL.out _).mono ?_
  rintro e w2 ⟨rfl, rfl⟩
  go_wp2_with fail
  refine (HK.out _).mono ?_
  rintro e w2 ⟨rfl, rfl⟩
  go_wp2_with fail
  refine (HN.out _).mono ?_
  rintro e w2 ⟨rfl, rfl⟩
  go_wp2
  exact bodyPost_ret (v := .tuple #[fixV 0 0 none 0 0, .int .i64 4]) (by simp [results, Try.results15, go_sem]) rfl ⟨rfl, by repeat (first | exact HB.out | refine Below.setCell ?_ (by simp <;> omega) _)⟩
set_option maxHeartbeats 8000000 in
theorem mf_inP (l k c : Nat) (w : World) (h : MfO l k c) (h3 : (c : Int) % 3 = 0) :
    Calls Try.prog 15 #[.int .i64 (l : Int), .int .i64 (k : Int), .int .i64 (c : Int)] w fun e w' => ∃ a cp, e = .returned (.tuple #[fixV (mfL l k c) (mfK l k c) a (mfW l k c).length cp, .int .i64 (mfC l k c)]) ∧ w'.ownsRow (w.heap.size + 1) 40 4 (.slice a (mfW l k c).length cp) (mfW l k c).length (wls (mfW l k c)) ∧ Below w.heap.size w w' := by
  have hl4 : 1 ≤ l ∧ l ≤ 4 := by have := h.1; omega
  have hk2 : k ≤ 2 := by have := h.2.1; omega
  have hc80 : 1 ≤ c ∧ c ≤ 80 := by have := h.2.2; omega
  have F0 := (FR.start w).box #[.int .i8 0, .int .i8 0, .slice none 0 0] 27
  have HL := Lib.hid (fun W => within_any l 1 4 W)
  have HK := Lib.hid (fun W => within_any k 0 2 W)
  have HN := Lib.hid (fun W => within_any c 1 80 W)
  rw [show inB l 1 4 = true from cb_t h.1] at HL
  rw [show inB k 0 2 = true from cb_t h.2.1] at HK
  rw [show inB c 1 80 = true from cb_t h.2.2] at HN
  have hm : (c : Int).tmod 3 = 0 := (Int.tmod_eq_emod_of_nonneg (by omega)).trans h3
  have HFEW := Lib.hid (fun hf => mf_few h h3 hf)
  have HGOOD := Lib.hid (fun hf => mf_good h h3 hf)
  have HGF := Lib.hid (fun W => groupsFor_any l k W hl4 hk2)
  rw [siI_stI hl4 hk2] at HGF
  have hgl := gws_len l (stI l k (p3N (l - 1)))
  have hsl := stI_len l k (p3N (l - 1))
  have hpl := p3N_le (l - 1)
  obtain ⟨d, hd⟩ : ∃ d, c = 3 * d := ⟨c / 3, by omega⟩
  have hq : (c : Int).tdiv 3 = (d : Int) := by rw [Int.tdiv_eq_ediv_of_nonneg (by omega)]; omega
  have HG2 := Lib.hid (show gws l ((stI l k (p3N (l - 1))).take (c / 3)) = (gws l (stI l k (p3N (l - 1)))).take (3 * d) from by rw [show c / 3 = d by omega, gws_take])
  generalize stI l k (p3N (l - 1)) = I at *
  generalize gws l I = ws at *
  have lz : (l : Int) ≤ 4 := by omega
  have kz : (k : Int) ≤ 2 := by omega
  have cz : (c : Int) ≤ 80 := by omega
  have lz1 : 1 ≤ (l : Int) := by omega
  have HIL := Lib.hid hgl
  clear h h3
  obtain ⟨n, hn⟩ : ∃ n, I.length = n := ⟨_, rfl⟩
  rw [hn] at HGF HIL
  have HNN := Lib.hid hn
  have HD := Lib.hid hd
  have hdn : d ≤ 26 := by omega
  clear hn hgl hd
  go_enter Try.func15, Try.ntmps15
  go_wp2_with fail
  refine (HL.out _).mono ?_
  rintro e w2 ⟨rfl, rfl⟩
  go_wp2_with fail
  refine (HK.out _).mono ?_
  rintro e w2 ⟨rfl, rfl⟩
  go_wp2_with fail
  refine (HN.out _).mono ?_
  rintro e w2 ⟨rfl, rfl⟩
  go_wp2_with fail
  refine (HGF.out _).mono ?_
  rintro e w2 ⟨a, cp, rfl, T⟩
  have F2 := F0.next (T.bel.mono (Nat.le_refl _))
  have bF := F2.blk _ List.mem_cons_self
  obtain ⟨r0, r1, r2, r3⟩ := bF.three
  have hB2 := F2.below
  have n26 : n ≤ 81 := by have := HNN.out; omega
  by_cases h2 : n < d
  · have h2z : (n : Int) < (d : Int) := by omega
    have HE := Lib.hid (HFEW.out (by have := HNN.out; have := HD.out; omega))
    have HB := Lib.hid hB2
    clear F0 F2 T bF hB2
    go_wp2
    refine bodyPost_ret (v := .tuple #[fixV 0 0 none 0 0, .int .i64 6]) (by simp [results, Try.results15, go_sem, r0, r1, r2]) rfl ⟨none, 0, ?_, ?_, by repeat (first | exact HB.out | refine Below.setCell ?_ (by simp <;> omega) _)⟩
    · obtain ⟨e1, e2, e3, e4⟩ := HE.out
      rw [e1, e2, e3, e4]; rfl
    · rw [HE.out.2.1]; exact World.ownsRow_nil _ _ _ _
  · have h2z : ¬ (n : Int) < (d : Int) := by omega
    have HE := Lib.hid (HGOOD.out (by have := HNN.out; have := HD.out; omega))
    obtain ⟨b, rfl, hbl, hncp, hwat⟩ := gp_at T (by have := HD.out; omega) HIL.out
    have HFL := Lib.hid (flat_any b n cp d ws w2 hbl hwat (by omega) (by have := HIL.out; omega) hncp (by omega))
    have HZ := Lib.hid (show w.heap.size + 1 ≤ w2.heap.size from by have := T.bel.size; simpa using this)
    have HHB := Lib.hid hB2
    have HHF := Lib.hid bF
    clear F0 F2 T hwat hB2 bF hncp r0 r1 r2 r3
    go_wp2_with fail
    refine HFL.out.mono ?_
    rintro e w3 ⟨a, cp3, rfl, T3⟩
    have bF3 := Blk.below HHF.out T3.bel (by have := HZ.out; omega)
    obtain ⟨r0, r1, r2, r3⟩ := bF3.three
    have HT3 := Lib.hid T3
    have HB3 := Lib.hid (HHB.out.trans (T3.bel.mono (by have := HZ.out; omega)))
    clear T3
    go_wp2
    refine bodyPost_ret (v := .tuple #[fixV l k a (3 * d) cp3, .int .i64 0]) (by simp [results, Try.results15, go_sem, r0, r1, r2]) rfl ⟨a, cp3, ?_, ?_, by repeat (first | exact HB3.out | refine Below.setCell ?_ (by simp <;> omega) _)⟩
    · obtain ⟨e1, e2, e3, e4⟩ := HE.out
      rw [e1, e2, e3, e4, HG2.out, List.length_take, Nat.min_eq_left (by have := HIL.out; omega)]
    · rw [HE.out.2.1, HG2.out, List.length_take, Nat.min_eq_left (by have := HIL.out; omega)]
      exact own_put3 HT3.out.own HZ.out _ _ _
theorem makeFixed_any (l k c : Int) (w : World) :
    Calls Try.prog 15 #[.int .i64 l, .int .i64 k, .int .i64 c] w fun e w' => ∃ a cp, e = .returned (.tuple #[fixV (mfL l k c) (mfK l k c) a (mfW l k c).length cp, .int .i64 (mfC l k c)]) ∧ w'.ownsRow (w.heap.size + 1) 40 4 (.slice a (mfW l k c).length cp) (mfW l k c).length (wls (mfW l k c)) ∧ Below w.heap.size w w' := by
  by_cases h : MfO l k c
  · by_cases h3 : c % 3 = 0
    · obtain ⟨h1, h2, h4⟩ := h
      obtain ⟨ln, rfl⟩ : ∃ n : Nat, l = n := ⟨l.toNat, by omega⟩
      obtain ⟨kn, rfl⟩ : ∃ n : Nat, k = n := ⟨k.toNat, by omega⟩
      obtain ⟨cn, rfl⟩ : ∃ n : Nat, c = n := ⟨c.toNat, by omega⟩
      exact mf_inP ln kn cn w ⟨h1, h2, h4⟩ h3
    · refine (mf_stateP l k c w h h3).mono ?_
      rintro e w' ⟨rfl, hb⟩
      obtain ⟨e1, e2, e3, e4⟩ := mf_state h h3
      exact ⟨none, 0, by rw [e1, e2, e3, e4]; rfl, by rw [e2]; exact World.ownsRow_nil _ _ _ _, hb⟩
  · refine (mf_outP l k c w h).mono ?_
    rintro e w' ⟨rfl, hb⟩
    obtain ⟨e1, e2, e3, e4⟩ := mf_out h
    exact ⟨none, 0, by rw [e1, e2, e3, e4]; rfl, by rw [e2]; exact World.ownsRow_nil _ _ _ _, hb⟩
end Go.Proofs.Ytieghjpecoiodaa
