/-
  The walk of the model's CrossAll.
-/
import Derived.Test.YtlpmojjmnkiflaaY18
namespace Go.Proofs.Ytlpmojjmnkiflaa
open Go.RowKit
set_option maxRecDepth 100000
set_option linter.unusedVariables false

theorem near_run {l k : Int} {xs us : List Int} {n : Int} {f : Bool} {j : Nat} {n' : Int} {f' : Bool} (h : cTo l k xs n f us j = (n', f', 0)) (hn : bits .andNot .u16 n (allI l) = 0) : bits .andNot .u16 n' (allI l) = 0 := by
  induction j generalizing n' f' with
  | zero => rw [cTo] at h; cases h; exact hn
  | succ j ih =>
    rw [cTo] at h
    by_cases h0 : (cTo l k xs n f us j).2.2 = 0
    · rw [if_pos h0] at h
      have h1 := congrArg (·.1) h
      have h3 := congrArg (·.2.2) h
      dsimp only at h1 h3
      rw [(cr_0 h3).1] at h1
      rw [← h1]
      exact bk_near (cdL_bk h3)
    · rw [if_neg h0] at h
      rw [h] at h0
      exact absurd rfl h0
set_option maxHeartbeats 4000000 in
theorem specCrossAll_any (l k : Int) (a : Option Addr) (c : Nat) (xs : List Int) (a2 : Option Addr) (c2 : Nat) (us : List Int) (w : World) (hs : Sl .u16 w.heap.size w a xs) (hl : B8 l) (hk : B8 k) (hn : xs.length ≤ 1048576) (hw : U16 xs) (hs2 : Sl .u16 w.heap.size w a2 us) (hn2 : us.length ≤ 1048576) (hw2 : U16 us) :
    Calls Try.prog 22 #[ferV l k a xs.length c, .slice a2 us.length c2] w fun e w' => e = .returned (.tuple #[bankV (caT l k xs us).1 (caT l k xs us).2.1, .int .i64 (caT l k xs us).2.2]) ∧ Below w.heap.size w w' := by
  have F0 := ((FR.start w).box #[.int .i8 l, .int .i8 k, .slice a xs.length c] 33).box #[.int .u16 0, .bool false] 30
  simp only [World.size_alloc] at F0
  have HV := Lib.hid (l05Ok_any w.heap.size l k a c xs _ (F0.blk _ (List.mem_cons_of_mem _ List.mem_cons_self)) (hs.up F0.below (Nat.le_refl _)) hl hk hn hw)
  clear hl hk
  cases hok : okY l k xs
  · have HR := Lib.hid (ca_1 (us := us) hok)
    rw [hok] at HV
    clear hok hs hw hs2 hw2
    generalize xs.length = m at *
    generalize us.length = q at *
    go_enter Try.func22, Try.ntmps22
    go_wp2_with fail
    refine HV.out.mono ?_
    rintro e w2 ⟨rfl, hb⟩
    have F1 := F0.next hb.below
    clear hb F0
    obtain ⟨e0, e1, ef⟩ := (F1.blk _ List.mem_cons_self).two
    have F9 := F1.bank (u0 := .int .u16 0) (u1 := .bool false)
    have HB := Lib.hid (And.intro (F9.blk _ List.mem_cons_self) F9.below)
    clear F1 F9
    go_wp2
    exact bodyPost_ret (res_bank4 _ Try.results22 HB.out.1 _ rfl rfl) rfl ⟨by rw [HR.out]; rfl, HB.out.2⟩
  rw [hok] at HV
  have h8 := (okY_t hok).1
  by_cases h1k : (1000 : Int) < us.length
  · have HR := Lib.hid (ca_2 hok h1k)
    clear hok hs hw hs2 hw2 h8
    generalize xs.length = m at *
    generalize us.length = q at *
    go_enter Try.func22, Try.ntmps22
    go_wp2_with fail
    refine HV.out.mono ?_
    rintro e w2 ⟨rfl, hb⟩
    have F1 := F0.next hb.below
    clear hb F0
    obtain ⟨e0, e1, ef⟩ := (F1.blk _ List.mem_cons_self).two
    have F9 := F1.bank (u0 := .int .u16 0) (u1 := .bool false)
    have HB := Lib.hid (And.intro (F9.blk _ List.mem_cons_self) F9.below)
    clear F1 F9
    go_wp2
    exact bodyPost_ret (res_bank4 _ Try.results22 HB.out.1 _ rfl rfl) rfl ⟨by rw [HR.out]; rfl, HB.out.2⟩
  have HR := Lib.hid (ca_3 hok h1k)
  have HA := Lib.hid (fun (W : World) (h : Blk W w.heap.size #[.int .i8 l, .int .i8 k, .slice a xs.length c] 33) => l05All_any w.heap.size l _ _ W h h8)
  have HC := Lib.hid (fun (W : World) (n : Int) (f : Bool) (x : Int) (h : Blk W w.heap.size #[.int .i8 l, .int .i8 k, .slice a xs.length c] 33) (hb : Below w.heap.size w W) => l05Cross_any w.heap.size l k a c xs n f x W h (hs.up hb (Nat.le_refl _)) hn h8 (by have := (okY_t hok).2.1; omega))
  have HU := Lib.hid (And.intro hs2 hw2)
  clear hok hs hw hs2 hw2 h8
  have HNR := Lib.hid (fun (j : Nat) (n' : Int) (f' : Bool) (h : cTo l k xs (allI l) false us j = (n', f', 0)) => near_run h all_near)
  generalize allI l = al at *
  obtain ⟨q, hq⟩ : ∃ q, us.length = q := ⟨_, rfl⟩
  have HQ := Lib.hid hq
  rw [hq] at hn2 h1k HR ⊢
  clear hq
  generalize xs.length = m at *
  go_enter Try.func22, Try.ntmps22
  go_wp2_with fail
  refine HV.out.mono ?_
  rintro e w2 ⟨rfl, hb⟩
  have F1 := F0.next hb.below
  clear hb F0 HV
  go_wp2_with fail
  refine (HA.out _ (F1.blk _ (List.mem_cons_of_mem _ List.mem_cons_self))).mono ?_
  rintro e w3 ⟨rfl, rfl⟩
  go_wp2
  have F2 := F1.box #[.int .u16 al, .bool false] 30
  clear F1 HA
  generalize w2.heap.size = nb at *
  go_loopw [7] (fun i wr => ∃ (j : Nat) (n' : Int) (f' : Bool), i = .int .i64 j ∧ j ≤ q ∧ cTo l k xs al false us j = (n', f', 0) ∧ FR w [(nb, #[.int .u16 n', .bool f'], 30), (w.heap.size + 1, #[.int .u16 0, .bool false], 30), (w.heap.size, #[.int .i8 l, .int .i8 k, .slice a m c], 33)] wr) (fun i _ => q - (intOf i).toNat)
  case atStart => exact ⟨0, al, false, rfl, Nat.zero_le _, rfl, F2⟩
  case round =>
    obtain ⟨j, n', f', rfl, hj, hc, F3⟩ := hrel
    have HCc := Lib.hid hc
    have HNR2 := Lib.hid (HNR.out j n' f' hc)
    clear hc F2 HNR
    obtain ⟨d0, d1, df⟩ := (F3.blk _ List.mem_cons_self).two
    by_cases hlt : j < q
    case neg =>
      have HE := Lib.hid (show caT l k xs us = (n', f', 0) by rw [HR.out, show q = j by omega]; exact HCc.out)
      have F4 := F3.tail (fun p L' e => by cases e; exact ⟨by simp, fun r hr => by simp at hr; subst hr; simp⟩)
      obtain ⟨e0, e1, ef⟩ := (F4.blk _ List.mem_cons_self).two
      have F9 := F4.bank (u0 := .int .u16 n') (u1 := .bool f')
      have HB := Lib.hid (And.intro (F9.blk _ List.mem_cons_self) F9.below)
      clear F3 F4 F9 HU
      go_wp2
      exact bodyPost_ret (res_bank4 _ Try.results22 HB.out.1 _ rfl rfl) rfl ⟨by rw [HE.out]; rfl, HB.out.2⟩
    have hkl : (j : Int) < (q : Int) := by omega
    obtain ⟨b2, off2, rfl, hb2, hc2⟩ : ∃ b off, a2 = some ⟨b, off, none⟩ ∧ b < w.heap.size ∧ At .u16 w b off us := by
      rcases HU.out.1 with h | h
      · have := HQ.out; subst h; simp at this; omega
      · exact h
    have HP := Lib.hid (fun (W : World) (h : Below w.heap.size w W) => (hc2.below h hb2) j (by rw [HQ.out]; exact hlt))
    have p0 := HP.out _ F3.below
    have HX := HU.out.2 j
    have HO0 := Lib.hid (fun h => cTo_0 HCc.out h)
    have HOE := Lib.hid (fun (h : ¬ cdL l k xs n' f' (us.getD j 0) = 0) => cTo_e HCc.out rfl h (show j + 1 ≤ q by omega))
    have HC2 := Lib.hid (fun (W : World) h1 h2 => HC.out W n' f' (us.getD j 0) h1 h2 HX HNR2.out)
    clear hc2 HC HCc HX
    generalize us.getD j 0 = x at *
    have HC3 := Lib.hid (fun (L : List (Nat × Array Value × TypeId)) (W : World) (h : FR w L W) (hm : ∀ p ∈ ([(nb, #[.int .u16 n', .bool f'], 30), (w.heap.size + 1, #[.int .u16 0, .bool false], 30), (w.heap.size, #[.int .i8 l, .int .i8 k, .slice a m c], 33)] : List (Nat × Array Value × TypeId)), p ∈ L) => Calls.fr h (HC2.out W (h.blk _ (hm _ (List.mem_cons_of_mem _ (List.mem_cons_of_mem _ List.mem_cons_self)))) h.below))
    have keepS : ∀ (L : List (Nat × Array Value × TypeId)) (W' : World), FR w L W' → (∀ p ∈ ([(nb, #[.int .u16 n', .bool f'], 30), (w.heap.size + 1, #[.int .u16 0, .bool false], 30), (w.heap.size, #[.int .i8 l, .int .i8 k, .slice a m c], 33)] : List (Nat × Array Value × TypeId)), p ∈ L) → (W'.cell? ⟨nb, 0, none⟩ = some (.int .u16 n') ∧ W'.cell? ⟨nb, 1, none⟩ = some (.bool f') ∧ W'.cell? ⟨b2, off2 + j, none⟩ = some (.int .u16 x)) :=
      fun L W' h hm => ⟨(h.blk _ (hm _ List.mem_cons_self)).cell 0, (h.blk _ (hm _ List.mem_cons_self)).cell 1, HP.out _ h.below⟩
    clear HC2
    go_upto_region 9 with fail
    go_cut [8, 9] (fun s8 s9 wx => ∃ B, s8 = .pointer (some ⟨B, 0, none⟩) ∧ s9 = .int .i64 (cdL l k xs n' f' x) ∧ FR w ((B, #[.int .u16 (crN l k xs n' f' x), .bool (crF l k xs n' f' x)], 30) :: [(nb, #[.int .u16 n', .bool f'], 30), (w.heap.size + 1, #[.int .u16 0, .bool false], 30), (w.heap.size, #[.int .i8 l, .int .i8 k, .slice a m c], 33)]) wx)
    case first =>
      go_region_held3 (fun w' => w'.cell? ⟨nb, 0, none⟩ = some (.int .u16 n') ∧ w'.cell? ⟨nb, 1, none⟩ = some (.bool f') ∧ w'.cell? ⟨b2, off2 + j, none⟩ = some (.int .u16 x))
        (exact keepS _ _ (by first | assumption | exact FR.drew (by assumption) | exact FR.drew (FR.box (by assumption) _ _) | exact FR.drew (FR.bank (by assumption)) | exact FR.box (by first | assumption | exact FR.drew (by assumption)) _ _ | exact FR.bank (by first | assumption | exact FR.box (by assumption) _ _)) (by first | exact fun _ h => h | exact fun _ h => List.mem_cons_of_mem _ h))
        (first
          | (go_at_call 35; with_reducible refine (HC3.out _ _ (by first | assumption | exact FR.drew (by assumption) | exact FR.drew (FR.box (by assumption) _ _) | exact FR.drew (FR.bank (by assumption)) | exact FR.box (by first | assumption | exact FR.drew (by assumption)) _ _ | exact FR.bank (by first | assumption | exact FR.box (by assumption) _ _)) (by first | exact fun _ h => h | exact fun _ h => List.mem_cons_of_mem _ h)).mono ?_; rintro e w4 ⟨rfl, F5⟩; try (obtain ⟨zz0, zz1, zz2⟩ := (F5.blk _ List.mem_cons_self).two)))
      all_goals (go_wp2_with fail; go_meet; exact ⟨_, rfl, rfl, (by first | assumption | exact FR.drew (by assumption) | exact FR.drew (FR.box (by assumption) _ _) | exact FR.drew (FR.bank (by assumption)) | exact FR.box (by first | assumption | exact FR.drew (by assumption)) _ _ | exact FR.bank (by first | assumption | exact FR.box (by assumption) _ _))⟩)
    case rest =>
      obtain ⟨B, rfl, rfl, F6⟩ := hcut
      have F7 := F6.tail F3.top
      obtain ⟨e0, e1, -⟩ := (F6.blk _ List.mem_cons_self).two
      clear F3 d0 d1 df p0 HC3 keepS F6
      by_cases h0 : cdL l k xs n' f' x = 0
      · have HN := Lib.hid (HO0.out h0)
        obtain ⟨q1, q2, q3⟩ := cr_0 h0
        rw [q1] at e0
        rw [q2] at e1
        rw [q3]
        obtain ⟨g0, g1, gf⟩ := (F7.blk _ List.mem_cons_self).two
        have HF := Lib.hid (F7.bank (u0 := .int .u16 (xorI n' x)) (u1 := .bool !f'))
        clear F7 q1 q2 q3 h0 HO0 HOE
        go_wp2
        go_roundw
        case rel => exact ⟨j + 1, _, _, by go_num, by omega, HN.out, HF.out⟩
        case measure => simp [intOf]; omega
      · have HN := Lib.hid (HOE.out h0)
        have hne : (cdL l k xs n' f' x != 0) = true := by simpa using h0
        clear e0 e1
        have F8 := F7.tail (fun p L' e => by cases e; exact ⟨by simp, fun r hr => by simp at hr; subst hr; simp⟩)
        obtain ⟨g0, g1, gf⟩ := (F8.blk _ List.mem_cons_self).two
        have F9 := F8.bank (u0 := .int .u16 0) (u1 := .bool false)
        have HB := Lib.hid (And.intro (F9.blk _ List.mem_cons_self) F9.below)
        clear F7 F8 F9 h0 HO0 HOE
        generalize cdL l k xs n' f' x = co at *
        go_wp2
        exact bodyPost_ret (res_bank4 _ Try.results22 HB.out.1 _ rfl rfl) rfl ⟨by rw [HR.out, HN.out]; rfl, HB.out.2⟩
end Go.Proofs.Ytlpmojjmnkiflaa
