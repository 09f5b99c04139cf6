/-
  The walk of ReadWeighing's model.
-/
import Derived.Test.YtlbiakoofpgdmaaW2
namespace Go.Proofs.Ytlbiakoofpgdmaa
open Go.RowKit Go.Shelf
set_option maxRecDepth 100000
set_option linter.unusedVariables false

theorem valX_in (s : ByteArray) (i : Nat) (h : i < s.size) : valX s i = valOf s[i] := by unfold valX; rw [dif_pos h]
theorem valOf_byte (d : UInt8) : (valOf d = -1 ∧ d = 45) ∨ (valOf d = 0 ∧ d = 48) ∨ (valOf d = 1 ∧ d = 43) ∨ (valOf d = -2 ∧ d ≠ 45 ∧ d ≠ 48 ∧ d ≠ 43) := by
  unfold valOf
  by_cases h1 : d = 45
  · simp [h1]
  · by_cases h2 : d = 48
    · simp [h2]
    · by_cases h3 : d = 43
      · simp [h3]
      · simp [h1, h2, h3]
theorem u8ne {d : UInt8} {n : Nat} (hn : n < 256) (h : d ≠ UInt8.ofNat n) : ((d.toNat : Int) == (n : Int)) = false := by
  simp only [beq_eq_false_iff_ne, ne_eq]
  intro e
  apply h
  have e2 : d.toNat = n := by omega
  rw [← e2]
  simp
/-- The places told by the first i bytes. -/
def preX (s : ByteArray) (i : Nat) (j : Nat) : Int := if j < i then valX s j else 0
theorem preX_0 (s : ByteArray) : weigC (preX s 0) = weigC (fun _ => 0) := weigC_congr fun j _ => by simp [preX]
theorem preX_succ (s : ByteArray) (i : Nat) (hi : i < 14) : (weigC (preX s i)).setIfInBounds i (.int .i8 (valX s i)) = weigC (preX s (i + 1)) := by
  rw [weigC_set _ i hi]
  refine weigC_congr fun j _ => ?_
  unfold preX
  by_cases e : j = i
  · subst e; simp
  · by_cases e2 : j < i
    · simp [e, e2, Nat.lt_succ_of_lt e2]
    · simp [e, e2, show ¬ j < i + 1 by omega]
theorem preX_zero (s : ByteArray) (i : Nat) (hi : i < 14) (h : valX s i = 0) : weigC (preX s i) = weigC (preX s (i + 1)) := weigC_congr fun j _ => by
  unfold preX
  by_cases e : j = i
  · subst e; simp [h]
  · by_cases e2 : j < i
    · simp [e2, Nat.lt_succ_of_lt e2]
    · simp [e2, show ¬ j < i + 1 by omega]
theorem preX_full (s : ByteArray) (hs : s.size ≤ 14) : weigC (preX s s.size) = weigC (valX s) := weigC_congr fun j _ => by
  unfold preX valX
  by_cases e : j < s.size
  · simp [e]
  · simp [e]
abbrev rwL (z b : Nat) (c k : Int) (n g : Bool) (x : Nat → Int) : List (Nat × Array Value × TypeId) := [(b, weigC x, 34), (z + 1, weigC (fun _ => 0), 34), (z, #[.int .i8 c, .int .i8 k, .bool n, .bool g], 32)]
set_option maxHeartbeats 8000000 in
theorem specReadWeighing_any (c k : Int) (n g : Bool) (s : ByteArray) (w : World) (hc : B8 c) (hk : B8 k) (hs : s.size ≤ 1048576) :
    Calls Try.prog 25 #[taskV c k n g, .string s] w fun e w' => e = .returned (.tuple #[weigV (rwV c k g s), .int .i64 (rwC c k g s)]) ∧ Below w.heap.size w w' := by
  have F0 := ((FR.start w).box #[.int .i8 c, .int .i8 k, .bool n, .bool g] 32).box (weigC (fun _ => 0)) 34
  simp only [World.size_alloc] at F0
  have HV := Lib.hid (fun W => l03Ok_any c k n g W hc hk)
  cases hok : okT c k
  · rw [hok] at HV
    have HR := Lib.hid (rw_bad (g := g) (s := s) hok)
    clear hc hk hok
    obtain ⟨c0, c1, c2, c3, -⟩ := (F0.blk _ (List.mem_cons_of_mem _ List.mem_cons_self)).four
    go_enter Try.func25, Try.ntmps25
    go_wp2_with fail
    refine (HV.out _).mono ?_
    rintro e w2 ⟨rfl, hb⟩
    have F1 := F0.next hb
    clear hb F0 c0 c1 c2 c3
    obtain ⟨d0, d1, d2, d3, d4, d5, d6, d7, d8, d9, d10, d11, d12, d13, d14⟩ := Blk.fourteen (x := fun _ => 0) (F1.blk _ List.mem_cons_self)
    have HF := Lib.hid F1
    clear F1
    go_wp2
    refine bodyPost_ret (res_rw_spec (x := fun _ => 0) (Blk.set14 (z := fun _ => 0) (fun _ => 0) (HF.out.blk _ List.mem_cons_self)) _ rfl rfl) rfl ⟨by rw [HR.out.1, HR.out.2], below14 HF.out.below (by omega) (fun _ => 0)⟩
  · rw [hok] at HV
    have HW := Lib.hid (fun x W hx => l03Weighing_any c k n g x W hc hx)
    have HRy := Lib.hid (fun h => rw_yes (g := g) (s := s) hok h)
    have HRn := Lib.hid (fun h => rw_no (g := g) (s := s) hok h)
    obtain ⟨hm, hk2, hmc⟩ := okT_t hok
    have hp : ∃ p : Nat, plI c g = (p : Int) ∧ 1 ≤ p ∧ p ≤ 14 := by
      unfold plI
      split
      · exact ⟨c.toNat + 1, by omega, by omega, by omega⟩
      · exact ⟨c.toNat, by omega, by omega, by omega⟩
    cases g
    · obtain ⟨p, hp, hp1, hp14⟩ := hp
      have hcb : 1 ≤ c ∧ c ≤ 13 := by omega
      have HRN := Lib.hid (show (p : Int) = plI c false from hp.symm)
      have hcp : c = (p : Int) := by simpa [plI] using hp
      have hpz : (p : Int) ≤ 14 := by omega
      have hpz1 : (1 : Int) ≤ (p : Int) := by omega
      clear hc hk hok hm hk2 hmc hp
      subst hcp
      obtain ⟨c0, c1, c2, c3, -⟩ := (F0.blk _ (List.mem_cons_of_mem _ List.mem_cons_self)).four
      go_enter Try.func25, Try.ntmps25
      go_wp2_with fail
      refine (HV.out _).mono ?_
      rintro e w2 ⟨rfl, hb⟩
      have F1 := F0.next hb
      clear hb F0 c0 c1 c2 c3
      have hz1 := (F1.blk _ List.mem_cons_self).lt
      have F2 : FR w (rwL w.heap.size w2.heap.size (p : Int) k n false (fun _ => 0)) (w2.alloc (.cells #[.int .i8 0, .int .i8 0, .int .i8 0, .int .i8 0, .int .i8 0, .int .i8 0, .int .i8 0, .int .i8 0, .int .i8 0, .int .i8 0, .int .i8 0, .int .i8 0, .int .i8 0, .int .i8 0] 34)) := F1.box (weigC (fun _ => 0)) 34
      obtain ⟨c0, c1, c2, c3, -⟩ := (F1.blk _ (List.mem_cons_of_mem _ List.mem_cons_self)).four
      clear F1
      dsimp only at hz1
      by_cases hsz : s.size = p
      case neg =>
        have hq : ((s.size : Int) == (p : Int)) = false := by simp; omega
        have HN := Lib.hid (HRn.out (fun h => hsz (by have := h.1; rw [← HRN.out] at this; omega)))
        go_wp2_with fail
        clear c0 c1 c2 c3
        generalize w2.alloc (.cells #[.int .i8 0, .int .i8 0, .int .i8 0, .int .i8 0, .int .i8 0, .int .i8 0, .int .i8 0, .int .i8 0, .int .i8 0, .int .i8 0, .int .i8 0, .int .i8 0, .int .i8 0, .int .i8 0] 34) = w3 at *
        refine wp_loop_rounds 1 ?_
        rw [rounds_succ]
        obtain ⟨e0, e1, e2, e3, e4, e5, e6, e7, e8, e9, e10, e11, e12, e13, e14⟩ := Blk.fourteen (x := fun _ => 0) (F2.blk _ (List.mem_cons_of_mem _ List.mem_cons_self))
        have HF := Lib.hid F2
        clear F2
        go_wp2
        exact bodyPost_ret (res_rw_spec (x := fun _ => 0) (Blk.set14 (z := fun _ => 0) (fun _ => 0) (HF.out.blk _ (List.mem_cons_of_mem _ List.mem_cons_self))) _ rfl rfl) rfl ⟨by rw [(HN.out).1, (HN.out).2], below14 HF.out.below (by omega) (fun _ => 0)⟩
      have hq : ((s.size : Int) == (p : Int)) = true := by simp; omega
      go_wp2_with fail
      clear c0 c1 c2 c3
      generalize w2.alloc (.cells #[.int .i8 0, .int .i8 0, .int .i8 0, .int .i8 0, .int .i8 0, .int .i8 0, .int .i8 0, .int .i8 0, .int .i8 0, .int .i8 0, .int .i8 0, .int .i8 0, .int .i8 0, .int .i8 0] 34) = w3 at *
      have F3 : FR w (rwL w.heap.size w2.heap.size (p : Int) k n false (preX s 0)) w3 := by
        have := preX_0 s
        unfold rwL
        rw [this]
        exact F2
      clear F2
      generalize w2.heap.size = bz at *
      go_loopw [8, 9] (fun okv iv wr => ∃ i : Nat, iv = .int .i64 (i : Int) ∧ i ≤ p ∧ ((okv = .bool true ∧ (∀ j (h : j < s.size), j < i → valOf s[j] ≠ -2) ∧ FR w (rwL w.heap.size bz (p : Int) k n false (preX s i)) wr) ∨ (okv = .bool false ∧ ¬ RwOk (p : Int) false s ∧ ∃ x, FR w (rwL w.heap.size bz (p : Int) k n false x) wr))) (fun _ iv _ => p - (intOf iv).toNat)
      case atStart => exact ⟨0, rfl, Nat.zero_le _, .inl ⟨rfl, fun j _ h => absurd h (by omega), F3⟩⟩
      case round =>
        clear F3
        obtain ⟨i, rfl, hi, (⟨rfl, hgood, F3⟩ | ⟨rfl, hbad, x, F3⟩)⟩ := hrel
        case inr =>
          have HN := Lib.hid (HRn.out hbad)
          clear hbad
          by_cases hlt : i < p
          · have hiz : (i : Int) < (p : Int) := by omega
            obtain ⟨e0, e1, e2, e3, e4, e5, e6, e7, e8, e9, e10, e11, e12, e13, e14⟩ := Blk.fourteen (x := fun _ => 0) (F3.blk _ (List.mem_cons_of_mem _ List.mem_cons_self))
            have HF := Lib.hid F3
            clear F3
            go_wp2
            exact bodyPost_ret (res_rw_spec (x := fun _ => 0) (Blk.set14 (z := fun _ => 0) (fun _ => 0) (HF.out.blk _ (List.mem_cons_of_mem _ List.mem_cons_self))) _ rfl rfl) rfl ⟨by rw [(HN.out).1, (HN.out).2], below14 HF.out.below (by omega) (fun _ => 0)⟩
          · have hiz : ¬ (i : Int) < (p : Int) := by omega
            obtain ⟨e0, e1, e2, e3, e4, e5, e6, e7, e8, e9, e10, e11, e12, e13, e14⟩ := Blk.fourteen (x := fun _ => 0) (F3.blk _ (List.mem_cons_of_mem _ List.mem_cons_self))
            have HF := Lib.hid F3
            clear F3
            go_wp2
            exact bodyPost_ret (res_rw_spec (x := fun _ => 0) (Blk.set14 (z := fun _ => 0) (fun _ => 0) (HF.out.blk _ (List.mem_cons_of_mem _ List.mem_cons_self))) _ rfl rfl) rfl ⟨by rw [(HN.out).1, (HN.out).2], below14 HF.out.below (by omega) (fun _ => 0)⟩
        have HG := Lib.hid hgood
        clear hgood
        by_cases hlt : i < p
        case neg =>
          obtain rfl : i = p := by omega
          have hxx : weigC (preX s i) = weigC (valX s) := by rw [← hsz]; exact preX_full s (by omega)
          have F4 : FR w (rwL w.heap.size bz (i : Int) k n false (valX s)) wr := by
            unfold rwL at F3 ⊢
            rw [hxx] at F3
            exact F3
          clear F3 hxx
          have HWx := Lib.hid (fun W => HW.out (valX s) W (valX_8 s))
          obtain ⟨c0, c1, c2, c3, -⟩ := (F4.blk _ (List.mem_cons_of_mem _ (List.mem_cons_of_mem _ List.mem_cons_self))).four
          obtain ⟨d0, d1, d2, d3, d4, d5, d6, d7, d8, d9, d10, d11, d12, d13, -⟩ := Blk.fourteen (x := valX s) (F4.blk _ List.mem_cons_self)
          have hiz : ¬ (i : Int) < (i : Int) := by omega
          cases hgw : okGw (i : Int) false (valX s)
          · rw [hgw] at HWx
            have HN := Lib.hid (HRn.out (fun h => by have := h.2.2; rw [hgw] at this; simp at this))
            clear hgw
            go_wp2_with fail
            refine (HWx.out _).mono ?_
            rintro e w4 ⟨rfl, hb⟩
            have F5 := F4.next hb
            clear hb F4 c0 c1 c2 c3 d0 d1 d2 d3 d4 d5 d6 d7 d8 d9 d10 d11 d12 d13
            obtain ⟨e0, e1, e2, e3, e4, e5, e6, e7, e8, e9, e10, e11, e12, e13, e14⟩ := Blk.fourteen (x := fun _ => 0) (F5.blk _ (List.mem_cons_of_mem _ List.mem_cons_self))
            have HF := Lib.hid F5
            clear F5
            go_wp2
            exact bodyPost_ret (res_rw_spec (x := fun _ => 0) (Blk.set14 (z := fun _ => 0) (fun _ => 0) (HF.out.blk _ (List.mem_cons_of_mem _ List.mem_cons_self))) _ rfl rfl) rfl ⟨by rw [(HN.out).1, (HN.out).2], below14 HF.out.below (by omega) (fun _ => 0)⟩
          · rw [hgw] at HWx
            have HY := Lib.hid (HRy.out ⟨by rw [← HRN.out]; omega, fun j h => HG.out j h (by omega), hgw⟩)
            clear hgw
            go_wp2_with fail
            refine (HWx.out _).mono ?_
            rintro e w4 ⟨rfl, hb⟩
            have F5 := F4.next hb
            clear hb F4 c0 c1 c2 c3 d0 d1 d2 d3 d4 d5 d6 d7 d8 d9 d10 d11 d12 d13
            obtain ⟨d0, d1, d2, d3, d4, d5, d6, d7, d8, d9, d10, d11, d12, d13, -⟩ := Blk.fourteen (x := valX s) (F5.blk _ List.mem_cons_self)
            obtain ⟨e0, e1, e2, e3, e4, e5, e6, e7, e8, e9, e10, e11, e12, e13, e14⟩ := Blk.fourteen (x := fun _ => 0) (F5.blk _ (List.mem_cons_of_mem _ List.mem_cons_self))
            have HF := Lib.hid F5
            clear F5
            generalize hvx : valX s = vx at *
            clear hvx
            go_wp2
            exact bodyPost_ret (res_rw_spec (x := vx) (Blk.set14 (z := fun _ => 0) vx (HF.out.blk _ (List.mem_cons_of_mem _ List.mem_cons_self))) _ rfl rfl) rfl ⟨by rw [HY.out.1, HY.out.2], below14 HF.out.below (by omega) vx⟩
        have hiz : (i : Int) < (p : Int) := by omega
        have his : i < s.size := by omega
        have hisz : (i : Int) < (s.size : Int) := by omega
        have hi14 : (i : Int) < 14 := by omega
        have h1 := Blk.weig (x := preX s i) (F3.blk _ List.mem_cons_self) i (by omega)
        have h2 := (F3.blk _ List.mem_cons_self).free i
        dsimp only at h1 h2
        generalize preX s i i = old at h1
        have HNG := Lib.hid (show valOf s[i] ≠ -2 → ∀ j (h : j < s.size), j < i + 1 → valOf s[j] ≠ -2 from fun h0 j h hj => by
          by_cases e : j = i
          · subst e; exact h0
          · exact HG.out j h (by omega))
        have HVX := Lib.hid (valX_in s i his)
        have HST := Lib.hid (preX_succ s i (by omega))
        have HSZ := Lib.hid (preX_zero s i (by omega))
        rcases valOf_byte s[i] with ⟨hv, hd⟩ | ⟨hv, hd⟩ | ⟨hv, hd⟩ | ⟨hv, hd1, hd2, hd3⟩
        · have HV1 := Lib.hid (show valX s i = -1 from by rw [HVX.out, hv])
          have HNG1 := Lib.hid (HNG.out (by rw [hv]; decide))
          have q45 : ((s[i].toNat : Int) == 45) = true := by rw [hd]; decide
          have q43 : ((s[i].toNat : Int) == 43) = false := by rw [hd]; decide
          have q48 : ((s[i].toNat : Int) == 48) = false := by rw [hd]; decide
          have HF := Lib.hid (show FR w (rwL w.heap.size bz (p : Int) k n false (preX s (i + 1))) (wr.setCell ⟨bz, i, none⟩ (.int .i8 (-1))) from by
            have hh := F3.setTop i (.int .i8 (-1))
            unfold rwL
            rw [← HST.out, HV1.out]
            exact hh)
          clear F3 hv hd
          go_wp2
          go_roundw
          case rel => exact ⟨i + 1, by go_num, by omega, .inl ⟨rfl, HNG1.out, HF.out⟩⟩
          case measure => simp [intOf]; omega
        · have HV1 := Lib.hid (show valX s i = 0 from by rw [HVX.out, hv])
          have HNG1 := Lib.hid (HNG.out (by rw [hv]; decide))
          have q45 : ((s[i].toNat : Int) == 45) = false := by rw [hd]; decide
          have q43 : ((s[i].toNat : Int) == 43) = false := by rw [hd]; decide
          have q48 : ((s[i].toNat : Int) == 48) = true := by rw [hd]; decide
          have HF := Lib.hid (show FR w (rwL w.heap.size bz (p : Int) k n false (preX s (i + 1))) wr from by
            unfold rwL at F3 ⊢
            rw [← HSZ.out HV1.out]
            exact F3)
          clear F3 hv hd
          go_wp2
          go_roundw
          case rel => exact ⟨i + 1, by go_num, by omega, .inl ⟨rfl, HNG1.out, HF.out⟩⟩
          case measure => simp [intOf]; omega
        · have HV1 := Lib.hid (show valX s i = 1 from by rw [HVX.out, hv])
          have HNG1 := Lib.hid (HNG.out (by rw [hv]; decide))
          have q45 : ((s[i].toNat : Int) == 45) = false := by rw [hd]; decide
          have q43 : ((s[i].toNat : Int) == 43) = true := by rw [hd]; decide
          have q48 : ((s[i].toNat : Int) == 48) = false := by rw [hd]; decide
          have HF := Lib.hid (show FR w (rwL w.heap.size bz (p : Int) k n false (preX s (i + 1))) (wr.setCell ⟨bz, i, none⟩ (.int .i8 (1))) from by
            have hh := F3.setTop i (.int .i8 (1))
            unfold rwL
            rw [← HST.out, HV1.out]
            exact hh)
          clear F3 hv hd
          go_wp2
          go_roundw
          case rel => exact ⟨i + 1, by go_num, by omega, .inl ⟨rfl, HNG1.out, HF.out⟩⟩
          case measure => simp [intOf]; omega
        · have HB := Lib.hid (show ¬ RwOk (p : Int) false s from fun h => h.2.1 i his hv)
          have q45 : ((s[i].toNat : Int) == 45) = false := u8ne (n := 45) (by decide) hd1
          have q43 : ((s[i].toNat : Int) == 43) = false := u8ne (n := 43) (by decide) hd3
          have q48 : ((s[i].toNat : Int) == 48) = false := u8ne (n := 48) (by decide) hd2
          have HF := Lib.hid F3
          clear F3 hv hd1 hd2 hd3
          go_wp2
          go_roundw
          case rel => exact ⟨i + 1, by go_num, by omega, .inr ⟨rfl, HB.out, _, HF.out⟩⟩
          case measure => simp [intOf]; omega
    · obtain ⟨p, hp, hp1, hp14⟩ := hp
      have hcb : 1 ≤ c ∧ c ≤ 13 := by omega
      have HRN := Lib.hid (show (p : Int) = plI c true from hp.symm)
      have hcp : c + 1 = (p : Int) := by simpa [plI] using hp
      have hpz : (p : Int) ≤ 14 := by omega
      have hpz1 : (1 : Int) ≤ (p : Int) := by omega
      clear hc hk hok hm hk2 hmc hp
      obtain ⟨c0, c1, c2, c3, -⟩ := (F0.blk _ (List.mem_cons_of_mem _ List.mem_cons_self)).four
      go_enter Try.func25, Try.ntmps25
      go_wp2_with fail
      refine (HV.out _).mono ?_
      rintro e w2 ⟨rfl, hb⟩
      have F1 := F0.next hb
      clear hb F0 c0 c1 c2 c3
      have hz1 := (F1.blk _ List.mem_cons_self).lt
      have F2 : FR w (rwL w.heap.size w2.heap.size c k n true (fun _ => 0)) (w2.alloc (.cells #[.int .i8 0, .int .i8 0, .int .i8 0, .int .i8 0, .int .i8 0, .int .i8 0, .int .i8 0, .int .i8 0, .int .i8 0, .int .i8 0, .int .i8 0, .int .i8 0, .int .i8 0, .int .i8 0] 34)) := F1.box (weigC (fun _ => 0)) 34
      obtain ⟨c0, c1, c2, c3, -⟩ := (F1.blk _ (List.mem_cons_of_mem _ List.mem_cons_self)).four
      clear F1
      dsimp only at hz1
      by_cases hsz : s.size = p
      case neg =>
        have hq : ((s.size : Int) == (p : Int)) = false := by simp; omega
        have HN := Lib.hid (HRn.out (fun h => hsz (by have := h.1; rw [← HRN.out] at this; omega)))
        go_wp2_with fail
        clear c0 c1 c2 c3
        generalize w2.alloc (.cells #[.int .i8 0, .int .i8 0, .int .i8 0, .int .i8 0, .int .i8 0, .int .i8 0, .int .i8 0, .int .i8 0, .int .i8 0, .int .i8 0, .int .i8 0, .int .i8 0, .int .i8 0, .int .i8 0] 34) = w3 at *
        refine wp_loop_rounds 1 ?_
        rw [rounds_succ]
        obtain ⟨e0, e1, e2, e3, e4, e5, e6, e7, e8, e9, e10, e11, e12, e13, e14⟩ := Blk.fourteen (x := fun _ => 0) (F2.blk _ (List.mem_cons_of_mem _ List.mem_cons_self))
        have HF := Lib.hid F2
        clear F2
        go_wp2
        exact bodyPost_ret (res_rw_spec (x := fun _ => 0) (Blk.set14 (z := fun _ => 0) (fun _ => 0) (HF.out.blk _ (List.mem_cons_of_mem _ List.mem_cons_self))) _ rfl rfl) rfl ⟨by rw [(HN.out).1, (HN.out).2], below14 HF.out.below (by omega) (fun _ => 0)⟩
      have hq : ((s.size : Int) == (p : Int)) = true := by simp; omega
      go_wp2_with fail
      clear c0 c1 c2 c3
      generalize w2.alloc (.cells #[.int .i8 0, .int .i8 0, .int .i8 0, .int .i8 0, .int .i8 0, .int .i8 0, .int .i8 0, .int .i8 0, .int .i8 0, .int .i8 0, .int .i8 0, .int .i8 0, .int .i8 0, .int .i8 0] 34) = w3 at *
      have F3 : FR w (rwL w.heap.size w2.heap.size c k n true (preX s 0)) w3 := by
        have := preX_0 s
        unfold rwL
        rw [this]
        exact F2
      clear F2
      generalize w2.heap.size = bz at *
      go_loopw [8, 9] (fun okv iv wr => ∃ i : Nat, iv = .int .i64 (i : Int) ∧ i ≤ p ∧ ((okv = .bool true ∧ (∀ j (h : j < s.size), j < i → valOf s[j] ≠ -2) ∧ FR w (rwL w.heap.size bz c k n true (preX s i)) wr) ∨ (okv = .bool false ∧ ¬ RwOk c true s ∧ ∃ x, FR w (rwL w.heap.size bz c k n true x) wr))) (fun _ iv _ => p - (intOf iv).toNat)
      case atStart => exact ⟨0, rfl, Nat.zero_le _, .inl ⟨rfl, fun j _ h => absurd h (by omega), F3⟩⟩
      case round =>
        clear F3
        obtain ⟨i, rfl, hi, (⟨rfl, hgood, F3⟩ | ⟨rfl, hbad, x, F3⟩)⟩ := hrel
        case inr =>
          have HN := Lib.hid (HRn.out hbad)
          clear hbad
          by_cases hlt : i < p
          · have hiz : (i : Int) < (p : Int) := by omega
            obtain ⟨e0, e1, e2, e3, e4, e5, e6, e7, e8, e9, e10, e11, e12, e13, e14⟩ := Blk.fourteen (x := fun _ => 0) (F3.blk _ (List.mem_cons_of_mem _ List.mem_cons_self))
            have HF := Lib.hid F3
            clear F3
            go_wp2
            exact bodyPost_ret (res_rw_spec (x := fun _ => 0) (Blk.set14 (z := fun _ => 0) (fun _ => 0) (HF.out.blk _ (List.mem_cons_of_mem _ List.mem_cons_self))) _ rfl rfl) rfl ⟨by rw [(HN.out).1, (HN.out).2], below14 HF.out.below (by omega) (fun _ => 0)⟩
          · have hiz : ¬ (i : Int) < (p : Int) := by omega
            obtain ⟨e0, e1, e2, e3, e4, e5, e6, e7, e8, e9, e10, e11, e12, e13, e14⟩ := Blk.fourteen (x := fun _ => 0) (F3.blk _ (List.mem_cons_of_mem _ List.mem_cons_self))
            have HF := Lib.hid F3
            clear F3
            go_wp2
            exact bodyPost_ret (res_rw_spec (x := fun _ => 0) (Blk.set14 (z := fun _ => 0) (fun _ => 0) (HF.out.blk _ (List.mem_cons_of_mem _ List.mem_cons_self))) _ rfl rfl) rfl ⟨by rw [(HN.out).1, (HN.out).2], below14 HF.out.below (by omega) (fun _ => 0)⟩
        have HG := Lib.hid hgood
        clear hgood
        by_cases hlt : i < p
        case neg =>
          obtain rfl : i = p := by omega
          have hxx : weigC (preX s i) = weigC (valX s) := by rw [← hsz]; exact preX_full s (by omega)
          have F4 : FR w (rwL w.heap.size bz c k n true (valX s)) wr := by
            unfold rwL at F3 ⊢
            rw [hxx] at F3
            exact F3
          clear F3 hxx
          have HWx := Lib.hid (fun W => HW.out (valX s) W (valX_8 s))
          obtain ⟨c0, c1, c2, c3, -⟩ := (F4.blk _ (List.mem_cons_of_mem _ (List.mem_cons_of_mem _ List.mem_cons_self))).four
          obtain ⟨d0, d1, d2, d3, d4, d5, d6, d7, d8, d9, d10, d11, d12, d13, -⟩ := Blk.fourteen (x := valX s) (F4.blk _ List.mem_cons_self)
          have hiz : ¬ (i : Int) < (i : Int) := by omega
          cases hgw : okGw c true (valX s)
          · rw [hgw] at HWx
            have HN := Lib.hid (HRn.out (fun h => by have := h.2.2; rw [hgw] at this; simp at this))
            clear hgw
            go_wp2_with fail
            refine (HWx.out _).mono ?_
            rintro e w4 ⟨rfl, hb⟩
            have F5 := F4.next hb
            clear hb F4 c0 c1 c2 c3 d0 d1 d2 d3 d4 d5 d6 d7 d8 d9 d10 d11 d12 d13
            obtain ⟨e0, e1, e2, e3, e4, e5, e6, e7, e8, e9, e10, e11, e12, e13, e14⟩ := Blk.fourteen (x := fun _ => 0) (F5.blk _ (List.mem_cons_of_mem _ List.mem_cons_self))
            have HF := Lib.hid F5
            clear F5
            go_wp2
            exact bodyPost_ret (res_rw_spec (x := fun _ => 0) (Blk.set14 (z := fun _ => 0) (fun _ => 0) (HF.out.blk _ (List.mem_cons_of_mem _ List.mem_cons_self))) _ rfl rfl) rfl ⟨by rw [(HN.out).1, (HN.out).2], below14 HF.out.below (by omega) (fun _ => 0)⟩
          · rw [hgw] at HWx
            have HY := Lib.hid (HRy.out ⟨by rw [← HRN.out]; omega, fun j h => HG.out j h (by omega), hgw⟩)
            clear hgw
            go_wp2_with fail
            refine (HWx.out _).mono ?_
            rintro e w4 ⟨rfl, hb⟩
            have F5 := F4.next hb
            clear hb F4 c0 c1 c2 c3 d0 d1 d2 d3 d4 d5 d6 d7 d8 d9 d10 d11 d12 d13
            obtain ⟨d0, d1, d2, d3, d4, d5, d6, d7, d8, d9, d10, d11, d12, d13, -⟩ := Blk.fourteen (x := valX s) (F5.blk _ List.mem_cons_self)
            obtain ⟨e0, e1, e2, e3, e4, e5, e6, e7, e8, e9, e10, e11, e12, e13, e14⟩ := Blk.fourteen (x := fun _ => 0) (F5.blk _ (List.mem_cons_of_mem _ List.mem_cons_self))
            have HF := Lib.hid F5
            clear F5
            generalize hvx : valX s = vx at *
            clear hvx
            go_wp2
            exact bodyPost_ret (res_rw_spec (x := vx) (Blk.set14 (z := fun _ => 0) vx (HF.out.blk _ (List.mem_cons_of_mem _ List.mem_cons_self))) _ rfl rfl) rfl ⟨by rw [HY.out.1, HY.out.2], below14 HF.out.below (by omega) vx⟩
        have hiz : (i : Int) < (p : Int) := by omega
        have his : i < s.size := by omega
        have hisz : (i : Int) < (s.size : Int) := by omega
        have hi14 : (i : Int) < 14 := by omega
        have h1 := Blk.weig (x := preX s i) (F3.blk _ List.mem_cons_self) i (by omega)
        have h2 := (F3.blk _ List.mem_cons_self).free i
        dsimp only at h1 h2
        generalize preX s i i = old at h1
        have HNG := Lib.hid (show valOf s[i] ≠ -2 → ∀ j (h : j < s.size), j < i + 1 → valOf s[j] ≠ -2 from fun h0 j h hj => by
          by_cases e : j = i
          · subst e; exact h0
          · exact HG.out j h (by omega))
        have HVX := Lib.hid (valX_in s i his)
        have HST := Lib.hid (preX_succ s i (by omega))
        have HSZ := Lib.hid (preX_zero s i (by omega))
        rcases valOf_byte s[i] with ⟨hv, hd⟩ | ⟨hv, hd⟩ | ⟨hv, hd⟩ | ⟨hv, hd1, hd2, hd3⟩
        · have HV1 := Lib.hid (show valX s i = -1 from by rw [HVX.out, hv])
          have HNG1 := Lib.hid (HNG.out (by rw [hv]; decide))
          have q45 : ((s[i].toNat : Int) == 45) = true := by rw [hd]; decide
          have q43 : ((s[i].toNat : Int) == 43) = false := by rw [hd]; decide
          have q48 : ((s[i].toNat : Int) == 48) = false := by rw [hd]; decide
          have HF := Lib.hid (show FR w (rwL w.heap.size bz c k n true (preX s (i + 1))) (wr.setCell ⟨bz, i, none⟩ (.int .i8 (-1))) from by
            have hh := F3.setTop i (.int .i8 (-1))
            unfold rwL
            rw [← HST.out, HV1.out]
            exact hh)
          clear F3 hv hd
          go_wp2
          go_roundw
          case rel => exact ⟨i + 1, by go_num, by omega, .inl ⟨rfl, HNG1.out, HF.out⟩⟩
          case measure => simp [intOf]; omega
        · have HV1 := Lib.hid (show valX s i = 0 from by rw [HVX.out, hv])
          have HNG1 := Lib.hid (HNG.out (by rw [hv]; decide))
          have q45 : ((s[i].toNat : Int) == 45) = false := by rw [hd]; decide
          have q43 : ((s[i].toNat : Int) == 43) = false := by rw [hd]; decide
          have q48 : ((s[i].toNat : Int) == 48) = true := by rw [hd]; decide
          have HF := Lib.hid (show FR w (rwL w.heap.size bz c k n true (preX s (i + 1))) wr from by
            unfold rwL at F3 ⊢
            rw [← HSZ.out HV1.out]
            exact F3)
          clear F3 hv hd
          go_wp2
          go_roundw
          case rel => exact ⟨i + 1, by go_num, by omega, .inl ⟨rfl, HNG1.out, HF.out⟩⟩
          case measure => simp [intOf]; omega
        · have HV1 := Lib.hid (show valX s i = 1 from by rw [HVX.out, hv])
          have HNG1 := Lib.hid (HNG.out (by rw [hv]; decide))
          have q45 : ((s[i].toNat : Int) == 45) = false := by rw [hd]; decide
          have q43 : ((s[i].toNat : Int) == 43) = true := by rw [hd]; decide
          have q48 : ((s[i].toNat : Int) == 48) = false := by rw [hd]; decide
          have HF := Lib.hid (show FR w (rwL w.heap.size bz c k n true (preX s (i + 1))) (wr.setCell ⟨bz, i, none⟩ (.int .i8 (1))) from by
            have hh := F3.setTop i (.int .i8 (1))
            unfold rwL
            rw [← HST.out, HV1.out]
            exact hh)
          clear F3 hv hd
          go_wp2
          go_roundw
          case rel => exact ⟨i + 1, by go_num, by omega, .inl ⟨rfl, HNG1.out, HF.out⟩⟩
          case measure => simp [intOf]; omega
        · have HB := Lib.hid (show ¬ RwOk c true s from fun h => h.2.1 i his hv)
          have q45 : ((s[i].toNat : Int) == 45) = false := u8ne (n := 45) (by decide) hd1
          have q43 : ((s[i].toNat : Int) == 43) = false := u8ne (n := 43) (by decide) hd3
          have q48 : ((s[i].toNat : Int) == 48) = false := u8ne (n := 48) (by decide) hd2
          have HF := Lib.hid F3
          clear F3 hv hd1 hd2 hd3
          go_wp2
          go_roundw
          case rel => exact ⟨i + 1, by go_num, by omega, .inr ⟨rfl, HB.out, _, HF.out⟩⟩
          case measure => simp [intOf]; omega
end Go.Proofs.Ytlbiakoofpgdmaa
