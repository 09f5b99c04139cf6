/-
  The walks of CrossAll and its model.
-/
import Derived.Test.YtlpmojjmnkiflaaY17
namespace Go.Proofs.Ytlpmojjmnkiflaa
open Go.RowKit
set_option maxRecDepth 100000
set_option linter.unusedVariables false

/-- What CrossAll hands back: near, far, code. -/
def caT (l k : Int) (xs us : List Int) : Int × Bool × Int := if okY l k xs = true then (if (1000 : Int) < us.length then (0, false, 2) else cTo l k xs (allI l) false us us.length) else (0, false, 1)
theorem ca_1 {l k : Int} {xs us : List Int} (h : okY l k xs = false) : caT l k xs us = (0, false, 1) := by unfold caT; rw [h]; rfl
theorem ca_2 {l k : Int} {xs us : List Int} (h : okY l k xs = true) (h2 : (1000 : Int) < us.length) : caT l k xs us = (0, false, 2) := by unfold caT; rw [if_pos h, if_pos h2]
theorem ca_3 {l k : Int} {xs us : List Int} (h : okY l k xs = true) (h2 : ¬ (1000 : Int) < us.length) : caT l k xs us = cTo l k xs (allI l) false us us.length := by unfold caT; rw [if_pos h, if_neg h2]
theorem all_near {l : Int} : bits .andNot .u16 (allI l) (allI l) = 0 := by
  rw [bits_andNot, toNat_eq_zero]
  apply BitVec.eq_of_getLsbD_eq
  intro i hi
  simp [hi]
theorem rett {n m : Int} {f g : Bool} {c d : Int} {t : Int × Bool × Int} (h : t = (n, f, c)) : Ending.returned (.tuple #[bankV n f, .int .i64 c]) = .returned (.tuple #[bankV t.1 t.2.1, .int .i64 t.2.2]) := by rw [h]
theorem firstBank_any (l k : Int) (a : Option Addr) (n c : Nat) (w : World) (hl : 1 ≤ l ∧ l ≤ 8) :
    Calls Try.prog 42 #[ferV l k a n c] w fun e w' => e = .returned (bankV (allI l) false) ∧ Below w.heap.size w w' := by
  have F0 := ((FR.start w).box #[.int .i8 l, .int .i8 k, .slice a n c] 33).box #[.int .u16 0, .bool false] 30
  simp only [World.size_alloc] at F0
  obtain ⟨c0, c1, c2, -⟩ := (F0.blk _ (List.mem_cons_of_mem _ List.mem_cons_self)).three
  have HE := Lib.hid (fun W => everything_any l k a n c W hl)
  generalize allI l = al at *
  clear hl
  go_enter Try.func42, Try.ntmps42
  go_wp2_with fail
  refine (HE.out _).mono ?_
  rintro e w2 ⟨rfl, hb⟩
  have F1 := F0.next hb
  clear hb F0 c0 c1 c2
  obtain ⟨e0, e1, ef⟩ := (F1.blk _ List.mem_cons_self).two
  have F9 := F1.bank (u0 := .int .u16 al) (u1 := .bool false)
  have HB := Lib.hid (And.intro (F9.blk _ List.mem_cons_self) F9.below)
  clear F1 F9
  go_wp2
  have e0 := HB.out.1.cell 0
  have e1 := HB.out.1.cell 1
  simp at e0 e1
  exact bodyPost_ret (v := bankV al false) (by simp [results, Try.results42, go_sem, e0, e1]) rfl ⟨rfl, HB.out.2⟩
theorem res_bank4 {W : World} {b : Nat} {v0 v1 u : Value} {t : TypeId} (F : Func) (hF : F.results = #[.cell 4 30, .tmp 5]) (K : Blk W b #[v0, v1] t) (tmps : Array Value) (h6 : tmps.getD 4 undef = .pointer (some ⟨b, 0, none⟩)) (h7 : tmps.getD 5 undef = u) : (results F tmps).run Try.prog W = .ok (.tuple #[.agg #[v0, v1], u]) W := by
  have h6' : tmps[4]?.getD undef = .pointer (some ⟨b, 0, none⟩) := by simpa using h6
  have h7' : tmps[5]?.getD undef = u := by simpa using h7
  have e0 := K.cell 0
  have e1 := K.cell 1
  simp at e0 e1
  simp [results, hF, go_sem, e0, e1, h6', h7']
set_option maxHeartbeats 2000000 in
theorem crossAllI_any (l k : Int) (a : Option Addr) (c : Nat) (xs : List Int) (a2 : Option Addr) (c2 : Nat) (us : List Int) (w : World) (hs : Sl .u16 w.heap.size w a xs) (hl : B8 l) (hk : B8 k) (hn : xs.length ≤ 1048576) (hw : U16 xs) (hs2 : Sl .u16 w.heap.size w a2 us) (hn2 : us.length ≤ 1048576) (hw2 : U16 us) :
    Calls Try.prog 24 #[ferV l k a xs.length c, .slice a2 us.length c2] w fun e w' => e = .returned (.tuple #[bankV (caT l k xs us).1 (caT l k xs us).2.1, .int .i64 (caT l k xs us).2.2]) ∧ Below w.heap.size w w' := by
  have F0 := ((FR.start w).box #[.int .i8 l, .int .i8 k, .slice a xs.length c] 33).box #[.int .u16 0, .bool false] 30
  simp only [World.size_alloc] at F0
  obtain ⟨g0, g1, g2, -⟩ := (F0.blk _ (List.mem_cons_of_mem _ List.mem_cons_self)).three
  have HV := Lib.hid (validFerry_any l k a c xs _ (hs.up F0.below (Nat.le_refl _)) hl hk hn hw)
  clear hl hk
  cases hok : okY l k xs
  · have HR := Lib.hid (ca_1 (us := us) hok)
    rw [hok] at HV
    clear hok hs hw hs2 hw2
    generalize xs.length = m at *
    generalize us.length = q at *
    go_enter Try.func24, Try.ntmps24
    go_wp2_with fail
    refine HV.out.mono ?_
    rintro e w2 ⟨rfl, hb⟩
    have F1 := F0.next hb
    clear hb F0 g0 g1 g2
    obtain ⟨e0, e1, ef⟩ := (F1.blk _ List.mem_cons_self).two
    have F9 := F1.bank (u0 := .int .u16 0) (u1 := .bool false)
    have HB := Lib.hid (And.intro (F9.blk _ List.mem_cons_self) F9.below)
    clear F1 F9
    go_wp2
    exact bodyPost_ret (res_bank4 _ Try.results24 HB.out.1 _ rfl rfl) rfl ⟨by rw [HR.out]; rfl, HB.out.2⟩
  rw [hok] at HV
  have h8 := (okY_t hok).1
  by_cases h1k : (1000 : Int) < us.length
  · have HR := Lib.hid (ca_2 hok h1k)
    clear hok hs hw hs2 hw2 h8
    generalize xs.length = m at *
    generalize us.length = q at *
    go_enter Try.func24, Try.ntmps24
    go_wp2_with fail
    refine HV.out.mono ?_
    rintro e w2 ⟨rfl, hb⟩
    have F1 := F0.next hb
    clear hb F0 g0 g1 g2
    obtain ⟨e0, e1, ef⟩ := (F1.blk _ List.mem_cons_self).two
    have F9 := F1.bank (u0 := .int .u16 0) (u1 := .bool false)
    have HB := Lib.hid (And.intro (F9.blk _ List.mem_cons_self) F9.below)
    clear F1 F9
    go_wp2
    exact bodyPost_ret (res_bank4 _ Try.results24 HB.out.1 _ rfl rfl) rfl ⟨by rw [HR.out]; rfl, HB.out.2⟩
  · have HR := Lib.hid (ca_3 hok h1k)
    have HC := Lib.hid (fun (W : World) (hb : Below w.heap.size w W) => crossAll_any l k a c xs (allI l) false a2 c2 us W (hs.up hb (Nat.le_refl _)) hn hw h8 (by have := (okY_t hok).2.1; omega) (hs2.up hb (Nat.le_refl _)) hn2 hw2)
    have HF := Lib.hid (fun W => firstBank_any l k a xs.length c W h8)
    rw [← HR.out] at HC
    clear hok hs hw hs2 hw2 h8
    generalize caT l k xs us = T at *
    generalize allI l = al at *
    generalize xs.length = m at *
    generalize us.length = q at *
    go_enter Try.func24, Try.ntmps24
    go_wp2_with fail
    refine HV.out.mono ?_
    rintro e w2 ⟨rfl, hb⟩
    have F0' := F0.next hb
    clear hb F0 g0 g1 g2 HV
    obtain ⟨g0, g1, g2, -⟩ := (F0'.blk _ (List.mem_cons_of_mem _ List.mem_cons_self)).three
    obtain ⟨e0, e1, ef⟩ := (F0'.blk _ List.mem_cons_self).two
    go_upto_region 5 with fail
    go_cut [5] (fun s wx => s = .int .i64 T.2.2 ∧ FR w [(w.heap.size + 1, #[.int .u16 T.1, .bool T.2.1], 30), (w.heap.size, #[.int .i8 l, .int .i8 k, .slice a m c], 33)] wx)
    case first =>
      have F1 := F0'.drew
      go_region_held3 (fun w' => w'.cell? ⟨w.heap.size, 0, none⟩ = some (.int .i8 l) ∧ w'.cell? ⟨w.heap.size, 1, none⟩ = some (.int .i8 k) ∧ w'.cell? ⟨w.heap.size, 2, none⟩ = some (.slice a m c))
        (first
          | exact ⟨((F4.bank).blk _ (List.mem_cons_of_mem _ List.mem_cons_self)).cell 0, ((F4.bank).blk _ (List.mem_cons_of_mem _ List.mem_cons_self)).cell 1, ((F4.bank).blk _ (List.mem_cons_of_mem _ List.mem_cons_self)).cell 2⟩
          | exact ⟨(F4.blk _ (List.mem_cons_of_mem _ List.mem_cons_self)).cell 0, (F4.blk _ (List.mem_cons_of_mem _ List.mem_cons_self)).cell 1, (F4.blk _ (List.mem_cons_of_mem _ List.mem_cons_self)).cell 2⟩
          | exact ⟨(F3.blk _ (List.mem_cons_of_mem _ List.mem_cons_self)).cell 0, (F3.blk _ (List.mem_cons_of_mem _ List.mem_cons_self)).cell 1, (F3.blk _ (List.mem_cons_of_mem _ List.mem_cons_self)).cell 2⟩
          | exact ⟨(F1.blk _ (List.mem_cons_of_mem _ List.mem_cons_self)).cell 0, (F1.blk _ (List.mem_cons_of_mem _ List.mem_cons_self)).cell 1, (F1.blk _ (List.mem_cons_of_mem _ List.mem_cons_self)).cell 2⟩)
        (first
          | (go_at_call 42; with_reducible refine (Calls.fr F1 (HF.out _)).mono ?_; rintro e w3 ⟨rfl, F3⟩)
          | (go_at_call 37; with_reducible refine (Calls.fr F3 (HC.out _ F3.below)).mono ?_; rintro e w4 ⟨rfl, F4⟩; obtain ⟨zz0, zz1, zzf⟩ := (F4.blk _ List.mem_cons_self).two))
      all_goals (go_wp2_with fail; go_meet; exact ⟨rfl, F4.bank⟩)
    case rest =>
      obtain ⟨rfl, FE⟩ := hcut
      have HB := Lib.hid (And.intro (FE.blk _ List.mem_cons_self) FE.below)
      clear FE F0' g0 g1 g2 e0 e1 ef
      go_wp2
      exact bodyPost_ret (res_bank4 _ Try.results24 HB.out.1 _ rfl rfl) rfl ⟨rfl, HB.out.2⟩
/-- A store of a bank into a block of a frame. -/
theorem FR.bankIn {w0 w : World} {L1 L2 : List (Nat × Array Value × TypeId)} {b : Nat} {v0 v1 u0 u1 : Value} {t : TypeId} (h : FR w0 (L1 ++ (b, #[v0, v1], t) :: L2) w) (hb : w0.heap.size ≤ b) (hd : ∀ p ∈ L1 ++ L2, p.1 ≠ b) (hk : ∀ p L', L1 ++ (b, #[u0, u1], t) :: L2 = p :: L' → ∃ p2 L2', L1 ++ (b, #[v0, v1], t) :: L2 = p2 :: L2' ∧ p2.1 = p.1 ∧ L'.map (·.1) = L2'.map (·.1)) :
    FR w0 (L1 ++ (b, #[u0, u1], t) :: L2) ((w.setCell ⟨b, 0, none⟩ u0).setCell ⟨b, 1, none⟩ u1) := by
  refine ⟨(h.below.setCell (p := ⟨b, 0, none⟩) hb u0).setCell (p := ⟨b, 1, none⟩) hb u1, fun p hp => ?_, fun p L' e => ?_⟩
  · rcases List.mem_append.1 hp with hp | hp
    · have := h.blk p (List.mem_append_left _ hp)
      have hne := hd p (List.mem_append_left _ hp)
      exact (this.setOther hne _ _).setOther hne _ _
    rcases List.mem_cons.1 hp with rfl | hp
    · exact ((h.blk (b, #[v0, v1], t) (List.mem_append_right _ List.mem_cons_self)).set 0 u0).set 1 u1
    · have := h.blk p (List.mem_append_right _ (List.mem_cons_of_mem _ hp))
      have hne := hd p (List.mem_append_right _ hp)
      exact (this.setOther hne _ _).setOther hne _ _
  · obtain ⟨p2, L2', e2, e3, e4⟩ := hk p L' e
    obtain ⟨h1, h2⟩ := h.top p2 L2' e2
    refine ⟨by rw [← e3]; exact h1, fun q hq => ?_⟩
    have : q.1 ∈ L'.map (·.1) := List.mem_map_of_mem hq
    rw [e4] at this
    obtain ⟨r, hr, e5⟩ := List.mem_map.1 this
    rw [← e5, ← e3]
    exact h2 r hr
end Go.Proofs.Ytlpmojjmnkiflaa
