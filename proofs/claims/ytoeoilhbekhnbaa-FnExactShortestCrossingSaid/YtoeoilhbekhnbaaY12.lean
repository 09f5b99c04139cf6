/-
  The code of a load, and the bank behind a crossing: in the program and in its model.
-/
import Derived.Test.YtoeoilhbekhnbaaY10
namespace Go.Proofs.Ytoeoilhbekhnbaa
open Go.RowKit
set_option maxRecDepth 100000
set_option linter.unusedVariables false

/-- The bank behind a crossing. -/
abbrev xorI (n x : Int) : Int := bits .xor .u16 n x
/-- A load has a thing that is not on the rower's side. -/
def offL (l n : Int) (f : Bool) (x : Int) : Bool := !(bits .andNot .u16 x (allI l) == 0) || (bits .and .u16 x (aloI l n f) != 0)
def cdL (l k : Int) (xs : List Int) (n : Int) (f : Bool) (x : Int) : Int := if offL l n f x = true then 2 else if k < (sz x.toNat : Int) then 3 else if bkX l xs (xorI n x) (!f) = true then 0 else 4
theorem cdL_2 {l k : Int} {xs : List Int} {n : Int} {f : Bool} {x : Int} (h : offL l n f x = true) : cdL l k xs n f x = 2 := by unfold cdL; rw [if_pos h]
theorem cdL_3 {l k : Int} {xs : List Int} {n : Int} {f : Bool} {x : Int} (h : offL l n f x = false) (h2 : k < (sz x.toNat : Int)) : cdL l k xs n f x = 3 := by unfold cdL; rw [if_neg (by rw [h]; decide), if_pos h2]
theorem cdL_4 {l k : Int} {xs : List Int} {n : Int} {f : Bool} {x : Int} (h : offL l n f x = false) (h2 : ¬ k < (sz x.toNat : Int)) (h3 : bkX l xs (xorI n x) (!f) = false) : cdL l k xs n f x = 4 := by unfold cdL; rw [if_neg (by rw [h]; decide), if_neg h2, if_neg (by rw [h3]; decide)]
theorem cdL_0 {l k : Int} {xs : List Int} {n : Int} {f : Bool} {x : Int} (h : offL l n f x = false) (h2 : ¬ k < (sz x.toNat : Int)) (h3 : bkX l xs (xorI n x) (!f) = true) : cdL l k xs n f x = 0 := by unfold cdL; rw [if_neg (by rw [h]; decide), if_neg h2, if_pos h3]
/-- What the model asks, of a bank with things of the ferry alone. -/
def hereI (l n : Int) (f : Bool) : Int := if f = true then bits .andNot .u16 (allI l) n else n
theorem here_eq {l n : Int} {f : Bool} (x : Int) (h : bits .andNot .u16 n (allI l) = 0) : (bits .andNot .u16 x (hereI l n f) != 0) = offL l n f x := by
  rw [bits_andNot, toNat_eq_zero] at h
  unfold offL hereI aloI
  cases f
  · simp only [Bool.false_eq_true, if_false]
    have e := here_near (bv x) (bv n) (bv (allI l)) h
    rw [bits_andNot x n, bits_andNot x (allI l), bits_and, bits_andNot (allI l) n, bv_toNat]
    rw [Bool.eq_iff_iff]
    simp only [bne_iff_ne, ne_eq, Bool.or_eq_true, Bool.not_eq_true', beq_eq_false_iff_ne, toNat_eq_zero]
    rw [e]
    exact Classical.not_and_iff_not_or_not
  · simp only [if_true]
    have e := here_far (bv x) (bv n) (bv (allI l)) h
    rw [bits_andNot x, bits_andNot x (allI l), bits_and, bits_andNot (allI l) n, bv_toNat]
    rw [Bool.eq_iff_iff]
    simp only [bne_iff_ne, ne_eq, Bool.or_eq_true, Bool.not_eq_true', beq_eq_false_iff_ne, toNat_eq_zero]
    rw [e]
    exact Classical.not_and_iff_not_or_not
theorem behind_any (n : Int) (f : Bool) (x : Int) (w : World) :
    Calls Try.prog 72 #[bankV n f, .int .u16 x] w fun e w' => e = .returned (bankV (xorI n x) (!f)) ∧ Below w.heap.size w w' := by
  go_enter Try.func72, Try.ntmps72
  go_wp2
  exact bodyPost_ret (v := bankV (xorI n x) (!f)) (by simp [results, Try.results72, go_sem]) rfl ⟨rfl, ((Below.refl _ _).alloc (Nat.le_refl _) _).alloc (by simp) _⟩
set_option maxHeartbeats 2000000 in
theorem codeOfLoad_any (l k : Int) (a : Option Addr) (c : Nat) (xs : List Int) (n : Int) (f : Bool) (x : Int) (w : World) (hs : Sl .u16 w.heap.size w a xs) (hn : xs.length ≤ 1048576) (hw : U16 xs) (hl : 1 ≤ l ∧ l ≤ 8) (hk : 0 ≤ k ∧ k ≤ 8) (hx : 0 ≤ x ∧ x ≤ 65535) :
    Calls Try.prog 71 #[ferV l k a xs.length c, bankV n f, .int .u16 x] w fun e w' => e = .returned (.int .i64 (cdL l k xs n f x)) ∧ Below w.heap.size w w' := by
  have F0 := ((FR.start w).box #[.int .i8 l, .int .i8 k, .slice a xs.length c] 30).box #[.int .u16 n, .bool f] 64
  simp only [World.size_alloc] at F0
  obtain ⟨c0, c1, c2, -⟩ := (F0.blk _ (List.mem_cons_of_mem _ List.mem_cons_self)).three
  obtain ⟨d0, d1, -⟩ := (F0.blk _ List.mem_cons_self).two
  have HH := Lib.hid (fun W => hasAll_any l k a xs.length c x W hl)
  have HA := Lib.hid (fun W => alone_any l k a xs.length c n f W hl)
  have HO := Lib.hid (fun W => onesCount16_any x W hx)
  have HL := Lib.hid (fun (W : World) (hb : Below w.heap.size w W) => allows_any l k a c xs (xorI n x) (!f) W (hs.up hb (Nat.le_refl _)) hn hw hl)
  have HF := Lib.hid (show offL l n f x = (!(bits .andNot .u16 x (allI l) == 0) || (bits .and .u16 x (aloI l n f) != 0)) from rfl)
  have HD := Lib.hid (And.intro (fun h => cdL_2 (k := k) (xs := xs) (l := l) (n := n) (f := f) (x := x) h) (And.intro (fun h h2 => cdL_3 (k := k) (xs := xs) (l := l) (n := n) (f := f) (x := x) h h2) (And.intro (fun h h2 h3 => cdL_4 (k := k) (xs := xs) (l := l) (n := n) (f := f) (x := x) h h2 h3) (fun h h2 h3 => cdL_0 (k := k) (xs := xs) (l := l) (n := n) (f := f) (x := x) h h2 h3))))
  have hz := sz_le x.toNat
  clear hs hw hl hx
  generalize (bits .andNot .u16 x (allI l) == 0) = q at *
  generalize aloI l n f = al at *
  generalize sz x.toNat = z at *
  generalize bkX l xs (xorI n x) (!f) = r at *
  cases q
  · have HR := Lib.hid (HD.out.1 (by rw [HF.out]; rfl))
    clear HD HF HA HO HL
    go_enter Try.func71, Try.ntmps71
    go_wp2_with fail
    refine (HH.out _).mono ?_
    rintro e w2 ⟨rfl, hb⟩
    have HB := Lib.hid (F0.next hb).below
    clear hb F0 c0 c1 c2 d0 d1
    go_wp2
    go_ret
    exact ⟨reti HR.out.symm, HB.out⟩
  by_cases h2 : bits .and .u16 x al = 0
  case neg =>
    have HR := Lib.hid (HD.out.1 (by rw [HF.out]; simpa using h2))
    clear HD HF HO HL
    go_enter Try.func71, Try.ntmps71
    go_wp2_with fail
    refine (HH.out _).mono ?_
    rintro e w2 ⟨rfl, hb⟩
    have F1 := F0.next hb
    clear hb F0 c0 c1 c2 d0 d1
    obtain ⟨c0, c1, c2, -⟩ := (F1.blk _ (List.mem_cons_of_mem _ List.mem_cons_self)).three
    obtain ⟨d0, d1, -⟩ := (F1.blk _ List.mem_cons_self).two
    go_wp2_with fail
    refine (HA.out _).mono ?_
    rintro e w3 ⟨rfl, hb⟩
    have HB := Lib.hid (F1.next hb).below
    clear hb F1 c0 c1 c2 d0 d1
    go_wp2
    go_ret
    exact ⟨reti HR.out.symm, HB.out⟩
  have HF2 := Lib.hid (show offL l n f x = false by rw [HF.out, h2]; rfl)
  clear HF
  by_cases h3 : k < (z : Int)
  case pos =>
    have HR := Lib.hid (HD.out.2.1 HF2.out h3)
    clear HD HF2 HL
    go_enter Try.func71, Try.ntmps71
    go_wp2_with fail
    refine (HH.out _).mono ?_
    rintro e w2 ⟨rfl, hb⟩
    have F1 := F0.next hb
    clear hb F0 c0 c1 c2 d0 d1
    obtain ⟨c0, c1, c2, -⟩ := (F1.blk _ (List.mem_cons_of_mem _ List.mem_cons_self)).three
    obtain ⟨d0, d1, -⟩ := (F1.blk _ List.mem_cons_self).two
    go_wp2_with fail
    refine (HA.out _).mono ?_
    rintro e w3 ⟨rfl, hb⟩
    have F2 := F1.next hb
    clear hb F1 c0 c1 c2 d0 d1
    obtain ⟨c0, c1, c2, -⟩ := (F2.blk _ (List.mem_cons_of_mem _ List.mem_cons_self)).three
    have HB := Lib.hid F2.below
    clear F2
    go_wp2
    go_quiet ((go_at_call 58; with_reducible exact Calls.quiet_dr (HO.out _)))
    go_wp2
    go_ret
    exact ⟨reti HR.out.symm, below_drewN HB.out _⟩
  cases r
  · have HR := Lib.hid (HD.out.2.2.1 HF2.out h3 rfl)
    clear HD HF2
    go_enter Try.func71, Try.ntmps71
    go_wp2_with fail
    refine (HH.out _).mono ?_
    rintro e w2 ⟨rfl, hb⟩
    have F1 := F0.next hb
    clear hb F0 c0 c1 c2 d0 d1
    obtain ⟨c0, c1, c2, -⟩ := (F1.blk _ (List.mem_cons_of_mem _ List.mem_cons_self)).three
    obtain ⟨d0, d1, -⟩ := (F1.blk _ List.mem_cons_self).two
    go_wp2_with fail
    refine (HA.out _).mono ?_
    rintro e w3 ⟨rfl, hb⟩
    have F2 := F1.next hb
    clear hb F1 c0 c1 c2 d0 d1
    obtain ⟨c0, c1, c2, -⟩ := (F2.blk _ (List.mem_cons_of_mem _ List.mem_cons_self)).three
    go_wp2
    go_quiet ((go_at_call 58; with_reducible exact Calls.quiet_dr (HO.out _)))
    have F4 := F2.drewN nq
    clear F2 c0 c1 c2
    generalize w3.drewN nq = w4 at *
    obtain ⟨c0, c1, c2, -⟩ := (F4.blk _ (List.mem_cons_of_mem _ List.mem_cons_self)).three
    obtain ⟨d0, d1, -⟩ := (F4.blk _ List.mem_cons_self).two
    go_wp2_with fail
    have F5 := F4.drew
    go_region_held3 (fun w' => w'.cell? ⟨w.heap.size, 0, none⟩ = some (.int .i8 l) ∧ w'.cell? ⟨w.heap.size, 1, none⟩ = some (.int .i8 k) ∧ w'.cell? ⟨w.heap.size, 2, none⟩ = some (.slice a xs.length c) ∧ w'.cell? ⟨w.heap.size + 1, 0, none⟩ = some (.int .u16 n) ∧ w'.cell? ⟨w.heap.size + 1, 1, none⟩ = some (.bool f))
      (first
        | exact ⟨(F7.blk _ (List.mem_cons_of_mem _ List.mem_cons_self)).cell 0, (F7.blk _ (List.mem_cons_of_mem _ List.mem_cons_self)).cell 1, (F7.blk _ (List.mem_cons_of_mem _ List.mem_cons_self)).cell 2, (F7.blk _ List.mem_cons_self).cell 0, (F7.blk _ List.mem_cons_self).cell 1⟩
        | exact ⟨(F6.blk _ (List.mem_cons_of_mem _ List.mem_cons_self)).cell 0, (F6.blk _ (List.mem_cons_of_mem _ List.mem_cons_self)).cell 1, (F6.blk _ (List.mem_cons_of_mem _ List.mem_cons_self)).cell 2, (F6.blk _ List.mem_cons_self).cell 0, (F6.blk _ List.mem_cons_self).cell 1⟩
        | exact ⟨(F5.blk _ (List.mem_cons_of_mem _ List.mem_cons_self)).cell 0, (F5.blk _ (List.mem_cons_of_mem _ List.mem_cons_self)).cell 1, (F5.blk _ (List.mem_cons_of_mem _ List.mem_cons_self)).cell 2, (F5.blk _ List.mem_cons_self).cell 0, (F5.blk _ List.mem_cons_self).cell 1⟩)
      (first
        | (go_at_call 72; with_reducible refine (Calls.fr F5 (behind_any n f x _)).mono ?_; rintro e w6 ⟨rfl, F6⟩)
        | (go_at_call 74; with_reducible refine (Calls.fr F6 (HL.out _ F6.below)).mono ?_; rintro e w7 ⟨rfl, F7⟩))
    clear F5 F6
    have HB := Lib.hid F7.below
    clear F7
    go_wp2
    go_ret
    exact ⟨reti HR.out.symm, HB.out⟩
  · have HR := Lib.hid (HD.out.2.2.2 HF2.out h3 rfl)
    clear HD HF2
    go_enter Try.func71, Try.ntmps71
    go_wp2_with fail
    refine (HH.out _).mono ?_
    rintro e w2 ⟨rfl, hb⟩
    have F1 := F0.next hb
    clear hb F0 c0 c1 c2 d0 d1
    obtain ⟨c0, c1, c2, -⟩ := (F1.blk _ (List.mem_cons_of_mem _ List.mem_cons_self)).three
    obtain ⟨d0, d1, -⟩ := (F1.blk _ List.mem_cons_self).two
    go_wp2_with fail
    refine (HA.out _).mono ?_
    rintro e w3 ⟨rfl, hb⟩
    have F2 := F1.next hb
    clear hb F1 c0 c1 c2 d0 d1
    obtain ⟨c0, c1, c2, -⟩ := (F2.blk _ (List.mem_cons_of_mem _ List.mem_cons_self)).three
    go_wp2
    go_quiet ((go_at_call 58; with_reducible exact Calls.quiet_dr (HO.out _)))
    have F4 := F2.drewN nq
    clear F2 c0 c1 c2
    generalize w3.drewN nq = w4 at *
    obtain ⟨c0, c1, c2, -⟩ := (F4.blk _ (List.mem_cons_of_mem _ List.mem_cons_self)).three
    obtain ⟨d0, d1, -⟩ := (F4.blk _ List.mem_cons_self).two
    go_wp2_with fail
    have F5 := F4.drew
    go_region_held3 (fun w' => w'.cell? ⟨w.heap.size, 0, none⟩ = some (.int .i8 l) ∧ w'.cell? ⟨w.heap.size, 1, none⟩ = some (.int .i8 k) ∧ w'.cell? ⟨w.heap.size, 2, none⟩ = some (.slice a xs.length c) ∧ w'.cell? ⟨w.heap.size + 1, 0, none⟩ = some (.int .u16 n) ∧ w'.cell? ⟨w.heap.size + 1, 1, none⟩ = some (.bool f))
      (first
        | exact ⟨(F7.blk _ (List.mem_cons_of_mem _ List.mem_cons_self)).cell 0, (F7.blk _ (List.mem_cons_of_mem _ List.mem_cons_self)).cell 1, (F7.blk _ (List.mem_cons_of_mem _ List.mem_cons_self)).cell 2, (F7.blk _ List.mem_cons_self).cell 0, (F7.blk _ List.mem_cons_self).cell 1⟩
        | exact ⟨(F6.blk _ (List.mem_cons_of_mem _ List.mem_cons_self)).cell 0, (F6.blk _ (List.mem_cons_of_mem _ List.mem_cons_self)).cell 1, (F6.blk _ (List.mem_cons_of_mem _ List.mem_cons_self)).cell 2, (F6.blk _ List.mem_cons_self).cell 0, (F6.blk _ List.mem_cons_self).cell 1⟩
        | exact ⟨(F5.blk _ (List.mem_cons_of_mem _ List.mem_cons_self)).cell 0, (F5.blk _ (List.mem_cons_of_mem _ List.mem_cons_self)).cell 1, (F5.blk _ (List.mem_cons_of_mem _ List.mem_cons_self)).cell 2, (F5.blk _ List.mem_cons_self).cell 0, (F5.blk _ List.mem_cons_self).cell 1⟩)
      (first
        | (go_at_call 72; with_reducible refine (Calls.fr F5 (behind_any n f x _)).mono ?_; rintro e w6 ⟨rfl, F6⟩)
        | (go_at_call 74; with_reducible refine (Calls.fr F6 (HL.out _ F6.below)).mono ?_; rintro e w7 ⟨rfl, F7⟩))
    clear F5 F6
    have HB := Lib.hid F7.below
    clear F7
    go_wp2
    go_ret
    exact ⟨reti HR.out.symm, HB.out⟩
theorem l05Here_any (fb : Nat) (l : Int) (v1 v2 : Value) (n : Int) (f : Bool) (w : World) (K : Blk w fb #[.int .i8 l, v1, v2] 30) (hl : 1 ≤ l ∧ l ≤ 8) :
    Calls Try.prog 65 #[.pointer (some ⟨fb, 0, none⟩), bankV n f] w fun e w' => e = .returned (.int .u16 (hereI l n f)) ∧ Below w.heap.size w w' := by
  have F0 := (FR.start w).box #[.int .u16 n, .bool f] 64
  obtain ⟨d0, d1, -⟩ := (F0.blk _ List.mem_cons_self).two
  have HA := Lib.hid (fun (W : World) (h : Blk W fb #[.int .i8 l, v1, v2] 30) => l05All_any fb l _ _ W h hl)
  have HK := Lib.hid (K.below F0.below K.lt)
  have HB := Lib.hid F0.below
  clear K hl F0
  cases f
  · go_enter Try.func65, Try.ntmps65
    go_wp2
    go_ret
    exact ⟨rfl, HB.out⟩
  · have HR := Lib.hid (show hereI l n true = bits .andNot .u16 (allI l) n from rfl)
    generalize allI l = al at *
    go_enter Try.func65, Try.ntmps65
    go_wp2
    go_quiet ((go_at_call 48; exact Calls.quiet_same (HA.out _ (blk_dr HK.out _))))
    go_wp2
    go_ret
    exact ⟨reti HR.out.symm, below_drewN HB.out _⟩
end Go.Proofs.Ytoeoilhbekhnbaa
