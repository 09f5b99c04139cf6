/-
  The walks of NextSet.
-/
import Derived.Test.YtclmjbkdghgjbaaZ29
import Derived.Test.YtclmjbkdghgjbaaZ26
namespace Go.Proofs.Ytclmjbkdghgjbaa
open Go.RowKit
set_option maxRecDepth 100000
set_option linter.unusedVariables false

noncomputable def nsV (l kk : Int) (qs : List Ak) : Int := if okG l kk qs = true then (sfG kk qs (halfX (stG kk qs l.toNat)) l.toNat).2 else 0
theorem ns_bad {l kk : Int} {qs : List Ak} (h : okG l kk qs = false) : nsV l kk qs = 0 ∧ soC l kk qs = 1 := by
  unfold nsV soC; rw [h]; exact ⟨rfl, rfl⟩
theorem ns_good {l kk : Int} {qs : List Ak} (h : okG l kk qs = true) : nsV l kk qs = (sfG kk qs (halfX (stG kk qs l.toNat)) l.toNat).2 ∧ soC l kk qs = 0 := by
  unfold nsV soC; rw [h]; exact ⟨rfl, rfl⟩
theorem half_bd {x : Nat → Int} (hx : ∀ j, j < 4 → 0 ≤ x j ∧ x j ≤ 60) : ∀ j, j < 4 → 0 ≤ halfX x j ∧ halfX x j ≤ 60 := fun j hj => by
  have h1 := hx j hj
  have h2 := hU_01 x j
  unfold halfX
  split <;> omega
set_option maxHeartbeats 2000000 in
theorem nextSetM_any (l : Nat) (kk : Int) (a : Option Addr) (c : Nat) (xs : List Ak) (w : World) (hs : Sla w.heap.size w a xs) (hn : xs.length ≤ 60) (hw : Aall xs) (hl : l ≤ 60) (hk : 0 ≤ kk ∧ kk ≤ 3) :
    Calls Try.prog 45 #[gamV l kk a xs.length c] w fun e w' => e = .returned (.int .u64 (sfG kk xs (halfX (stG kk xs l)) l).2) ∧ Below w.heap.size w w' := by
  have F0 := (FR.start w).box #[.int .i8 l, .int .i8 kk, .slice a xs.length c] 25
  have HS := Lib.hid hs
  have hbd : Sm (stG kk xs l) := fun j hj => by have := stG_bd kk xs l j; omega
  have HT := Lib.hid (fun W hs => stateM_any l kk a c xs W hs hn hw hl hk)
  have HH := Lib.hid (fun W => halfSt_any (stG kk xs l) W hbd)
  have HU := Lib.hid (fun W hs => setFor_any l kk a c xs (halfX (stG kk xs l)) W hs hn hw hl hk (half_bd hbd))
  generalize (sfG kk xs (halfX (stG kk xs l)) l).2 = r at *
  generalize halfX (stG kk xs l) = y at *
  have F1 := F0.drew
  clear hs hw hbd F0
  go_enter Try.func45, Try.ntmps45
  go_wp2_with fail
  go_region_held3 (fun w' => w'.cell? ⟨w.heap.size, 0, none⟩ = some (.int .i8 (l : Int)) ∧ w'.cell? ⟨w.heap.size, 1, none⟩ = some (.int .i8 kk) ∧ w'.cell? ⟨w.heap.size, 2, none⟩ = some (.slice a xs.length c))
    (first | with_reducible exact gam3 F4.p0 | with_reducible exact gam3 F3.p0 | with_reducible exact gam3 F2.p0 | with_reducible exact gam3 F1.p0)
    (first
      | (go_at_call 39; with_reducible refine (HT.out _ (HS.out.up F1.below (Nat.le_refl _))).mono ?_; rintro e w2 ⟨rfl, hb2⟩; have F2 := F1.next hb2)
      | (go_at_call 55; with_reducible refine (HH.out _).mono ?_; rintro e w3 ⟨rfl, hb3⟩; have F3 := F2.next hb3)
      | (go_at_call 43; with_reducible refine (HU.out _ (HS.out.up F3.below (Nat.le_refl _))).mono ?_; rintro e w4 ⟨rfl, hb4⟩; have F4 := F3.next hb4))
  have HB := Lib.hid F4.below
  clear F1 F2 F3 F4
  go_wp2
  go_ret
  exact ⟨rfl, HB.out⟩
set_option maxHeartbeats 2000000 in
theorem specNextSet_any (l kk : Int) (a : Option Addr) (c : Nat) (xs : List Ak) (w : World) (hs : Sla w.heap.size w a xs) (hl : B8 l) (hk : B8 kk) (hn : xs.length ≤ 1048576) (hw : Aall xs) :
    Calls Try.prog 23 #[gamV l kk a xs.length c] w fun e w' => e = .returned (.tuple #[.int .u64 (nsV l kk xs), .int .i64 (soC l kk xs)]) ∧ Below w.heap.size w w' := by
  have F0 := (FR.start w).box #[.int .i8 l, .int .i8 kk, .slice a xs.length c] 25
  have HV := Lib.hid (l06Ok_any w.heap.size l kk a c xs _ F0.p0 (hs.up F0.below (Nat.le_refl _)) hl hk hn hw)
  cases h : okG l kk xs
  · obtain ⟨e1, e2⟩ := ns_bad h
    rw [h] at HV
    rw [e1, e2]
    clear e1 e2 h hs
    generalize xs.length = n at *
    go_enter Try.func23, Try.ntmps23
    go_wp2_with fail
    refine HV.out.mono ?_
    rintro e w2 ⟨rfl, hb⟩
    have F1 := F0.next hb.below
    have HB := Lib.hid F1.below
    clear hb F0 F1
    go_wp2
    go_ret2
    exact ⟨rfl, HB.out⟩
  rw [h] at HV
  have hg := okG_t h
  obtain ⟨e1, e2⟩ := ns_good h
  rw [e1, e2]
  obtain ⟨ln, rfl⟩ := Int.eq_ofNat_of_zero_le (show 0 ≤ l by omega)
  rw [show ((ln : Int).toNat) = ln from rfl]
  have hl60 : ln ≤ 60 := by omega
  have hbd : Sm (stG kk xs ln) := fun j hj => by have := stG_bd kk xs ln j; omega
  have HT := Lib.hid (fun W (hK : Blk W w.heap.size #[.int .i8 (ln : Int), .int .i8 kk, .slice a xs.length c] 25) hs => l06State_any w.heap.size ln kk a c xs W hK hs hg.2.2.1 hw (by omega) hg.2.1)
  have HH := Lib.hid (fun W => l06Half_any (stG kk xs ln) W hbd)
  have HU := Lib.hid (fun W (hK : Blk W w.heap.size #[.int .i8 (ln : Int), .int .i8 kk, .slice a xs.length c] 25) hs => l06Set_any w.heap.size ln kk a c xs (halfX (stG kk xs ln)) W hK hs hg.2.2.1 hw (by omega) hg.2.1 (half_bd hbd))
  have HS := Lib.hid hs
  clear e1 e2 h hs hw hg hl hk hbd
  generalize (sfG kk xs (halfX (stG kk xs ln)) ln).2 = r at *
  generalize halfX (stG kk xs ln) = y at *
  generalize stG kk xs ln = z at *
  go_enter Try.func23, Try.ntmps23
  go_wp2_with fail
  refine HV.out.mono ?_
  rintro e w2 ⟨rfl, hb⟩
  have F1 := F0.next hb.below
  clear hb F0
  go_wp2_with fail
  refine (HT.out _ F1.p0 (HS.out.up F1.below (Nat.le_refl _))).mono ?_
  rintro e w3 ⟨rfl, hb3⟩
  have F2 := F1.next hb3
  clear F1 hb3
  go_wp2_with fail
  refine (HH.out _).mono ?_
  rintro e w4 ⟨rfl, hb4⟩
  have F3 := F2.next hb4
  clear F2 hb4
  go_wp2_with fail
  refine (HU.out _ F3.p0 (HS.out.up F3.below (Nat.le_refl _))).mono ?_
  rintro e w5 ⟨rfl, hb5⟩
  have HB := Lib.hid (F3.next hb5).below
  clear F3 hb5
  go_wp2
  go_ret2
  exact ⟨rfl, HB.out⟩
set_option maxHeartbeats 2000000 in
theorem nextSetI_any (l kk : Int) (a : Option Addr) (c : Nat) (xs : List Ak) (w : World) (hs : Sla w.heap.size w a xs) (hl : B8 l) (hk : B8 kk) (hn : xs.length ≤ 1048576) (hw : Aall xs) :
    Calls Try.prog 24 #[gamV l kk a xs.length c] w fun e w' => e = .returned (.tuple #[.int .u64 (nsV l kk xs), .int .i64 (soC l kk xs)]) ∧ Below w.heap.size w w' := by
  have F0 := (FR.start w).box #[.int .i8 l, .int .i8 kk, .slice a xs.length c] 25
  have HV := Lib.hid (validGame_any l kk a c xs _ (hs.up F0.below (Nat.le_refl _)) hl hk hn hw)
  obtain ⟨c0, c1, c2, -⟩ := F0.p0.three
  cases h : okG l kk xs
  · obtain ⟨e1, e2⟩ := ns_bad h
    rw [h] at HV
    rw [e1, e2]
    clear e1 e2 h hs
    generalize xs.length = n at *
    go_enter Try.func24, Try.ntmps24
    go_wp2_with fail
    refine HV.out.mono ?_
    rintro e w2 ⟨rfl, hb⟩
    have F1 := F0.next hb
    have HB := Lib.hid F1.below
    clear hb F0 F1 c0 c1 c2
    go_wp2
    go_ret2
    exact ⟨rfl, HB.out⟩
  rw [h] at HV
  have hg := okG_t h
  obtain ⟨e1, e2⟩ := ns_good h
  rw [e1, e2]
  obtain ⟨ln, rfl⟩ := Int.eq_ofNat_of_zero_le (show 0 ≤ l by omega)
  rw [show ((ln : Int).toNat) = ln from rfl]
  have hl60 : ln ≤ 60 := by omega
  have hbd : Sm (stG kk xs ln) := fun j hj => by have := stG_bd kk xs ln j; omega
  have HU := Lib.hid (fun W hs => nextSetM_any ln kk a c xs W hs hg.2.2.1 hw (by omega) hg.2.1)
  have HS := Lib.hid hs
  clear e1 e2 h hs hw hg hl hk hbd
  generalize (sfG kk xs (halfX (stG kk xs ln)) ln).2 = r at *
  go_enter Try.func24, Try.ntmps24
  go_wp2_with fail
  refine HV.out.mono ?_
  rintro e w2 ⟨rfl, hb⟩
  have F1 := F0.next hb
  clear hb F0 c0 c1 c2
  obtain ⟨c0, c1, c2, -⟩ := F1.p0.three
  go_wp2_with fail
  refine (HU.out _ (HS.out.up F1.below (Nat.le_refl _))).mono ?_
  rintro e w5 ⟨rfl, hb5⟩
  have HB := Lib.hid (F1.next hb5).below
  clear F1 hb5 c0 c1 c2
  go_wp2
  go_ret2
  exact ⟨rfl, HB.out⟩
end Go.Proofs.Ytclmjbkdghgjbaa
