/-
  The walks of SetFor.
-/
import Derived.Test.YtclmjbkdghgjbaaZ28
import Derived.Deep.RegionHeld3
namespace Go.Proofs.Ytclmjbkdghgjbaa
open Go.RowKit
set_option maxRecDepth 100000
set_option linter.unusedVariables false

noncomputable def suC (l kk : Int) (qs : List Ak) (y : Nat → Int) : Int := if okG l kk qs = true then (if insB (stG kk qs l.toNat) y = true then 0 else 2) else 1
noncomputable def suV (l kk : Int) (qs : List Ak) (y : Nat → Int) : Int := if suC l kk qs y = 0 then (sfG kk qs y l.toNat).2 else 0
theorem su_bad {l kk : Int} {qs : List Ak} {y : Nat → Int} (h : okG l kk qs = false) : suV l kk qs y = 0 ∧ suC l kk qs y = 1 := by
  have : suC l kk qs y = 1 := by unfold suC; rw [h]; rfl
  unfold suV; rw [this]; exact ⟨rfl, rfl⟩
theorem su_far {l kk : Int} {qs : List Ak} {y : Nat → Int} (h : okG l kk qs = true) (h2 : insB (stG kk qs l.toNat) y = false) : suV l kk qs y = 0 ∧ suC l kk qs y = 2 := by
  have : suC l kk qs y = 2 := by unfold suC; rw [h, h2]; rfl
  unfold suV; rw [this]; exact ⟨rfl, rfl⟩
theorem su_good {l kk : Int} {qs : List Ak} {y : Nat → Int} (h : okG l kk qs = true) (h2 : insB (stG kk qs l.toNat) y = true) : suV l kk qs y = (sfG kk qs y l.toNat).2 ∧ suC l kk qs y = 0 := by
  have : suC l kk qs y = 0 := by unfold suC; rw [h, h2]; rfl
  unfold suV; rw [this]; exact ⟨rfl, rfl⟩
theorem stG_bd (kk : Int) (qs : List Ak) (n j : Nat) : 0 ≤ stG kk qs n j ∧ stG kk qs n j ≤ n := by
  have h1 := stL_le qs (candL kk qs n) j
  have h2 := candL_len kk qs n
  unfold stG
  omega
theorem sta4 {W : World} {b : Nat} {y : Nat → Int} {t : TypeId} (k : Blk W b (staC y) t) : W.cell? ⟨b, 0, none⟩ = some (.int .i64 (y 0)) ∧ W.cell? ⟨b, 1, none⟩ = some (.int .i64 (y 1)) ∧ W.cell? ⟨b, 2, none⟩ = some (.int .i64 (y 2)) ∧ W.cell? ⟨b, 3, none⟩ = some (.int .i64 (y 3)) :=
  ⟨k.cell 0, k.cell 1, k.cell 2, k.cell 3⟩
theorem gamsta {W : World} {b g : Nat} {v0 v1 v2 : Value} {s : TypeId} {y : Nat → Int} {t : TypeId} (k0 : Blk W g #[v0, v1, v2] s) (k : Blk W b (staC y) t) : W.cell? ⟨g, 0, none⟩ = some v0 ∧ W.cell? ⟨g, 1, none⟩ = some v1 ∧ W.cell? ⟨g, 2, none⟩ = some v2 ∧ W.cell? ⟨b, 0, none⟩ = some (.int .i64 (y 0)) ∧ W.cell? ⟨b, 1, none⟩ = some (.int .i64 (y 1)) ∧ W.cell? ⟨b, 2, none⟩ = some (.int .i64 (y 2)) ∧ W.cell? ⟨b, 3, none⟩ = some (.int .i64 (y 3)) :=
  ⟨k0.cell 0, k0.cell 1, k0.cell 2, k.cell 0, k.cell 1, k.cell 2, k.cell 3⟩
theorem FR.p0 {w W : World} {b0 : Nat} {c0 : Array Value} {t0 : TypeId} {L : List (Nat × Array Value × TypeId)} (h : FR w ((b0, c0, t0) :: L) W) : Blk W b0 c0 t0 := h.blk (b0, c0, t0) (by simp)
theorem FR.p1 {w W : World} {b0 : Nat} {c0 : Array Value} {t0 : TypeId} {p : Nat × Array Value × TypeId} {L : List (Nat × Array Value × TypeId)} (h : FR w (p :: (b0, c0, t0) :: L) W) : Blk W b0 c0 t0 := h.blk (b0, c0, t0) (by simp)
set_option maxHeartbeats 4000000 in
theorem specSetFor_any (l kk : Int) (a : Option Addr) (c : Nat) (xs : List Ak) (y : Nat → Int) (w : World) (hs : Sla w.heap.size w a xs) (hl : B8 l) (hk : B8 kk) (hn : xs.length ≤ 1048576) (hw : Aall xs) (hy : S4 y) :
    Calls Try.prog 20 #[gamV l kk a xs.length c, staV y] w fun e w' => e = .returned (.tuple #[.int .u64 (suV l kk xs y), .int .i64 (suC l kk xs y)]) ∧ Below w.heap.size w w' := by
  have F0 := ((FR.start w).box #[.int .i8 l, .int .i8 kk, .slice a xs.length c] 25).box (staC y) 40
  simp only [World.size_alloc] at F0
  have HV := Lib.hid (l06Ok_any w.heap.size l kk a c xs _ F0.p1 (hs.up F0.below (Nat.le_refl _)) hl hk hn hw)
  cases h : okG l kk xs
  · obtain ⟨e1, e2⟩ := su_bad (y := y) h
    rw [h] at HV
    rw [e1, e2]
    clear e1 e2 h hs
    generalize xs.length = n at *
    go_enter Try.func20, Try.ntmps20
    go_wp2_with fail
    refine HV.out.mono ?_
    rintro e w2 ⟨rfl, hb⟩
    have F1 := F0.next hb.below
    have HB := Lib.hid F1.below
    clear hb F0 F1
    go_wp2
    go_ret2
    exact ⟨rfl, HB.out⟩
  rw [h] at HV
  have hg := okG_t h
  obtain ⟨ln, rfl⟩ := Int.eq_ofNat_of_zero_le (show 0 ≤ l by omega)
  have HT := Lib.hid (fun W (hK : Blk W w.heap.size #[.int .i8 (ln : Int), .int .i8 kk, .slice a xs.length c] 25) hs => l06State_any w.heap.size ln kk a c xs W hK hs hg.2.2.1 hw (by omega) hg.2.1)
  have HU := Lib.hid (fun W (hK : Blk W w.heap.size #[.int .i8 (ln : Int), .int .i8 kk, .slice a xs.length c] 25) hs hy => l06Set_any w.heap.size ln kk a c xs y W hK hs hg.2.2.1 hw (by omega) hg.2.1 hy)
  have HS := Lib.hid hs
  have HI := Lib.hid (fun W => l06Within_any (stG kk xs ln) y W)
  have HBD := Lib.hid (stG_bd kk xs ln)
  have hl60 : ln ≤ 60 := by omega
  cases hi : insB (stG kk xs ln) y
  · obtain ⟨e1, e2⟩ := su_far h (show insB (stG kk xs ((ln : Int).toNat)) y = false from hi)
    rw [hi] at HI
    rw [e1, e2]
    clear e1 e2 h hs hw hg hl hk hi hy
    generalize stG kk xs ln = z at *
    go_enter Try.func20, Try.ntmps20
    go_wp2_with fail
    refine HV.out.mono ?_
    rintro e w2 ⟨rfl, hb⟩
    have F1 := F0.next hb.below
    clear hb F0
    have F2 := F1.drew
    go_wp2_with fail
    go_region_held3 (fun w' => w'.cell? ⟨w.heap.size + 1, 0, none⟩ = some (.int .i64 (y 0)) ∧ w'.cell? ⟨w.heap.size + 1, 1, none⟩ = some (.int .i64 (y 1)) ∧ w'.cell? ⟨w.heap.size + 1, 2, none⟩ = some (.int .i64 (y 2)) ∧ w'.cell? ⟨w.heap.size + 1, 3, none⟩ = some (.int .i64 (y 3)))
      (first | with_reducible exact sta4 F4.p0 | with_reducible exact sta4 F3.p0 | with_reducible exact sta4 F2.p0)
      (first
        | (go_at_call 38; with_reducible refine (HT.out _ F2.p1 (HS.out.up F2.below (Nat.le_refl _))).mono ?_; rintro e w3 ⟨rfl, hb3⟩; have F3 := F2.next hb3)
        | (go_at_call 40; with_reducible refine (HI.out _).mono ?_; rintro e w4 ⟨rfl, hb4⟩; have F4 := F3.next hb4))
    have HB := Lib.hid F4.below
    clear F1 F2 F3 F4
    go_wp2
    go_ret2
    exact ⟨rfl, HB.out⟩
  · obtain ⟨e1, e2⟩ := su_good h (show insB (stG kk xs ((ln : Int).toNat)) y = true from hi)
    have HY := Lib.hid (show ∀ j, j < 4 → 0 ≤ y j ∧ y j ≤ 60 from fun j hj => by
      have h1 := (show InS (stG kk xs ln) y from of_cb hi) j hj
      have h2 := HBD.out j
      omega)
    rw [hi] at HI
    rw [e1, e2]
    rw [show ((ln : Int).toNat) = ln from rfl]
    clear e1 e2 h hs hw hg hl hk hi hy
    generalize stG kk xs ln = z at *
    generalize (sfG kk xs y ln).2 = r at *
    go_enter Try.func20, Try.ntmps20
    go_wp2_with fail
    refine HV.out.mono ?_
    rintro e w2 ⟨rfl, hb⟩
    have F1 := F0.next hb.below
    clear hb F0
    have F2 := F1.drew
    go_wp2_with fail
    go_region_held3 (fun w' => w'.cell? ⟨w.heap.size + 1, 0, none⟩ = some (.int .i64 (y 0)) ∧ w'.cell? ⟨w.heap.size + 1, 1, none⟩ = some (.int .i64 (y 1)) ∧ w'.cell? ⟨w.heap.size + 1, 2, none⟩ = some (.int .i64 (y 2)) ∧ w'.cell? ⟨w.heap.size + 1, 3, none⟩ = some (.int .i64 (y 3)))
      (first | with_reducible exact sta4 F4.p0 | with_reducible exact sta4 F3.p0 | with_reducible exact sta4 F2.p0)
      (first
        | (go_at_call 38; with_reducible refine (HT.out _ F2.p1 (HS.out.up F2.below (Nat.le_refl _))).mono ?_; rintro e w3 ⟨rfl, hb3⟩; have F3 := F2.next hb3)
        | (go_at_call 40; with_reducible refine (HI.out _).mono ?_; rintro e w4 ⟨rfl, hb4⟩; have F4 := F3.next hb4))
    clear F1 F2 F3
    obtain ⟨d0, d1, d2, d3, -⟩ := F4.p0.four
    go_wp2_with fail
    refine (HU.out _ F4.p1 (HS.out.up F4.below (Nat.le_refl _)) HY.out).mono ?_
    rintro e w5 ⟨rfl, hb5⟩
    have HB := Lib.hid (F4.next hb5).below
    clear F4 hb5 d0 d1 d2 d3
    go_wp2
    go_ret2
    exact ⟨rfl, HB.out⟩
set_option maxHeartbeats 4000000 in
theorem setForI_any (l kk : Int) (a : Option Addr) (c : Nat) (xs : List Ak) (y : Nat → Int) (w : World) (hs : Sla w.heap.size w a xs) (hl : B8 l) (hk : B8 kk) (hn : xs.length ≤ 1048576) (hw : Aall xs) (hy : S4 y) :
    Calls Try.prog 22 #[gamV l kk a xs.length c, staV y] w fun e w' => e = .returned (.tuple #[.int .u64 (suV l kk xs y), .int .i64 (suC l kk xs y)]) ∧ Below w.heap.size w w' := by
  have F0 := ((FR.start w).box #[.int .i8 l, .int .i8 kk, .slice a xs.length c] 25).box (staC y) 40
  simp only [World.size_alloc] at F0
  have HV := Lib.hid (validGame_any l kk a c xs _ (hs.up F0.below (Nat.le_refl _)) hl hk hn hw)
  obtain ⟨c0, c1, c2, -⟩ := (F0).p1.three
  cases h : okG l kk xs
  · obtain ⟨e1, e2⟩ := su_bad (y := y) h
    rw [h] at HV
    rw [e1, e2]
    clear e1 e2 h hs
    generalize xs.length = n at *
    go_enter Try.func22, Try.ntmps22
    go_wp2_with fail
    refine HV.out.mono ?_
    rintro e w2 ⟨rfl, hb⟩
    have F1 := F0.next hb
    have HB := Lib.hid F1.below
    clear hb F0 F1 c0 c1 c2
    go_wp2
    go_ret2
    exact ⟨rfl, HB.out⟩
  rw [h] at HV
  have hg := okG_t h
  obtain ⟨ln, rfl⟩ := Int.eq_ofNat_of_zero_le (show 0 ≤ l by omega)
  have HT := Lib.hid (fun W hs => stateM_any ln kk a c xs W hs hg.2.2.1 hw (by omega) hg.2.1)
  have HU := Lib.hid (fun W hs hy => setFor_any ln kk a c xs y W hs hg.2.2.1 hw (by omega) hg.2.1 hy)
  have HS := Lib.hid hs
  have HI := Lib.hid (fun W => hasAsk_any (stG kk xs ln) y W)
  have HBD := Lib.hid (stG_bd kk xs ln)
  have hl60 : ln ≤ 60 := by omega
  cases hi : insB (stG kk xs ln) y
  · obtain ⟨e1, e2⟩ := su_far h (show insB (stG kk xs ((ln : Int).toNat)) y = false from hi)
    rw [hi] at HI
    rw [e1, e2]
    clear e1 e2 h hs hw hg hl hk hi hy
    generalize stG kk xs ln = z at *
    go_enter Try.func22, Try.ntmps22
    go_wp2_with fail
    refine HV.out.mono ?_
    rintro e w2 ⟨rfl, hb⟩
    have F1 := F0.next hb
    clear hb F0 c0 c1 c2
    have F2 := F1.drew
    go_wp2_with fail
    go_region_held3 (fun w' => w'.cell? ⟨w.heap.size, 0, none⟩ = some (.int .i8 (ln : Int)) ∧ w'.cell? ⟨w.heap.size, 1, none⟩ = some (.int .i8 kk) ∧ w'.cell? ⟨w.heap.size, 2, none⟩ = some (.slice a xs.length c) ∧ w'.cell? ⟨w.heap.size + 1, 0, none⟩ = some (.int .i64 (y 0)) ∧ w'.cell? ⟨w.heap.size + 1, 1, none⟩ = some (.int .i64 (y 1)) ∧ w'.cell? ⟨w.heap.size + 1, 2, none⟩ = some (.int .i64 (y 2)) ∧ w'.cell? ⟨w.heap.size + 1, 3, none⟩ = some (.int .i64 (y 3)))
      (first | with_reducible exact gamsta F4.p1 F4.p0 | with_reducible exact gamsta F3.p1 F3.p0 | with_reducible exact gamsta F2.p1 F2.p0)
      (first
        | (go_at_call 39; with_reducible refine (HT.out _ (HS.out.up F2.below (Nat.le_refl _))).mono ?_; rintro e w3 ⟨rfl, hb3⟩; have F3 := F2.next hb3)
        | (go_at_call 42; with_reducible refine (HI.out _).mono ?_; rintro e w4 ⟨rfl, hb4⟩; have F4 := F3.next hb4))
    have HB := Lib.hid F4.below
    clear F1 F2 F3 F4
    go_wp2
    go_ret2
    exact ⟨rfl, HB.out⟩
  · obtain ⟨e1, e2⟩ := su_good h (show insB (stG kk xs ((ln : Int).toNat)) y = true from hi)
    have HY := Lib.hid (show ∀ j, j < 4 → 0 ≤ y j ∧ y j ≤ 60 from fun j hj => by
      have h1 := (show InS (stG kk xs ln) y from of_cb hi) j hj
      have h2 := HBD.out j
      omega)
    rw [hi] at HI
    rw [e1, e2]
    rw [show ((ln : Int).toNat) = ln from rfl]
    clear e1 e2 h hs hw hg hl hk hi hy
    generalize stG kk xs ln = z at *
    generalize (sfG kk xs y ln).2 = r at *
    go_enter Try.func22, Try.ntmps22
    go_wp2_with fail
    refine HV.out.mono ?_
    rintro e w2 ⟨rfl, hb⟩
    have F1 := F0.next hb
    clear hb F0 c0 c1 c2
    have F2 := F1.drew
    go_wp2_with fail
    go_region_held3 (fun w' => w'.cell? ⟨w.heap.size, 0, none⟩ = some (.int .i8 (ln : Int)) ∧ w'.cell? ⟨w.heap.size, 1, none⟩ = some (.int .i8 kk) ∧ w'.cell? ⟨w.heap.size, 2, none⟩ = some (.slice a xs.length c) ∧ w'.cell? ⟨w.heap.size + 1, 0, none⟩ = some (.int .i64 (y 0)) ∧ w'.cell? ⟨w.heap.size + 1, 1, none⟩ = some (.int .i64 (y 1)) ∧ w'.cell? ⟨w.heap.size + 1, 2, none⟩ = some (.int .i64 (y 2)) ∧ w'.cell? ⟨w.heap.size + 1, 3, none⟩ = some (.int .i64 (y 3)))
      (first | with_reducible exact gamsta F4.p1 F4.p0 | with_reducible exact gamsta F3.p1 F3.p0 | with_reducible exact gamsta F2.p1 F2.p0)
      (first
        | (go_at_call 39; with_reducible refine (HT.out _ (HS.out.up F2.below (Nat.le_refl _))).mono ?_; rintro e w3 ⟨rfl, hb3⟩; have F3 := F2.next hb3)
        | (go_at_call 42; with_reducible refine (HI.out _).mono ?_; rintro e w4 ⟨rfl, hb4⟩; have F4 := F3.next hb4))
    clear F1 F2 F3
    obtain ⟨d0, d1, d2, d3, -⟩ := F4.p0.four
    obtain ⟨c0, c1, c2, -⟩ := F4.p1.three
    go_wp2_with fail
    refine (HU.out _ (HS.out.up F4.below (Nat.le_refl _)) HY.out).mono ?_
    rintro e w5 ⟨rfl, hb5⟩
    have HB := Lib.hid (F4.next hb5).below
    clear F4 hb5 d0 d1 d2 d3 c0 c1 c2
    go_wp2
    go_ret2
    exact ⟨rfl, HB.out⟩
end Go.Proofs.Ytclmjbkdghgjbaa
