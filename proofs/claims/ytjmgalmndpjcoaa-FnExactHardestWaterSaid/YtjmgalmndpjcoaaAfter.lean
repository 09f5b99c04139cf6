/-
  The walks of what moves do to water.
-/
import Derived.Test.YtjmgalmndpjcoaaMvMath
import Derived.BigRegion
import Derived.BigQuiet
import Derived.Deep.DeepCutAuto
namespace Go.Proofs.Ytjmgalmndpjcoaa
open Go.RowKit
set_option maxRecDepth 100000

theorem Blk.one {w : World} {b : Nat} {a0 : Value} {t : TypeId} (h : Blk w b #[a0] t) : w.cell? ⟨b, 0, none⟩ = some a0 ∧ ∀ i, w.frozen? ⟨b, i, none⟩ = false := ⟨h.cell 0, h.free⟩
theorem Blk.two {w : World} {b : Nat} {a0 a1 : Value} {t : TypeId} (h : Blk w b #[a0, a1] t) : w.cell? ⟨b, 0, none⟩ = some a0 ∧ w.cell? ⟨b, 1, none⟩ = some a1 ∧ ∀ i, w.frozen? ⟨b, i, none⟩ = false := ⟨h.cell 0, h.cell 1, h.free⟩
theorem Blk.rows {w : World} {b : Nat} {x : Nat → Int} {t : TypeId} (h : Blk w b #[.int .i16 (x 0), .int .i16 (x 1), .int .i16 (x 2), .int .i16 (x 3)] t) : w.rowIs b t 4 (fun i => .int .i16 (x i)) :=
  ⟨_, h, rfl, fun i hi => by
    match i, hi with
    | 0, _ => rfl
    | 1, _ => rfl
    | 2, _ => rfl
    | 3, _ => rfl⟩
theorem row_four {w : World} {b : Nat} {x : Nat → Int} {t : TypeId} (h : w.rowIs b t 4 (fun i => .int .i16 (x i))) :
    w.cell? ⟨b, 0, none⟩ = some (.int .i16 (x 0)) ∧ w.cell? ⟨b, 1, none⟩ = some (.int .i16 (x 1)) ∧ w.cell? ⟨b, 2, none⟩ = some (.int .i16 (x 2)) ∧ w.cell? ⟨b, 3, none⟩ = some (.int .i16 (x 3)) :=
  ⟨h.cell (by omega), h.cell (by omega), h.cell (by omega), h.cell (by omega)⟩
theorem emptyAfter_any (b off c : Nat) (J : List Int) (x : Nat → Int) (f : Nat) (w : World) (hf : f < 4) :
    Calls Try.prog 94 #[.agg #[.int .i8 f], .slice (some ⟨b, off, none⟩) J.length c, watV x] w fun e w' => e = .returned (watV (emptyX x f)) ∧ Below w.heap.size w w' := by
  have k0 := ((blk_new w #[.int .i8 f] 126).alloc (.cells #[.int .i16 (x 0), .int .i16 (x 1), .int .i16 (x 2), .int .i16 (x 3)] 30)).alloc (.cells #[.int .i16 0, .int .i16 0, .int .i16 0, .int .i16 0] 30)
  have k1 := (blk_new (w.alloc (.cells #[.int .i8 f] 126)) #[.int .i16 (x 0), .int .i16 (x 1), .int .i16 (x 2), .int .i16 (x 3)] 30).alloc (.cells #[.int .i16 0, .int .i16 0, .int .i16 0, .int .i16 0] 30)
  have k2 := blk_new ((w.alloc (.cells #[.int .i8 f] 126)).alloc (.cells #[.int .i16 (x 0), .int .i16 (x 1), .int .i16 (x 2), .int .i16 (x 3)] 30)) #[.int .i16 0, .int .i16 0, .int .i16 0, .int .i16 0] 30
  have hB := (((Below.refl w.heap.size w).alloc (Nat.le_refl _) (.cells #[.int .i8 f] 126)).alloc (by simp) (.cells #[.int .i16 (x 0), .int .i16 (x 1), .int .i16 (x 2), .int .i16 (x 3)] 30)).alloc (by simp <;> omega) (.cells #[.int .i16 0, .int .i16 0, .int .i16 0, .int .i16 0] 30)
  have hsz : w.heap.size + 3 = (((w.alloc (.cells #[.int .i8 f] 126)).alloc (.cells #[.int .i16 (x 0), .int .i16 (x 1), .int .i16 (x 2), .int .i16 (x 3)] 30)).alloc (.cells #[.int .i16 0, .int .i16 0, .int .i16 0, .int .i16 0] 30)).heap.size := by simp
  simp only [World.size_alloc] at k1 k2
  go_enter Try.func94, Try.ntmps94
  go_upto_region 1 with (fail)
  generalize hg : (((w.alloc (.cells #[.int .i8 f] 126)).alloc (.cells #[.int .i16 (x 0), .int .i16 (x 1), .int .i16 (x 2), .int .i16 (x 3)] 30)).alloc (.cells #[.int .i16 0, .int .i16 0, .int .i16 0, .int .i16 0] 30)) = wb at *
  clear hg
  have HB := Lib.hid hB
  clear hB
  obtain ⟨c0, _⟩ := k0.one
  have hr := k1.rows
  have hw : wb.cell? ⟨w.heap.size + 1, f, none⟩ = some (.int .i16 (x f)) := hr.cell hf
  have hfr : wb.frozen? ⟨w.heap.size + 1, f, none⟩ = false := hr.frozen f
  obtain ⟨z0, z1, z2, z3, z4⟩ := k2.four
  have hr2 := (hr.set f (.int .i16 0)).congr (g := fun i => .int .i16 (emptyX x f i)) (fun i _ => by unfold emptyX; by_cases e : i = f <;> simp [e])
  obtain ⟨e0, e1, e2, e3⟩ := row_four hr2
  have HB2 := Lib.hid (HB.out.setCell (show w.heap.size ≤ (⟨w.heap.size + 1, f, none⟩ : Addr).block by show _ ≤ w.heap.size + 1; omega) (.int .i16 0))
  have hf4 : (f : Int) < 4 := by omega
  clear k0 k1 k2 hr hr2 HB
  generalize hE : emptyX x f = E at *
  have HE := Lib.hid hE
  clear hE
  go_wp2
  refine bodyPost_ret (v := watV E) (by simp [results, Try.results94, go_sem, z0, z1, z2, z3]) rfl ⟨by rw [HE.out], ?_⟩
  have hle : w.heap.size ≤ w.heap.size + 1 + 1 := by omega
  exact (((HB2.out.setCell hle _).setCell hle _).setCell hle _).setCell hle _
theorem fillAfter_any (b off c : Nat) (J : List Int) (x : Nat → Int) (f : Nat) (w : World) (hf : f < J.length) (hl : J.length ≤ 4) (hb : b < w.heap.size) (hc : At .i16 w b off J) :
    Calls Try.prog 93 #[.agg #[.int .i8 f], .slice (some ⟨b, off, none⟩) J.length c, watV x] w fun e w' => e = .returned (watV (fillX J x f)) ∧ Below w.heap.size w w' := by
  have k0 := ((blk_new w #[.int .i8 f] 125).alloc (.cells #[.int .i16 (x 0), .int .i16 (x 1), .int .i16 (x 2), .int .i16 (x 3)] 30)).alloc (.cells #[.int .i16 0, .int .i16 0, .int .i16 0, .int .i16 0] 30)
  have k1 := (blk_new (w.alloc (.cells #[.int .i8 f] 125)) #[.int .i16 (x 0), .int .i16 (x 1), .int .i16 (x 2), .int .i16 (x 3)] 30).alloc (.cells #[.int .i16 0, .int .i16 0, .int .i16 0, .int .i16 0] 30)
  have k2 := blk_new ((w.alloc (.cells #[.int .i8 f] 125)).alloc (.cells #[.int .i16 (x 0), .int .i16 (x 1), .int .i16 (x 2), .int .i16 (x 3)] 30)) #[.int .i16 0, .int .i16 0, .int .i16 0, .int .i16 0] 30
  have hB := (((Below.refl w.heap.size w).alloc (Nat.le_refl _) (.cells #[.int .i8 f] 125)).alloc (by simp) (.cells #[.int .i16 (x 0), .int .i16 (x 1), .int .i16 (x 2), .int .i16 (x 3)] 30)).alloc (by simp <;> omega) (.cells #[.int .i16 0, .int .i16 0, .int .i16 0, .int .i16 0] 30)
  have hsz : w.heap.size + 3 = (((w.alloc (.cells #[.int .i8 f] 125)).alloc (.cells #[.int .i16 (x 0), .int .i16 (x 1), .int .i16 (x 2), .int .i16 (x 3)] 30)).alloc (.cells #[.int .i16 0, .int .i16 0, .int .i16 0, .int .i16 0] 30)).heap.size := by simp
  simp only [World.size_alloc] at k1 k2
  have hcell := (hc.below hB hb) f hf
  clear hc
  go_enter Try.func93, Try.ntmps93
  go_upto_region 1 with (fail)
  generalize hg : (((w.alloc (.cells #[.int .i8 f] 125)).alloc (.cells #[.int .i16 (x 0), .int .i16 (x 1), .int .i16 (x 2), .int .i16 (x 3)] 30)).alloc (.cells #[.int .i16 0, .int .i16 0, .int .i16 0, .int .i16 0] 30)) = wb at *
  clear hg
  have HB := Lib.hid hB
  clear hB
  obtain ⟨c0, _⟩ := k0.one
  have hr := k1.rows
  have hf4 : f < 4 := by omega
  have hw : wb.cell? ⟨w.heap.size + 1, f, none⟩ = some (.int .i16 (x f)) := hr.cell hf4
  have hfr : wb.frozen? ⟨w.heap.size + 1, f, none⟩ = false := hr.frozen f
  obtain ⟨z0, z1, z2, z3, z4⟩ := k2.four
  have hr2 := (hr.set f (.int .i16 (J.getD f 0))).congr (g := fun i => .int .i16 (fillX J x f i)) (fun i _ => by unfold fillX; by_cases e : i = f <;> simp [e])
  obtain ⟨e0, e1, e2, e3⟩ := row_four hr2
  have HB2 := Lib.hid (HB.out.setCell (show w.heap.size ≤ (⟨w.heap.size + 1, f, none⟩ : Addr).block by show _ ≤ w.heap.size + 1; omega) (.int .i16 (J.getD f 0)))
  have hf4' : (f : Int) < 4 := by omega
  have hfl : (f : Int) < (J.length : Int) := by omega
  clear k0 k1 k2 hr hr2 HB
  generalize hE : fillX J x f = E at *
  have HE := Lib.hid hE
  clear hE
  generalize J.getD f 0 = v at *
  go_region
  go_wp2
  refine bodyPost_ret (v := watV E) (by simp [results, Try.results93, go_sem, z0, z1, z2, z3]) rfl ⟨by rw [HE.out], ?_⟩
  have hle : w.heap.size ≤ w.heap.size + 1 + 1 := by omega
  exact ((((HB2.out.setCell hle _).setCell hle _).setCell hle _).setCell hle _).drew
theorem pourAfter_any (b off c : Nat) (J : List Int) (x : Nat → Int) (f g : Nat) (w : World) (hf : f < J.length) (hgl : g < J.length) (hl : J.length ≤ 4) (hE : Each J J.length) (hx : OkX J x) (hb : b < w.heap.size) (hc : At .i16 w b off J) :
    Calls Try.prog 92 #[.agg #[.int .i8 f, .int .i8 g], .slice (some ⟨b, off, none⟩) J.length c, watV x] w fun e w' => e = .returned (watV (pourX J x f g)) ∧ Below w.heap.size w w' := by
  have k0 := ((blk_new w #[.int .i8 f, .int .i8 g] 123).alloc (.cells #[.int .i16 (x 0), .int .i16 (x 1), .int .i16 (x 2), .int .i16 (x 3)] 30)).alloc (.cells #[.int .i16 0, .int .i16 0, .int .i16 0, .int .i16 0] 30)
  have k1 := (blk_new (w.alloc (.cells #[.int .i8 f, .int .i8 g] 123)) #[.int .i16 (x 0), .int .i16 (x 1), .int .i16 (x 2), .int .i16 (x 3)] 30).alloc (.cells #[.int .i16 0, .int .i16 0, .int .i16 0, .int .i16 0] 30)
  have k2 := blk_new ((w.alloc (.cells #[.int .i8 f, .int .i8 g] 123)).alloc (.cells #[.int .i16 (x 0), .int .i16 (x 1), .int .i16 (x 2), .int .i16 (x 3)] 30)) #[.int .i16 0, .int .i16 0, .int .i16 0, .int .i16 0] 30
  have hB := (((Below.refl w.heap.size w).alloc (Nat.le_refl _) (.cells #[.int .i8 f, .int .i8 g] 123)).alloc (by simp) (.cells #[.int .i16 (x 0), .int .i16 (x 1), .int .i16 (x 2), .int .i16 (x 3)] 30)).alloc (by simp <;> omega) (.cells #[.int .i16 0, .int .i16 0, .int .i16 0, .int .i16 0] 30)
  have hsz : w.heap.size + 3 = (((w.alloc (.cells #[.int .i8 f, .int .i8 g] 123)).alloc (.cells #[.int .i16 (x 0), .int .i16 (x 1), .int .i16 (x 2), .int .i16 (x 3)] 30)).alloc (.cells #[.int .i16 0, .int .i16 0, .int .i16 0, .int .i16 0] 30)).heap.size := by simp
  simp only [World.size_alloc] at k1 k2
  have hcell := (hc.below hB hb) g hgl
  have hx60 := hx.w16 hE
  have hxf := hx60 f (by omega)
  have hxg := hx60 g (by omega)
  have hxg2 := hx g (by omega)
  have hJg := hE g hgl
  have ha := amt_bd (J := J) (x := x) (f := f) (t := g) hxf hxg2
  have HA := Lib.hid (show (if J.getD g 0 - x g < x f then J.getD g 0 - x g else x f) = amt J x f g from rfl)
  have HP := Lib.hid (show ∀ i, pourX J x f g i = x i - (if i = f then amt J x f g else 0) + (if i = g then amt J x f g else 0) from fun i => rfl)
  clear hc hx60 hE hx
  go_enter Try.func92, Try.ntmps92
  go_upto_region 1 with (fail)
  generalize hg : (((w.alloc (.cells #[.int .i8 f, .int .i8 g] 123)).alloc (.cells #[.int .i16 (x 0), .int .i16 (x 1), .int .i16 (x 2), .int .i16 (x 3)] 30)).alloc (.cells #[.int .i16 0, .int .i16 0, .int .i16 0, .int .i16 0] 30)) = wb at *
  clear hg
  have HB := Lib.hid hB
  clear hB
  obtain ⟨c0, c1, _⟩ := k0.two
  have hr := k1.rows
  have hf4 : f < 4 := by omega
  have hg4 : g < 4 := by omega
  have hwf : wb.cell? ⟨w.heap.size + 1, f, none⟩ = some (.int .i16 (x f)) := hr.cell hf4
  have hwg : wb.cell? ⟨w.heap.size + 1, g, none⟩ = some (.int .i16 (x g)) := hr.cell hg4
  have hfr : ∀ i, wb.frozen? ⟨w.heap.size + 1, i, none⟩ = false := fun i => hr.frozen i
  obtain ⟨z0, z1, z2, z3, z4⟩ := k2.four
  generalize amt J x f g = a at *
  have hr1 := hr.set f (.int .i16 (x f - a))
  have hf4' : (f : Int) < 4 := by omega
  have hg4' : (g : Int) < 4 := by omega
  have hfl' : (f : Int) < (J.length : Int) := by omega
  have hgl' : (g : Int) < (J.length : Int) := by omega
  generalize J.getD g 0 = v at *
  generalize hxF : x f = xf at *
  generalize hxG : x g = xg at *
  have HXF := Lib.hid hxF
  have HXG := Lib.hid hxG
  clear hxF hxG
  go_quiet (fail)
  rw [HA.out]
  have HB1 := Lib.hid (below_drewN HB.out nq)
  have hcf : (wb.drewN nq).cell? ⟨w.heap.size, 0, none⟩ = some (.int .i8 f) := c0
  have hcg : (wb.drewN nq).cell? ⟨w.heap.size, 1, none⟩ = some (.int .i8 g) := c1
  have hwf1 : (wb.drewN nq).cell? ⟨w.heap.size + 1, f, none⟩ = some (.int .i16 xf) := hwf
  have hfr1 : ∀ i, (wb.drewN nq).frozen? ⟨w.heap.size + 1, i, none⟩ = false := hfr
  have hr0 : (wb.drewN nq).rowIs (w.heap.size + 1) 30 4 (fun i => .int .i16 (x i)) := hr
  have y0 : Blk (wb.drewN nq) (w.heap.size + 1 + 1) #[.int .i16 0, .int .i16 0, .int .i16 0, .int .i16 0] 30 := k2
  clear c0 c1 hwf hwg hfr hr hr1 k0 k1 k2 z0 z1 z2 z3 z4 HB HA hcell
  generalize wb.drewN nq = wd at *
  have hr1 := (hr0.set f (.int .i16 (xf - a))).congr (g := fun i => .int .i16 (x i - (if i = f then a else 0))) (fun i _ => by
    by_cases e : i = f
    · subst e; simp [HXF.out]
    · simp [e])
  have hwg1 := hr1.cell hg4
  have hfr2 := hr1.frozen g
  have hr2 := (hr1.set g (.int .i16 (xg - (if g = f then a else 0) + a))).congr (g := fun i => .int .i16 (pourX J x f g i)) (fun i _ => by
    rw [HP.out i]
    by_cases e : i = g
    · subst e; simp [HXG.out]
    · simp [e])
  obtain ⟨e0, e1, e2, e3⟩ := row_four hr2
  rw [HXG.out] at hwg1
  have hd : 0 ≤ (if g = f then a else 0) ∧ (if g = f then a else 0) ≤ a ∧ (if g = f then a else 0) ≤ xg := by
    by_cases e : g = f
    · subst e
      have h1 := HXF.out
      have h2 := HXG.out
      rw [if_pos rfl]
      omega
    · rw [if_neg e]; omega
  generalize (if g = f then a else 0) = d at *
  have HB2 := Lib.hid ((HB1.out.setCell (show w.heap.size ≤ (⟨w.heap.size + 1, f, none⟩ : Addr).block by show _ ≤ w.heap.size + 1; omega) (.int .i16 (xf - a))).setCell (show w.heap.size ≤ (⟨w.heap.size + 1, g, none⟩ : Addr).block by show _ ≤ w.heap.size + 1; omega) (.int .i16 (xg - d + a)))
  have HR := Lib.hid hr2
  obtain ⟨z0, z1, z2, z3, z4⟩ := y0.four
  clear hr0 hr1 hr2 HB1 y0 HP HXF HXG
  generalize hE : pourX J x f g = E at *
  have HE := Lib.hid hE
  clear hE
  go_wp2
  refine bodyPost_ret (v := watV E) (by simp [results, Try.results92, go_sem, z0, z1, z2, z3]) rfl ⟨by rw [HE.out], ?_⟩
  have hle : w.heap.size ≤ w.heap.size + 1 + 1 := by omega
  exact ((((HB2.out.setCell hle _).setCell hle _).setCell hle _).setCell hle _)
end Go.Proofs.Ytjmgalmndpjcoaa
