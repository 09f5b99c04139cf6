/-
  A fixed plan that is drawn.
-/
import Derived.Test.YtieghjpecoiodaaNR1
import Derived.Deep.RegionLaw
namespace Go.Proofs.Ytieghjpecoiodaa
open Go.RowKit
set_option maxRecDepth 100000
set_option linter.unusedVariables false

theorem wI_mem {ws : List Wf} {j : Nat} (hj : j < ws.length) : wI ws j ∈ ws := by
  unfold wI
  rw [List.getD_eq_getElem?_getD, List.getElem?_eq_getElem hj]
  exact List.getElem_mem hj
theorem mf_okX {l k c : Int} (h : mfC l k c = 0) : OkX (mfL l k c) (mfK l k c) (mfW l k c) ∧ ((mfW l k c).length : Int) = c := by
  have hm : MfO l k c := by
    by_cases hm : cb (MfO l k c) = true
    · exact of_cb hm
    · unfold mfC at h; rw [if_neg hm] at h; cases h
  have h3 : c % 3 = 0 := by
    by_cases h3 : c % 3 = 0
    · exact h3
    · unfold mfC at h; rw [if_pos (cb_t hm), if_neg h3] at h; cases h
  have hf : ¬ 3 * ((stI l.toNat k.toNat (p3N (l.toNat - 1))).length : Int) < c := fun hf => by
    unfold mfC at h; rw [if_pos (cb_t hm), if_pos h3, if_pos hf] at h; cases h
  have hl := hm.1
  have hk := hm.2.1
  have hc := hm.2.2
  have eL : mfL l k c = l := by unfold mfL; rw [if_pos h]
  have eK : mfK l k c = k := by unfold mfK; rw [if_pos h]
  have eW : mfW l k c = gws l.toNat (mfI l k c) := by unfold mfW; rw [if_pos h]
  have hlen : ((mfW l k c).length : Int) = c := by
    rw [eW, gws_len]; unfold mfI; rw [List.length_take]; omega
  refine ⟨?_, hlen⟩
  rw [eL, eK]
  refine ⟨hl, hk, by omega, fun j hj => ?_⟩
  have := gws_fit (l := l.toNat) (I := mfI l k c) (by omega) (fun n hn => by
    have h1 := stI_lt (List.mem_of_mem_take hn)
    have h2 := (p3N_le (l.toNat - 1)).2
    omega) (wI (mfW l k c) j) (eW ▸ wI_mem hj)
  rwa [show ((l.toNat : Nat) : Int) = l by omega] at this
/-- A fixed plan under way, beside the source. -/
structure DrT (w : World) (b c : Nat) (a : Option Addr) (xs : List Int) (l k : Int) (fb : Nat) (ad : Option Addr) (cp K : Nat) (ws : List Wf) (wr : World) : Prop where
  src : Src wr b a c xs K
  R : Blk wr w.heap.size #[.int .i8 0, .int .i8 0, .slice none 0 0] 27
  F : Blk wr fb #[.int .i8 l, .int .i8 k, .slice ad ws.length cp] 27
  own : wr.ownsRow (w.heap.size + 1) 40 4 (.slice ad ws.length cp) ws.length (wls ws)
  neF : (Value.slice ad ws.length cp).ownBlock ≠ some fb
  oth : OthB b w wr
  held : Held w.heap.size a xs
  lt : b < w.heap.size ∧ w.heap.size < fb
theorem DrT.end {w wr : World} {b c fb cp K : Nat} {a ad : Option Addr} {xs : List Int} {l k : Int} {ws : List Wf} (h : DrT w b c a xs l k fb ad cp K ws wr) (u0 u1 u2 : Value) :
    (((wr.setCell ⟨w.heap.size, 0, none⟩ u0).setCell ⟨w.heap.size, 1, none⟩ u1).setCell ⟨w.heap.size, 2, none⟩ u2).ownsRow (w.heap.size + 1) 40 4 (.slice ad ws.length cp) ws.length (wls ws) ∧
    OthB b w (((wr.setCell ⟨w.heap.size, 0, none⟩ u0).setCell ⟨w.heap.size, 1, none⟩ u1).setCell ⟨w.heap.size, 2, none⟩ u2) := by
  have own1 : ∀ {W : World} (i : Nat) (u : Value), W.ownsRow (w.heap.size + 1) 40 4 (.slice ad ws.length cp) ws.length (wls ws) → (W.setCell ⟨w.heap.size, i, none⟩ u).ownsRow (w.heap.size + 1) 40 4 (.slice ad ws.length cp) ws.length (wls ws) := fun {W} i u ho =>
    ho.kept (row := some w.heap.size) ⟨rfl, rfl, rfl, by simp, fun k hk hne => heap_setCell_other W _ k _ (fun e => hne (by rw [e]))⟩ (by
      cases hv : (Value.slice ad ws.length cp).ownBlock with
      | none => exact .inl rfl
      | some j => exact .inr (fun e => by have h1 := (ho.lt j hv).1; have h2 := Option.some.inj e; omega))
  have hb := Nat.le_of_lt h.lt.1
  exact ⟨own1 _ _ (own1 _ _ (own1 _ _ h.own)), ((h.oth.put hb (Nat.le_refl _) 0 u0).put hb (Nat.le_refl _) 1 u1).put hb (Nat.le_refl _) 2 u2⟩
theorem Src.held {w : World} {b c K : Nat} {a : Option Addr} {xs : List Int} (h : Src w b a c xs K) : Held w.heap.size a xs := by
  have hl := h.bytesLt
  obtain ⟨k, z, hk, hz, h0, h1, h2, hf, hx⟩ := h
  by_cases hxs : xs = []
  · exact .inl hxs
  rcases hx with hx | ⟨ba, off, rfl, hn, hat⟩
  · exact .inl hx
  · exact .inr ⟨ba, off, rfl, hl ba off rfl hxs⟩
section
variable {w wr w' : World} {b c fb cp K : Nat} {a ad : Option Addr} {xs : List Int} {l k : Int} {ws : List Wf}
theorem DrT.others (h : DrT w b c a xs l k fb ad cp K ws wr) (o : OthB b wr w') {K' : Nat} (hs : Src w' b a c xs K') : DrT w b c a xs l k fb ad cp K' ws w' := by
  have hlt := h.lt
  refine ⟨hs, o.blkAt h.R (by omega), o.blkAt h.F (by omega), h.own.kept (row := some b) ⟨o.below.os, o.below.tape, o.below.output, o.size, fun j hj hne => o.blk j hj (fun e => hne (by rw [e]))⟩ ?_, h.neF, ⟨h.oth.below.trans o.below, fun j hj hne => (o.blk j (Nat.lt_of_lt_of_le hj h.oth.size) hne).trans (h.oth.blk j hj hne)⟩, h.held, h.lt⟩
  cases hv : (Value.slice ad ws.length cp).ownBlock with
  | none => exact .inl rfl
  | some j => exact .inr (fun e => by have h1 := (h.own.lt j hv).1; have h2 := Option.some.inj e; omega)
theorem DrT.only (h : DrT w b c a xs l k fb ad cp K ws wr) (o : Only b wr w') {K' : Nat} (hs : Src w' b a c xs K') : DrT w b c a xs l k fb ad cp K' ws w' :=
  h.others (o.othB (Nat.le_of_lt h.src.lt)) hs
theorem DrT.next (h : DrT w b c a xs l k fb ad cp K ws wr) (hb : Below wr.heap.size wr w') : DrT w b c a xs l k fb ad cp K ws w' :=
  h.others ((OthB.refl b wr).next (Nat.le_of_lt h.src.lt) hb) (h.src.next hb)
theorem DrT.alloc (h : DrT w b c a xs l k fb ad cp K ws wr) (o : Obj) : DrT w b c a xs l k fb ad cp K ws (wr.alloc o) := h.next ((Below.refl _ _).alloc (Nat.le_refl _) o)
theorem DrT.drew (h : DrT w b c a xs l k fb ad cp K ws wr) : DrT w b c a xs l k fb ad cp K ws wr.drew := h.next (Below.refl _ _).drew
theorem DrT.putF (h : DrT w b c a xs l k fb ad cp K ws wr) (i : Nat) (v : Value) : Src (wr.setCell ⟨fb, i, none⟩ v) b a c xs K ∧ Blk (wr.setCell ⟨fb, i, none⟩ v) w.heap.size #[.int .i8 0, .int .i8 0, .slice none 0 0] 27 ∧ OthB b w (wr.setCell ⟨fb, i, none⟩ v) := by
  have hlt := h.lt
  refine ⟨h.src.put (by omega) (fun ba off e hne => ?_) i v, h.R.setOther (by omega) _ _, h.oth.put (by omega) (by omega) i v⟩
  rcases h.held with hx | ⟨ba', off', e', hl⟩
  · exact absurd hx hne
  · have e2 : ba = ba' := by have := e.symm.trans e'; injection this with e; injection e
    omega
theorem DrT.set0 (h : DrT w b c a xs l k fb ad cp K ws wr) (l' k' : Int) : DrT w b c a xs l' k' fb none 0 K [] (((wr.setCell ⟨fb, 0, none⟩ (.int .i8 l')).setCell ⟨fb, 1, none⟩ (.int .i8 k')).setCell ⟨fb, 2, none⟩ (.slice none 0 0)) := by
  have hlt := h.lt
  have put : ∀ {W : World} (i : Nat) (v : Value), (Src W b a c xs K ∧ Blk W w.heap.size #[.int .i8 0, .int .i8 0, .slice none 0 0] 27 ∧ OthB b w W) → (Src (W.setCell ⟨fb, i, none⟩ v) b a c xs K ∧ Blk (W.setCell ⟨fb, i, none⟩ v) w.heap.size #[.int .i8 0, .int .i8 0, .slice none 0 0] 27 ∧ OthB b w (W.setCell ⟨fb, i, none⟩ v)) := fun {W} i v ⟨h1, h2, h3⟩ => by
    refine ⟨h1.put (by omega) (fun ba off e hne => ?_) i v, h2.setOther (by omega) _ _, h3.put (by omega) (by omega) i v⟩
    rcases h.held with hx | ⟨ba', off', e', hl⟩
    · exact absurd hx hne
    · have e2 : ba = ba' := by have := e.symm.trans e'; injection this with e; injection e
      omega
  obtain ⟨h1, h2, h3⟩ := put 2 (.slice none 0 0) (put 1 (.int .i8 k') (put 0 (.int .i8 l') ⟨h.src, h.R, h.oth⟩))
  exact ⟨h1, h2, ((h.F.set 0 _).set 1 _).set 2 _, World.ownsRow_nil _ _ _ _, (fun e => by cases e), h3, h.held, h.lt⟩
theorem DrT.app {w1 : World} {cp' g : Nat} {x : Nat → Int} (h : DrT w b c a xs l k fb ad cp K ws wr)
    (hown : w1.ownsRow (w.heap.size + 1) 40 4 (.slice (some ⟨g, 0, none⟩) (ws.length + 1) cp') (ws.length + 1) (wls ws ++ [.int .i8 (x 0), .int .i8 (x 1), .int .i8 (x 2), .int .i8 (x 3)]))
    (hgrow : wr.grownBy w1 (Value.slice ad ws.length cp).ownBlock) (hat : (Value.slice ad ws.length cp).ownBlock = some g ∨ g = wr.heap.size) :
    Blk w1 fb #[.int .i8 l, .int .i8 k, .slice ad ws.length cp] 27 ∧ DrT w b c a xs l k fb (some ⟨g, 0, none⟩) cp' K (ws ++ [x]) (w1.setCell ⟨fb, 2, none⟩ (.slice (some ⟨g, 0, none⟩) (ws.length + 1) cp')) := by
  have hlt := h.lt
  have hlo : ∀ j, (Value.slice ad ws.length cp).ownBlock = some j → w.heap.size + 1 ≤ j := fun j e => (h.own.lt j e).1
  have keep : ∀ {b' : Nat} {cs : Array Value} {t : TypeId}, Blk wr b' cs t → (Value.slice ad ws.length cp).ownBlock ≠ some b' → Blk w1 b' cs t := fun {b' cs t} hb hne =>
    (hgrow.block b' hb.lt (fun e => hne e.symm)).trans hb
  have hF := keep h.F h.neF
  have hfb : g ≠ fb := fun e => by
    rcases hat with h1 | h1
    · exact h.neF (by rw [h1, e])
    · have := h.F.lt; omega
  have hB : Below w.heap.size wr w1 := (Below.refl _ _).grown hgrow h.oth.size (fun j e => by have := hlo j e; omega)
  have hs : Src w1 b a c xs K := h.src.keep hB (hgrow.block b h.src.lt (fun e => by have := hlo b e.symm; omega)) h.held
  have ho : OthB b w w1 := ⟨h.oth.below.trans (hB.mono (by omega)), fun j hj hne => (hB.block j hj).trans (h.oth.blk j hj hne)⟩
  refine ⟨hF, hs.put (by omega) (fun ba off e hne => ?_) _ _, (keep h.R (fun e => by have := hlo _ e; omega)).setOther (by omega) _ _, ?_, ?_, ?_, ho.put (by omega) (by omega) _ _, h.held, h.lt⟩
  · rcases h.held with hx | ⟨ba', off', e', hl⟩
    · exact absurd hx hne
    · have e2 : ba = ba' := by have := e.symm.trans e'; injection this with e; injection e
      omega
  · have := hF.set 2 (.slice (some ⟨g, 0, none⟩) (ws.length + 1) cp')
    rw [List.length_append]
    exact this
  · rw [List.length_append, wls_snoc]
    exact (show w1.ownsRow _ _ 4 (.slice (some ⟨g, 0, none⟩) (ws.length + 1) cp') (ws.length + 1) _ from hown).kept (row := some fb) ⟨rfl, rfl, rfl, by simp, fun k hk hne => heap_setCell_other w1 _ k _ (fun e => hne (by rw [e]))⟩ (.inr (fun e => hfb (Option.some.inj e)))
  · exact fun e => hfb (Option.some.inj e)
end
set_option maxHeartbeats 8000000 in
theorem l04Drawn_any (b c : Nat) (a : Option Addr) (xs : List Int) (w : World) (hb8 : U8 xs) (hn : xs.length ≤ 1048576) (h : Src w b a c xs 0) :
    Calls Try.prog 19 #[.pointer (some ⟨b, 0, none⟩)] w fun e w' => ∃ (l k : Int) (ws : List Wf) (ad : Option Addr) (cp : Nat), e = .returned (fixV l k ad ws.length cp) ∧ OkX l k ws ∧ ws.length ≤ 12 ∧ w'.ownsRow (w.heap.size + 1) 40 4 (.slice ad ws.length cp) ws.length (wls ws) ∧ OthB b w w' := by
  obtain ⟨i0, hi, hz0, hz1, hz2⟩ := info_parts Try.info_wd
  have hbl := h.lt
  have hR0 := blk_new w #[.int .i8 0, .int .i8 0, .slice none 0 0] 27
  have hS0 := h.next ((Below.refl _ _).alloc (Nat.le_refl _) (.cells #[.int .i8 0, .int .i8 0, .slice none 0 0] 27))
  have hO0 := (OthB.refl b w).next (Nat.le_of_lt hbl) ((Below.refl _ _).alloc (Nat.le_refl _) (.cells #[.int .i8 0, .int .i8 0, .slice none 0 0] 27))
  have HPK := Lib.hid (fun n K W (h2 : 2 ≤ n ∧ n ≤ 200) (hK : K ≤ 1048576) hs => pick_any n b a c K xs W h2 hb8 hn hK hs)
  have HON := Lib.hid (fun n K W (h2 : 2 ≤ n ∧ n ≤ 200) (hK : K ≤ 1048576) hs => one_any n b a c K xs W h2 hb8 hn hK hs)
  have HAN := Lib.hid (fun l K W (h2 : 1 ≤ l ∧ l ≤ 4) (hK : K ≤ 1048576) hs => l04Any_any l b a c K xs W h2 hb8 hn hK hs)
  have HHE := Lib.hid h.held
  have hbR : w.heap.size ≠ b := by omega
  clear h hb8
  go_enter Try.func19, Try.ntmps19
  go_wp2_with fail
  refine (HPK.out 4 0 _ (by omega) (by omega) hS0).mono ?_
  rintro e w1 ⟨r1, rfl, hr1, hS1, hU1⟩
  have hR1 := Blk.only hR0 hU1 hbR
  have hO1 := hO0.only hU1 (by simp; omega)
  obtain ⟨l, hl⟩ : ∃ l : Nat, 1 + r1 = (l : Int) := ⟨(1 + r1).toNat, by omega⟩
  have hl4 : 1 ≤ l ∧ l ≤ 4 := by omega
  have HL1 := Lib.hid (And.intro hS1 (And.intro hR1 hO1))
  have HLL := Lib.hid hl4
  have hr1' : 0 ≤ r1 ∧ r1 ≤ 3 := by omega
  clear hS0 hR0 hO0 hU1 hS1 hR1 hO1 hr1
  go_wp2_with fail
  have hl4' : 1 ≤ (l : Int) ∧ (l : Int) ≤ 4 := by omega
  clear hl hr1'
  refine (HPK.out 3 1 _ (by omega) (by omega) HL1.out.1).mono ?_
  rintro e w2 ⟨r2, rfl, hr2, hS2, hU2⟩
  have hR2 := Blk.only HL1.out.2.1 hU2 hbR
  have hO2 := HL1.out.2.2.only hU2 (by have := HL1.out.2.2.size; omega)
  have HL2 := Lib.hid (And.intro hS2 (And.intro hR2 hO2))
  clear HL1 hS2 hR2 hO2 hU2
  go_wp2_with fail
  refine (HPK.out 4 2 _ (by omega) (by omega) HL2.out.1).mono ?_
  rintro e w3 ⟨r3, rfl, hr3, hS3, hU3⟩
  have hR3 := Blk.only HL2.out.2.1 hU3 hbR
  have hO3 := HL2.out.2.2.only hU3 (by have := HL2.out.2.2.size; omega)
  have HL3 := Lib.hid (And.intro hS3 (And.intro hR3 hO3))
  clear HL2 hS3 hR3 hO3 hU3
  obtain ⟨cc, hcc⟩ : ∃ cc : Int, 3 * (1 + r3) = cc := ⟨_, rfl⟩
  have hc12 : 3 ≤ cc ∧ cc ≤ 12 := by omega
  go_wp2_with fail
  clear hcc hr3
  refine (specMakeFixed_any l r2 cc w3 (by omega) (by omega) (by omega)).mono ?_
  rintro e w5 ⟨a5, c5, rfl, own5, hb5⟩
  have hw3 := HL3.out.2.2.size
  have T0 : DrT w b c a xs (mfL l r2 cc) (mfK l r2 cc) w5.heap.size a5 c5 3 (mfW l r2 cc) (w5.alloc (.cells #[.int .i8 (mfL l r2 cc), .int .i8 (mfK l r2 cc), .slice a5 (mfW l r2 cc).length c5] 27)) := by
    have h1 := HL3.out.1.next hb5
    have h2 := Blk.below HL3.out.2.1 hb5 HL3.out.2.1.lt
    have h3 := HL3.out.2.2.next (Nat.le_of_lt hbl) hb5
    have hz := hb5.size
    have hA := (Below.refl w5.heap.size w5).alloc (Nat.le_refl _) (.cells #[.int .i8 (mfL l r2 cc), .int .i8 (mfK l r2 cc), .slice a5 (mfW l r2 cc).length c5] 27)
    refine ⟨h1.next hA, h2.alloc _, blk_new _ _ _, (own_base own5 (by omega)).alloc _, (fun e => by have := (own5.lt _ e).2; omega), h3.next (Nat.le_of_lt hbl) hA, HHE.out, hbl, ?_⟩
    have := h2.lt; omega
  have T00 : DrT w b c a xs l r2 w5.heap.size none 0 3 [] (w5.alloc (.cells #[.int .i8 (l : Int), .int .i8 r2, .slice none 0 0] 27)) := by
    have h1 := HL3.out.1.next hb5
    have h2 := Blk.below HL3.out.2.1 hb5 HL3.out.2.1.lt
    have h3 := HL3.out.2.2.next (Nat.le_of_lt hbl) hb5
    have hz := hb5.size
    have hA := (Below.refl w5.heap.size w5).alloc (Nat.le_refl _) (.cells #[.int .i8 (l : Int), .int .i8 r2, .slice none 0 0] 27)
    refine ⟨h1.next hA, h2.alloc _, blk_new _ _ _, World.ownsRow_nil _ _ _ _, (fun e => by cases e), h3.next (Nat.le_of_lt hbl) hA, HHE.out, hbl, ?_⟩
    have := h2.lt; omega
  have HT00 := Lib.hid T00
  clear T00
  have hLen := mfW_len l r2 cc
  have HOK := Lib.hid (fun h0 => mf_okX (l := l) (k := r2) (c := cc) h0)
  have hRz := hr2
  clear hr2
  clear own5 hb5 HL3 hw3
  generalize mfW l r2 cc = X at *
  generalize mfL l r2 cc = A at *
  generalize mfK l r2 cc = B at *
  generalize hC : mfC l r2 cc = C at *
  have HT0 := Lib.hid T0
  have hFB := T0.F
  obtain ⟨f0, f1, f2, f3⟩ := T0.F.three
  by_cases h0 : C = 0
  · have hqc : (C != 0) = false := by simpa using h0
    have HOKK := Lib.hid (HOK.out h0)
    clear HOK h0 T0 hFB
    -- KEEP
    go_wp2_with fail
    refine (HON.out 4 3 _ (by omega) (by omega) HT0.out.src).mono ?_
    rintro e w6 ⟨r4, rfl, hS6, hU6⟩
    have T6 := HT0.out.only hU6 hS6
    clear hS6 hU6 HT0 f0 f1 f2 f3
    cases r4 with
    | false =>
      obtain ⟨p0, p1, p2, p3⟩ := T6.F.three
      obtain ⟨r0, r1', r2', r3'⟩ := T6.R.three
      have HE := Lib.hid (T6.end (.int .i8 A) (.int .i8 B) (.slice a5 X.length c5))
      clear T6
      go_wp2
      exact bodyPost_ret (v := fixV A B a5 X.length c5) (by simp [results, Try.results19, go_sem, r0, r1', r2']) rfl ⟨A, B, X, a5, c5, rfl, HOKK.out.1, by have := HOKK.out.2; omega, HE.out.1, HE.out.2⟩
    | true =>
      have HTS := Lib.hid (T6.set0 l r2)
      obtain ⟨f0, f1, f2, f3⟩ := T6.F.three
      have HF5 := Lib.hid (show w.heap.size < w5.heap.size from T6.lt.2)
      clear T6
      go_wp2_with fail
      refine (HPK.out 7 _ _ (by omega) (by omega) HTS.out.src).mono ?_
      rintro e w7 ⟨r5, rfl, hr5, hS7, hU7⟩
      have HT7 := Lib.hid (HTS.out.only hU7 hS7)
      obtain ⟨n, hn7⟩ : ∃ n : Nat, 1 + r5 = (n : Int) := ⟨(1 + r5).toNat, by omega⟩
      have hn17 : 1 ≤ n ∧ n ≤ 7 := by omega
      have hr5' : 0 ≤ r5 ∧ r5 ≤ 6 := by omega
      clear hr5 hS7 hU7 HTS f0 f1 f2 f3
      go_wp2
      clear hn7 hr5'
      go_loopw [7] (fun nv wr => ∃ (m K : Nat) (ad : Option Addr) (cp : Nat) (ws : List Wf), nv = .int .i64 (m : Int) ∧ m + ws.length = n ∧ K + m ≤ 20 ∧ (∀ x ∈ ws, OkD l x) ∧ DrT w b c a xs l r2 w5.heap.size ad cp K ws wr) (fun nv _ => (intOf nv).toNat)
      case atStart => exact ⟨n, _, none, 0, [], rfl, rfl, by omega, (fun x hx => by cases hx), HT7.out⟩
      case round =>
        clear HT7
        obtain ⟨m, K, ad, cp, ws, rfl, hmn, hKm, hall, T⟩ := hrel
        have HALL := Lib.hid hall
        have hws7 : ws.length ≤ 7 := by omega
        cases m with
        | zero =>
          have HMN := Lib.hid (show ws.length = n by omega)
          obtain ⟨p0, p1, p2, p3⟩ := T.F.three
          obtain ⟨r0, r1, r2', r3⟩ := T.R.three
          have HE := Lib.hid (T.end (.int .i8 (l : Int)) (.int .i8 r2) (.slice ad ws.length cp))
          clear T hmn hall
          go_wp2
          exact bodyPost_ret (v := fixV l r2 ad ws.length cp) (by simp [results, Try.results19, go_sem, r0, r1, r2']) rfl ⟨l, r2, ws, ad, cp, rfl, ⟨hl4', by omega, by have := HMN.out; omega, fun j hj => HALL.out _ (wI_mem hj)⟩, by omega, HE.out.1, HE.out.2⟩
        | succ m =>
          have hmz : (0 : Int) < ((m + 1 : Nat) : Int) := by omega
          have hmz2 : ((m + 1 : Nat) : Int) ≤ 7 := by omega
          have HMN := Lib.hid (show m + (ws.length + 1) = n by omega)
          have HKM := Lib.hid (show K + 1 + m ≤ 20 by omega)
          have HK := Lib.hid (show K ≤ 1048576 by omega)
          have hml : ws.length + 1 ≤ maxLen := by unfold maxLen; omega
          have hmb : (ws.length + 1) * 4 ≤ 140737488355328 := by omega
          clear hmn hKm hall
          go_upto_region 9 with fail
          have Td := T.drew
          obtain ⟨d0, d1, d2, d3⟩ := Td.F.three
          have ltd := Td.F.lt
          have HT := Lib.hid T
          clear T
          go_region_law
            (first
              | (go_simp; go_at_call 48; with_reducible refine (HAN.out l K _ HLL.out HK.out Td.src).mono ?_; rintro e w8 ⟨x, rfl, hx, hS8, hO8⟩; have HX := Lib.hid hx; have T8 := Td.others hO8 hS8; obtain ⟨g0, g1, g2, g3⟩ := T8.F.three; have lt8 := T8.F.lt; clear hS8 hO8 hx d0 d1 d2 d3; dsimp only)
              | (refine step_append_lies _ rfl _ _ 25 rfl (w.heap.size + 1) 40 i0 (.agg #[.int .i8 0, .int .i8 0, .int .i8 0, .int .i8 0]) 4 4 Try.underlying25 hi hz0 hz1 hz2 rfl (by decide) _ _ _ rfl (T8.own.alloc _) ⟨w8.heap.size, 0, none⟩ 1 1 [.int .i8 (x 0), .int .i8 (x 1), .int .i8 (x 2), .int .i8 (x 3)] rfl rfl (World.news_of_block (fr := (0, 0)) (heap_alloc_new w8 _)) (by simp [Value.oneCell']) (by omega) hml hmb (by have := HF5.out; rw [World.size_alloc]; omega) _ rfl ?_; intro g cp2 w9 hown hgrow hat hlt; have T9 := (T8.alloc _).app hown hgrow hat; obtain ⟨q0, q1, q2, q3⟩ := T9.1.three; have HT10 := Lib.hid T9.2; clear T9 hown hgrow hat g0 g1 g2 g3 lt8 T8))
          all_goals
            clear ltd Td
            go_wp2
            go_roundw
            case rel => exact ⟨m, K + 1, _, _, ws ++ [x], by go_num, by rw [List.length_append]; exact HMN.out, HKM.out, (fun y hy => by
              rcases List.mem_append.1 hy with hy | hy
              · exact HALL.out y hy
              · rw [List.mem_singleton.1 hy]; exact HX.out), HT10.out⟩
            case measure => simp [intOf]
  · have hqc : (C != 0) = true := by simpa using h0
    have T6 := HT0.out
    clear HOK h0 T0 hFB HT0 f0 f1 f2 f3
    have HTS := Lib.hid (HT00.out)
    obtain ⟨f0, f1, f2, f3⟩ := T6.F.three
    have HF5 := Lib.hid (show w.heap.size < w5.heap.size from T6.lt.2)
    clear T6
    go_wp2_with fail
    refine (HPK.out 7 _ _ (by omega) (by omega) HTS.out.src).mono ?_
    rintro e w7 ⟨r5, rfl, hr5, hS7, hU7⟩
    have HT7 := Lib.hid (HTS.out.only hU7 hS7)
    obtain ⟨n, hn7⟩ : ∃ n : Nat, 1 + r5 = (n : Int) := ⟨(1 + r5).toNat, by omega⟩
    have hn17 : 1 ≤ n ∧ n ≤ 7 := by omega
    have hr5' : 0 ≤ r5 ∧ r5 ≤ 6 := by omega
    clear hr5 hS7 hU7 HTS f0 f1 f2 f3
    go_wp2
    clear hn7 hr5'
    go_loopw [7] (fun nv wr => ∃ (m K : Nat) (ad : Option Addr) (cp : Nat) (ws : List Wf), nv = .int .i64 (m : Int) ∧ m + ws.length = n ∧ K + m ≤ 20 ∧ (∀ x ∈ ws, OkD l x) ∧ DrT w b c a xs l r2 w5.heap.size ad cp K ws wr) (fun nv _ => (intOf nv).toNat)
    case atStart => exact ⟨n, _, none, 0, [], rfl, rfl, by omega, (fun x hx => by cases hx), HT7.out⟩
    case round =>
      clear HT7
      obtain ⟨m, K, ad, cp, ws, rfl, hmn, hKm, hall, T⟩ := hrel
      have HALL := Lib.hid hall
      have hws7 : ws.length ≤ 7 := by omega
      cases m with
      | zero =>
        have HMN := Lib.hid (show ws.length = n by omega)
        obtain ⟨p0, p1, p2, p3⟩ := T.F.three
        obtain ⟨r0, r1, r2', r3⟩ := T.R.three
        have HE := Lib.hid (T.end (.int .i8 (l : Int)) (.int .i8 r2) (.slice ad ws.length cp))
        clear T hmn hall
        go_wp2
        exact bodyPost_ret (v := fixV l r2 ad ws.length cp) (by simp [results, Try.results19, go_sem, r0, r1, r2']) rfl ⟨l, r2, ws, ad, cp, rfl, ⟨hl4', by omega, by have := HMN.out; omega, fun j hj => HALL.out _ (wI_mem hj)⟩, by omega, HE.out.1, HE.out.2⟩
      | succ m =>
        have hmz : (0 : Int) < ((m + 1 : Nat) : Int) := by omega
        have hmz2 : ((m + 1 : Nat) : Int) ≤ 7 := by omega
        have HMN := Lib.hid (show m + (ws.length + 1) = n by omega)
        have HKM := Lib.hid (show K + 1 + m ≤ 20 by omega)
        have HK := Lib.hid (show K ≤ 1048576 by omega)
        have hml : ws.length + 1 ≤ maxLen := by unfold maxLen; omega
        have hmb : (ws.length + 1) * 4 ≤ 140737488355328 := by omega
        clear hmn hKm hall
        go_upto_region 9 with fail
        have Td := T.drew
        obtain ⟨d0, d1, d2, d3⟩ := Td.F.three
        have ltd := Td.F.lt
        have HT := Lib.hid T
        clear T
        go_region_law
          (first
            | (go_simp; go_at_call 48; with_reducible refine (HAN.out l K _ HLL.out HK.out Td.src).mono ?_; rintro e w8 ⟨x, rfl, hx, hS8, hO8⟩; have HX := Lib.hid hx; have T8 := Td.others hO8 hS8; obtain ⟨g0, g1, g2, g3⟩ := T8.F.three; have lt8 := T8.F.lt; clear hS8 hO8 hx d0 d1 d2 d3; dsimp only)
            | (refine step_append_lies _ rfl _ _ 25 rfl (w.heap.size + 1) 40 i0 (.agg #[.int .i8 0, .int .i8 0, .int .i8 0, .int .i8 0]) 4 4 Try.underlying25 hi hz0 hz1 hz2 rfl (by decide) _ _ _ rfl (T8.own.alloc _) ⟨w8.heap.size, 0, none⟩ 1 1 [.int .i8 (x 0), .int .i8 (x 1), .int .i8 (x 2), .int .i8 (x 3)] rfl rfl (World.news_of_block (fr := (0, 0)) (heap_alloc_new w8 _)) (by simp [Value.oneCell']) (by omega) hml hmb (by have := HF5.out; rw [World.size_alloc]; omega) _ rfl ?_; intro g cp2 w9 hown hgrow hat hlt; have T9 := (T8.alloc _).app hown hgrow hat; obtain ⟨q0, q1, q2, q3⟩ := T9.1.three; have HT10 := Lib.hid T9.2; clear T9 hown hgrow hat g0 g1 g2 g3 lt8 T8))
        all_goals
          clear ltd Td
          go_wp2
          go_roundw
          case rel => exact ⟨m, K + 1, _, _, ws ++ [x], by go_num, by rw [List.length_append]; exact HMN.out, HKM.out, (fun y hy => by
            rcases List.mem_append.1 hy with hy | hy
            · exact HALL.out y hy
            · rw [List.mem_singleton.1 hy]; exact HX.out), HT10.out⟩
          case measure => simp [intOf]
end Go.Proofs.Ytieghjpecoiodaa
