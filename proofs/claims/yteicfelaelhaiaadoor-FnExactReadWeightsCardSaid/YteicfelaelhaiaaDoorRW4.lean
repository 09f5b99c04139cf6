/-
  ReadWeights: the program's walk.
-/
import Derived.Test.YteicfelaelhaiaaDoorRW3
import Derived.Test.YteicfelaelhaiaaDoorWX2
import Derived.Lib.AtoiErrMem
namespace Go.Proofs.YteicfelaelhaiaaDoor
open Go.RowKit
set_option maxRecDepth 100000
set_option linter.unusedVariables false

def ErrAt (g : Nat) (w : World) : Prop := ∃ ev, w.cell? ⟨g, 0, none⟩ = some ev ∧ (ev = .nilIface ∨ ∃ te pe, ev = .iface te pe)
theorem ErrAt.below {g : Nat} {w w' : World} (h : ErrAt g w) (hb : Below w.heap.size w w') : ErrAt g w' := by
  obtain ⟨ev, h1, h2⟩ := h
  exact ⟨ev, (hb.cell (p := ⟨g, 0, none⟩) (World.block_lt_of_cell? _ _ h1)).trans h1, h2⟩
def VarM (w : World) : Prop := ∃ m : Int, w.cell? ⟨3, 0, none⟩ = some (.int .i64 m)
theorem VarM.below {w w' : World} (h : VarM w) (hb : Below w.heap.size w w') : VarM w' := by
  obtain ⟨m, hm⟩ := h
  exact ⟨m, (hb.cell (p := ⟨3, 0, none⟩) (World.block_lt_of_cell? _ _ hm)).trans hm⟩
/-- What the text readers want of the variables of the library. -/
structure PreR (w : World) : Prop where
  tab : Tab w
  es : ErrAt 0 w
  er : ErrAt 1 w
  mx : VarM w
theorem PreR.below {w w' : World} (h : PreR w) (hb : Below w.heap.size w w') : PreR w' := ⟨h.tab.below hb, h.es.below hb, h.er.below hb, h.mx.below hb⟩
theorem parse_any (x : ByteArray) (w : World) (hx : x.size ≤ 1048576) (h : PreR w) :
    Calls Tryd.prog 21 #[.string x, .int .i64 10, .int .i64 16] w fun e w' => ∃ (v : Int) (er : Value), e = .returned (.tuple #[.int .i64 v, er]) ∧ (POk x → v = yvB x ∧ er = .nilIface) ∧ (¬ POk x → ∃ t p, er = .iface t p) ∧ Below w.heap.size w w' := by
  cases hp : Lib.parseIntB 16 x.data.toList with
  | ok v =>
    refine (Tryd.strconv_ParseInt_10_at16_ok x (by omega) v hp w).mono ?_
    rintro e w' ⟨rfl, hw⟩
    refine ⟨v, _, rfl, fun _ => ⟨(yv_ok hp).symm, rfl⟩, fun hn => absurd ⟨v, hp⟩ hn, ?_⟩
    rcases hw with rfl | ⟨t, rfl⟩
    · exact Below.refl _ _
    · exact Lib.bytesWorld_below _ _ _
  | «syntax» =>
    obtain ⟨ev, h1, h2⟩ := h.es
    refine (Tryd.strconv_ParseInt_10_at16_syntax x (by omega) hp ev w h1 h2).mono ?_
    rintro e w' ⟨N, rfl, _, _, hb⟩
    exact ⟨_, _, rfl, fun ⟨v, hv⟩ => (by rw [hp] at hv; cases hv), fun _ => ⟨_, _, rfl⟩, hb⟩
  | range =>
    obtain ⟨ev, h1, h2⟩ := h.er
    refine (Tryd.strconv_ParseInt_10_at16_range x (by omega) hp ev w h1 h2).mono ?_
    rintro e w' ⟨N, rfl, _, _, hb⟩
    exact ⟨_, _, rfl, fun ⟨v, hv⟩ => (by rw [hp] at hv; cases hv), fun _ => ⟨_, _, rfl⟩, hb⟩
theorem tl_t' {a b : ByteArray} (h : a = b) : (a.toList == b.toList) = true := by subst h; simp
theorem all_snoc' {X : List ByteArray} {k : Nat} (hk : k < X.length) {p : ByteArray → Prop} (h : ∀ x ∈ X.take k, p x) (h2 : p (X.getD k ⟨#[]⟩)) : ∀ x ∈ X.take (k + 1), p x := by
  intro x hx
  rw [List.take_add_one] at hx
  rcases List.mem_append.1 hx with h3 | h3
  · exact h x h3
  · rw [List.getElem?_eq_getElem hk] at h3
    simp at h3
    rw [List.getD_eq_getElem?_getD, List.getElem?_eq_getElem hk] at h2
    rw [h3]; exact h2
theorem row_set {w : World} {B C S n n' : Nat} {T U : TypeId} {v : Value} {xs : List Value} {f : Nat → Value} (h : w.ownsRow B T S v n xs) (hr : w.rowIs C U n' f) (hne : T ≠ U) (j : Nat) (u : Value) : (w.setCell ⟨C, j, none⟩ u).ownsRow B T S v n xs := by
  refine ⟨h.1, ?_⟩
  rcases h.2 with h1 | ⟨g, cap, cur, h0, h1, hg, h2⟩
  · exact .inl h1
  · refine .inr ⟨g, cap, cur, h0, h1, ?_, h2⟩
    have hgC : g ≠ C := by
      rintro rfl
      obtain ⟨cur', hc, _⟩ := hr
      rw [hg] at hc
      simp only [Option.some.injEq, Obj.cells.injEq] at hc
      exact hne hc.2.1
    rw [Below.heap_setCell _ _ _ _ (show g ≠ (⟨C, j, none⟩ : Addr).block from hgC)]
    exact hg
set_option maxHeartbeats 1000000 in
theorem readWeights_any (s : ByteArray) (w : World) (hs : s.size ≤ 1048576) (hp : PreR w) :
    Calls Tryd.prog 10 #[.string s] w fun e w' => ∃ v, e = .returned (.tuple #[v, .int .i64 (rwC s)]) ∧ OwnV .i16 w.heap.size w' v (rwV s) ∧ Below w.heap.size w w' := by
  obtain ⟨m, hm⟩ := hp.mx
  have HP0 := Lib.hid hp
  have HP := Lib.hid (show Calls Tryd.prog 20 #[.string s, .string ⟨#[32]⟩, .int .i64 17] w fun e w' => e = .returned (.slice (some ⟨w.heap.size, 0, none⟩) (wdM 17 s).length (min 17 (s.size + 1))) ∧ w' = w.alloc (.cells (Lib.cellsOf (wdM 17 s) (min 17 (s.size + 1))) 9) from Tryd.strings_SplitN s ⟨#[32]⟩ 17 m w (by omega) hm (by decide) (by decide) (by decide))
  have hXN : (wdM 17 s).length ≤ min 17 (s.size + 1) := by have := Lib.splitB_length_le ⟨#[32]⟩ 0 (min 17 (s.size + 1) - 1) s; unfold wdM; omega
  have HX := Lib.hid (show ∀ x ∈ wdM 17 s, x.size ≤ 1048576 from fun x hx => Nat.le_trans (splitB_part _ _ _ x hx) hs)
  have hN : min 17 (s.size + 1) ≤ 17 := Nat.min_le_left _ _
  have hX17 : (wdM 17 s).length ≤ 17 := Nat.le_trans hXN hN
  have HT := Lib.hid (And.intro (fun (h1 : ∀ x ∈ wdM 17 s, POk x) (h2 : wtV (yW (wdM 17 s)) = s) => (show rwV s = yW (wdM 17 s) ∧ rwC s = 0 from ⟨(rw_t (take_ok h1 h2).1).1.trans (take_ok h1 h2).2, (rw_t (take_ok h1 h2).1).2⟩)) (fun (h : ¬ ((∀ x ∈ wdM 17 s, POk x) ∧ wtV (yW (wdM 17 s)) = s)) => rw_f (s := s) (fun hg => h (take_of hg))))
  have HW := Lib.hid (row_cells (w := w) (B := w.heap.size) (T := 9) (Nat.le_refl _) hXN (by unfold maxLen; omega))
  have HB := Lib.hid ((Below.refl w.heap.size w).alloc (Nat.le_refl _) (.cells (Lib.cellsOf (wdM 17 s) (min 17 (s.size + 1))) 9))
  clear hm hs hXN hp
  generalize rwV s = RV at *
  generalize rwC s = RC at *
  generalize wdM 17 s = X at *
  generalize min 17 (s.size + 1) = N at *
  generalize hw1 : w.alloc (.cells (Lib.cellsOf X N) 9) = w1 at *
  clear hw1
  obtain ⟨g, hg⟩ : ∃ g : Nat, g = w.heap.size := ⟨_, rfl⟩
  rw [← hg] at HP
  have HW := Lib.hid (show w1.ownsRow w.heap.size 9 1 (.slice (some ⟨g, 0, none⟩) X.length N) X.length (X.map Value.string) from by rw [hg]; exact HW.out)
  clear hg
  have hmk := run_make_row' (P := Tryd.prog) 24 33 (.int .i16 0) 2 Tryd.underlying24 Tryd.infoW rfl .i64 .i64 X.length (by omega) (by omega)
  go_enter Tryd.func10, Tryd.ntmps10
  go_wp2_with fail
  refine HP.out.mono ?_
  rintro e w2 ⟨rfl, rfl⟩
  clear HP
  go_wp2
  clear hmk
  go_loopw [17] (fun i wr => ∃ k : Nat, i = .int .i64 k ∧ k ≤ X.length ∧ wr.rowIs w2.heap.size 33 X.length (fun j => if j < k then .int .i16 (yvB (X.getD j ⟨#[]⟩)) else .int .i16 0) ∧ (∀ x ∈ X.take k, POk x) ∧ wr.ownsRow w.heap.size 9 1 (.slice (some ⟨g, 0, none⟩) X.length N) X.length (X.map Value.string) ∧ Below w.heap.size w wr) (fun i _ => X.length - (intOf i).toNat)
  case atStart => exact ⟨0, rfl, Nat.zero_le _, by simpa using World.rowIs_made w2 (.int .i16 0) X.length 33, fun x hx => absurd hx (by simp), HW.out.alloc _, HB.out.alloc HB.out.size _⟩
  case round =>
    have hq2 : w.heap.size ≤ w2.heap.size := HB.out.size
    clear HW HB
    obtain ⟨k, rfl, hk, hrow, hok, hW, hB⟩ := hrel
    by_cases hlt : k < X.length
    · have hkl : (k : Int) < (X.length : Int) := by omega
      have h2 := wd_at hW hlt
      have hx := HX.out (X.getD k ⟨#[]⟩) (getD_mem hlt)
      have HS := Lib.hid (fun h => all_snoc' (p := POk) hlt hok h)
      have HM := Lib.hid (getD_mem hlt)
      have HB := Lib.hid hB
      have HRW := Lib.hid hrow
      have HW := Lib.hid hW
      clear hok hB hrow hW
      have HXK := Lib.hid (show X.getD k ⟨#[]⟩ = X.getD k ⟨#[]⟩ from rfl)
      generalize hxk : X.getD k ⟨#[]⟩ = x at *
      have HXX := Lib.hid hxk
      clear hxk HXK
      have HC := Lib.hid (parse_any x wr hx (HP0.out.below HB.out))
      have hbd := yvB_bd x
      clear hx
      by_cases ho : POk x
      · have HV := Lib.hid ho
        clear ho
        go_wp2_with fail
        refine HC.out.mono ?_
        rintro e w3 ⟨v3, er, rfl, h3, -, hb⟩
        obtain ⟨rfl, rfl⟩ := h3 HV.out
        have HB2 := Lib.hid (HB.out.trans (hb.mono HB.out.size))
        have HW2 := Lib.hid (row_nx HW.out hb)
        have hrow3 : w3.rowIs w2.heap.size 33 X.length _ := World.rowIs.of_block HRW.out (hb.block _ (World.rowIs.lt HRW.out))
        have hw := hrow3.cell (i := k) hlt
        have hfr := hrow3.frozen k
        simp only [Nat.lt_irrefl, if_false] at hw
        have HR := Lib.hid hrow3
        clear hb HB HW HC h3 HRW hrow3
        generalize hyv : yvB x = y at *
        have HY := Lib.hid hyv
        clear hyv
        have HROW := Lib.hid ((HR.out.set k (.int .i16 y)).congr (g := fun j => if j < k + 1 then .int .i16 (yvB (X.getD j ⟨#[]⟩)) else .int .i16 0) (fun i hi => by
          by_cases e : i = k
          · subst e; rw [if_pos rfl, if_pos (Nat.lt_succ_self _), HXX.out, HY.out]
          · by_cases e2 : i < k
            · simp [e, e2, Nat.lt_succ_of_lt e2]
            · simp [e, e2, show ¬ i < k + 1 by omega]))
        have HB4 := Lib.hid (HB2.out.setCell (show w.heap.size ≤ (⟨w2.heap.size, k, none⟩ : Addr).block from hq2) (.int .i16 y))
        have HW4 := Lib.hid (row_set HW2.out HR.out (by decide) k (.int .i16 y))
        go_wp2
        go_roundw
        case rel => exact ⟨k + 1, by go_num, by omega, HROW.out, HS.out HV.out, HW4.out, HB4.out⟩
        case measure => simp [intOf]; omega
      · have HE := Lib.hid (HT.out.2 (fun hg => ho (hg.1 x HM.out)))
        go_wp2_with fail
        refine HC.out.mono ?_
        rintro e w3 ⟨v3, er, rfl, -, h3, hb⟩
        obtain ⟨t3, p3, rfl⟩ := h3 ho
        have HB2 := Lib.hid (HB.out.trans (hb.mono HB.out.size))
        clear hb HB HRW HW HC h3 ho
        go_wp2
        go_ret2
        exact ⟨_, ret2w rfl HE.out.2.symm, by rw [HE.out.1]; exact OwnV.nil _ _ _ _ _, HB2.out⟩
    · have HA := Lib.hid (take_allW hlt)
      have HB := Lib.hid hB
      obtain rfl : k = X.length := by omega
      have hall : ∀ x ∈ X, POk x := by rw [HA.out] at hok; exact hok
      have hrow2 : RowOf .i16 33 wr w2.heap.size (yW X) := by
        unfold RowOf
        rw [yW_len]
        exact hrow.congr (fun i hi => by rw [if_pos hi, yW_get hi])
      have HI := Lib.hid (weightsText_any w2.heap.size 0 X.length (yW X) wr (by rw [yW_len]; omega) hrow2.lt hrow2.at (yW_i16 X) (HP0.out.below HB.out).tab)
      rw [yW_len] at HI
      have HO := Lib.hid (OwnV.row (c := X.length) hrow2 hq2)
      rw [yW_len] at HO
      clear hok hrow hW hB HA hrow2
      generalize hT : wtV (yW X) = T at *
      by_cases he : T = s
      · have HG := Lib.hid (HT.out.1 hall he)
        have e1 : (T.toList == s.toList) = true := tl_t' he
        clear hall hT HT
        go_wp2_with fail
        refine HI.out.mono ?_
        rintro e w3 ⟨rfl, hb⟩
        have HB2 := Lib.hid (HB.out.trans (hb.mono HB.out.size))
        have HO2 := Lib.hid (HO.out.below hb (Nat.le_refl _))
        clear hb HI HO
        go_wp2
        go_ret2
        exact ⟨_, ret2w rfl HG.out.2.symm, by rw [HG.out.1]; exact HO2.out, HB2.out⟩
      · have HG := Lib.hid (HT.out.2 (fun h => he h.2))
        have e1 : (T.toList == s.toList) = false := tl_f' he
        clear hall hT HT HO
        go_wp2_with fail
        refine HI.out.mono ?_
        rintro e w3 ⟨rfl, hb⟩
        have HB2 := Lib.hid (HB.out.trans (hb.mono HB.out.size))
        clear hb HI
        go_wp2
        go_ret2
        exact ⟨_, ret2w rfl HG.out.2.symm, by rw [HG.out.1]; exact OwnV.nil _ _ _ _ _, HB2.out⟩
end Go.Proofs.YteicfelaelhaiaaDoor
