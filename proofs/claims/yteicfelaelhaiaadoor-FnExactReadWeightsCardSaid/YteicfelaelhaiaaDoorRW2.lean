/-
  ReadWeights: the numbers, and the model's walk.
-/
import Derived.Test.YteicfelaelhaiaaDoorRW1
import Derived.Test.YteicfelaelhaiaaDoorWX1
namespace Go.Proofs.YteicfelaelhaiaaDoor
open Go.RowKit
set_option maxRecDepth 100000
set_option linter.unusedVariables false

theorem Tryd.infoW : (Tryd.prog.info? 33).map (fun i => (i.zero, i.size, i.bytes)) = some (some (.int .i16 0), 1, 2) := by kernel_rfl
def nmB (x : ByteArray) : Nat := nmL 0 x.data.toList
def nmW (X : List ByteArray) : List Int := X.map fun x => ((nmB x : Nat) : Int)
def GdW (X : List ByteArray) : Prop := (∀ x ∈ X, okN x.data.toList = true ∧ nmB x ≤ 2000) ∧ OkW (nmW X)
noncomputable def rwV (s : ByteArray) : List Int := if cb (GdW (wds s)) = true then nmW (wds s) else []
noncomputable def rwC (s : ByteArray) : Int := if cb (GdW (wds s)) = true then 0 else 5
theorem rw_t {s : ByteArray} (h : GdW (wds s)) : rwV s = nmW (wds s) ∧ rwC s = 0 := by unfold rwV rwC; rw [cb_t h]; exact ⟨rfl, rfl⟩
theorem rw_f {s : ByteArray} (h : ¬ GdW (wds s)) : rwV s = [] ∧ rwC s = 5 := by unfold rwV rwC; rw [cb_f h]; exact ⟨rfl, rfl⟩
theorem nmW_len (X : List ByteArray) : (nmW X).length = X.length := by unfold nmW; rw [List.length_map]
theorem nmW_snoc {X : List ByteArray} {k : Nat} (hk : k < X.length) : (nmW (X.take k)).map (Value.int .i16) ++ [.int .i16 ((nmB (X.getD k ⟨#[]⟩) : Nat) : Int)] = (nmW (X.take (k + 1))).map (Value.int .i16) := by
  unfold nmW
  rw [List.take_add_one, List.map_append, List.map_append, List.getD_eq_getElem?_getD, List.getElem?_eq_getElem hk]
  rfl
def OkB (x : ByteArray) : Prop := okN x.data.toList = true ∧ nmB x ≤ 2000
theorem allB_snoc {X : List ByteArray} {k : Nat} (hk : k < X.length) (h : ∀ x ∈ X.take k, OkB x) (h2 : OkB (X.getD k ⟨#[]⟩)) : ∀ x ∈ X.take (k + 1), OkB x := by
  intro x hx
  rw [List.take_add_one] at hx
  rcases List.mem_append.1 hx with h3 | h3
  · exact h x h3
  · rw [List.getElem?_eq_getElem hk] at h3
    simp at h3
    rw [List.getD_eq_getElem?_getD, List.getElem?_eq_getElem hk] at h2
    rw [h3]; exact h2
theorem okN_t {l : List UInt8} (h : okN l = true) : Cn l ∧ l.length ≤ 10 := by
  by_cases h2 : Cn l ∧ l.length ≤ 10
  · exact h2
  · exact absurd (h.symm.trans (cb_f h2)) (by decide)
theorem okN_ne {x : ByteArray} (h : okN x.data.toList = true) : x ≠ ⟨#[]⟩ := by
  rintro rfl
  exact (okN_t h).1.1 rfl
theorem nmW_i16 {X : List ByteArray} (h : ∀ x ∈ X, nmB x ≤ 2000) : I16 (nmW X) := by
  intro j
  rcases Nat.lt_or_ge j X.length with hj | hj
  · have e : (nmW X).getD j 0 = ((nmB X[j] : Nat) : Int) := by
      unfold nmW; rw [List.getD_eq_getElem?_getD, List.getElem?_map, List.getElem?_eq_getElem hj]; rfl
    rw [e]; have := h X[j] (List.getElem_mem hj); omega
  · have e : (nmW X).getD j 0 = 0 := by
      unfold nmW; rw [List.getD_eq_getElem?_getD, List.getElem?_eq_none (by rw [List.length_map]; exact hj)]; rfl
    rw [e]; omega
theorem ret2w {v u : Value} {a b : Int} (h1 : v = u) (h : a = b) : Ending.returned (.tuple #[v, .int .i64 a]) = .returned (.tuple #[u, .int .i64 b]) := by rw [h1, h]
theorem row_nx {w w' : World} {base : Nat} {e : TypeId} {size : Nat} {v : Value} {n : Nat} {xs : List Value} (h : w.ownsRow base e size v n xs) (hb : Below w.heap.size w w') : w'.ownsRow base e size v n xs := row_nxt h hb
theorem row_lo {w : World} {B B' S : Nat} {T : TypeId} {v : Value} {n : Nat} {xs : List Value} (h : w.ownsRow B T S v n xs) (hB : B' ≤ B) : w.ownsRow B' T S v n xs := by
  refine ⟨h.1, ?_⟩
  rcases h.2 with h1 | ⟨g, cap, cur, h0, h1, h2⟩
  · exact .inl h1
  · exact .inr ⟨g, cap, cur, h0, by omega, h2⟩
theorem take_allW {X : List ByteArray} {k : Nat} (h : ¬ k < X.length) : X.take k = X := List.take_of_length_le (by omega)
set_option maxHeartbeats 1000000 in
theorem specReadWeights_any (s : ByteArray) (w : World) (hs : s.size ≤ 1048576) :
    Calls Tryd.prog 9 #[.string s] w fun e w' => ∃ v, e = .returned (.tuple #[v, .int .i64 (rwC s)]) ∧ OwnV .i16 w.heap.size w' v (rwV s) ∧ Below w.heap.size w w' := by
  obtain ⟨iu, hu0, hu1, hu2, hu3⟩ := info_parts Tryd.infoW
  have HSP := Lib.hid (show Calls Tryd.prog 18 #[.string s, .int .u8 32] w fun e w' => ∃ v, e = .returned v ∧ w'.ownsRow w.heap.size 9 1 v (wds s).length ((wds s).map Value.string) ∧ Below w.heap.size w w' from (l01Split_any s 32 w hs).mono fun e w' ⟨v, h1, h2, h3⟩ => ⟨v, h1, by unfold wds; rw [List.length_map, List.map_map]; exact h2, h3⟩)
  have HX := Lib.hid (show ∀ x ∈ wds s, x.size ≤ 1048576 from fun x hx => Nat.le_trans (wds_size s x hx) hs)
  have hXb : (wds s).length ≤ 1048577 := by have := wds_le s; omega
  have hX1 := wds_ne s
  have HL := Lib.hid (show (∀ x ∈ wds s, OkB x) → (wds s).length ≤ 1048576 from fun h => by
    have := wds_len s (fun x hx => okN_ne (h x hx).1)
    omega)
  have HT := Lib.hid (And.intro (fun h => rw_t (s := s) h) (fun h => rw_f (s := s) h))
  clear hs
  generalize rwV s = RV at *
  generalize rwC s = RC at *
  generalize wds s = X at *
  go_enter Tryd.func9, Tryd.ntmps9
  go_wp2_with fail
  refine HSP.out.mono ?_
  rintro e w1 ⟨vw, rfl, hW, hb⟩
  clear HSP
  obtain ⟨g, N, rfl⟩ := row_slice hW hX1
  have HOW := Lib.hid (World.ownsRow_made (base := w.heap.size) (e := 33) (size := 1) w1 #[] 0 hb.size (by unfold maxLen; omega) (by simp))
  have HW := Lib.hid (hW.alloc (.cells #[] 33))
  have HB := Lib.hid (hb.alloc hb.size (.cells #[] 33))
  clear hb hW
  go_wp2
  go_loopw [5, 6] (fun pl i wr => (∃ (k : Nat) (v : Value), i = .int .i64 k ∧ pl = v ∧ k ≤ X.length ∧ wr.ownsRow w.heap.size 33 1 v k ((nmW (X.take k)).map (Value.int .i16)) ∧ (∀ x ∈ X.take k, OkB x) ∧ wr.ownsRow w.heap.size 9 1 (.slice (some ⟨g, 0, none⟩) X.length N) X.length (X.map Value.string) ∧ Below w.heap.size w wr)) (fun _ i _ => X.length - (intOf i).toNat)
  case atStart => exact ⟨0, _, rfl, rfl, Nat.zero_le _, by simpa [nmW] using HOW.out, fun x hx => absurd hx (by simp), HW.out, HB.out⟩
  case round =>
    clear HW HB HOW
    obtain ⟨k, _, rfl, rfl, hk, hown, hok, hW, hB⟩ := hrel
    by_cases hlt : k < X.length
    · have hkl : (k : Int) < (X.length : Int) := by omega
      have h2 := wd_at hW hlt
      have hx := HX.out (X.getD k ⟨#[]⟩) (getD_mem hlt)
      have HS := Lib.hid (fun h => allB_snoc hlt hok h)
      have HN := Lib.hid (nmW_snoc hlt)
      have HM := Lib.hid (getD_mem hlt)
      have HB := Lib.hid hB
      have HO := Lib.hid hown
      have HW := Lib.hid hW
      clear hok hB hown hW
      generalize X.getD k ⟨#[]⟩ = x at *
      have HC := Lib.hid (l01Number_any x wr hx)
      clear hx
      by_cases ho : OkB x
      · have HV := Lib.hid ho
        have hr : nmB x ≤ 2000 := ho.2
        have ho1 := ho.1
        rw [ho1] at HC
        have hnm : nmL 0 x.data.toList = nmB x := rfl
        rw [hnm] at HC
        clear ho ho1 hnm
        generalize nmB x = r at *
        go_wp2_with fail
        refine HC.out.mono ?_
        rintro e w2 ⟨v2, rfl, hv2, rfl⟩
        obtain rfl := hv2 (by first | rfl | trivial)
        clear hv2
        have hown := HO.out
        have hW := HW.out
        have hd2 : decide ((2000 : Int) < (r : Int)) = false := by simp; omega
        have hd2' : ¬ (2000 : Int) < (r : Int) := by omega
        clear HO HW HC
        obtain ⟨wq, rfl⟩ : ∃ wq : World, wq = wr := ⟨_, rfl⟩
        go_wp2_with (first
          | (at_builtin; refine wpList_append_own _ rfl _ _ 24 rfl w.heap.size 33 iu (.int .i16 0) 1 2 Tryd.underlying24 hu0 hu1 hu2 hu3 rfl (by decide) _ _ _ rfl (hown.alloc _) ⟨wq.heap.size, 0, none⟩ 1 1 [.int .i16 (r : Int)] rfl rfl ?c1 ?c2 ?c3 ?c4 ?c5 ?_)
          | go_in)
        case c1 =>
          intro j u hj
          match j, hj with
          | 0, hj => simp at hj; subst hj; simp [Addr.add]
        case c2 => intro u hu; simp at hu; subst hu; rfl
        case c3 => unfold maxLen; omega
        case c4 => omega
        case c5 => simp; have := HB.out.size; omega
        intro u' w5 hown' hgrow _
        have hB5 : Below w.heap.size w w5 := (HB.out.alloc HB.out.size _).grown hgrow (by simp; have := HB.out.size; omega) (fun j hj => (hown.lt j hj).1)
        have HW5 := Lib.hid ((hW.alloc _).kept hgrow (row_ne hW hown (by decide)))
        have HO5 := Lib.hid hown'
        have HB5 := Lib.hid hB5
        clear hown' hgrow hown hW HB hB5
        go_wp2
        go_roundw
        case rel => exact ⟨k + 1, u', by go_num, rfl, by omega, by rw [← HN.out]; exact HO5.out, HS.out HV.out, HW5.out, HB5.out⟩
        case measure => simp [intOf]; omega
      · have HE := Lib.hid (HT.out.2 (fun hg => ho (hg.1 x HM.out)))
        clear HO HW
        cases hoN : okN x.data.toList with
        | false =>
          rw [hoN] at HC
          clear ho hoN
          go_wp2_with fail
          refine HC.out.mono ?_
          rintro e w2 ⟨v2, rfl, -, rfl⟩
          clear HC
          go_wp2
          go_ret2
          exact ⟨_, ret2w rfl HE.out.2.symm, by rw [HE.out.1]; exact OwnV.nil _ _ _ _ _, HB.out.alloc HB.out.size _⟩
        | true =>
          have hr : ¬ nmB x ≤ 2000 := fun h => ho ⟨hoN, h⟩
          rw [hoN] at HC
          have hnm : nmL 0 x.data.toList = nmB x := rfl
          rw [hnm] at HC
          clear ho hoN hnm
          generalize nmB x = r at *
          go_wp2_with fail
          refine HC.out.mono ?_
          rintro e w2 ⟨v2, rfl, hv2, rfl⟩
          obtain rfl := hv2 (by first | rfl | trivial)
          clear hv2 HC
          have hd2 : decide ((2000 : Int) < (r : Int)) = true := by simp; omega
          have hd2' : (2000 : Int) < (r : Int) := by omega
          go_wp2
          go_ret2
          exact ⟨_, ret2w rfl HE.out.2.symm, by rw [HE.out.1]; exact OwnV.nil _ _ _ _ _, HB.out.alloc HB.out.size _⟩
    · have HA := Lib.hid (take_allW hlt)
      have HB := Lib.hid hB
      obtain rfl : k = X.length := by omega
      rw [HA.out] at hown
      have hov := OwnV.ofOwns (nmW_len X).symm hown
      have hall : ∀ x ∈ X, OkB x := by rw [HA.out] at hok; exact hok
      obtain ⟨g2, c2, rfl⟩ := row_slice hown hX1
      have hle : (nmW X).length ≤ 1048576 := by rw [nmW_len]; exact HL.out hall
      have hat : g2 < wr.heap.size ∧ At .i16 wr g2 0 (nmW X) := by
        rcases hov with ⟨he, _⟩ | ⟨b, c, hv, _, h2, h3, _⟩
        · have := congrArg List.length he; rw [nmW_len, List.length_nil] at this; omega
        · simp only [Value.slice.injEq, Option.some.injEq, Addr.mk.injEq] at hv
          obtain ⟨⟨rfl, _, _⟩, _, _⟩ := hv
          exact ⟨h2, h3⟩
      have hwf := nmW_i16 (fun x hx => (hall x hx).2)
      have HI := Lib.hid (l01Ok_any g2 0 c2 (nmW X) wr hle hat.2 hwf)
      rw [nmW_len] at HI
      have HO := Lib.hid hov
      cases hokw : okW (nmW X) with
      | true =>
        have HG := Lib.hid (HT.out.1 ⟨fun x hx => hall x hx, okW_of hokw⟩)
        rw [hokw] at HI
        clear hov hat hle hall hok hown hW hB HA hwf hokw
        go_wp2_with fail
        refine HI.out.mono ?_
        rintro e w2 ⟨rfl, hd⟩
        have HO2 := Lib.hid (HO.out.below hd.below (Nat.le_refl _))
        have HB2 := Lib.hid (HB.out.trans (hd.below.mono HB.out.size))
        clear hd HI
        go_wp2
        go_ret2
        exact ⟨_, ret2w rfl HG.out.2.symm, by rw [HG.out.1]; exact HO2.out, HB2.out⟩
      | false =>
        have HG := Lib.hid (HT.out.2 (fun hg => by rw [show okW (nmW X) = true from cb_t hg.2] at hokw; exact absurd hokw (by decide)))
        rw [hokw] at HI
        clear hov hat hle hall hok hown hW hB HA hwf hokw HO
        go_wp2_with fail
        refine HI.out.mono ?_
        rintro e w2 ⟨rfl, hd⟩
        have HB2 := Lib.hid (HB.out.trans (hd.below.mono HB.out.size))
        clear hd HI
        go_wp2
        go_ret2
        exact ⟨_, ret2w rfl HG.out.2.symm, by rw [HG.out.1]; exact OwnV.nil _ _ _ _ _, HB2.out.alloc HB2.out.size _⟩
end Go.Proofs.YteicfelaelhaiaaDoor
