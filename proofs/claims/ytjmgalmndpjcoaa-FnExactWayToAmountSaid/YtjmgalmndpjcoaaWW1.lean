/-
  The way to a water: what it is, and the model's walk.
-/
import Derived.Test.YtjmgalmndpjcoaaJS6
import Derived.Test.YtjmgalmndpjcoaaMovesFrom
import Derived.Laws.AppendOwn
namespace Go.Proofs.Ytjmgalmndpjcoaa
open Go.RowKit
set_option maxRecDepth 100000
set_option linter.unusedVariables false

/-- The state d moves ahead of the state i. -/
noncomputable def bkN (s : GS) (i : Nat) : Nat → Nat
  | 0 => i
  | d + 1 => (s.fr.getD (bkN s i d) 0).toNat
/-- The last d moves of the way to i. -/
noncomputable def wayD (n : Nat) (s : GS) (i : Nat) : Nat → List Mv
  | 0 => []
  | d + 1 => mvI (allM n) (s.mv.getD (bkN s i d) 0).toNat :: wayD n s i d
noncomputable def wayV (n : Nat) (s : GS) (i : Nat) : List Mv := wayD n s i (s.tb.getD i 0).toNat
theorem wayD_len (n : Nat) (s : GS) (i : Nat) : ∀ d, (wayD n s i d).length = d
  | 0 => rfl
  | d + 1 => by show (wayD n s i d).length + 1 = _; rw [wayD_len n s i d]
theorem bkN_bd {N M : Nat} {s : GS} (h : GInv N M s) {i : Nat} (hi : i < N) : ∀ d : Nat, (d : Int) ≤ s.tb.getD i 0 → bkN s i d < N ∧ s.tb.getD (bkN s i d) 0 = s.tb.getD i 0 - d
  | 0, _ => ⟨hi, by simp [bkN]⟩
  | d + 1, hd => by
    obtain ⟨h1, h2⟩ := bkN_bd h hi d (by omega)
    have h3 := h.prev _ h1 (by omega)
    have h4 := h.back _ h1
    exact ⟨by show (s.fr.getD _ 0).toNat < N; omega, by show s.tb.getD (s.fr.getD (bkN s i d) 0).toNat 0 = _; rw [h3.1, h2]; push_cast; omega⟩
def lenOfV : Value → Nat
  | .slice _ n _ => n
  | _ => 0
theorem mvals_one (ms : List Mv) : ∀ u ∈ mvals ms, u.oneCell' = true := fun u hu => by
  unfold mvals at hu
  obtain ⟨m, _, hm⟩ := List.mem_flatMap.1 hu
  simp only [List.mem_cons, List.not_mem_nil, or_false] at hm
  rcases hm with rfl | rfl | rfl <;> rfl
theorem OwnX.ofOwns {B B' n : Nat} {w : World} {v : Value} {t : TypeId} {ms : List Mv} (h : w.ownsRow B t 3 v n (mvals ms)) (hn : n = ms.length) (hB : B' ≤ B) : OwnX B' w v ms := by
  by_cases h0 : ms = []
  · subst h0
    subst hn
    rcases h.2 with ⟨hv, _⟩ | ⟨g9, cap9, cur9, hv, _⟩
    · exact ⟨none, 0, hv, .inl rfl⟩
    · exact ⟨some ⟨g9, 0, none⟩, cap9, hv, .inl rfl⟩
  · obtain ⟨g9, c9, hv, _, hB9, hg9, hM9, hF9⟩ := OwnM.ofOwns h hn (List.length_pos_iff.2 h0)
    exact ⟨some ⟨g9, 0, none⟩, c9, hv, .inr ⟨g9, rfl, by omega, hg9, hM9, hF9⟩⟩
set_option maxHeartbeats 4000000 in
theorem l02Way_any {n N M : Nat} {w0 : World} {S T Z U : Nat} {v0 : Value} {s : GS} (i : Nat) (w : World) (hI : GInv N M s) (hM : JMem n N [] w0 S T Z U v0 s w) (hN : N ≤ 5000) (hi : i < N) (ht : 0 ≤ s.tb.getD i 0) :
    Calls Try.prog 44 #[.pointer (some ⟨S, 0, none⟩), .int .i64 i] w fun e w' => ∃ v, e = .returned v ∧ OwnX w.heap.size w' v (wayV n s i) ∧ Below w.heap.size w w' := by
  obtain ⟨i0, hinf, hz0, hz1, hz2⟩ := info_parts Try.infoM
  have HBD := Lib.hid (bkN_bd hI hi)
  have HI := Lib.hid hI
  have hsh := hI.short
  have hfar := hI.far i hi
  have HJM := Lib.hid (fun W (hb : Below w.heap.size w W) => hM.next hb)
  obtain ⟨st, hst⟩ : ∃ st : Nat, s.tb.getD i 0 = (st : Int) := ⟨(s.tb.getD i 0).toNat, by omega⟩
  have HW := Lib.hid (show wayV n s i = wayD n s i st by unfold wayV; rw [hst]; rfl)
  rw [hst] at HBD hfar
  have HST := Lib.hid hst
  clear hI hM hst ht
  go_enter Try.func44, Try.ntmps44
  have hOW := Lib.hid (World.ownsRow_made (base := w.heap.size) (e := 78) (size := 3) w #[] 0 (Nat.le_refl _) (by unfold maxLen; omega) (by simp))
  have hBA := Lib.hid ((Below.refl w.heap.size w).alloc (Nat.le_refl _) (.cells #[] 78))
  go_wp2_with fail
  go_loopw [1, 5] (fun iv v wr => ∃ (d g c : Nat), iv = .int .i64 (bkN s i d : Nat) ∧ v = .slice (some ⟨g, 0, none⟩) d c ∧ d ≤ st ∧ wr.ownsRow w.heap.size 78 3 (.slice (some ⟨g, 0, none⟩) d c) d (mvals (wayD n s i d)) ∧ Below w.heap.size w wr) (fun _ v _ => st - lenOfV v)
  case atStart => exact ⟨0, _, _, rfl, rfl, Nat.zero_le _, hOW.out, hBA.out⟩
  case round =>
    clear hOW hBA
    obtain ⟨d, g, c, rfl, rfl, hd, hown, hB⟩ := hrel
    obtain ⟨hkN, hkt⟩ := HBD.out d (by omega)
    have hJ := HJM.out wr hB
    have hbk := HI.out.back _ hkN
    have HNX := Lib.hid (show bkN s i (d + 1) = (s.fr.getD (bkN s i d) 0).toNat from rfl)
    have HWD := Lib.hid (show wayD n s i (d + 1) = mvI (allM n) (s.mv.getD (bkN s i d) 0).toNat :: wayD n s i d from rfl)
    have hwl := wayD_len n s i d
    generalize bkN s i d = k at *
    obtain ⟨s0, s1, s2, s3, -⟩ := hJ.bS.four
    have t1 : wr.cell? ⟨T, k, none⟩ = some (.int .i16 ((st : Int) - d)) := by
      rw [hJ.bT.cell, ← hkt]; exact ncells_get _ _ _ (by rw [HI.out.tb]; exact hkN)
    have hki : (k : Int) < (N : Int) := by omega
    by_cases hlt : d < st
    · have u0 := mcells_get (mvL n s.mv) (k * 3) (by rw [mvL_len, HI.out.mv]; omega)
      have u1 := mcells_get (mvL n s.mv) (k * 3 + 1) (by rw [mvL_len, HI.out.mv]; omega)
      have u2 := mcells_get (mvL n s.mv) (k * 3 + 2) (by rw [mvL_len, HI.out.mv]; omega)
      rw [mcell_0, mvL_get (by rw [HI.out.mv]; exact hkN), ← hJ.bU.cell] at u0
      rw [mcell_1, mvL_get (by rw [HI.out.mv]; exact hkN), ← hJ.bU.cell] at u1
      rw [mcell_2, mvL_get (by rw [HI.out.mv]; exact hkN), ← hJ.bU.cell] at u2
      generalize mvI (allM n) (s.mv.getD k 0).toNat = m3 at *
      obtain ⟨v0, v1, v2⟩ := m3
      simp only at u0 u1 u2
      have hpos : (0 : Int) < (st : Int) - d := by omega
      have hsz := hB.size
      have HOV := Lib.hid (show (wr.alloc (.cells #[.int .i8 v0, .int .i8 v1, .int .i8 v2] 78)).ownsRow w.heap.size 78 3 (.slice (some ⟨wr.heap.size, 0, none⟩) 1 1) 1 [.int .i8 v0, .int .i8 v1, .int .i8 v2] from ⟨rfl, .inr ⟨wr.heap.size, 1, _, rfl, hsz, heap_alloc_new wr _, Nat.le_refl _, by decide, rfl, rfl⟩⟩)
      have HOL := Lib.hid (show ∀ j u, (mvals (wayD n s i d))[j]? = some u → (wr.alloc (.cells #[.int .i8 v0, .int .i8 v1, .int .i8 v2] 78)).cell? ((⟨g, 0, none⟩ : Addr).add j) = some u from fun j u hu => (hown.alloc _).cells (g := g) rfl j u hu)
      have HB := Lib.hid hB
      clear hB hJ
      go_wp2_with (at_builtin; refine wpList_append_own _ rfl _ _ 39 rfl w.heap.size 78 i0 (.agg #[.int .i8 0, .int .i8 0, .int .i8 0]) 3 3 Try.underlying39 hinf hz0 hz1 hz2 rfl (by decide) (.slice (some ⟨wr.heap.size, 0, none⟩) 1 1) 1 _ rfl HOV.out ⟨g, 0, none⟩ d c (mvals (wayD n s i d)) rfl (by rw [mvals_len, hwl]) HOL.out (mvals_one _) (by unfold maxLen; omega) (by omega) (by simp; omega) ?_)
      intro v' w1 hown' hgrow hnil
      obtain ⟨g', cap', rfl, -, -⟩ := hown'.form (by omega)
      have HB1 := Lib.hid (show Below w.heap.size w w1 from (HB.out.alloc hsz _).grown hgrow (by simp; omega) (fun j hj => by have e : wr.heap.size = j := Option.some.inj hj; omega))
      have hJ1 := HJM.out w1 HB1.out
      obtain ⟨s0', s1', s2', s3', -⟩ := hJ1.bS.four
      have t2 : w1.cell? ⟨Z, k, none⟩ = some (.int .i64 (s.fr.getD k 0)) := by
        rw [hJ1.bZ.cell]; exact ncells_get _ _ _ (by rw [HI.out.fr]; exact hkN)
      have HON := Lib.hid (show w1.ownsRow w.heap.size 78 3 (.slice (some ⟨g', 0, none⟩) (d + 1) cap') (d + 1) (mvals (wayD n s i (d + 1))) by rw [HWD.out, Nat.add_comm d 1]; exact hown')
      clear hown' hgrow hnil hJ1 HB HOV HOL hown s0 s1 s2 s3 t1 u0 u1 u2
      have hfe : s.fr.getD k 0 = ((bkN s i (d + 1) : Nat) : Int) := by rw [HNX.out]; omega
      rw [hfe] at t2
      go_wp2
      go_roundw
      case rel => exact ⟨d + 1, g', cap', rfl, by rw [Nat.add_comm], by omega, HON.out, HB1.out⟩
      case measure => simp [lenOfV]; omega
    · obtain rfl : d = st := by omega
      have HO := Lib.hid (OwnX.ofOwns (B' := w.heap.size) hown hwl.symm (Nat.le_refl _))
      have hz : ¬ (0 : Int) < (d : Int) - d := by omega
      clear hJ hown
      go_wp2
      go_ret
      exact ⟨_, rfl, by rw [HW.out]; exact HO.out, hB⟩
end Go.Proofs.Ytjmgalmndpjcoaa
