/-
  The walk of CasesOf: the cases collected.
-/
import Derived.Test.YtlbiakoofpgdmaaC3
namespace Go.Proofs.Ytlbiakoofpgdmaa
open Go.RowKit Go.Shelf
set_option maxRecDepth 100000
set_option linter.unusedVariables false

attribute [local go_sem] Oper.semAt_some

/-- The cells of cases, one behind the other. -/
def cvals (cs : List Cs) : List Value := cs.flatMap (fun x => [.int .i8 x.1, .bool x.2])
theorem cvals_snoc (cs : List Cs) (x : Cs) : cvals (cs ++ [x]) = cvals cs ++ [.int .i8 x.1, .bool x.2] := by simp [cvals]
theorem cvals_len (cs : List Cs) : (cvals cs).length = cs.length * 2 := by
  induction cs with
  | nil => rfl
  | cons m ms ih => rw [show cvals (m :: ms) = [.int .i8 m.1, .bool m.2] ++ cvals ms from rfl, List.length_append, ih, List.length_cons]; simp; omega
theorem Try.infoC : (Try.prog.info? 60).map (fun i => (i.zero, i.size, i.bytes)) = some (some (.agg #[.int .i8 0, .bool false]), 2, 2) := by kernel_rfl

/-- These values lie in block b from off on. -/
def VAt (w : World) (b off : Nat) (vs : List Value) : Prop := ∀ j v, vs[j]? = some v → w.cell? ⟨b, off + j, none⟩ = some v
theorem VAt.below {w w' : World} {b off B : Nat} {vs : List Value} (h : VAt w b off vs) (hb : Below B w w') (hB : b < B) : VAt w' b off vs := fun j v hj => (hb.cell (p := ⟨b, off + j, none⟩) hB).trans (h j v hj)
/-- A slice that a call has made, with room to write; nothing is known of one without elements. -/
def OwnX (lo : Nat) (w : World) (v : Value) (n : Nat) (vs : List Value) : Prop := ∃ a c, v = .slice a n c ∧ (vs = [] ∨ ∃ g, a = some ⟨g, 0, none⟩ ∧ lo ≤ g ∧ g < w.heap.size ∧ VAt w g 0 vs ∧ ∀ j, w.frozen? ⟨g, j, none⟩ = false)
theorem OwnX.ofOwns {B n size : Nat} {w : World} {v : Value} {t : TypeId} {vs : List Value} (h : w.ownsRow B t size v n vs) : OwnX B w v n vs := by
  have hv := h.1
  rcases h.2 with ⟨rfl, rfl⟩ | ⟨g, cap, cur, rfl, hB, hg, hnc, _, hs, htake⟩
  · exact ⟨none, 0, rfl, .inl (List.eq_nil_of_length_eq_zero (by rw [hv, Nat.zero_mul]))⟩
  · refine ⟨some ⟨g, 0, none⟩, cap, rfl, .inr ⟨g, rfl, hB, (Array.getElem?_eq_some_iff.1 hg).1, fun j u hu => ?_, fun j => by simp [World.frozen?, hg]⟩⟩
    have h1 : (cur.toList.take (n * size))[j]? = vs[j]? := by rw [htake]
    have hj : j < n * size := by rw [← hv]; exact (List.getElem?_eq_some_iff.1 hu).1
    rw [List.getElem?_take_of_lt hj, hu] at h1
    have h2 : cur[j]? = some u := by simpa using h1
    simp [World.cell?, hg, h2]
theorem OwnX.below {lo n : Nat} {w w' : World} {v : Value} {vs : List Value} (h : OwnX lo w v n vs) (hb : Below w.heap.size w w') : OwnX lo w' v n vs := by
  obtain ⟨a, c, rfl, h⟩ := h
  refine ⟨a, c, rfl, ?_⟩
  rcases h with h | ⟨g, rfl, h1, h2, h3, h4⟩
  · exact .inl h
  · exact .inr ⟨g, rfl, h1, Nat.lt_of_lt_of_le h2 hb.size, h3.below hb h2, fun j => by rw [hb.frozen (p := ⟨g, j, none⟩) h2]; exact h4 j⟩
theorem OwnX.mono {lo lo' n : Nat} {w : World} {v : Value} {vs : List Value} (h : OwnX lo w v n vs) (hl : lo' ≤ lo) : OwnX lo' w v n vs := by
  obtain ⟨a, c, rfl, h⟩ := h
  refine ⟨a, c, rfl, ?_⟩
  rcases h with h | ⟨g, rfl, h1, h2⟩
  · exact .inl h
  · exact .inr ⟨g, rfl, Nat.le_trans hl h1, h2⟩
theorem OwnX.nil (lo : Nat) (w : World) (a : Option Addr) (n c : Nat) : OwnX lo w (.slice a n c) n [] := ⟨a, c, rfl, .inl rfl⟩

/-- The cases of a task; none of one that is not valid. -/
noncomputable def casL (c k : Int) (n : Bool) : List Cs := if okT c k = true then upC k n c.toNat else []
noncomputable def casC (c k : Int) : Int := if okT c k = true then 0 else 1
theorem cas_t {c k : Int} (n : Bool) (h : okT c k = true) : casL c k n = upC k n c.toNat ∧ casC c k = 0 := by unfold casL casC; rw [if_pos h, if_pos h]; exact ⟨rfl, rfl⟩
theorem cas_f {c k : Int} (n : Bool) (h : okT c k = false) : casL c k n = [] ∧ casC c k = 1 := by unfold casL casC; simp [h]
theorem okT_t {c k : Int} (h : okT c k = true) : (1 ≤ c.toNat ∧ c.toNat ≤ 13) ∧ (0 ≤ k ∧ k ≤ 2) ∧ c = (c.toNat : Int) := by
  obtain ⟨h1, h2⟩ := of_cb h
  exact ⟨by omega, h2, by omega⟩
theorem casL_len (c k : Int) (n : Bool) : (casL c k n).length ≤ 27 := by
  unfold casL
  split
  case isTrue h => have := upC_len k n c.toNat; have := okT_t h; omega
  case isFalse h => simp
/-- Where a case stands among those of a task. -/
noncomputable def fndV (c k : Int) (n : Bool) (x : Cs) : Nat := if okT c k = true then fcV (upC k n c.toNat) x else 0
noncomputable def fndC (c k : Int) (n : Bool) (x : Cs) : Int := if okT c k = true then fcC (upC k n c.toNat) x else 1
theorem findCase_any (c k : Int) (nn gg : Bool) (cc : Int) (hh : Bool) (w : World) (hc : B8 c) (hk : B8 k) :
    Calls Try.prog 57 #[taskV c k nn gg, caseV cc hh] w fun e W' => e = .returned (.tuple #[.int .i64 (fndV c k nn (cc, hh) : Nat), .int .i64 (fndC c k nn (cc, hh))]) ∧ Below w.heap.size w W' := by
  cases hok : okT c k
  · unfold fndV fndC
    rw [hok]
    simp only [Bool.false_eq_true, if_false]
    have F0 := ((((FR.start w).box #[.int .i8 c, .int .i8 k, .bool nn, .bool gg] 32).box #[.int .i8 cc, .bool hh] 60).box #[.int .i64 0] 2).box #[.int .i64 0] 2
    simp only [World.size_alloc] at F0
    have HV := Lib.hid (fun W => validTask_any c k nn gg W hc hk)
    rw [hok] at HV
    clear hc hk hok
    go_enter Try.func57, Try.ntmps57
    go_wp2_with fail
    refine (HV.out _).mono ?_
    rintro e w2 ⟨rfl, hb⟩
    have F1 := F0.next hb
    clear hb F0
    have b2 := F1.blk _ (List.mem_cons_of_mem _ List.mem_cons_self)
    have b1 := F1.blk _ List.mem_cons_self
    dsimp only at b1 b2
    have e0 := b2.cell 0
    have e1 := b1.cell 0
    have e2 := b2.free 0
    have e3 := b1.free 0
    have HF := Lib.hid F1
    clear F1
    go_wp2
    have k2 := (b2.set 0 (.int .i64 0)).setOther (show w.heap.size + 1 + 1 ≠ w.heap.size + 1 + 1 + 1 by omega) 0 (.int .i64 1)
    have k1 := (b1.setOther (show w.heap.size + 1 + 1 + 1 ≠ w.heap.size + 1 + 1 by omega) 0 (.int .i64 0)).set 0 (.int .i64 1)
    have r4 := k2.cell 0
    have r5 := k1.cell 0
    simp at r4 r5
    exact bodyPost_ret (v := .tuple #[.int .i64 0, .int .i64 1]) (by simp [results, Try.results57, go_sem, r4, r5]) rfl ⟨rfl, setAt (setAt HF.out.below (by omega) 0 _) (by omega) 0 _⟩
  · obtain ⟨hm, hk', hmc⟩ := okT_t hok
    unfold fndV fndC
    rw [hok]
    simp only [if_true]
    rw [hmc]
    simp only [Int.toNat_natCast]
    exact callsIn_wide.1 (findCase_in c.toNat k nn gg cc hh hm hk' w)
end Go.Proofs.Ytlbiakoofpgdmaa
