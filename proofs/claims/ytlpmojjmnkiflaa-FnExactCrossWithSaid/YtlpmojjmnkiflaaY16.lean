/-
  All crossings, one after the other.
-/
import Derived.Test.YtlpmojjmnkiflaaY15
namespace Go.Proofs.Ytlpmojjmnkiflaa
open Go.RowKit
set_option maxRecDepth 100000
set_option linter.unusedVariables false

/-- The bank behind the first j loads, and the code; nothing is done behind a code. -/
def cTo (l k : Int) (xs : List Int) (n : Int) (f : Bool) (us : List Int) : Nat → Int × Bool × Int
  | 0 => (n, f, 0)
  | j + 1 => if (cTo l k xs n f us j).2.2 = 0 then (crN l k xs (cTo l k xs n f us j).1 (cTo l k xs n f us j).2.1 (us.getD j 0), crF l k xs (cTo l k xs n f us j).1 (cTo l k xs n f us j).2.1 (us.getD j 0), cdL l k xs (cTo l k xs n f us j).1 (cTo l k xs n f us j).2.1 (us.getD j 0)) else cTo l k xs n f us j
theorem cTo_n {l k : Int} {xs : List Int} {n : Int} {f : Bool} {us : List Int} {j m : Nat} (hm : j ≤ m) (h : (cTo l k xs n f us j).2.2 ≠ 0) : cTo l k xs n f us m = cTo l k xs n f us j := by
  induction m with
  | zero => rw [show j = 0 by omega]
  | succ m ih =>
    by_cases e : j = m + 1
    · rw [e]
    · rw [cTo, if_neg (by rw [ih (by omega)]; exact h)]
      exact ih (by omega)
theorem bk_near {l : Int} {xs : List Int} {n : Int} {f : Bool} (h : bkX l xs n f = true) : bits .andNot .u16 n (allI l) = 0 := by
  unfold bkX at h
  simp only [Bool.and_eq_true, beq_iff_eq] at h
  exact h.1
theorem cdL_bk {l k : Int} {xs : List Int} {n : Int} {f : Bool} {x : Int} (h : cdL l k xs n f x = 0) : bkX l xs (xorI n x) (!f) = true := by
  unfold cdL at h
  by_cases h1 : offL l n f x = true
  · rw [if_pos h1] at h; exact absurd h (by decide)
  · rw [if_neg h1] at h
    by_cases h2 : k < (sz x.toNat : Int)
    · rw [if_pos h2] at h; exact absurd h (by decide)
    · rw [if_neg h2] at h
      by_cases h3 : bkX l xs (xorI n x) (!f) = true
      · exact h3
      · rw [if_neg h3] at h; exact absurd h (by decide)
theorem cTo_0 {l k : Int} {xs : List Int} {n : Int} {f : Bool} {us : List Int} {j : Nat} {n' : Int} {f' : Bool} (h : cTo l k xs n f us j = (n', f', 0)) (h2 : cdL l k xs n' f' (us.getD j 0) = 0) : cTo l k xs n f us (j + 1) = (xorI n' (us.getD j 0), !f', 0) := by
  rw [cTo, h]
  simp only [if_true]
  obtain ⟨e1, e2, e3⟩ := cr_0 h2
  rw [e1, e2, e3]
theorem cTo_e {l k : Int} {xs : List Int} {n : Int} {f : Bool} {us : List Int} {j : Nat} {n' : Int} {f' : Bool} {c : Int} (h : cTo l k xs n f us j = (n', f', 0)) (h2 : cdL l k xs n' f' (us.getD j 0) = c) (hc : c ≠ 0) {m : Nat} (hm : j + 1 ≤ m) : cTo l k xs n f us m = (0, false, c) := by
  have e : cTo l k xs n f us (j + 1) = (0, false, c) := by
    rw [cTo, h]
    simp only [if_true]
    obtain ⟨e1, e2, e3⟩ := cr_n h2 hc
    rw [e1, e2, e3]
  rw [cTo_n hm (by rw [e]; exact hc), e]
/-- A store of a bank into the second of four blocks. -/
theorem FR.bank3 {w0 w : World} {s : Nat} {v0 v1 u0 u1 : Value} {A B C : Array Value} {tA tB t tC : TypeId} (hs : s = w0.heap.size) (h : FR w0 [(s + 3, A, tA), (s + 2, B, tB), (s + 1, #[v0, v1], t), (s, C, tC)] w) :
    FR w0 [(s + 3, A, tA), (s + 2, B, tB), (s + 1, #[u0, u1], t), (s, C, tC)] ((w.setCell ⟨s + 1, 0, none⟩ u0).setCell ⟨s + 1, 1, none⟩ u1) := by
  have h3 := h.blk _ List.mem_cons_self
  have h2 := h.blk _ (List.mem_cons_of_mem _ List.mem_cons_self)
  have h1 := h.blk _ (List.mem_cons_of_mem _ (List.mem_cons_of_mem _ List.mem_cons_self))
  have h0 := h.blk _ (List.mem_cons_of_mem _ (List.mem_cons_of_mem _ (List.mem_cons_of_mem _ List.mem_cons_self)))
  dsimp only at h0 h1 h2 h3
  refine ⟨(h.below.setCell (p := ⟨s + 1, 0, none⟩) (by simp; omega) u0).setCell (p := ⟨s + 1, 1, none⟩) (by simp; omega) u1, fun p hp => ?_, fun p L' e => ?_⟩
  · rcases List.mem_cons.1 hp with rfl | hp
    · exact (h3.setOther (by omega) _ _).setOther (by omega) _ _
    rcases List.mem_cons.1 hp with rfl | hp
    · exact (h2.setOther (by omega) _ _).setOther (by omega) _ _
    rcases List.mem_cons.1 hp with rfl | hp
    · exact (h1.set 0 u0).set 1 u1
    rcases List.mem_cons.1 hp with rfl | hp
    · exact (h0.setOther (by omega) _ _).setOther (by omega) _ _
    · cases hp
  · cases e
    refine ⟨by simp; omega, fun q hq => ?_⟩
    rcases List.mem_cons.1 hq with rfl | hq
    · simp
    rcases List.mem_cons.1 hq with rfl | hq
    · simp
    rcases List.mem_cons.1 hq with rfl | hq
    · simp
    · cases hq
theorem res_crossAll {W : World} {b d : Nat} {v0 v1 u : Value} {t t2 : TypeId} (K : Blk W b #[v0, v1] t) (K2 : Blk W d #[u] t2) (tmps : Array Value) (h6 : tmps.getD 6 undef = .pointer (some ⟨b, 0, none⟩)) (h7 : tmps.getD 7 undef = .pointer (some ⟨d, 0, none⟩)) : (results Try.f37 tmps).run Try.prog W = .ok (.tuple #[.agg #[v0, v1], u]) W := by
  have h6' : tmps[6]?.getD undef = .pointer (some ⟨b, 0, none⟩) := by simpa using h6
  have h7' : tmps[7]?.getD undef = .pointer (some ⟨d, 0, none⟩) := by simpa using h7
  have e0 := K.cell 0
  have e1 := K.cell 1
  have e2 := K2.cell 0
  simp at e0 e1 e2
  simp [results, Try.results37, go_sem, e0, e1, e2, h6', h7']
set_option maxHeartbeats 4000000 in
theorem crossAll_any (l k : Int) (a : Option Addr) (c : Nat) (xs : List Int) (n : Int) (f : Bool) (a2 : Option Addr) (c2 : Nat) (us : List Int) (w : World) (hs : Sl .u16 w.heap.size w a xs) (hn : xs.length ≤ 1048576) (hw : U16 xs) (hl : 1 ≤ l ∧ l ≤ 8) (hk : 0 ≤ k ∧ k ≤ 8)
    (hs2 : Sl .u16 w.heap.size w a2 us) (hn2 : us.length ≤ 1048576) (hw2 : U16 us) :
    Calls Try.prog 37 #[ferV l k a xs.length c, bankV n f, .slice a2 us.length c2] w fun e w' => e = .returned (.tuple #[bankV (cTo l k xs n f us us.length).1 (cTo l k xs n f us us.length).2.1, .int .i64 (cTo l k xs n f us us.length).2.2]) ∧ Below w.heap.size w w' := by
  have F0 := ((((FR.start w).box #[.int .i8 l, .int .i8 k, .slice a xs.length c] 33).box #[.int .u16 n, .bool f] 30).box #[.int .u16 0, .bool false] 30).box #[.int .i64 0] 2
  simp only [World.size_alloc] at F0
  have hmf : ∀ (fn : Fn) (first cap : Array Value) (w : World), (Instr.makeFunc fn first cap).run Try.prog w = .ok (.func fn first cap) w := fun _ _ _ _ => rfl
  have HOK := Lib.hid (fun (W : World) (m : Int) (g : Bool) (x : Int) (hb : Below w.heap.size w W) => cross_ok l k a c xs m g x W (hs.up hb (Nat.le_refl _)) hn hw hl hk)
  have HBAD := Lib.hid (fun (W : World) (m : Int) (g : Bool) (x : Int) (hb : Below w.heap.size w W) => cross_bad l k a c xs m g x W (hs.up hb (Nat.le_refl _)) hn hw hl hk)
  have HU := Lib.hid (And.intro hs2 hw2)
  clear hs hw hl hk hs2 hw2
  obtain ⟨q, hq⟩ : ∃ q, us.length = q := ⟨_, rfl⟩
  have HQ := Lib.hid hq
  rw [hq] at hn2 ⊢
  clear hq
  generalize xs.length = m at *
  go_enter_defers Try.func37, Try.ntmps37
  go_wp2
  go_loopw [13] (fun i wr => ∃ (j : Nat) (n' : Int) (f' : Bool), i = .int .i64 j ∧ j ≤ q ∧ cTo l k xs n f us j = (n', f', 0) ∧ FR w [(w.heap.size + 3, #[.int .i64 0], 2), (w.heap.size + 2, #[.int .u16 0, .bool false], 30), (w.heap.size + 1, #[.int .u16 n', .bool f'], 30), (w.heap.size, #[.int .i8 l, .int .i8 k, .slice a m c], 33)] wr) (fun i _ => q - (intOf i).toNat)
  case atStart => exact ⟨0, n, f, rfl, Nat.zero_le _, rfl, F0⟩
  case round =>
    obtain ⟨j, n', f', rfl, hj, hc, F1⟩ := hrel
    have HC := Lib.hid hc
    clear hc F0
    have KK := F1.blk _ (List.mem_cons_of_mem _ (List.mem_cons_of_mem _ (List.mem_cons_of_mem _ List.mem_cons_self)))
    obtain ⟨c0, c1, c2, -⟩ := KK.three
    obtain ⟨d0, d1, df⟩ := (F1.blk _ (List.mem_cons_of_mem _ (List.mem_cons_of_mem _ List.mem_cons_self))).two
    clear KK
    by_cases hlt : j < q
    case neg =>
      have HE := Lib.hid (show cTo l k xs n f us q = (n', f', 0) by rw [show q = j by omega]; exact HC.out)
      have hr2 := F1.blk _ (List.mem_cons_of_mem _ List.mem_cons_self)
      have hr3 := F1.blk _ List.mem_cons_self
      dsimp only at hr2 hr3
      have h2 := ((hr2.set 0 (.int .u16 n')).set 1 (.bool f')).setOther (show w.heap.size + 2 ≠ w.heap.size + 3 by omega) 0 (.int .i64 0)
      have h3 := ((hr3.setOther (show w.heap.size + 3 ≠ w.heap.size + 2 by omega) 0 (.int .u16 n')).setOther (show w.heap.size + 3 ≠ w.heap.size + 2 by omega) 1 (.bool f')).set 0 (.int .i64 0)
      have HB := Lib.hid (And.intro h2 (And.intro h3 (((F1.below.setCell (p := ⟨w.heap.size + 2, 0, none⟩) (by simp) (.int .u16 n')).setCell (p := ⟨w.heap.size + 2, 1, none⟩) (by simp) (.bool f')).setCell (p := ⟨w.heap.size + 3, 0, none⟩) (by simp) (.int .i64 0))))
      obtain ⟨e0, e1, ef⟩ := hr2.two
      have g0 := hr3.cell 0
      have gf := hr3.free
      simp at g0
      clear hr2 hr3 h2 h3 F1 HU
      go_wp2
      refine leaves_cons (f := 55) (args := #[.pointer (some ⟨w.heap.size + 1 + 1, 0, none⟩), .pointer (some ⟨w.heap.size + 1 + 1 + 1, 0, none⟩)]) (by simp) (by simp [go_sem]) ?_
      refine (catch_idle ⟨w.heap.size + 1 + 1, 0, none⟩ ⟨w.heap.size + 1 + 1 + 1, 0, none⟩ _).mono ?_
      rintro e u' w'' ⟨rfl, rfl, rfl⟩
      exact ⟨_, res_crossAll HB.out.1 HB.out.2.1 _ rfl rfl, by rw [HE.out], HB.out.2.2⟩
    have hkl : (j : Int) < (q : Int) := by omega
    obtain ⟨b2, off2, rfl, hb2, hc2⟩ : ∃ b off, a2 = some ⟨b, off, none⟩ ∧ b < w.heap.size ∧ At .u16 w b off us := by
      rcases HU.out.1 with h | h
      · have := HQ.out; subst h; simp at this; omega
      · exact h
    have p0 := (hc2.below F1.below hb2) j (by rw [HQ.out]; exact hlt)
    have HX := Lib.hid (HU.out.2 j)
    have HO0 := Lib.hid (fun h => cTo_0 HC.out h)
    have HOE := Lib.hid (fun (h : ¬ cdL l k xs n' f' (us.getD j 0) = 0) => cTo_e HC.out rfl h (show j + 1 ≤ q by omega))
    have HOK2 := Lib.hid (HOK.out _ n' f' (us.getD j 0) F1.below HX.out)
    have HBAD2 := Lib.hid (HBAD.out _ n' f' (us.getD j 0) F1.below HX.out)
    clear hc2 HOK HBAD HC
    generalize us.getD j 0 = x at *
    by_cases h0 : cdL l k xs n' f' x = 0
    · have HOK3 := Lib.hid (HOK2.out h0)
      have HN := Lib.hid (HO0.out h0)
      clear HOK2 HBAD2 HO0 HOE h0
      go_wp2_with fail
      refine HOK3.out.mono ?_
      rintro e w2 ⟨rfl, hb⟩
      have F2 := F1.next hb
      clear F1 hb c0 c1 d0 d1 df p0 HOK3
      obtain ⟨d0, d1, df⟩ := (F2.blk _ (List.mem_cons_of_mem _ (List.mem_cons_of_mem _ List.mem_cons_self))).two
      have HF3 := Lib.hid (F2.bank3 rfl (u0 := .int .u16 (xorI n' x)) (u1 := .bool !f'))
      clear F2
      go_wp2
      go_roundw
      case rel => exact ⟨j + 1, _, _, by go_num, by omega, HN.out, HF3.out⟩
      case measure => simp [intOf]; omega
    · have HBAD3 := Lib.hid (HBAD2.out h0)
      have HN := Lib.hid (HOE.out h0)
      clear HOK2 HBAD2 HO0 HOE h0
      generalize cdL l k xs n' f' x = co at *
      go_wp2_with fail
      refine HBAD3.out.mono ?_
      rintro e w2 ⟨rfl, hb⟩
      have F2 := F1.next hb
      have HB := Lib.hid (And.intro (F2.blk _ (List.mem_cons_of_mem _ List.mem_cons_self)) (And.intro (F2.blk _ List.mem_cons_self) F2.below))
      clear F1 F2 hb c0 c1 d0 d1 df p0 HBAD3
      refine leaves_cons (f := 55) (args := #[.pointer (some ⟨w.heap.size + 1 + 1, 0, none⟩), .pointer (some ⟨w.heap.size + 1 + 1 + 1, 0, none⟩)]) (by simp) (by simp [go_sem]) ?_
      refine (catch_panicking (w.heap.size + 1 + 1) (w.heap.size + 1 + 1 + 1) co _ _ _ [] _ HB.out.1 HB.out.2.1 (by omega)).mono ?_
      rintro e u' w'' ⟨rfl, rfl, h1, h2, h3⟩
      exact ⟨_, res_crossAll h1 h2 _ rfl rfl, by rw [HN.out], HB.out.2.2.trans (h3 _ (by omega) (by omega) HB.out.2.2.size)⟩
end Go.Proofs.Ytlpmojjmnkiflaa
