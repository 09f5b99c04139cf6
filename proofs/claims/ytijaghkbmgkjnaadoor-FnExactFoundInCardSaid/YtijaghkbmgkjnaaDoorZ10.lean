/-
  The walks of ValidGame and its model.
-/
import Derived.Test.YtijaghkbmgkjnaaDoorZ9
import Derived.StillTailTactics
namespace Go.Proofs.YtijaghkbmgkjnaaDoor
open Go.RowKit
set_option maxRecDepth 100000
set_option linter.unusedVariables false

/-- A question about a number that is none of the game. -/
def badA (l : Int) (q : Ak) : Bool := !inSet l q.1
def okG (l k : Int) (qs : List Ak) : Bool := decide (1 ≤ l ∧ l ≤ 60) && decide (0 ≤ k ∧ k ≤ 3) && decide ((qs.length : Int) ≤ 60) && !(qs.any (badA l))
theorem okG_t {l k : Int} {qs : List Ak} (h : okG l k qs = true) : (1 ≤ l ∧ l ≤ 60) ∧ (0 ≤ k ∧ k ≤ 3) ∧ qs.length ≤ 60 ∧ qs.any (badA l) = false := by
  unfold okG at h
  simp only [Bool.and_eq_true, decide_eq_true_eq, Bool.not_eq_true'] at h
  exact ⟨h.1.1.1, h.1.1.2, by omega, h.2⟩
theorem okG_n1 {l k : Int} {qs : List Ak} (h : ¬ (1 ≤ l ∧ l ≤ 60)) : okG l k qs = false := by unfold okG; rw [decide_eq_false h]; rfl
theorem okG_n2 {l k : Int} {qs : List Ak} (h : ¬ (0 ≤ k ∧ k ≤ 3)) : okG l k qs = false := by unfold okG; rw [decide_eq_false h]; simp
theorem okG_n3 {l k : Int} {qs : List Ak} (h : ¬ ((qs.length : Int) ≤ 60)) : okG l k qs = false := by unfold okG; rw [decide_eq_false h]; simp
theorem okG_y {l k : Int} {qs : List Ak} (h1 : 1 ≤ l ∧ l ≤ 60) (h2 : 0 ≤ k ∧ k ≤ 3) (h3 : (qs.length : Int) ≤ 60) : okG l k qs = !(qs.any (badA l)) := by unfold okG; rw [decide_eq_true h1, decide_eq_true h2, decide_eq_true h3]; rfl
/-- The closure that looks for a question about a number that is none. -/
theorem vg1_any (fb : Nat) (l k : Int) (v2 : Value) (x : Ak) (w : World) (K : Blk w fb #[.int .i8 l, .int .i8 k, v2] 31) (hv : ∃ a n c, v2 = .slice a n c) (hl : 1 ≤ l ∧ l ≤ 60) (hx : U64 x.1) :
    Calls Tryd.prog 24 #[askV x, .pointer (some ⟨fb, 0, none⟩)] w fun e w' => e = .returned (.bool (badA l x)) ∧ Below w.heap.size w w' := by
  obtain ⟨a, n, c, rfl⟩ := hv
  have HH := Lib.hid (fun W => hasSet_any l k a n c x.1 W hx hl)
  have HB := Lib.hid ((FR.start w).box #[.int .u64 x.1, .bool x.2] 51)
  obtain ⟨c0, c1, c2, -⟩ := (K.alloc (.cells #[.int .u64 x.1, .bool x.2] 51)).three
  have HR := Lib.hid (show badA l x = !inSet l x.1 from rfl)
  generalize inSet l x.1 = q at *
  have hne := K.lt
  clear K hl
  go_enter Tryd.func24, Tryd.ntmps24
  go_wp2_with fail
  refine (HH.out _).mono ?_
  rintro e w2 ⟨rfl, hb⟩
  have HF := Lib.hid (HB.out.next hb).below
  clear hb c0 c1 c2
  go_wp2
  go_ret
  exact ⟨retb (by rw [HR.out]), HF.out⟩
theorem call_vg1 (args : Array Value) (W : World) : (callFunc 24 args).run Tryd.prog W = .ok (.enter 24 args) W := by go_simp
set_option maxHeartbeats 2000000 in
theorem validGame_any (l k : Int) (a : Option Addr) (c : Nat) (xs : List Ak) (w : World) (hs : Sla w.heap.size w a xs) (hl : B8 l) (hk : B8 k) (hn : xs.length ≤ 1048576) (hw : Aall xs) :
    Calls Tryd.prog 13 #[gamV l k a xs.length c] w fun e w' => e = .returned (.bool (okG l k xs)) ∧ Below w.heap.size w w' := by
  have F0 := (FR.start w).box #[.int .i8 l, .int .i8 k, .slice a xs.length c] 31
  have HL := Lib.hid (fun W => within_any l 1 60 W)
  have HK := Lib.hid (fun W => within_any k 0 3 W)
  unfold B8 at hl hk
  have HB := Lib.hid F0.below
  have HKK := Lib.hid (F0.blk _ List.mem_cons_self)
  obtain ⟨c0, c1, c2, -⟩ := (F0.blk _ List.mem_cons_self).three
  clear F0
  by_cases h8 : 1 ≤ l ∧ l ≤ 60
  case neg =>
    have HR := Lib.hid (okG_n1 (k := k) (qs := xs) h8)
    rw [show inB l 1 60 = false from cb_f h8] at HL
    clear h8
    go_enter Tryd.func13, Tryd.ntmps13
    go_wp2_with fail
    refine (HL.out _).mono ?_
    rintro e w2 ⟨rfl, rfl⟩
    go_wp2
    go_ret
    exact ⟨retb HR.out.symm, HB.out⟩
  rw [show inB l 1 60 = true from cb_t h8] at HL
  by_cases h2 : 0 ≤ k ∧ k ≤ 3
  case neg =>
    have HR := Lib.hid (okG_n2 (l := l) (qs := xs) h2)
    rw [show inB k 0 3 = false from cb_f h2] at HK
    clear h8 h2
    go_enter Tryd.func13, Tryd.ntmps13
    go_wp2_with fail
    refine (HL.out _).mono ?_
    rintro e w2 ⟨rfl, rfl⟩
    go_wp2_with fail
    refine (HK.out _).mono ?_
    rintro e w2 ⟨rfl, rfl⟩
    go_wp2
    go_ret
    exact ⟨retb HR.out.symm, HB.out⟩
  rw [show inB k 0 3 = true from cb_t h2] at HK
  by_cases h20 : (xs.length : Int) ≤ 60
  case neg =>
    have HR := Lib.hid (okG_n3 (l := l) (k := k) h20)
    clear h8 h2
    go_enter Tryd.func13, Tryd.ntmps13
    go_wp2_with fail
    refine (HL.out _).mono ?_
    rintro e w2 ⟨rfl, rfl⟩
    go_wp2_with fail
    refine (HK.out _).mono ?_
    rintro e w2 ⟨rfl, rfl⟩
    go_wp2
    go_ret
    exact ⟨retb HR.out.symm, HB.out⟩
  have HR := Lib.hid (okG_y h8 h2 h20)
  have HC := Lib.hid (containsA_any 24 call_vg1 (.pointer (some ⟨w.heap.size, 0, none⟩)) (badA l) a c xs _ hn (hs.up HB.out (Nat.le_refl _)) hw (fun x W hW hx => vg1_any w.heap.size l k _ x W (HKK.out.below hW HKK.out.lt) ⟨_, _, _, rfl⟩ h8 hx))
  generalize xs.any (badA l) = r at *
  clear hw h8 h2 hs
  generalize xs.length = n at *
  go_enter Tryd.func13, Tryd.ntmps13
  go_wp2_with fail
  refine (HL.out _).mono ?_
  rintro e w2 ⟨rfl, rfl⟩
  go_wp2_with fail
  refine (HK.out _).mono ?_
  rintro e w2 ⟨rfl, rfl⟩
  go_wp2_with fail
  refine HC.out.mono ?_
  rintro e w3 ⟨rfl, hb3⟩
  have HB3 := Lib.hid (HB.out.trans (hb3.mono HB.out.size))
  clear hb3
  go_wp2
  go_ret
  exact ⟨retb HR.out.symm, HB3.out⟩
theorem bad_model {l : Int} {q : Ak} (hq : U64 q.1) (hl : 1 ≤ l ∧ l ≤ 60) : badA l q = !(bits .andNot .u64 q.1 (fullZ l) == 0) := by
  unfold badA fullZ
  rw [model_set l q.1 hq hl]
set_option maxHeartbeats 4000000 in
theorem l06Ok_any (fb : Nat) (l k : Int) (a : Option Addr) (c : Nat) (xs : List Ak) (w : World) (K : Blk w fb #[.int .i8 l, .int .i8 k, .slice a xs.length c] 31) (hs : Sla w.heap.size w a xs) (hl : B8 l) (hk : B8 k) (hn : xs.length ≤ 1048576) (hw : Aall xs) :
    Calls Tryd.prog 10 #[.pointer (some ⟨fb, 0, none⟩)] w fun e w' => e = .returned (.bool (okG l k xs)) ∧ Dr w w' := by
  have HL := Lib.hid (fun W => l06Begin_any l k W)
  unfold B8 at hl hk
  obtain ⟨c0, c1, c2, -⟩ := K.three
  by_cases hbeg : (1 ≤ l ∧ l ≤ 60) ∧ (0 ≤ k ∧ k ≤ 3)
  case neg =>
    have HR := Lib.hid (show okG l k xs = false from by
      by_cases h8 : 1 ≤ l ∧ l ≤ 60
      · exact okG_n2 (fun h => hbeg ⟨h8, h⟩)
      · exact okG_n1 h8)
    rw [show (inB l 1 60 && inB k 0 3) = false from by
      by_cases h8 : 1 ≤ l ∧ l ≤ 60
      · rw [show inB k 0 3 = false from cb_f (fun h => hbeg ⟨h8, h⟩)]; simp
      · rw [show inB l 1 60 = false from cb_f h8]; rfl] at HL
    clear hbeg
    go_enter Tryd.func10, Tryd.ntmps10
    go_wp2
    go_quiet ((go_at_call 18; exact Calls.quiet_same (HL.out _)))
    go_wp2
    go_ret
    exact ⟨retb HR.out.symm, Dr.of _ _⟩
  obtain ⟨h8, h2⟩ := hbeg
  rw [show inB l 1 60 = true from cb_t h8, show inB k 0 3 = true from cb_t h2] at HL
  by_cases h20 : (xs.length : Int) ≤ 60
  case neg =>
    have HR := Lib.hid (okG_n3 (l := l) (k := k) h20)
    have h21 : (60 : Int) < xs.length := by omega
    clear h8 h2 h20
    go_enter Tryd.func10, Tryd.ntmps10
    go_wp2
    go_quiet ((go_at_call 18; exact Calls.quiet_same (HL.out _)))
    go_wp2
    go_ret
    exact ⟨retb HR.out.symm, Dr.of _ _⟩
  have HT := Lib.hid (okG_y h8 h2 h20)
  have HA := Lib.hid (fun W => full_any l W h8)
  have KH := Lib.hid K
  have hs' : xs = [] ∨ ∃ b off, a = some ⟨b, off, none⟩ ∧ AAt w b off xs := by
    rcases hs with h | ⟨b, off, e, _, h⟩
    · exact .inl h
    · exact .inr ⟨b, off, e, h⟩
  have HS := Lib.hid hs'
  have HW := Lib.hid (fun j => bad_model (q := akI xs j) (hw j) h8)
  have HWU := Lib.hid hw
  clear h8 h2 hw hs hs' K
  obtain ⟨n, hnn⟩ : ∃ n, xs.length = n := ⟨_, rfl⟩
  have HNN := Lib.hid hnn
  rw [hnn] at KH c2 hn h20
  clear hnn
  generalize fullZ l = fz at *
  go_enter Tryd.func10, Tryd.ntmps10
  go_wp2
  go_quiet ((go_at_call 18; exact Calls.quiet_same (HL.out _)))
  go_wp2
  clear c0 c1 c2
  go_loopw [3] (fun i wr => ∃ j : Nat, i = .int .i64 j ∧ j ≤ n ∧ (∀ m, m < j → badA l (akI xs m) = false) ∧ Dr w wr) (fun i _ => n - (intOf i).toNat)
  case atStart => exact ⟨0, rfl, Nat.zero_le _, fun j h => absurd h (by omega), Dr.of _ _⟩
  case round =>
    obtain ⟨j, rfl, hj, ha, hd⟩ := hrel
    have HD := Lib.hid hd
    have KR := Lib.hid (show Blk wr fb _ _ from hd.blk KH.out)
    obtain ⟨c0, c1, c2, -⟩ := KR.out.three
    have HAL := Lib.hid ha
    clear ha
    by_cases hlt : j < n
    case neg =>
      have HR := Lib.hid (show okG l k xs = true by rw [HT.out, any_f (fun i hi => HAL.out i (by rw [HNN.out] at hi; omega))]; rfl)
      go_wp2
      go_ret
      exact ⟨retb HR.out.symm, HD.out⟩
    have hkl : (j : Int) < (n : Int) := by omega
    rcases HS.out with h0 | ⟨b, off, rfl, hc⟩
    · have := HNN.out; subst h0; simp at this; omega
    obtain ⟨p0, p1⟩ := (hd.aat hc) j (by rw [HNN.out]; exact hlt)
    clear hd
    have HF := Lib.hid (fun (h : badA l (akI xs j) = true) => (show okG l k xs = false by rw [HT.out, any_t (by rw [HNN.out]; exact hlt) h]; rfl))
    have HN := Lib.hid (fun (h : badA l (akI xs j) = false) => (show ∀ m, m < j + 1 → badA l (akI xs m) = false from fun m hm => by
        by_cases e : m = j
        · subst e; exact h
        · exact HAL.out m (by omega)))
    have HB := Lib.hid (HW.out j)
    have hux := HWU.out j
    unfold U64 at hux
    generalize akI xs j = x at *
    clear hc HS
    go_wp2
    cases hq : (bits .andNot .u64 x.1 fz == 0)
    · have HR := Lib.hid (HF.out (by rw [HB.out, hq]; rfl))
      have hq2 : ¬ (bits .andNot .u64 x.1 fz = 0) := by simpa using hq
      clear HB HF HN
      go_quiet ((go_at_call 19; exact Calls.quiet_same (HA.out _)))
      go_wp2
      go_ret
      exact ⟨retb HR.out.symm, HD.out.trans (Dr.of _ _)⟩
    · have hq2 : bits .andNot .u64 x.1 fz = 0 := by simpa using hq
      have HR := Lib.hid (HN.out (by rw [HB.out, hq]; rfl))
      clear HB HF HN
      go_quiet ((go_at_call 19; exact Calls.quiet_same (HA.out _)))
      go_wp2
      go_roundw
      case rel => exact ⟨j + 1, by go_num, by omega, HR.out, HD.out.trans (Dr.of _ _)⟩
      case measure => simp [intOf]; omega
end Go.Proofs.YtijaghkbmgkjnaaDoor
