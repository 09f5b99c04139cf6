/-
  The walks of CrossWith and its model.
-/
import Derived.Test.YtlpmojjmnkiflaaY16
import Derived.Test.YtlpmojjmnkiflaaY11
namespace Go.Proofs.Ytlpmojjmnkiflaa
open Go.RowKit
set_option maxRecDepth 100000
set_option linter.unusedVariables false

def cwC (l k : Int) (xs : List Int) (n : Int) (f : Bool) (x : Int) : Int := if vbX l k xs n f = true then cdL l k xs n f x else 1
def cwN (l k : Int) (xs : List Int) (n : Int) (f : Bool) (x : Int) : Int := if vbX l k xs n f = true then crN l k xs n f x else 0
def cwF (l k : Int) (xs : List Int) (n : Int) (f : Bool) (x : Int) : Bool := if vbX l k xs n f = true then crF l k xs n f x else false
theorem cw_f {l k : Int} {xs : List Int} {n : Int} {f : Bool} {x : Int} (h : vbX l k xs n f = false) : cwN l k xs n f x = 0 ∧ cwF l k xs n f x = false ∧ cwC l k xs n f x = 1 := by
  unfold cwN cwF cwC; rw [h]; exact ⟨rfl, rfl, rfl⟩
theorem cw_t {l k : Int} {xs : List Int} {n : Int} {f : Bool} {x : Int} (h : vbX l k xs n f = true) : cwN l k xs n f x = crN l k xs n f x ∧ cwF l k xs n f x = crF l k xs n f x ∧ cwC l k xs n f x = cdL l k xs n f x := by
  unfold cwN cwF cwC; rw [h]; exact ⟨rfl, rfl, rfl⟩
theorem vbX_t {l k : Int} {xs : List Int} {n : Int} {f : Bool} (h : vbX l k xs n f = true) : okY l k xs = true ∧ bkX l xs n f = true := by
  unfold vbX at h; simpa using h
theorem res_bankc {W : World} {b : Nat} {v0 v1 u : Value} {t : TypeId} (F : Func) (hF : F.results = #[.cell 6 30, .tmp 7]) (K : Blk W b #[v0, v1] t) (tmps : Array Value) (h6 : tmps.getD 6 undef = .pointer (some ⟨b, 0, none⟩)) (h7 : tmps.getD 7 undef = u) : (results F tmps).run Try.prog W = .ok (.tuple #[.agg #[v0, v1], u]) W := by
  have h6' : tmps[6]?.getD undef = .pointer (some ⟨b, 0, none⟩) := by simpa using h6
  have h7' : tmps[7]?.getD undef = u := by simpa using h7
  have e0 := K.cell 0
  have e1 := K.cell 1
  simp at e0 e1
  simp [results, hF, go_sem, e0, e1, h6', h7']
theorem sl_one {w : World} {b : Nat} {x : Int} {t : TypeId} (h : Blk w b #[.int .u16 x] t) : Sl .u16 w.heap.size w (some ⟨b, 0, none⟩) [x] :=
  .inr ⟨b, 0, rfl, h.lt, fun j hj => by
    have e : j = 0 := by simp at hj; omega
    subst e
    exact h.cell 0⟩
set_option maxHeartbeats 2000000 in
theorem crossWith_any (l k : Int) (a : Option Addr) (c : Nat) (xs : List Int) (n : Int) (f : Bool) (x : Int) (w : World) (hs : Sl .u16 w.heap.size w a xs) (hl : B8 l) (hk : B8 k) (hn : xs.length ≤ 1048576) (hw : U16 xs) (hx : 0 ≤ x ∧ x ≤ 65535) :
    Calls Try.prog 13 #[ferV l k a xs.length c, bankV n f, .int .u16 x] w fun e w' => e = .returned (.tuple #[bankV (cwN l k xs n f x) (cwF l k xs n f x), .int .i64 (cwC l k xs n f x)]) ∧ Below w.heap.size w w' := by
  have F0 := (((FR.start w).box #[.int .i8 l, .int .i8 k, .slice a xs.length c] 33).box #[.int .u16 n, .bool f] 30).box #[.int .u16 0, .bool false] 30
  simp only [World.size_alloc] at F0
  obtain ⟨c0, c1, c2, -⟩ := (F0.blk _ (List.mem_cons_of_mem _ (List.mem_cons_of_mem _ List.mem_cons_self))).three
  obtain ⟨d0, d1, -⟩ := (F0.blk _ (List.mem_cons_of_mem _ List.mem_cons_self)).two
  have HV := Lib.hid (validBank_any l k a c xs n f _ (hs.up F0.below (Nat.le_refl _)) hl hk hn hw)
  clear hl hk
  cases hok : vbX l k xs n f
  · have HR := Lib.hid (cw_f (x := x) hok)
    rw [hok] at HV
    clear hok hs hw
    generalize xs.length = m at *
    go_enter Try.func13, Try.ntmps13
    go_wp2_with fail
    refine HV.out.mono ?_
    rintro e w2 ⟨rfl, hb⟩
    have F1 := F0.next hb
    clear hb F0 c0 c1 c2 d0 d1
    obtain ⟨e0, e1, ef⟩ := (F1.blk _ List.mem_cons_self).two
    have F9 := F1.bank (u0 := .int .u16 0) (u1 := .bool false)
    have HB := Lib.hid (And.intro (F9.blk _ List.mem_cons_self) F9.below)
    clear F1 F9
    go_wp2
    exact bodyPost_ret (res_bankc _ Try.results13 HB.out.1 _ rfl rfl) rfl ⟨retk HR.out.1.symm HR.out.2.1.symm HR.out.2.2.symm, HB.out.2⟩
  · have HR := Lib.hid (cw_t (x := x) hok)
    rw [hok] at HV
    have hy := (vbX_t hok).1
    have HC := Lib.hid (fun (W : World) (hb : Below w.heap.size w W) (g : Nat) (hg : Blk W g #[.int .u16 x] 26) => crossAll_any l k a c xs n f (some ⟨g, 0, none⟩) 1 [x] W (hs.up hb (Nat.le_refl _)) hn hw (okY_t hy).1 (by have := (okY_t hy).1; have := (okY_t hy).2.1; omega) (sl_one hg) (by simp) (by
      intro j
      by_cases h : j = 0
      · subst h; exact hx
      · rw [List.getD_eq_getElem?_getD, List.getElem?_eq_none (by simp; omega)]; simp))
    have HE := Lib.hid (show cTo l k xs n f [x] 1 = (crN l k xs n f x, crF l k xs n f x, cdL l k xs n f x) from by simp [cTo])
    clear hok hs hw hy
    simp only [List.length_cons, List.length_nil, Nat.zero_add, HE.out] at HC
    generalize xs.length = m at *
    go_enter Try.func13, Try.ntmps13
    go_wp2_with fail
    refine HV.out.mono ?_
    rintro e w2 ⟨rfl, hb⟩
    have F1 := F0.next hb
    clear hb F0 c0 c1 c2 d0 d1 HV
    obtain ⟨c0, c1, c2, -⟩ := (F1.blk _ (List.mem_cons_of_mem _ (List.mem_cons_of_mem _ List.mem_cons_self))).three
    obtain ⟨d0, d1, -⟩ := (F1.blk _ (List.mem_cons_of_mem _ List.mem_cons_self)).two
    have F2 := F1.box #[.int .u16 x] 26
    go_wp2_with fail
    refine (HC.out _ F2.below _ (F2.blk _ List.mem_cons_self)).mono ?_
    rintro e w3 ⟨rfl, hb⟩
    have F3 := (F1.next ((Below.refl w2.heap.size w2).alloc (Nat.le_refl _) (.cells #[.int .u16 x] 26))).next hb
    clear F1 F2 hb c0 c1 c2 d0 d1 HC
    obtain ⟨e0, e1, ef⟩ := (F3.blk _ List.mem_cons_self).two
    have F9 := F3.bank (u0 := .int .u16 (crN l k xs n f x)) (u1 := .bool (crF l k xs n f x))
    have HB := Lib.hid (And.intro (F9.blk _ List.mem_cons_self) F9.below)
    clear F3 F9
    go_wp2
    exact bodyPost_ret (res_bankc _ Try.results13 HB.out.1 _ rfl rfl) rfl ⟨retk HR.out.1.symm HR.out.2.1.symm HR.out.2.2.symm, HB.out.2⟩
set_option maxHeartbeats 2000000 in
theorem specCrossWith_any (l k : Int) (a : Option Addr) (c : Nat) (xs : List Int) (n : Int) (f : Bool) (x : Int) (w : World) (hs : Sl .u16 w.heap.size w a xs) (hl : B8 l) (hk : B8 k) (hn : xs.length ≤ 1048576) (hw : U16 xs) (hx : 0 ≤ x ∧ x ≤ 65535) :
    Calls Try.prog 10 #[ferV l k a xs.length c, bankV n f, .int .u16 x] w fun e w' => e = .returned (.tuple #[bankV (cwN l k xs n f x) (cwF l k xs n f x), .int .i64 (cwC l k xs n f x)]) ∧ Below w.heap.size w w' := by
  have F0 := (((FR.start w).box #[.int .i8 l, .int .i8 k, .slice a xs.length c] 33).box #[.int .u16 n, .bool f] 30).box #[.int .u16 0, .bool false] 30
  simp only [World.size_alloc] at F0
  have K0 := F0.blk _ (List.mem_cons_of_mem _ (List.mem_cons_of_mem _ List.mem_cons_self))
  obtain ⟨d0, d1, -⟩ := (F0.blk _ (List.mem_cons_of_mem _ List.mem_cons_self)).two
  have HV := Lib.hid (l05Ok_any w.heap.size l k a c xs _ K0 (hs.up F0.below (Nat.le_refl _)) hl hk hn hw)
  clear hl hk hw K0
  cases hok : okY l k xs
  · have HR := Lib.hid (cw_f (x := x) (show vbX l k xs n f = false by unfold vbX; rw [hok]; rfl))
    rw [hok] at HV
    clear hok hs
    generalize xs.length = m at *
    go_enter Try.func10, Try.ntmps10
    go_wp2_with fail
    refine HV.out.mono ?_
    rintro e w2 ⟨rfl, hb⟩
    have F1 := F0.next hb.below
    clear hb F0 d0 d1
    obtain ⟨e0, e1, ef⟩ := (F1.blk _ List.mem_cons_self).two
    have F9 := F1.bank (u0 := .int .u16 0) (u1 := .bool false)
    have HB := Lib.hid (And.intro (F9.blk _ List.mem_cons_self) F9.below)
    clear F1 F9
    go_wp2
    exact bodyPost_ret (res_bankc _ Try.results10 HB.out.1 _ rfl rfl) rfl ⟨retk HR.out.1.symm HR.out.2.1.symm HR.out.2.2.symm, HB.out.2⟩
  rw [hok] at HV
  have hy := okY_t hok
  have HL := Lib.hid (fun (W : World) (h : Blk W w.heap.size #[.int .i8 l, .int .i8 k, .slice a xs.length c] 33) (hb : Below w.heap.size w W) => l05Bank_any w.heap.size l k a c xs n f W h (hs.up hb (Nat.le_refl _)) hn hy.1)
  cases hbk : bkX l xs n f
  · have HR := Lib.hid (cw_f (x := x) (show vbX l k xs n f = false by unfold vbX; rw [hbk]; simp))
    rw [hbk] at HL
    clear hok hs hy hbk
    generalize xs.length = m at *
    go_enter Try.func10, Try.ntmps10
    go_wp2_with fail
    refine HV.out.mono ?_
    rintro e w2 ⟨rfl, hb⟩
    have F1 := F0.next hb.below
    clear hb F0 d0 d1 HV
    obtain ⟨d0, d1, -⟩ := (F1.blk _ (List.mem_cons_of_mem _ List.mem_cons_self)).two
    go_wp2_with fail
    refine (HL.out _ (F1.blk _ (List.mem_cons_of_mem _ (List.mem_cons_of_mem _ List.mem_cons_self))) F1.below).mono ?_
    rintro e w3 ⟨rfl, hb⟩
    have F2 := F1.next hb
    clear hb F1 d0 d1 HL
    obtain ⟨e0, e1, ef⟩ := (F2.blk _ List.mem_cons_self).two
    have F9 := F2.bank (u0 := .int .u16 0) (u1 := .bool false)
    have HB := Lib.hid (And.intro (F9.blk _ List.mem_cons_self) F9.below)
    clear F2 F9
    go_wp2
    exact bodyPost_ret (res_bankc _ Try.results10 HB.out.1 _ rfl rfl) rfl ⟨retk HR.out.1.symm HR.out.2.1.symm HR.out.2.2.symm, HB.out.2⟩
  · have HR := Lib.hid (cw_t (x := x) (show vbX l k xs n f = true by unfold vbX; rw [hok, hbk]; rfl))
    rw [hbk] at HL
    have HC := Lib.hid (fun (W : World) (h : Blk W w.heap.size #[.int .i8 l, .int .i8 k, .slice a xs.length c] 33) (hb : Below w.heap.size w W) => l05Cross_any w.heap.size l k a c xs n f x W h (hs.up hb (Nat.le_refl _)) hn hy.1 (by have := hy.1; have := hy.2.1; omega) hx (bk_near hbk))
    clear hok hs hy hbk
    generalize xs.length = m at *
    go_enter Try.func10, Try.ntmps10
    go_wp2_with fail
    refine HV.out.mono ?_
    rintro e w2 ⟨rfl, hb⟩
    have F1 := F0.next hb.below
    clear hb F0 d0 d1 HV
    obtain ⟨d0, d1, -⟩ := (F1.blk _ (List.mem_cons_of_mem _ List.mem_cons_self)).two
    go_wp2_with fail
    refine (HL.out _ (F1.blk _ (List.mem_cons_of_mem _ (List.mem_cons_of_mem _ List.mem_cons_self))) F1.below).mono ?_
    rintro e w3 ⟨rfl, hb⟩
    have F2 := F1.next hb
    clear hb F1 d0 d1 HL
    obtain ⟨d0, d1, -⟩ := (F2.blk _ (List.mem_cons_of_mem _ List.mem_cons_self)).two
    go_wp2_with fail
    refine (HC.out _ (F2.blk _ (List.mem_cons_of_mem _ (List.mem_cons_of_mem _ List.mem_cons_self))) F2.below).mono ?_
    rintro e w4 ⟨rfl, hb⟩
    have F3 := F2.next hb
    clear hb F2 d0 d1 HC
    obtain ⟨e0, e1, ef⟩ := (F3.blk _ List.mem_cons_self).two
    have F9 := F3.bank (u0 := .int .u16 (crN l k xs n f x)) (u1 := .bool (crF l k xs n f x))
    have HB := Lib.hid (And.intro (F9.blk _ List.mem_cons_self) F9.below)
    clear F3 F9
    go_wp2
    exact bodyPost_ret (res_bankc _ Try.results10 HB.out.1 _ rfl rfl) rfl ⟨retk HR.out.1.symm HR.out.2.1.symm HR.out.2.2.symm, HB.out.2⟩
end Go.Proofs.Ytlpmojjmnkiflaa
