/-
  The model's WithoutThing, wherever.
-/
import Derived.Test.YtlpmojjmnkiflaaWT3
namespace Go.Proofs.Ytlpmojjmnkiflaa
open Go.RowKit
set_option maxRecDepth 100000
set_option linter.unusedVariables false

theorem specWithoutThing_any (l k : Int) (a : Option Addr) (c : Nat) (xs : List Int) (t : Int) (w : World) (hs : Sl .u16 w.heap.size w a xs) (hl : B8 l) (hk : B8 k) (hn : xs.length ≤ 1048576) (hw : U16 xs) (htb : -9223372036854775808 ≤ t ∧ t ≤ 9223372036854775807) :
    Calls Try.prog 29 #[ferV l k a xs.length c, .int .i64 t] w fun e w' => ∃ v, e = .returned (.tuple #[.agg #[.int .i8 (wtA l k xs t), .int .i8 (wtB l k xs t), v], .int .i64 (wtC l k xs t)]) ∧ OwnV .u16 w.heap.size w' v (wtX l k xs t) ∧ Below w.heap.size w w' := by
  have F0 := ((FR.start w).box #[.int .i8 l, .int .i8 k, .slice a xs.length c] 33).box #[.int .i8 0, .int .i8 0, .slice none 0 0] 33
  simp only [World.size_alloc] at F0
  have HV := Lib.hid (l05Ok_any w.heap.size l k a c xs _ (F0.blk _ (List.mem_cons_of_mem _ List.mem_cons_self)) (hs.up F0.below (Nat.le_refl _)) hl hk hn hw)
  have HW := Lib.hid (fun W => l00In_any t 0 (l - 1) W)
  cases hok : okY l k xs
  · have HC := Lib.hid (wtC_1 (t := t) hok)
    rw [hok] at HV
    clear hok hs hl hk hw HW
    go_enter Try.func29, Try.ntmps29
    go_wp2_with fail
    refine HV.out.mono ?_
    rintro e w2 ⟨rfl, hb⟩
    have F1 := F0.next hb.below
    clear hb F0 HV
    obtain ⟨g0, g1, g2, gf⟩ := (F1.blk _ List.mem_cons_self).three
    have F9 := F1.fer (u0 := .int .i8 0) (u1 := .int .i8 0) (u2 := .slice none 0 0)
    have HB := Lib.hid (And.intro (F9.blk _ List.mem_cons_self) F9.below)
    clear F1 F9
    go_wp2
    exact wt_err HC.out (by decide) Try.results29 HB.out.1 rfl rfl HB.out.2
  have hl8 := (okY_t hok).1
  by_cases h2 : 0 ≤ t ∧ t ≤ l - 1
  case neg =>
    have HC := Lib.hid (wtC_2 hok h2)
    rw [hok] at HV
    rw [show inB t 0 (l - 1) = false from cb_f h2] at HW
    clear hok hs hl hk hw h2
    go_enter Try.func29, Try.ntmps29
    go_wp2_with fail
    refine HV.out.mono ?_
    rintro e w2 ⟨rfl, hb⟩
    have F1 := F0.next hb.below
    clear hb F0 HV
    obtain ⟨c0, c1, c2, -⟩ := (F1.blk _ (List.mem_cons_of_mem _ List.mem_cons_self)).three
    obtain ⟨g0, g1, g2, gf⟩ := (F1.blk _ List.mem_cons_self).three
    have F9 := F1.fer (u0 := .int .i8 0) (u1 := .int .i8 0) (u2 := .slice none 0 0)
    have HB := Lib.hid (And.intro (F9.blk _ List.mem_cons_self) F9.below)
    clear F1 F9
    go_wp2_with fail
    refine (HW.out _).mono ?_
    rintro e w3 ⟨rfl, rfl⟩
    go_wp2
    exact wt_err HC.out (by decide) Try.results29 HB.out.1 rfl rfl HB.out.2
  by_cases h1 : l = 1
  · subst h1
    have HC := Lib.hid (wtC_4 hok h2)
    rw [hok] at HV
    rw [show inB t 0 (1 - 1) = true from cb_t h2] at HW
    clear hok hs hl hk hw h2
    go_enter Try.func29, Try.ntmps29
    go_wp2_with fail
    refine HV.out.mono ?_
    rintro e w2 ⟨rfl, hb⟩
    have F1 := F0.next hb.below
    clear hb F0 HV
    obtain ⟨c0, c1, c2, -⟩ := (F1.blk _ (List.mem_cons_of_mem _ List.mem_cons_self)).three
    obtain ⟨g0, g1, g2, gf⟩ := (F1.blk _ List.mem_cons_self).three
    have F9 := F1.fer (u0 := .int .i8 0) (u1 := .int .i8 0) (u2 := .slice none 0 0)
    have HB := Lib.hid (And.intro (F9.blk _ List.mem_cons_self) F9.below)
    clear F1 F9
    go_wp2_with fail
    refine (HW.out _).mono ?_
    rintro e w3 ⟨rfl, rfl⟩
    go_wp2
    exact wt_err HC.out (by decide) Try.results29 HB.out.1 rfl rfl HB.out.2
  · have hC := wtC_0 (k := k) (xs := xs) hok h2 h1
    have h := wt_0 hC
    obtain ⟨tt, rfl⟩ : ∃ tt : Nat, t = tt := ⟨t.toNat, by omega⟩
    rw [h.1, h.2.1, h.2.2, hC, Int.toNat_natCast]
    exact specWithoutThing_in l k a c xs tt w hs hl hk hn hw hok h2.2 h1
end Go.Proofs.Ytlpmojjmnkiflaa
