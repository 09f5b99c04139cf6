/-
  WithoutThing, wherever.
-/
import Derived.Test.YtlpmojjmnkiflaaWT1
namespace Go.Proofs.Ytlpmojjmnkiflaa
open Go.RowKit
set_option maxRecDepth 100000
set_option linter.unusedVariables false

def wtA (l k : Int) (xs : List Int) (t : Int) : Int := if wtC l k xs t = 0 then l - 1 else 0
def wtB (l k : Int) (xs : List Int) (t : Int) : Int := if wtC l k xs t = 0 then min k (l - 1) else 0
def wtX (l k : Int) (xs : List Int) (t : Int) : List Int := if wtC l k xs t = 0 then wtL t.toNat xs xs.length else []
theorem wt_0 {l k : Int} {xs : List Int} {t : Int} (h : wtC l k xs t = 0) : wtA l k xs t = l - 1 ∧ wtB l k xs t = min k (l - 1) ∧ wtX l k xs t = wtL t.toNat xs xs.length := by
  unfold wtA wtB wtX; rw [if_pos h, if_pos h, if_pos h]; exact ⟨rfl, rfl, rfl⟩
theorem wt_e {l k : Int} {xs : List Int} {t : Int} (h : wtC l k xs t ≠ 0) : wtA l k xs t = 0 ∧ wtB l k xs t = 0 ∧ wtX l k xs t = [] := by
  unfold wtA wtB wtX; rw [if_neg h, if_neg h, if_neg h]; exact ⟨rfl, rfl, rfl⟩
theorem wtC_1 {l k : Int} {xs : List Int} {t : Int} (h : okY l k xs = false) : wtC l k xs t = 1 := by unfold wtC; rw [h]; rfl
theorem wtC_2 {l k : Int} {xs : List Int} {t : Int} (h : okY l k xs = true) (h2 : ¬ (0 ≤ t ∧ t ≤ l - 1)) : wtC l k xs t = 2 := by unfold wtC; rw [if_pos h, if_neg h2]
theorem wtC_4 {k : Int} {xs : List Int} {t : Int} (h : okY 1 k xs = true) (h2 : 0 ≤ t ∧ t ≤ 1 - 1) : wtC 1 k xs t = 4 := by unfold wtC; rw [if_pos h, if_pos h2, if_pos rfl]
theorem wtC_0 {l k : Int} {xs : List Int} {t : Int} (h : okY l k xs = true) (h2 : 0 ≤ t ∧ t ≤ l - 1) (h3 : l ≠ 1) : wtC l k xs t = 0 := by unfold wtC; rw [if_pos h, if_pos h2, if_neg h3]
/-- An error's answer. -/
theorem wt_err {l k : Int} {xs : List Int} {t co : Int} {w w' : World} {F : Func} {b : Nat} {ty : TypeId} {tmps : Array Value} (hc : wtC l k xs t = co) (hne : co ≠ 0) (hF : F.results = #[.cell 4 33, .tmp 5])
    (K : Blk w' b #[.int .i8 0, .int .i8 0, .slice none 0 0] ty) (h4 : tmps.getD 4 undef = .pointer (some ⟨b, 0, none⟩)) (h5 : tmps.getD 5 undef = .int .i64 co) (hB : Below w.heap.size w w') :
    bodyPost Try.prog F (fun e w' => ∃ v, e = .returned (.tuple #[.agg #[.int .i8 (wtA l k xs t), .int .i8 (wtB l k xs t), v], .int .i64 (wtC l k xs t)]) ∧ OwnV .u16 w.heap.size w' v (wtX l k xs t) ∧ Below w.heap.size w w') .ret { tmps := tmps, defers := [] } w' := by
  have h := wt_e (l := l) (k := k) (xs := xs) (t := t) (by rw [hc]; exact hne)
  refine bodyPost_ret (res_fer F hF K tmps h4 h5) rfl ⟨_, by rw [h.1, h.2.1, hc], ?_, hB⟩
  rw [h.2.2]
  exact OwnV.nil _ _ _ _ _
theorem withoutThing_any (l k : Int) (a : Option Addr) (c : Nat) (xs : List Int) (t : Int) (w : World) (hs : Sl .u16 w.heap.size w a xs) (hl : B8 l) (hk : B8 k) (hn : xs.length ≤ 1048576) (hw : U16 xs) (htb : -9223372036854775808 ≤ t ∧ t ≤ 9223372036854775807) :
    Calls Try.prog 30 #[ferV l k a xs.length c, .int .i64 t] w fun e w' => ∃ v, e = .returned (.tuple #[.agg #[.int .i8 (wtA l k xs t), .int .i8 (wtB l k xs t), v], .int .i64 (wtC l k xs t)]) ∧ OwnV .u16 w.heap.size w' v (wtX l k xs t) ∧ Below w.heap.size w w' := by
  have F0 := ((FR.start w).box #[.int .i8 l, .int .i8 k, .slice a xs.length c] 33).box #[.int .i8 0, .int .i8 0, .slice none 0 0] 33
  simp only [World.size_alloc] at F0
  have HV := Lib.hid (validFerry_any l k a c xs _ (hs.up F0.below (Nat.le_refl _)) hl hk hn hw)
  have HW := Lib.hid (fun W => within_any t 0 (l - 1) W)
  obtain ⟨c0, c1, c2, -⟩ := (F0.blk _ (List.mem_cons_of_mem _ List.mem_cons_self)).three
  cases hok : okY l k xs
  · have HC := Lib.hid (wtC_1 (t := t) hok)
    rw [hok] at HV
    clear hok hs hl hk hw HW
    go_enter Try.func30, Try.ntmps30
    go_wp2_with fail
    refine HV.out.mono ?_
    rintro e w2 ⟨rfl, hb⟩
    have F1 := F0.next hb
    clear hb F0 c0 c1 c2 HV
    obtain ⟨g0, g1, g2, gf⟩ := (F1.blk _ List.mem_cons_self).three
    have F9 := F1.fer (u0 := .int .i8 0) (u1 := .int .i8 0) (u2 := .slice none 0 0)
    have HB := Lib.hid (And.intro (F9.blk _ List.mem_cons_self) F9.below)
    clear F1 F9
    go_wp2
    exact wt_err HC.out (by decide) Try.results30 HB.out.1 rfl rfl HB.out.2
  have hl8 := (okY_t hok).1
  by_cases h2 : 0 ≤ t ∧ t ≤ l - 1
  case neg =>
    have HC := Lib.hid (wtC_2 hok h2)
    rw [hok] at HV
    rw [show inB t 0 (l - 1) = false from cb_f h2] at HW
    clear hok hs hl hk hw h2
    go_enter Try.func30, Try.ntmps30
    go_wp2_with fail
    refine HV.out.mono ?_
    rintro e w2 ⟨rfl, hb⟩
    have F1 := F0.next hb
    clear hb F0 c0 c1 c2 HV
    obtain ⟨c0, c1, c2, -⟩ := (F1.blk _ (List.mem_cons_of_mem _ List.mem_cons_self)).three
    obtain ⟨g0, g1, g2, gf⟩ := (F1.blk _ List.mem_cons_self).three
    have F9 := F1.fer (u0 := .int .i8 0) (u1 := .int .i8 0) (u2 := .slice none 0 0)
    have HB := Lib.hid (And.intro (F9.blk _ List.mem_cons_self) F9.below)
    clear F1 F9
    go_wp2_with fail
    refine (HW.out _).mono ?_
    rintro e w3 ⟨rfl, rfl⟩
    go_wp2
    exact wt_err HC.out (by decide) Try.results30 HB.out.1 rfl rfl HB.out.2
  by_cases h1 : l = 1
  · subst h1
    have HC := Lib.hid (wtC_4 hok h2)
    rw [hok] at HV
    rw [show inB t 0 (1 - 1) = true from cb_t h2] at HW
    clear hok hs hl hk hw h2
    go_enter Try.func30, Try.ntmps30
    go_wp2_with fail
    refine HV.out.mono ?_
    rintro e w2 ⟨rfl, hb⟩
    have F1 := F0.next hb
    clear hb F0 c0 c1 c2 HV
    obtain ⟨c0, c1, c2, -⟩ := (F1.blk _ (List.mem_cons_of_mem _ List.mem_cons_self)).three
    obtain ⟨g0, g1, g2, gf⟩ := (F1.blk _ List.mem_cons_self).three
    have F9 := F1.fer (u0 := .int .i8 0) (u1 := .int .i8 0) (u2 := .slice none 0 0)
    have HB := Lib.hid (And.intro (F9.blk _ List.mem_cons_self) F9.below)
    clear F1 F9
    go_wp2_with fail
    refine (HW.out _).mono ?_
    rintro e w3 ⟨rfl, rfl⟩
    go_wp2
    exact wt_err HC.out (by decide) Try.results30 HB.out.1 rfl rfl HB.out.2
  · have hC := wtC_0 (k := k) (xs := xs) hok h2 h1
    have h := wt_0 hC
    obtain ⟨tt, rfl⟩ : ∃ tt : Nat, t = tt := ⟨t.toNat, by omega⟩
    rw [h.1, h.2.1, h.2.2, hC, Int.toNat_natCast]
    exact withoutThing_in l k a c xs tt w hs hl hk hn hw hok h2.2 h1
end Go.Proofs.Ytlpmojjmnkiflaa
