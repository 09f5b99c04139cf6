/-
  The walks of ValidBank and its model.
-/
import Derived.Test.YtlpmojjmnkiflaaY10
namespace Go.Proofs.Ytlpmojjmnkiflaa
open Go.RowKit
set_option maxRecDepth 100000
set_option linter.unusedVariables false

def vbX (l k : Int) (xs : List Int) (n : Int) (f : Bool) : Bool := okY l k xs && bkX l xs n f
theorem validBank_any (l k : Int) (a : Option Addr) (c : Nat) (xs : List Int) (x : Int) (f : Bool) (w : World) (hs : Sl .u16 w.heap.size w a xs) (hl : B8 l) (hk : B8 k) (hn : xs.length ≤ 1048576) (hw : U16 xs) :
    Calls Try.prog 36 #[ferV l k a xs.length c, bankV x f] w fun e w' => e = .returned (.bool (vbX l k xs x f)) ∧ Below w.heap.size w w' := by
  have F0 := ((FR.start w).box #[.int .i8 l, .int .i8 k, .slice a xs.length c] 33).box #[.int .u16 x, .bool f] 30
  simp only [World.size_alloc] at F0
  obtain ⟨c0, c1, c2, -⟩ := (F0.blk _ (List.mem_cons_of_mem _ List.mem_cons_self)).three
  obtain ⟨d0, d1, -⟩ := (F0.blk _ List.mem_cons_self).two
  have HV := Lib.hid (validFerry_any l k a c xs _ (hs.up F0.below (Nat.le_refl _)) hl hk hn hw)
  have HR := Lib.hid (show vbX l k xs x f = (okY l k xs && bkX l xs x f) from rfl)
  clear hl hk
  cases hok : okY l k xs
  · rw [hok] at HV HR
    clear hok hs hw
    generalize xs.length = n at *
    go_enter Try.func36, Try.ntmps36
    go_wp2_with fail
    refine HV.out.mono ?_
    rintro e w2 ⟨rfl, hb⟩
    have HB := Lib.hid (F0.next hb).below
    clear hb F0 c0 c1 c2 d0 d1
    go_wp2
    go_ret
    exact ⟨retb (by rw [HR.out]; rfl), HB.out⟩
  · have HA := Lib.hid (fun (W : World) (hb : Below w.heap.size w W) => allows_any l k a c xs x f W (hs.up hb (Nat.le_refl _)) hn hw (okY_t hok).1)
    rw [hok] at HV HR
    clear hok hs hw
    generalize bkX l xs x f = r at *
    generalize xs.length = n at *
    go_enter Try.func36, Try.ntmps36
    go_wp2_with fail
    refine HV.out.mono ?_
    rintro e w2 ⟨rfl, hb⟩
    have F1 := F0.next hb
    clear hb F0 c0 c1 c2 d0 d1 HV
    obtain ⟨c0, c1, c2, -⟩ := (F1.blk _ (List.mem_cons_of_mem _ List.mem_cons_self)).three
    obtain ⟨d0, d1, -⟩ := (F1.blk _ List.mem_cons_self).two
    go_wp2_with fail
    refine (HA.out _ F1.below).mono ?_
    rintro e w3 ⟨rfl, hb⟩
    have HB := Lib.hid (F1.next hb).below
    clear hb F1 c0 c1 c2 d0 d1
    go_wp2
    go_ret
    exact ⟨retb (by rw [HR.out]; rfl), HB.out⟩
end Go.Proofs.Ytlpmojjmnkiflaa
