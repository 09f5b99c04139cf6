/-
  Turning glasses: the model's way.
-/
import Derived.Test.YtmjkhkhjliadcaaDoorH5
import Derived.BigRegion
import Derived.BigQuiet
namespace Go.Proofs.YtmjkhkhjliadcaaDoor
open Go.RowKit
set_option maxRecDepth 100000

theorem Blk.rows {w : World} {b : Nat} {x : Nat → Int} {t : TypeId} (h : Blk w b #[.int .i16 (x 0), .int .i16 (x 1), .int .i16 (x 2), .int .i16 (x 3)] t) : w.rowIs b t 4 (fun i => .int .i16 (x i)) :=
  ⟨_, h, rfl, fun i hi => by
    match i, hi with
    | 0, _ => rfl
    | 1, _ => rfl
    | 2, _ => rfl
    | 3, _ => rfl⟩
theorem row_four {w : World} {b : Nat} {x : Nat → Int} {t : TypeId} (h : w.rowIs b t 4 (fun i => .int .i16 (x i))) :
    w.cell? ⟨b, 0, none⟩ = some (.int .i16 (x 0)) ∧ w.cell? ⟨b, 1, none⟩ = some (.int .i16 (x 1)) ∧ w.cell? ⟨b, 2, none⟩ = some (.int .i16 (x 2)) ∧ w.cell? ⟨b, 3, none⟩ = some (.int .i16 (x 3)) :=
  ⟨h.cell (by omega), h.cell (by omega), h.cell (by omega), h.cell (by omega)⟩
/-- A set has glass i. -/
def bitT (s : Int) (i : Nat) : Bool := (s / 2 ^ i).tmod 2 == 1
/-- Tops, of which the first k glasses that a set has are turned. -/
def trTo (J : List Int) (x : Nat → Int) (s : Int) (k i : Nat) : Int := if i < k ∧ bitT s i = true then J.getD i 0 - x i else x i
theorem l07Turn_any (b off c : Nat) (J : List Int) (x : Nat → Int) (s : Int) (w : World) (hl : J.length ≤ 4) (hE : Each J J.length) (hx : OkX J x) (hb : b < w.heap.size) (hc : At .i16 w b off J) :
    Calls Tryd.prog 31 #[.slice (some ⟨b, off, none⟩) J.length c, watV x, .int .u8 s] w fun e w' => e = .returned (watV (trTo J x s J.length)) ∧ Below w.heap.size w w' := by
  have k1 := (blk_new w #[.int .i16 (x 0), .int .i16 (x 1), .int .i16 (x 2), .int .i16 (x 3)] 27).alloc (.cells #[.int .i16 0, .int .i16 0, .int .i16 0, .int .i16 0] 27)
  have k2 := blk_new (w.alloc (.cells #[.int .i16 (x 0), .int .i16 (x 1), .int .i16 (x 2), .int .i16 (x 3)] 27)) #[.int .i16 0, .int .i16 0, .int .i16 0, .int .i16 0] 27
  have hB := ((Below.refl w.heap.size w).alloc (Nat.le_refl _) (.cells #[.int .i16 (x 0), .int .i16 (x 1), .int .i16 (x 2), .int .i16 (x 3)] 27)).alloc (by simp) (.cells #[.int .i16 0, .int .i16 0, .int .i16 0, .int .i16 0] 27)
  simp only [World.size_alloc] at k2
  have HC := Lib.hid hc
  have HX := Lib.hid hx
  have HE := Lib.hid hE
  clear hc hx hE
  go_enter Tryd.func31, Tryd.ntmps31
  go_wp2
  generalize hg : (w.alloc (.cells #[.int .i16 (x 0), .int .i16 (x 1), .int .i16 (x 2), .int .i16 (x 3)] 27)).alloc (.cells #[.int .i16 0, .int .i16 0, .int .i16 0, .int .i16 0] 27) = wb at *
  clear hg
  have K1 := Lib.hid k1.rows
  have K2 := Lib.hid k2
  have HB := Lib.hid hB
  clear k1 k2 hB
  go_loopw [7] (fun i wr => ∃ k : Nat, k ≤ J.length ∧ i = .int .i64 k ∧ wr.rowIs w.heap.size 27 4 (fun i => .int .i16 (trTo J x s k i)) ∧ Blk wr (w.heap.size + 1) #[.int .i16 0, .int .i16 0, .int .i16 0, .int .i16 0] 27 ∧ Below w.heap.size w wr) (fun i _ => J.length - (intOf i).toNat)
  case atStart => exact ⟨0, Nat.zero_le _, rfl, K1.out.congr (fun i _ => by simp [trTo]), K2.out, HB.out⟩
  case round =>
    obtain ⟨k, hk, rfl, hr, hz, hB⟩ := hrel
    have HR := Lib.hid hr
    have HZ := Lib.hid hz
    have HB2 := Lib.hid hB
    by_cases hlt : k < J.length
    · have hk4 : k < 4 := by omega
      have hcell := (HC.out.below hB hb) k hlt
      have hw := hr.cell (i := k) hk4
      have hfr := hr.frozen k
      clear hr hz hB
      have hxk := HX.out k hk4
      have hJk := HE.out k hlt
      have hold : trTo J x s k k = x k := by unfold trTo; rw [if_neg (by omega)]
      rw [hold] at hw
      have hkl : (k : Int) < (J.length : Int) := by omega
      have hk4' : (k : Int) < 4 := by omega
      cases hbit : bitT s k
      · have HS := Lib.hid (HR.out.congr (g := fun i => .int .i16 (trTo J x s (k + 1) i)) (fun i _ => by
          unfold trTo
          by_cases e : i = k
          · subst e; simp [hbit]
          · simp only [show (i < k + 1) = (i < k) by simp; omega]))
        have hbit' : ((s / 2 ^ k).tmod 2 == 1) = false := hbit
        go_wp2
        go_roundw
        case rel => exact ⟨k + 1, by omega, by go_num, HS.out, HZ.out, HB2.out⟩
        case measure => simp [intOf]; omega
      · have HS := Lib.hid ((HR.out.set k (.int .i16 (J.getD k 0 - x k))).congr (g := fun i => .int .i16 (trTo J x s (k + 1) i)) (fun i _ => by
          unfold trTo
          by_cases e : i = k
          · subst e; simp [hbit]
          · simp only [e, if_false, show (i < k + 1) = (i < k) by simp; omega]))
        have HZ2 := Lib.hid (HZ.out.setOther (g := w.heap.size) (by omega) k (.int .i16 (J.getD k 0 - x k)))
        have HB3 := Lib.hid (HB2.out.setCell (show w.heap.size ≤ (⟨w.heap.size, k, none⟩ : Addr).block from Nat.le_refl _) (.int .i16 (J.getD k 0 - x k)))
        have hbit' : ((s / 2 ^ k).tmod 2 == 1) = true := hbit
        generalize J.getD k 0 = m at *
        generalize x k = y at *
        go_wp2
        go_region
        go_wp2
        go_roundw
        case rel => exact ⟨k + 1, by omega, by go_num, HS.out, HZ2.out, HB3.out.drew⟩
        case measure => simp [intOf]; omega
    · obtain rfl : k = J.length := by omega
      obtain ⟨e0, e1, e2, e3⟩ := row_four hr
      obtain ⟨z0, z1, z2, z3, z4⟩ := hz.four
      clear hr hz hB
      generalize hEE : trTo J x s J.length = E at *
      have HEE := Lib.hid hEE
      clear hEE
      go_wp2
      refine bodyPost_ret (v := watV E) (by simp [results, Tryd.results31, go_sem, z0, z1, z2, z3]) rfl ⟨by rw [HEE.out], ?_⟩
      have hle : w.heap.size ≤ w.heap.size + 1 := by omega
      exact (((HB2.out.setCell hle _).setCell hle _).setCell hle _).setCell hle _
end Go.Proofs.YtmjkhkhjliadcaaDoor
