/-
  The candidates of a game: the program's list.
-/
import Derived.Test.YtijaghkbmgkjnaaDoorZ13
import Derived.Deep.RegionHeld3
namespace Go.Proofs.YtijaghkbmgkjnaaDoor
open Go.RowKit
set_option maxRecDepth 100000
set_option linter.unusedVariables false

/-- The candidates below n. -/
def candL (kk : Int) (qs : List Ak) : Nat → List Int
  | 0 => []
  | n + 1 => if (lieN qs n qs.length : Int) ≤ kk then candL kk qs n ++ [(n : Int)] else candL kk qs n
theorem candL_len (kk : Int) (qs : List Ak) (n : Nat) : (candL kk qs n).length ≤ n := by
  induction n with
  | zero => simp [candL]
  | succ n ih =>
    unfold candL
    split
    · simp; omega
    · omega
theorem row_next {w w' : World} {base : Nat} {e : TypeId} {size : Nat} {v : Value} {n : Nat} {xs : List Value} (h : w.ownsRow base e size v n xs) (hb : Below w.heap.size w w') : w'.ownsRow base e size v n xs :=
  h.kept (row := none) ⟨hb.os, hb.tape, hb.output, hb.size, fun k hk _ => hb.block k hk⟩ (by cases h : v.ownBlock <;> simp)
theorem Tryd.info_i64c : (Tryd.prog.info? 2).map (fun i => (i.zero, i.size, i.bytes)) = some (some (.int .i64 0), 1, 8) := by kernel_rfl
theorem gam3 {W : World} {b : Nat} {v0 v1 v2 : Value} {t : TypeId} (k0 : Blk W b #[v0, v1, v2] t) : W.cell? ⟨b, 0, none⟩ = some v0 ∧ W.cell? ⟨b, 1, none⟩ = some v1 ∧ W.cell? ⟨b, 2, none⟩ = some v2 := ⟨k0.cell 0, k0.cell 1, k0.cell 2⟩
set_option maxHeartbeats 4000000 in
theorem candidates_any (l : Nat) (kk : Int) (a : Option Addr) (c : Nat) (xs : List Ak) (w : World) (hs : Sla w.heap.size w a xs) (hn : xs.length ≤ 60) (hw : Aall xs) (hl : l ≤ 60) (hk : 0 ≤ kk ∧ kk ≤ 3) :
    Calls Tryd.prog 27 #[gamV l kk a xs.length c] w fun e w' => ∃ u, e = .returned u ∧ w'.ownsRow (w.heap.size + 1) 2 1 u (candL kk xs l).length ((candL kk xs l).map (Value.int .i64)) ∧ Below w.heap.size w w' := by
  obtain ⟨i0, hi0, hz0, hz1, hz2⟩ := info_parts Tryd.info_i64c
  have F0 := (FR.start w).box #[.int .i8 l, .int .i8 kk, .slice a xs.length c] 31
  have K := Lib.hid (F0.blk _ List.mem_cons_self)
  have HB0 := Lib.hid F0.below
  have HS := Lib.hid hs
  have HQ := Lib.hid (fun k W hs (hk : k ≤ 63) => liesForM_any l kk a c xs k W hs hn hw hk)
  have HLN := Lib.hid (candL_len kk xs)
  have HST := Lib.hid (show ∀ k, candL kk xs (k + 1) = if (lieN xs k xs.length : Int) ≤ kk then candL kk xs k ++ [(k : Int)] else candL kk xs k from fun k => rfl)
  have hM0 : candL kk xs 0 = [] := rfl
  have HLE := Lib.hid (fun k => Nat.le_trans (lieN_le xs k xs.length) hn)
  obtain ⟨c0, c1, c2, -⟩ := (F0.blk _ List.mem_cons_self).three
  generalize xs.length = n at *
  generalize hLL : candL kk xs = L at *
  have HLQ := Lib.hid hLL
  clear hLL hs hw F0
  go_enter Tryd.func27, Tryd.ntmps27
  go_wp2
  clear c0 c1 c2
  have hsz1 : (w.alloc (.cells #[.int .i8 l, .int .i8 kk, .slice a n c] 31)).heap.size = w.heap.size + 1 := by simp
  generalize hw1 : w.alloc (.cells #[.int .i8 l, .int .i8 kk, .slice a n c] 31) = w1 at *
  clear hw1
  have HSZ := Lib.hid hsz1
  clear hsz1
  go_loopw [3, 8] (fun u kv wr => ∃ k : Nat, kv = .int .i64 (k : Int) ∧ k ≤ l ∧ wr.ownsRow (w.heap.size + 1) 2 1 u (L k).length ((L k).map (Value.int .i64)) ∧ Below (w.heap.size + 1) w1 wr) (fun _ kv _ => l - (intOf kv).toNat)
  case atStart => exact ⟨0, rfl, Nat.zero_le _, by rw [hM0]; exact World.ownsRow_nil _ _ _ _, Below.refl _ _⟩
  case round =>
    obtain ⟨k, rfl, hkl, hown, hB⟩ := hrel
    have HBW := Lib.hid (HB0.out.trans (hB.mono (by omega)))
    by_cases hlt : k < l
    case neg =>
      obtain rfl : k = l := by omega
      have HO := Lib.hid hown
      clear hown
      go_wp2
      go_ret
      refine ⟨_, rfl, HO.out, HBW.out⟩
    have hkz : (k : Int) < (l : Int) := by omega
    have hll := HLN.out k
    have HSTk := Lib.hid (HST.out k)
    have hle := HLE.out k
    have HQk := Lib.hid (HQ.out k wr.drew (HS.out.up (HBW.out.trans ((Below.refl _ _).drew.mono HBW.out.size)) (Nat.le_refl _)) (by omega))
    have K1 : Blk wr.drew w.heap.size #[.int .i8 l, .int .i8 kk, .slice a n c] 31 := Blk.drew (K.out.below hB (Nat.lt_succ_self _))
    have HOW := Lib.hid (row_next hown ((Below.refl wr.heap.size wr).drew))
    have HB1 := Lib.hid (hB.trans ((Below.refl wr.heap.size wr).drew.mono (by have := hB.size; have := HSZ.out; omega)))
    clear hown hB
    generalize hgx : lieN xs k n = x at *
    have hwr : IntKind.i64.wrap kk = kk := IntWalk.i64_in _ (by omega)
    by_cases hq : (x : Int) ≤ kk
    · have hqq : decide ((x : Int) ≤ IntKind.i64.wrap kk) = true := by rw [hwr]; simpa using hq
      have HL1 := Lib.hid (show L (k + 1) = L k ++ [(k : Int)] by rw [HSTk.out, if_pos hq])
      clear hgx hwr hq
      go_wp2_with fail
      go_region_held3 (fun w' => w'.cell? ⟨w.heap.size, 0, none⟩ = some (.int .i8 l) ∧ w'.cell? ⟨w.heap.size, 1, none⟩ = some (.int .i8 kk) ∧ w'.cell? ⟨w.heap.size, 2, none⟩ = some (.slice a n c))
        (first | with_reducible exact gam3 K2 | with_reducible exact gam3 K1)
        (first | (go_at_call 33; with_reducible refine HQk.out.mono ?_; rintro e w4 ⟨rfl, hb4⟩; have K2 := K1.below hb4 K1.lt))
      have hO4 := row_next HOW.out hb4
      have hB4 := HB1.out.trans (hb4.mono (by have := HB1.out.size; have := HSZ.out; omega))
      clear K1 K2 hb4
      have hs4 : w.heap.size + 1 ≤ w4.heap.size := by have := hB4.size; have := HSZ.out; omega
      obtain ⟨wq, rfl⟩ : ∃ wq : World, wq = w4 := ⟨_, rfl⟩
      go_wp2_with (first
        | (at_builtin; refine wpList_append_own _ rfl _ _ 53 rfl (w.heap.size + 1) 2 i0 (.int .i64 0) 1 8 Tryd.underlying53 hi0 hz0 hz1 hz2 rfl (by decide) _ _ _ rfl (hO4.alloc _) ⟨wq.heap.size, 0, none⟩ 1 1 [.int .i64 (k : Int)] rfl rfl ?c1 ?c2 ?c3 ?c4 ?c5 ?_)
        | go_in)
      case c1 =>
        intro j u hj
        match j, hj with
        | 0, hj => simp at hj; subst hj; simp [Addr.add]
      case c2 => intro u hu; simp at hu; subst hu; rfl
      case c3 => unfold maxLen; omega
      case c4 => omega
      case c5 => simp; omega
      intro u' w5 hown' hgrow _
      have hB5 : Below (w.heap.size + 1) w1 w5 := (hB4.alloc hs4 _).grown hgrow (by simp; omega) (fun j hj => (hO4.lt j hj).1)
      have HO5 := Lib.hid hown'
      clear hown' hgrow hO4 hB4
      go_wp2
      go_roundw
      case rel => exact ⟨k + 1, by go_num, by omega, by rw [HL1.out]; simpa using HO5.out, hB5⟩
      case measure => simp [intOf]; omega
    · have hqq : decide ((x : Int) ≤ IntKind.i64.wrap kk) = false := by rw [hwr]; simpa using hq
      have HL1 := Lib.hid (show L (k + 1) = L k by rw [HSTk.out, if_neg hq])
      clear hgx hwr hq
      go_wp2_with fail
      go_region_held3 (fun w' => w'.cell? ⟨w.heap.size, 0, none⟩ = some (.int .i8 l) ∧ w'.cell? ⟨w.heap.size, 1, none⟩ = some (.int .i8 kk) ∧ w'.cell? ⟨w.heap.size, 2, none⟩ = some (.slice a n c))
        (first | with_reducible exact gam3 K2 | with_reducible exact gam3 K1)
        (first | (go_at_call 33; with_reducible refine HQk.out.mono ?_; rintro e w4 ⟨rfl, hb4⟩; have K2 := K1.below hb4 K1.lt))
      have hO4 := row_next HOW.out hb4
      have hB4 := HB1.out.trans (hb4.mono (by have := HB1.out.size; have := HSZ.out; omega))
      clear K1 K2 hb4
      have HO5 := Lib.hid hO4
      have HB5 := Lib.hid hB4
      clear hO4 hB4
      go_wp2
      go_roundw
      case rel => exact ⟨k + 1, by go_num, by omega, by rw [HL1.out]; exact HO5.out, HB5.out⟩
      case measure => simp [intOf]; omega
end Go.Proofs.YtijaghkbmgkjnaaDoor
