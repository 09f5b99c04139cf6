/-
  The candidates of a game: the model's list; CandidatesOf.
-/
import Derived.Test.YtijaghkbmgkjnaaDoorZ23
import Derived.Test.YtijaghkbmgkjnaaDoorOwn
namespace Go.Proofs.YtijaghkbmgkjnaaDoor
open Go.RowKit
set_option maxRecDepth 100000
set_option linter.unusedVariables false

set_option maxHeartbeats 4000000 in
theorem l06Candidates_any (fb : Nat) (l : Nat) (kk : Int) (a : Option Addr) (c : Nat) (xs : List Ak) (w : World) (K : Blk w fb #[.int .i8 l, .int .i8 kk, .slice a xs.length c] 31) (hs : Sla w.heap.size w a xs) (hn : xs.length ≤ 60) (hw : Aall xs) (hl : l ≤ 60) (hk : 0 ≤ kk ∧ kk ≤ 3) :
    Calls Tryd.prog 20 #[.pointer (some ⟨fb, 0, none⟩)] w fun e w' => ∃ u, e = .returned u ∧ w'.ownsRow w.heap.size 2 1 u (candL kk xs l).length ((candL kk xs l).map (Value.int .i64)) ∧ Below w.heap.size w w' := by
  obtain ⟨i0, hi0, hz0, hz1, hz2⟩ := info_parts Tryd.info_i64c
  have HK := Lib.hid K
  have HS := Lib.hid hs
  have HQ := Lib.hid (fun k W hK hs (hk : k ≤ 63) => l06Lies_any fb l kk a c xs k W hK hs hn hw hk)
  have HLN := Lib.hid (candL_len kk xs)
  have HST := Lib.hid (show ∀ k, candL kk xs (k + 1) = if (lieN xs k xs.length : Int) ≤ kk then candL kk xs k ++ [(k : Int)] else candL kk xs k from fun k => rfl)
  have hM0 : candL kk xs 0 = [] := rfl
  have HLE := Lib.hid (fun k => Nat.le_trans (lieN_le xs k xs.length) hn)
  have hfb := K.lt
  generalize xs.length = n at *
  generalize hLL : candL kk xs = L at *
  clear hLL hs hw K
  go_enter Tryd.func20, Tryd.ntmps20
  go_wp2
  go_loopw [3, 4] (fun u kv wr => ∃ k : Nat, kv = .int .i64 (k : Int) ∧ k ≤ l ∧ wr.ownsRow w.heap.size 2 1 u (L k).length ((L k).map (Value.int .i64)) ∧ Below w.heap.size w wr) (fun _ kv _ => l - (intOf kv).toNat)
  case atStart => exact ⟨0, rfl, Nat.zero_le _, by rw [hM0]; exact World.ownsRow_made w #[] 0 (Nat.le_refl _) (by unfold maxLen; omega) (by simp), (Below.refl _ _).alloc (Nat.le_refl _) _⟩
  case round =>
    obtain ⟨k, rfl, hkl, hown, hB⟩ := hrel
    have K0 := HK.out.below hB hfb
    by_cases hlt : k < l
    case neg =>
      obtain rfl : k = l := by omega
      have HO := Lib.hid hown
      have hlt2 : ¬ k < k := by omega
      obtain ⟨c0, c1, c2, -⟩ := K0.three
      clear hown hlt K0
      go_wp2
      go_ret
      exact ⟨_, rfl, HO.out, hB⟩
    have hkz : (k : Int) < (l : Int) := by omega
    have hll := HLN.out k
    have HSTk := Lib.hid (HST.out k)
    have hle := HLE.out k
    have K1 := Blk.drew K0
    have HQk := Lib.hid (HQ.out k wr.drew K1 (HS.out.up (hB.trans ((Below.refl _ _).drew.mono hB.size)) (Nat.le_refl _)) (by omega))
    have HOW := Lib.hid (row_next hown ((Below.refl wr.heap.size wr).drew))
    have HB1 := Lib.hid (hB.trans ((Below.refl wr.heap.size wr).drew.mono hB.size))
    obtain ⟨c0, c1, c2, -⟩ := K0.three
    clear hown hB K0
    generalize hgx : lieN xs k n = x at *
    have hwr : IntKind.i64.wrap kk = kk := IntWalk.i64_in _ (by omega)
    by_cases hq : (x : Int) ≤ kk
    · have hqq : decide ((x : Int) ≤ IntKind.i64.wrap kk) = true := by rw [hwr]; simpa using hq
      have HL1 := Lib.hid (show L (k + 1) = L k ++ [(k : Int)] by rw [HSTk.out, if_pos hq])
      clear hgx hwr hq
      go_wp2_with fail
      clear c0 c1 c2
      go_region_held3 (fun w' => w'.cell? ⟨fb, 0, none⟩ = some (.int .i8 l) ∧ w'.cell? ⟨fb, 1, none⟩ = some (.int .i8 kk) ∧ w'.cell? ⟨fb, 2, none⟩ = some (.slice a n c))
        (first | with_reducible exact gam3 K2 | with_reducible exact gam3 K1)
        (first | (go_at_call 31; with_reducible refine HQk.out.mono ?_; rintro e w4 ⟨rfl, hb4⟩; have K2 := K1.below hb4 K1.lt))
      have hO4 := row_next HOW.out hb4
      have hB4 := HB1.out.trans (hb4.mono HB1.out.size)
      clear K1 K2 hb4
      have hs4 : w.heap.size ≤ w4.heap.size := hB4.size
      obtain ⟨wq, rfl⟩ : ∃ wq : World, wq = w4 := ⟨_, rfl⟩
      go_wp2_with (first
        | (at_builtin; refine wpList_append_own _ rfl _ _ 53 rfl w.heap.size 2 i0 (.int .i64 0) 1 8 Tryd.underlying53 hi0 hz0 hz1 hz2 rfl (by decide) _ _ _ rfl (hO4.alloc _) ⟨wq.heap.size, 0, none⟩ 1 1 [.int .i64 (k : Int)] rfl rfl ?c1 ?c2 ?c3 ?c4 ?c5 ?_)
        | go_in)
      case c1 =>
        intro j u hj
        match j, hj with
        | 0, hj => simp at hj; subst hj; simp [Addr.add]
      case c2 => intro u hu; simp at hu; subst hu; rfl
      case c3 => unfold maxLen; omega
      case c4 => omega
      case c5 => simp; omega
      intro u' w5 hown' hgrow _
      have hB5 : Below w.heap.size w w5 := (hB4.alloc hs4 _).grown hgrow (by simp; omega) (fun j hj => (hO4.lt j hj).1)
      have HO5 := Lib.hid hown'
      clear hown' hgrow hO4 hB4
      go_wp2
      go_roundw
      case rel => exact ⟨k + 1, by go_num, by omega, by rw [HL1.out]; simpa using HO5.out, hB5⟩
      case measure => simp [intOf]; omega
    · have hqq : decide ((x : Int) ≤ IntKind.i64.wrap kk) = false := by rw [hwr]; simpa using hq
      have HL1 := Lib.hid (show L (k + 1) = L k by rw [HSTk.out, if_neg hq])
      clear hgx hwr hq
      go_wp2_with fail
      clear c0 c1 c2
      go_region_held3 (fun w' => w'.cell? ⟨fb, 0, none⟩ = some (.int .i8 l) ∧ w'.cell? ⟨fb, 1, none⟩ = some (.int .i8 kk) ∧ w'.cell? ⟨fb, 2, none⟩ = some (.slice a n c))
        (first | with_reducible exact gam3 K2 | with_reducible exact gam3 K1)
        (first | (go_at_call 31; with_reducible refine HQk.out.mono ?_; rintro e w4 ⟨rfl, hb4⟩; have K2 := K1.below hb4 K1.lt))
      have HO5 := Lib.hid (row_next HOW.out hb4)
      have HB5 := Lib.hid (HB1.out.trans (hb4.mono HB1.out.size))
      clear K1 K2 hb4
      go_wp2
      go_roundw
      case rel => exact ⟨k + 1, by go_num, by omega, by rw [HL1.out]; exact HO5.out, HB5.out⟩
      case measure => simp [intOf]; omega
/-- What CandidatesOf hands back. -/
def caL (l kk : Int) (qs : List Ak) : List Int := if okG l kk qs = true then candL kk qs l.toNat else []
def caC (l kk : Int) (qs : List Ak) : Int := if okG l kk qs = true then 0 else 1
theorem ca_bad {l kk : Int} {qs : List Ak} (h : okG l kk qs = false) : caL l kk qs = [] ∧ caC l kk qs = 1 := by
  unfold caL caC; rw [h]; exact ⟨rfl, rfl⟩
theorem ca_good {l kk : Int} {qs : List Ak} (h : okG l kk qs = true) : caL l kk qs = candL kk qs l.toNat ∧ caC l kk qs = 0 := by
  unfold caL caC; rw [h]; exact ⟨rfl, rfl⟩
theorem caL_len (l kk : Int) (qs : List Ak) : (caL l kk qs).length ≤ 60 := by
  cases h : okG l kk qs
  · rw [(ca_bad h).1]; simp
  · rw [(ca_good h).1]
    have := candL_len kk qs l.toNat
    have := okG_t h
    omega
end Go.Proofs.YtijaghkbmgkjnaaDoor
