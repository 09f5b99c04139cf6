/-
  The set of the first candidates: the program's walk.
-/
import Derived.Test.YtclmjbkdghgjbaaZ27
namespace Go.Proofs.Ytclmjbkdghgjbaa
open Go.RowKit
set_option maxRecDepth 100000
set_option linter.unusedVariables false

set_option maxHeartbeats 4000000 in
theorem setFor_any (l : Nat) (kk : Int) (a : Option Addr) (c : Nat) (xs : List Ak) (y : Nat → Int) (w : World) (hs : Sla w.heap.size w a xs) (hn : xs.length ≤ 60) (hw : Aall xs) (hl : l ≤ 60) (hk : 0 ≤ kk ∧ kk ≤ 3) (hy : ∀ j, j < 4 → 0 ≤ y j ∧ y j ≤ 60) :
    Calls Try.prog 43 #[gamV l kk a xs.length c, staV y] w fun e w' => e = .returned (.int .u64 (sfG kk xs y l).2) ∧ Below w.heap.size w w' := by
  have F0 := ((FR.start w).box #[.int .i8 l, .int .i8 kk, .slice a xs.length c] 25).box (staC y) 40
  simp only [World.size_alloc] at F0
  have HC := Lib.hid (fun W hs => candidates_any l kk a c xs W hs hn hw hl hk)
  have HS := Lib.hid hs
  have HQ := Lib.hid (fun k W hs (hk : k ≤ 63) => liesForM_any l kk a c xs k W hs hn hw hk)
  have HLE := Lib.hid (fun k => Nat.le_trans (lieN_le xs k xs.length) hn)
  have HCG := Lib.hid (candL_get kk xs l)
  have HLN := Lib.hid (candL_len kk xs l)
  have HG := Lib.hid (show sfG kk xs y l = sfL xs y (candL kk xs l) from rfl)
  have HOK := Lib.hid (fun L => sfL_ok (qs := xs) hy L)
  obtain ⟨c0, c1, c2, -⟩ := (F0.blk _ (List.mem_cons_of_mem _ List.mem_cons_self)).three
  generalize hgL : candL kk xs l = L at *
  clear hs hw hgL hy
  go_enter Try.func43, Try.ntmps43
  go_wp2_with fail
  refine (HC.out _ (HS.out.up F0.below (Nat.le_refl _))).mono ?_
  rintro e w2 ⟨u, rfl, hown, hb⟩
  have F1 := F0.next hb
  rcases OwnV.ofOwns (by simp) hown with ⟨hnil, a', c', hu⟩ | ⟨g, cp, hu, hg, hg2, hat, -⟩
  · subst hu
    have HE := Lib.hid (show (sfG kk xs y l).2 = 0 from by rw [HG.out, hnil]; rfl)
    have HB := Lib.hid F1.below
    clear hb F0 F1 c0 c1 c2 hown
    go_wp2
    refine wp_loop_rounds 1 ?_
    rw [rounds_succ]
    go_wp2
    go_ret
    exact ⟨by rw [HE.out]; rfl, HB.out⟩
  subst hu
  have hgs : w.heap.size + 1 < g := by simp at hg; omega
  have HA := Lib.hid hat
  have HF1 := Lib.hid F1
  clear hb F0 F1 c0 c1 c2 hown hat hg
  go_wp2
  go_loopw [5, 7, 8, 12] (fun sv _ _ iv wr => ∃ i : Nat, iv = .int .i64 (i : Int) ∧ i ≤ L.length ∧ sv = .int .u64 (sfL xs y (L.take i)).2 ∧ FR w [(w.heap.size + 1, staC (sfL xs y (L.take i)).1, 40), (w.heap.size, #[.int .i8 l, .int .i8 kk, .slice a xs.length c], 25)] wr ∧ At .i64 wr g 0 L ∧ g < wr.heap.size) (fun _ _ _ iv _ => L.length - (intOf iv).toNat)
  case atStart => exact ⟨0, rfl, Nat.zero_le _, rfl, HF1.out, HA.out, hg2⟩
  case round =>
    obtain ⟨i, rfl, hi, rfl, hF, hat, hgl⟩ := hrel
    have hll : L.length ≤ 60 := by have := HLN.out; omega
    by_cases hlt : i < L.length
    case neg =>
      have hi1 : i = L.length := by omega
      have HE := Lib.hid (show (sfL xs y (L.take i)).2 = (sfG kk xs y l).2 from by rw [hi1, List.take_length, HG.out])
      have HB := Lib.hid hF.below
      generalize (sfL xs y (L.take i)).2 = s at *
      clear hF hat hi1
      go_wp2
      go_ret
      exact ⟨by rw [← HE.out]; rfl, HB.out⟩
    have hlz : (i : Int) < (L.length : Int) := by omega
    have p0 := hat i hlt
    rw [Nat.zero_add] at p0
    obtain ⟨k, hkl, hke, hkk⟩ := HCG.out i hlt
    rw [hke] at p0
    have hx4 : lieN xs k xs.length < 4 := by omega
    have HQk := Lib.hid (HQ.out k wr (HS.out.up hF.below (Nat.le_refl _)) (by omega))
    have hok : SfOk (sfL xs y (L.take i)) := HOK.out _
    have hsn1 : sfL xs y (L.take (i + 1)) = sfStep xs (sfL xs y (L.take i)) (k : Int) := by rw [take_getD L i hlt, sfL_snoc, hke]
    obtain ⟨x, hgx⟩ : ∃ x, lieN xs k xs.length = x := ⟨_, rfl⟩
    rw [hgx] at hx4 HQk
    have hsc := fun hp => sf_cells (qs := xs) (p := sfL xs y (L.take i)) (e := (k : Int)) (x := x) (by rw [Int.toNat_natCast]; exact hgx) hx4 hp
    have hsn := fun hp => sf_none (qs := xs) (p := sfL xs y (L.take i)) (e := (k : Int)) (x := x) (by rw [Int.toNat_natCast]; exact hgx) hp
    rw [← hsn1] at hsc hsn
    rw [Int.toNat_natCast] at hsc
    generalize hg3 : sfL xs y (L.take (i + 1)) = p2 at *
    have HG3 := Lib.hid hg3
    generalize sfL xs y (L.take i) = p at *
    have HSC := Lib.hid hsc
    have HNO := Lib.hid hsn
    obtain ⟨c0, c1, c2, -⟩ := (hF.blk _ (List.mem_cons_of_mem _ List.mem_cons_self)).three
    dsimp only at c0 c1 c2
    clear hsc hsn hgx hke hg3 hsn1
    go_wp2_with fail
    refine HQk.out.mono ?_
    rintro e w4 ⟨rfl, hb4⟩
    have F4 := hF.next hb4
    have HA4 := Lib.hid (And.intro (hat.next hgl hb4) (Nat.lt_of_lt_of_le hgl hb4.size))
    clear c0 c1 c2 hF hb4 hat p0
    have hxz : (x : Int) < 4 := by omega
    have d0 := Blk.sta (x := p.1) (F4.blk _ List.mem_cons_self) x hx4
    have f0 := (F4.blk _ List.mem_cons_self).free x
    dsimp only at d0 f0
    have hyx := hok.1 x hx4
    have hsu := hok.2
    unfold U64 at hsu
    have hk60 : k < 60 := by omega
    by_cases hz : 0 < p.1 x
    · have h1 := F4.setTop x (.int .i64 (p.1 x - 1))
      rw [(HSC.out hz).1] at h1
      have HN := Lib.hid h1
      have HP2 := Lib.hid (show p2.2 = bits .or .u64 p.2 (IntKind.u64.wrap (2 ^ k)) from (HSC.out hz).2)
      generalize p.1 x = z at *
      generalize p.2 = s at *
      clear F4 h1 hok HSC HNO
      go_wp2
      go_roundw
      case rel => exact ⟨i + 1, by go_num, by omega, by rw [HG3.out, HP2.out], by rw [HG3.out]; exact HN.out, HA4.out.1.setOther (by omega) _ _, by simpa using HA4.out.2⟩
      case measure => simp [intOf]; omega
    · have HE := Lib.hid (HNO.out (by omega))
      have HF4 := Lib.hid F4
      generalize p.1 x = z at *
      have hzz : decide (0 < z) = false := by simpa using hz
      clear F4 hok HSC HNO
      go_wp2
      go_roundw
      case rel => exact ⟨i + 1, by go_num, by omega, by rw [HG3.out, HE.out], by rw [HG3.out, HE.out]; exact HF4.out, HA4.out.1, HA4.out.2⟩
      case measure => simp [intOf]; omega
end Go.Proofs.Ytclmjbkdghgjbaa
