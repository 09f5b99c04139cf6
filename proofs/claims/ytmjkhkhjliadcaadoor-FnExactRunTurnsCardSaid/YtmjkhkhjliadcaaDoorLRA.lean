/-
  The walk of the law of RunTurns.
-/
import Derived.Test.YtmjkhkhjliadcaaDoorQF2
import Derived.Deep.DeepCutAuto
import Derived.Deep.RegionHeld3
namespace Go.Proofs.YtmjkhkhjliadcaaDoor
open Go.RowKit
set_option linter.unusedVariables false

theorem rtL_len (J : List Int) (x : Nat → Int) (P : List Int) : (rtL J x P).length ≤ 60 := by
  unfold rtL
  by_cases h : okT J x = true
  · rw [if_pos h]
    unfold ruL
    by_cases h2 : rnC J x P = 0
    · rw [if_pos h2, rnL_len]
      by_cases h6 : 60 < P.length
      · rw [(ru_long (J := J) (x := x) h6).2.2] at h2; omega
      · omega
    · rw [if_neg h2]; simp
  · rw [if_neg h]; simp
theorem QF.start (w : World) : QF w [] w := ⟨Below.refl _ _, (fun p h => by cases h), (fun p h => by cases h), (fun p h => by cases h), List.nodup_nil⟩
section
variable {w0 W : World} {S S0 : QL} {B q : Nat} {Q : World → Prop} {t : TypeId} {z0 z1 z2 z3 v0 v1 v2 v3 : Value}
theorem QF.drew (h : QF w0 S W) : QF w0 S W.drew := h.next (Below.refl _ _).drew
theorem QF.sub {S' : QL} (h : QF w0 S W) (hs : S'.Sublist S) : QF w0 S' W :=
  ⟨h.below, fun p hp => h.lt p (hs.subset hp), fun p hp => h.ok p (hs.subset hp), fun p hp => h.on p (hs.subset hp), (hs.map Prod.fst).nodup h.nd⟩
theorem QF.set4 (h : QF w0 ((B, blkQ B #[z0, z1, z2, z3] t) :: S) W) : QF w0 ((B, blkQ B #[v0, v1, v2, v3] t) :: S) ((((W.setCell ⟨B, 0, none⟩ v0).setCell ⟨B, 1, none⟩ v1).setCell ⟨B, 2, none⟩ v2).setCell ⟨B, 3, none⟩ v3) :=
  h.put ((((Only.refl B W).setCell _ _).setCell _ _).setCell _ _ |>.setCell _ _) ((((Blk.set (h.ok _ List.mem_cons_self) 0 v0).set 1 v1).set 2 v2).set 3 v3) (on_blk _ _ _)
theorem QF.z (h : QF w0 S W) (hm : (B, blkQ B #[.int .i16 0, .int .i16 0, .int .i16 0, .int .i16 0] t) ∈ S) :
    W.cell? ⟨B, 0, none⟩ = some (.int .i16 0) ∧ W.cell? ⟨B, 1, none⟩ = some (.int .i16 0) ∧ W.cell? ⟨B, 2, none⟩ = some (.int .i16 0) ∧ W.cell? ⟨B, 3, none⟩ = some (.int .i16 0) ∧ ∀ i, W.frozen? ⟨B, i, none⟩ = false := Blk.four (h.ok _ hm)
theorem QF.finN (h : QF w0 S W) (hs : List.Sublist ((q, Q) :: (B, blkQ B #[z0, z1, z2, z3] t) :: S0) S) : QF w0 ((B, blkQ B #[v0, v1, v2, v3] t) :: (q, Q) :: S0) ((((W.setCell ⟨B, 0, none⟩ v0).setCell ⟨B, 1, none⟩ v1).setCell ⟨B, 2, none⟩ v2).setCell ⟨B, 3, none⟩ v3) :=
  ((h.sub hs).perm (List.Perm.swap _ _ _)).set4
theorem QF.finE (h : QF w0 S W) (hs : List.Sublist ((B, blkQ B #[z0, z1, z2, z3] t) :: S0) S) : QF w0 ((B, blkQ B #[v0, v1, v2, v3] t) :: S0) ((((W.setCell ⟨B, 0, none⟩ v0).setCell ⟨B, 1, none⟩ v1).setCell ⟨B, 2, none⟩ v2).setCell ⟨B, 3, none⟩ v3) :=
  (h.sub hs).set4
theorem QF.lateN {S' : QL} (h : QF w0 S W) (hs : List.Sublist S' S) : QF w0 S' W := h.sub hs
theorem QF.lateE {S' : QL} (h : QF w0 S W) (hs : List.Sublist S' S) : QF w0 S' W := h.sub hs
end
end Go.Proofs.YtmjkhkhjliadcaaDoor
