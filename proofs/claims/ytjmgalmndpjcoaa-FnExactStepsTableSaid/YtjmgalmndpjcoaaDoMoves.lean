/-
  The walks of DoMoves, in the program and in its model.
-/
import Derived.Test.YtjmgalmndpjcoaaMvs2
import Derived.Test.YtjmgalmndpjcoaaDoMove
import Derived.Deep.DeepCutAuto
import Derived.Deep.RegionHeld3
namespace Go.Proofs.Ytjmgalmndpjcoaa
open Go.RowKit
set_option maxRecDepth 100000
set_option linter.unusedVariables false

noncomputable def runM (J : List Int) (t : Bool) : List Mv → (Nat → Int) → (Nat → Int) × Int
  | [], y => (y, 0)
  | m :: ms, y => if movC J t y m.1 m.2.1 m.2.2 = 0 then runM J t ms (movX J t y m.1 m.2.1 m.2.2) else (fun _ => 0, movC J t y m.1 m.2.1 m.2.2)
noncomputable def dsR (J : List Int) (x y : Nat → Int) (t : Bool) (ms : List Mv) : (Nat → Int) × Int := if okW2 J x y = true then (if ms.length ≤ 200 then runM J t ms y else (fun _ => 0, 3)) else (fun _ => 0, 1)
theorem movX_ok {J : List Int} {t : Bool} {y : Nat → Int} {k f g : Int} (hJ : OkJ J) (hy : OkX J y) (h : movC J t y k f g = 0) : OkX J (movX J t y k f g) := by
  unfold movX
  rw [if_pos h]
  refine nextX_ok hJ.2.1 hJ.1.2 hy ?_
  by_cases hm : OkM J.length k f g
  · exact hm
  · rw [movC_bad hm] at h; omega
theorem mv_drop {ms : List Mv} {k : Nat} (h : k < ms.length) : ms.drop k = mvI ms k :: ms.drop (k + 1) := by
  rw [List.drop_eq_getElem_cons h]
  simp [mvI, List.getD_eq_getElem?_getD, List.getElem?_eq_getElem h]
theorem movC_bd (J : List Int) (t : Bool) (y : Nat → Int) (k f g : Int) : 0 ≤ movC J t y k f g ∧ movC J t y k f g ≤ 4 := by
  rcases movC_cases J t y k f g with h | h | h <;> omega
/-- What a loop over moves keeps. -/
structure MvL (w : World) (b off c : Nat) (J : List Int) (x yk : Nat → Int) (t : Bool) (wr : World) : Prop where
  b0 : Blk wr w.heap.size #[.slice (some ⟨b, off, none⟩) J.length c, .int .i16 (x 0), .int .i16 (x 1), .int .i16 (x 2), .int .i16 (x 3), .bool t] 32
  b1 : Blk wr (w.heap.size + 1) #[.int .i16 (yk 0), .int .i16 (yk 1), .int .i16 (yk 2), .int .i16 (yk 3)] 30
  b2 : Blk wr (w.heap.size + 1 + 1) #[.int .i16 0, .int .i16 0, .int .i16 0, .int .i16 0] 30
  bel : Below w.heap.size w wr
theorem MvL.below {w : World} {b off c : Nat} {J : List Int} {x yk : Nat → Int} {t : Bool} {w1 w2 : World} (h : MvL w b off c J x yk t w1) (hb : Below w1.heap.size w1 w2) : MvL w b off c J x yk t w2 :=
  ⟨h.b0.below hb h.b0.lt, h.b1.below hb h.b1.lt, h.b2.below hb h.b2.lt, h.bel.trans (hb.mono h.bel.size)⟩
theorem MvL.put {w : World} {b off c : Nat} {J : List Int} {x yk : Nat → Int} {t : Bool} {w1 : World} (h : MvL w b off c J x yk t w1) (E : Nat → Int) : MvL w b off c J x E t ((((w1.setCell ⟨w.heap.size + 1, 0, none⟩ (.int .i16 (E 0))).setCell ⟨w.heap.size + 1, 1, none⟩ (.int .i16 (E 1))).setCell ⟨w.heap.size + 1, 2, none⟩ (.int .i16 (E 2))).setCell ⟨w.heap.size + 1, 3, none⟩ (.int .i16 (E 3))) := by
  have hle : w.heap.size ≤ w.heap.size + 1 := by omega
  refine ⟨?_, ?_, ?_, (((h.bel.setCell hle _).setCell hle _).setCell hle _).setCell hle _⟩
  · exact (((h.b0.setOther (by omega) 0 _).setOther (by omega) 1 _).setOther (by omega) 2 _).setOther (by omega) 3 _
  · exact (((h.b1.set 0 _).set 1 _).set 2 _).set 3 _
  · exact (((h.b2.setOther (by omega) 0 _).setOther (by omega) 1 _).setOther (by omega) 2 _).setOther (by omega) 3 _
/-- A store of a whole water into a block behind. -/
theorem MvL.setB {w : World} {b off c : Nat} {J : List Int} {x yk : Nat → Int} {t : Bool} {w1 : World} {B : Nat} {v0 v1 v2 v3 : Value} (h : MvL w b off c J x yk t w1) (hB : w.heap.size + 1 + 1 < B) : MvL w b off c J x yk t ((((w1.setCell ⟨B, 0, none⟩ v0).setCell ⟨B, 1, none⟩ v1).setCell ⟨B, 2, none⟩ v2).setCell ⟨B, 3, none⟩ v3) := by
  have hle : w.heap.size ≤ B := by omega
  refine ⟨?_, ?_, ?_, (((h.bel.setCell hle _).setCell hle _).setCell hle _).setCell hle _⟩
  · exact (((h.b0.setOther (by omega) 0 _).setOther (by omega) 1 _).setOther (by omega) 2 _).setOther (by omega) 3 _
  · exact (((h.b1.setOther (by omega) 0 _).setOther (by omega) 1 _).setOther (by omega) 2 _).setOther (by omega) 3 _
  · exact (((h.b2.setOther (by omega) 0 _).setOther (by omega) 1 _).setOther (by omega) 2 _).setOther (by omega) 3 _
theorem MvL.drew {w : World} {b off c : Nat} {J : List Int} {x yk : Nat → Int} {t : Bool} {w1 : World} (h : MvL w b off c J x yk t w1) : MvL w b off c J x yk t w1.drew := h.below (Below.refl _ _).drew
theorem MvL.alloc {w : World} {b off c : Nat} {J : List Int} {x yk : Nat → Int} {t : Bool} {w1 : World} (h : MvL w b off c J x yk t w1) (o : Obj) : MvL w b off c J x yk t (w1.alloc o) := h.below ((Below.refl _ _).alloc (Nat.le_refl _) o)
end Go.Proofs.Ytjmgalmndpjcoaa
