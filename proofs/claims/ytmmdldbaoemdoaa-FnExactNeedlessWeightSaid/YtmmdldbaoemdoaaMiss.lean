/-
  The walks of NotWeighed, in the program and in its model.
-/
import Derived.Test.YtmmdldbaoemdoaaCan
import Derived.Test.YtmmdldbaoemdoaaSlaw
namespace Go.Proofs.Ytmmdldbaoemdoaa
open Go.RowKit Go.Maps

/-- The masses from 1 to k that cannot be weighed. -/
def missTo (pl ws : List Int) : Nat → List Int
  | 0 => []
  | k + 1 => if wayFn pl ws ws.length ((k : Int) + 1) = 0 then missTo pl ws k ++ [(k : Int) + 1] else missTo pl ws k
theorem missTo_len (pl ws : List Int) (k : Nat) : (missTo pl ws k).length ≤ k := by
  induction k with
  | zero => simp [missTo]
  | succ k ih =>
    unfold missTo
    split
    · simp; omega
    · omega
noncomputable def codeN (ws : List Int) : Int := if okW ws = true then 0 else 1
noncomputable def nwV (ws : List Int) (both : Bool) : List Int := if okW ws = true then missTo (plOf both) ws (sumI ws).toNat else []
theorem okW_total {ws : List Int} (h : OkW ws) : 0 ≤ sumI ws ∧ sumI ws ≤ 2000 := by
  have := okW_sum h ws.length (Nat.le_refl _)
  rwa [List.take_length] at this
theorem nwV_len (ws : List Int) (both : Bool) : (nwV ws both).length ≤ 1048576 := by
  unfold nwV
  by_cases h : okW ws = true
  · rw [if_pos h]
    have h1 := missTo_len (plOf both) ws (sumI ws).toNat
    have h2 := okW_total (of_cb h)
    omega
  · rw [if_neg h]; simp
set_option maxRecDepth 100000 in
theorem l01Missing_any (b off c : Nat) (ws : List Int) (most : Int) (both : Bool) (w : World) (hb : b < w.heap.size) (hc : At .i16 w b off ws) (hO : OkW ws) (hm : 0 ≤ most ∧ most ≤ 2000) :
    Calls Try.prog 17 #[.slice (some ⟨b, off, none⟩) ws.length c, .int .i64 most, .bool both] w fun e w' => ∃ v, e = .returned v ∧ OwnV .i64 w.heap.size w' v (missTo (plOf both) ws most.toNat) ∧ Below w.heap.size w w' := by
  obtain ⟨i0, hi, hz0, hz1, hz2⟩ := info_parts Try.info_i64t
  have HF := Lib.hid (l01Fewest_any b off c ws both w hb hc hO)
  have HW := Lib.hid (fun s => few_way both ws s)
  have HN := Lib.hid (fun s => (wayFn_bd both ws ws.length s).1)
  have HLN := Lib.hid (missTo_len (plOf both) ws)
  have HST := Lib.hid (show ∀ k, missTo (plOf both) ws (k + 1) = if wayFn (plOf both) ws ws.length ((k : Int) + 1) = 0 then missTo (plOf both) ws k ++ [(k : Int) + 1] else missTo (plOf both) ws k from fun k => rfl)
  have hM0 : missTo (plOf both) ws 0 = [] := rfl
  go_enter Try.func17, Try.ntmps17
  go_wp2_with fail
  refine HF.out.mono ?_
  rintro e w1 ⟨rfl, hT, hb1⟩
  have hsz := hb1.size
  have HT := Lib.hid hT
  clear hT
  generalize fewFn (plOf both) ws = F at *
  generalize wayFn (plOf both) ws ws.length = W at *
  generalize hLL : missTo (plOf both) ws = L at *
  have HLQ := Lib.hid hLL
  clear hLL
  have hto : 0 < w1.heap.size := by omega
  go_wp2_with fail
  go_loopw [8, 9] (fun v mv wr => ∃ k : Nat, mv = .int .i64 ((k : Int) + 1) ∧ (k : Int) ≤ most ∧ wr.ownsRow w1.heap.size 2 1 v (L k).length ((L k).map (Value.int .i64)) ∧ Below w1.heap.size w1 wr) (fun _ mv _ => (most + 1 - intOf mv).toNat)
  case atStart =>
    refine ⟨0, rfl, by omega, ?_, (Below.refl _ _).alloc (Nat.le_refl _) _⟩
    rw [hM0]
    exact World.ownsRow_made w1 #[] 0 (Nat.le_refl _) (by unfold maxLen; omega) (by simp)
  case round =>
    obtain ⟨k, rfl, hk, hown, hB⟩ := hrel
    by_cases hlt : (k : Int) + 1 ≤ most
    · have hT1 := HT.out
      have hp : wr.cell? ⟨w.heap.size, 0, none⟩ = some (.slice (some ⟨w.heap.size + 1 + 0, 0, none⟩) 4001 4001) := (hB.cell (p := ⟨w.heap.size, 0, none⟩) (hT1.out.lt)).trans (hT1.ptr (i := 0) (Nat.zero_le _))
      have hx : wr.cell? ⟨w.heap.size + 1 + 0, 2000 + (k + 1), none⟩ = some (.int .i64 (F ws.length ((k : Int) + 1))) := by
        have h1 := hT1.cell (i := 0) (j := 2000 + (k + 1)) (Nat.zero_le _) (by omega)
        rw [show ((2000 + (k + 1) : Nat) : Int) - 2000 = (k : Int) + 1 by omega, Nat.sub_zero] at h1
        exact (hB.cell (p := ⟨w.heap.size + 1 + 0, 2000 + (k + 1), none⟩) ((hT1.row 0 (Nat.zero_le _)).lt)).trans h1
      have HFW := Lib.hid (And.intro (HW.out ((k : Int) + 1)) (HN.out ((k : Int) + 1)))
      have hll := HLN.out k
      have hk2 : k ≤ 2000 := by omega
      have HSTk := Lib.hid (HST.out k)
      generalize F ws.length ((k : Int) + 1) = V at *
      by_cases hv : V < 0
      · have HL1 := Lib.hid (show L (k + 1) = L k ++ [(k : Int) + 1] by rw [HSTk.out, if_pos (by have h1 := HFW.out.1; have h2 := HFW.out.2; omega)])
        obtain ⟨wq, rfl⟩ : ∃ wq : World, wq = wr := ⟨_, rfl⟩
        go_wp2_with (first
          | (at_builtin; refine wpList_append_own _ rfl _ _ 38 rfl w1.heap.size 2 i0 (.int .i64 0) 1 8 Try.underlying38 hi hz0 hz1 hz2 rfl (by decide) _ _ _ rfl (hown.alloc _) ⟨wq.heap.size, 0, none⟩ 1 1 [.int .i64 ((k : Int) + 1)] rfl rfl ?c1 ?c2 ?c3 ?c4 ?c5 ?_)
          | go_in)
        case c1 =>
          intro j u hj
          match j, hj with
          | 0, hj => simp at hj; subst hj; simp [Addr.add]
        case c2 => intro u hu; simp at hu; subst hu; rfl
        case c3 => unfold maxLen; omega
        case c4 => omega
        case c5 => have := hB.size; simp; omega
        · intro v' w1' hown' hgrow _
          have hB3 : Below w1.heap.size w1 w1' := (hB.alloc hB.size _).grown hgrow (by have := hB.size; simp; omega) (fun j hj => (hown.lt j hj).1)
          clear hgrow
          go_wp2
          go_roundw
          case rel => exact ⟨k + 1, by go_num, by omega, by rw [HL1.out]; simpa using hown', hB3⟩
          case measure => simp [intOf]; omega
      · have HL1 := Lib.hid (show L (k + 1) = L k by rw [HSTk.out, if_neg (by have h1 := HFW.out.1; have h2 := HFW.out.2; omega)])
        go_wp2
        go_roundw
        case rel => exact ⟨k + 1, by go_num, by omega, by rw [HL1.out]; exact hown, hB⟩
        case measure => simp [intOf]; omega
    · have HE := Lib.hid (show k = most.toNat by omega)
      go_wp2
      go_ret
      refine ⟨_, rfl, ?_, hb1.trans (hB.mono hsz)⟩
      rw [← HE.out, HLQ.out]
      exact (OwnV.ofOwns rfl hown).mono hsz
end Go.Proofs.Ytmmdldbaoemdoaa
