/-
  The walk of the model's table of the fewest weights.
-/
import Derived.Test.YtmmdldbaoemdoaaWaysSpec
import Derived.Test.YtmmdldbaoemdoaaFewMath
namespace Go.Proofs.Ytmmdldbaoemdoaa
open Go.RowKit Go.Maps

def rowV (o j : Nat) : Value := .slice (some ⟨o + 1 + j, 0, none⟩) 4001 4001
/-- Block o holds the rows o + 1, o + 2, ..; row i holds F i. -/
structure Tab (w : World) (o n : Nat) (F : Nat → Nat → Int) : Prop where
  out : w.rowIs o 38 (n + 1) (rowV o)
  row : ∀ i, i ≤ n → w.rowIs (o + 1 + i) 2 4001 (fun j => .int .i64 (F i j))
theorem Tab.congr {w : World} {o n : Nat} {F G : Nat → Nat → Int} (h : Tab w o n F) (e : ∀ i j, i ≤ n → j < 4001 → F i j = G i j) : Tab w o n G :=
  ⟨h.out, fun i hi => (h.row i hi).congr (fun j hj => by rw [e i j hi hj])⟩
theorem Tab.set {w : World} {o n i k : Nat} {F : Nat → Nat → Int} (h : Tab w o n F) (v : Int) : Tab (w.setCell ⟨o + 1 + i, k, none⟩ (.int .i64 v)) o n (fun i' j => if i' = i ∧ j = k then v else F i' j) := by
  refine ⟨h.out.setOther (by show o ≠ o + 1 + i; omega) _, fun i' hi' => ?_⟩
  by_cases e : i' = i
  · subst e
    refine ((h.row i' hi').set k _).congr (fun j _ => ?_)
    by_cases e2 : j = k
    · simp [e2]
    · simp [e2]
  · refine ((h.row i' hi').setOther (by show o + 1 + i' ≠ o + 1 + i; omega) _).congr (fun j _ => ?_)
    simp [e]
theorem Tab.drewN {w : World} {o n : Nat} {F : Nat → Nat → Int} (h : Tab w o n F) (q : Nat) : Tab (w.drewN q) o n F := ⟨h.out, h.row⟩
theorem Tab.ptr {w : World} {o n : Nat} {F : Nat → Nat → Int} (h : Tab w o n F) {i : Nat} (hi : i ≤ n) : w.cell? ⟨o, i, none⟩ = some (.slice (some ⟨o + 1 + i, 0, none⟩) 4001 4001) := h.out.cell (by omega)
theorem Tab.cell {w : World} {o n : Nat} {F : Nat → Nat → Int} (h : Tab w o n F) {i j : Nat} (hi : i ≤ n) (hj : j < 4001) : w.cell? ⟨o + 1 + i, j, none⟩ = some (.int .i64 (F i j)) := (h.row i hi).cell hj
theorem Tab.frozen {w : World} {o n : Nat} {F : Nat → Nat → Int} (h : Tab w o n F) {i : Nat} (hi : i ≤ n) (j : Nat) : w.frozen? ⟨o + 1 + i, j, none⟩ = false := (h.row i hi).frozen j
theorem Try.info_row : (Try.prog.info? 38).map (fun i => (i.zero, i.size, i.bytes)) = some (some (.slice none 0 0), 1, 24) := by kernel_rfl
/-- The table when d rows are done. -/
def tabF (pl ws : List Int) (n d i j : Nat) : Int := if n - i ≤ d then fewFn pl ws (n - i) ((j : Int) - 2000) else -1
theorem fewStep_neg {f : Int → Int} {wt s acc x : Int} (h : f (s - x * wt) < 0) : fewStep f wt s acc x = acc := by unfold fewStep; rw [if_pos h]
theorem fewStep_take {f : Int → Int} {wt s acc x : Int} (h : ¬ f (s - x * wt) < 0) (h2 : acc < 0 ∨ f (s - x * wt) + x * x < acc) : fewStep f wt s acc x = f (s - x * wt) + x * x := by unfold fewStep; rw [if_neg h, if_pos h2]
theorem fewStep_keep {f : Int → Int} {wt s acc x : Int} (h : ¬ f (s - x * wt) < 0) (h2 : ¬ (acc < 0 ∨ f (s - x * wt) + x * x < acc)) : fewStep f wt s acc x = acc := by unfold fewStep; rw [if_neg h, if_neg h2]
set_option maxRecDepth 100000 in
set_option maxHeartbeats 2000000 in
theorem l01Fewest_any (b off c : Nat) (ws : List Int) (both : Bool) (w : World) (hb : b < w.heap.size) (hc : At .i16 w b off ws) (hO : OkW ws) :
    Calls Try.prog 23 #[.slice (some ⟨b, off, none⟩) ws.length c, .bool both] w fun e w' => e = .returned (.slice (some ⟨w.heap.size, 0, none⟩) (ws.length + 1) (ws.length + 1)) ∧ Tab w' w.heap.size ws.length (fun i j => fewFn (plOf both) ws (ws.length - i) ((j : Int) - 2000)) ∧ Below w.heap.size w w' := by
  have hl16 := hO.2.1
  have hl1 := hO.1
  have HW := Lib.hid (okW_bd hO)
  have HOUT := Lib.hid (fun d (hd : d ≤ ws.length) s hs => few_out hO both d hd s hs)
  have HBD := Lib.hid (few_bd both ws)
  have HPB := Lib.hid (fun (f : Int → Int) (M : Int) hf hM wt s m => fewPart_bd (both := both) (f := f) (M := M) hf hM wt s m)
  have HSTEP := Lib.hid (few_step both ws)
  have HL := Lib.hid (l01Least_any both)
  have HPG := Lib.hid (plOf_getD both)
  have HPL := Lib.hid (plOf_len both)
  have hpl3 := plOf_length both
  have hlb := leastOf_bd both
  generalize hpl : plOf both = pl at *
  generalize leastOf both = le at *
  have hmk1 := run_make_row' (P := Try.prog) 44 38 (.slice none 0 0) 24 Try.underlying44 Try.info_row rfl .i64 .i64 (ws.length + 1) (by omega) (by omega)
  have hmk2 := run_make_row' (P := Try.prog) 38 2 (.int .i64 0) 8 Try.underlying38 Try.info_i64t rfl .i64 .i64 4001 (by omega) (by omega)
  have hm1 : ∀ w, (Instr.makeSlice 44 (.int .i64 ((ws.length : Int) + 1)) (.int .i64 ((ws.length : Int) + 1))).run Try.prog w = .ok (.slice (some ⟨w.heap.size, 0, none⟩) (ws.length + 1) (ws.length + 1)) (w.alloc (.cells (madeCells #[.slice none 0 0] (ws.length + 1)) 38)) := fun w => by
    have := hmk1 w
    rw [show ((ws.length + 1 : Nat) : Int) = (ws.length : Int) + 1 by omega] at this
    exact this
  have hm2 : ∀ w, (Instr.makeSlice 38 (.int .i64 4001) (.int .i64 4001)).run Try.prog w = .ok (.slice (some ⟨w.heap.size, 0, none⟩) 4001 4001) (w.alloc (.cells (madeCells #[.int .i64 0] 4001) 2)) := fun w => hmk2 w
  have HMO := Lib.hid (World.rowIs_made w (.slice none 0 0) (ws.length + 1) 38)
  have HMR := Lib.hid (fun (w : World) => World.rowIs_made w (.int .i64 0) 4001 2)
  have hB0 : Below w.heap.size w (w.alloc (.cells (madeCells #[.slice none 0 0] (ws.length + 1)) 38)) := (Below.refl _ w).alloc (Nat.le_refl _) _
  have hs0 : (w.alloc (.cells (madeCells #[.slice none 0 0] (ws.length + 1)) 38)).heap.size = w.heap.size + 1 := by simp
  generalize madeCells #[Value.slice none 0 0] (ws.length + 1) = mo at *
  generalize madeCells #[Value.int .i64 0] 4001 = mr at *
  have HS0 := Lib.hid hs0
  clear hmk1 hmk2 hs0
  go_enter Try.func23, Try.ntmps23
  go_wp2_with fail
  generalize ho : w.heap.size = o at *
  generalize hn : ws.length = n at *
  go_loopw [7] (fun iv wr => ∃ i : Nat, iv = .int .i64 i ∧ i ≤ n + 1 ∧ wr.heap.size = o + 1 + i ∧ wr.rowIs o 38 (n + 1) (fun j => if j < i then rowV o j else .slice none 0 0) ∧ (∀ i', i' < i → wr.rowIs (o + 1 + i') 2 4001 (fun _ => .int .i64 (-1))) ∧ Below o w wr) (fun iv _ => n + 1 - (intOf iv).toNat)
  case atStart => exact ⟨0, rfl, Nat.zero_le _, HS0.out, HMO.out.congr (fun j _ => by simp), fun i' h => absurd h (by omega), hB0⟩
  case round =>
    obtain ⟨i, rfl, hi, hsz, hro, hrr, hB⟩ := hrel
    have HRO := Lib.hid hro
    have HRR := Lib.hid hrr
    have HSZ := Lib.hid hsz
    clear hro hrr hsz
    by_cases hlt : i ≤ n
    · have hco : (wr.alloc (.cells mr 2)).cell? ⟨o, i, none⟩ = some (.slice none 0 0) := by
        have := (HRO.out.alloc (.cells mr 2)).cell (i := i) (by omega)
        rw [if_neg (by omega)] at this
        exact this
      have hfo := (HRO.out.alloc (.cells mr 2)).frozen i
      have hsz := HSZ.out
      have hr1 : ((wr.alloc (.cells mr 2)).setCell ⟨o, i, none⟩ (rowV o i)).rowIs o 38 (n + 1) (fun j => if j < i + 1 then rowV o j else .slice none 0 0) := by
        refine ((HRO.out.alloc _).set i _).congr (fun j hj => ?_)
        by_cases e : j = i
        · subst e; rw [if_pos rfl, if_pos (by omega)]
        · by_cases e2 : j < i
          · rw [if_neg e, if_pos e2, if_pos (by omega)]
          · rw [if_neg e, if_neg e2, if_neg (by omega)]
      have hr2 : ∀ i', i' < i → ((wr.alloc (.cells mr 2)).setCell ⟨o, i, none⟩ (rowV o i)).rowIs (o + 1 + i') 2 4001 (fun _ => .int .i64 (-1)) := fun i' h' => ((HRR.out i' h').alloc _).setOther (by show o + 1 + i' ≠ o; omega) _
      have hr3 : ((wr.alloc (.cells mr 2)).setCell ⟨o, i, none⟩ (rowV o i)).rowIs (o + 1 + i) 2 4001 (fun _ => .int .i64 0) := by
        have := HMR.out wr
        rw [hsz] at this
        exact this.setOther (by show o + 1 + i ≠ o; omega) _
      have hB1 : Below o w ((wr.alloc (.cells mr 2)).setCell ⟨o, i, none⟩ (rowV o i)) := (hB.alloc (by omega) _).setCell (Nat.le_refl _) _
      have hs1 : ((wr.alloc (.cells mr 2)).setCell ⟨o, i, none⟩ (rowV o i)).heap.size = o + 1 + i + 1 := by simp; omega
      have HR := Lib.hid (And.intro hr1 (And.intro hr2 (And.intro hr3 (And.intro hB1 hs1))))
      clear hr1 hr2 hr3 hB1 hs1
      unfold rowV at HR
      go_wp2_with fail
      clear hco hfo hsz
      generalize (wr.alloc (.cells mr 2)).setCell ⟨o, i, none⟩ (.slice (some ⟨o + 1 + i, 0, none⟩) 4001 4001) = wb at *
      go_loopw [8] (fun kv wi => ∃ k : Nat, kv = .int .i64 k ∧ k ≤ 4001 ∧ wi.heap.size = o + 1 + i + 1 ∧ wi.rowIs o 38 (n + 1) (fun j => if j < i + 1 then rowV o j else .slice none 0 0) ∧ (∀ i', i' < i → wi.rowIs (o + 1 + i') 2 4001 (fun _ => .int .i64 (-1))) ∧ wi.rowIs (o + 1 + i) 2 4001 (fun j => if j < k then .int .i64 (-1) else .int .i64 0) ∧ Below o w wi) (fun kv _ => 4001 - (intOf kv).toNat)
      case atStart => exact ⟨0, rfl, Nat.zero_le _, HR.out.2.2.2.2, HR.out.1, HR.out.2.1, HR.out.2.2.1.congr (fun j _ => by simp), HR.out.2.2.2.1⟩
      case round =>
        obtain ⟨k, rfl, hk, hsz, hro, hrr, hrk, hBk⟩ := hrel
        have HRO2 := Lib.hid hro
        have HRR2 := Lib.hid hrr
        have HRK2 := Lib.hid hrk
        have HSZ2 := Lib.hid hsz
        clear hro hrr hrk hsz
        by_cases hk4 : k < 4001
        · have hcp : wr.cell? ⟨o, i, none⟩ = some (.slice (some ⟨o + 1 + i, 0, none⟩) 4001 4001) := by
            have := HRO2.out.cell (i := i) (by omega)
            rw [if_pos (by omega)] at this
            exact this
          have hck : wr.cell? ⟨o + 1 + i, k, none⟩ = some (.int .i64 0) := by
            have := HRK2.out.cell (i := k) hk4
            rw [if_neg (by omega)] at this
            exact this
          have hfk := HRK2.out.frozen k
          go_wp2
          go_roundw
          case rel =>
            refine ⟨k + 1, by go_num, hk4, by simp [HSZ2.out], HRO2.out.setOther (by show o ≠ o + 1 + i; omega) _, fun i' h' => (HRR2.out i' h').setOther (by show o + 1 + i' ≠ o + 1 + i; omega) _, (HRK2.out.set k _).congr (fun j _ => ?_), hBk.setCell (by show o ≤ o + 1 + i; omega) _⟩
            by_cases e : j = k
            · subst e; rw [if_pos rfl, if_pos (by omega)]
            · by_cases e2 : j < k
              · rw [if_neg e, if_pos e2, if_pos (by omega)]
              · rw [if_neg e, if_neg e2, if_neg (by omega)]
          case measure => simp [intOf]; omega
        · have HE2 := Lib.hid (show k = 4001 by omega)
          go_wp2
          go_roundw
          case rel =>
            refine ⟨i + 1, by go_num, by omega, HSZ2.out, HRO2.out, fun i' h' => ?_, hBk⟩
            by_cases e : i' = i
            · subst e; exact HRK2.out.congr (fun j hj => by rw [if_pos (by have := HE2.out; omega)])
            · exact HRR2.out i' (by omega)
          case measure => simp [intOf]; omega
    · have HE := Lib.hid (show i = n + 1 by omega)
      have hT : Tab wr o n (fun _ _ => -1) := ⟨HRO.out.congr (fun j hj => by rw [if_pos (by have := HE.out; omega)]), fun i' h' => HRR.out i' (by have := HE.out; omega)⟩
      have hcp := hT.ptr (Nat.le_refl n)
      have hcc := hT.cell (Nat.le_refl n) (j := 2000) (by omega)
      have hcf := hT.frozen (Nat.le_refl n) 2000
      have HT1 := Lib.hid ((hT.set (i := n) (k := 2000) 0).congr (G := tabF pl ws n 0) (fun i' j h1 h2 => by
        unfold tabF
        by_cases e : i' = n
        · have e3 : n - i' = 0 := by omega
          by_cases e2 : j = 2000
          · rw [if_pos ⟨e, e2⟩, if_pos (by omega), e3]
            unfold fewFn
            rw [if_pos (by omega)]
          · rw [if_neg (fun h => e2 h.2), if_pos (by omega), e3]
            unfold fewFn
            rw [if_neg (by omega)]
        · rw [if_neg (fun h => e h.1), if_neg (by omega)]))
      have HB1 := Lib.hid (hB.setCell (p := ⟨o + 1 + n, 2000, none⟩) (by show o ≤ o + 1 + n; omega) (.int .i64 0))
      have hgt : ¬ i ≤ n := hlt
      clear hT hlt
      go_wp2_with fail
      clear hcp hcc hcf
      go_loopw [9] (fun iv wr => ∃ d : Nat, iv = .int .i64 ((n : Int) - 1 - d) ∧ d ≤ n ∧ Tab wr o n (tabF pl ws n d) ∧ Below o w wr) (fun iv _ => (intOf iv + 1).toNat)
      case atStart => exact ⟨0, by simp, Nat.zero_le _, HT1.out, HB1.out⟩
      case round =>
        obtain ⟨d, rfl, hd, hT, hBd⟩ := hrel
        have HT := Lib.hid hT
        clear hT
        by_cases hdn : d < n
        · obtain ⟨ii, hii⟩ : ∃ ii, n = ii + d + 1 := ⟨n - d - 1, by omega⟩
          have hiv : (n : Int) - 1 - d = (ii : Int) := by omega
          rw [hiv]
          have hwi := HW.out ii (by omega)
          have hcw : wr.cell? ⟨b, off + ii, none⟩ = some (.int .i16 (ws.getD ii 0)) := (hBd.cell (p := ⟨b, off + ii, none⟩) hb).trans (hc ii (by omega))
          have HF := Lib.hid (fun s => HBD.out d s)
          have HFO := Lib.hid (fun s hs => HOUT.out d hd s hs)
          have HS1 := Lib.hid (show ∀ s, fewFn pl ws (d + 1) s = fewPart pl (fewFn pl ws d) (ws.getD ii 0) s pl.length from fun s => by rw [HSTEP.out d s, show n - (d + 1) = ii by omega])
          generalize hwt : ws.getD ii 0 = wt at *
          have HTM := Lib.hid (HT.out.congr (G := fun i' j => if i' = ii then (if j < 0 then fewPart pl (fewFn pl ws d) wt ((j : Int) - 2000) pl.length else -1) else tabF pl ws n d i' j) (fun i' j h1 h2 => by
            by_cases e : i' = ii
            · rw [if_pos e, if_neg (by omega)]
              unfold tabF
              rw [if_neg (by omega)]
            · rw [if_neg e]))
          have hiin : ii + 1 ≤ n := by omega
          have HNX := Lib.hid (show ∀ j, tabF pl ws n d (ii + 1) j = fewFn pl ws d ((j : Int) - 2000) from fun j => by
            unfold tabF
            rw [if_pos (by omega), show n - (ii + 1) = d by omega])
          have hd16 : (d : Int) ≤ 16 := by omega
          have HBA := Lib.hid hBd
          clear hcw
          generalize fewFn pl ws d = f at *
          have HII := Lib.hid (And.intro hii hiv)
          have hiL : ii < n := by omega
          have HWT := Lib.hid hwt
          clear hii hiv hwt
          go_wp2_with fail
          go_loopw [10] (fun kv wi => ∃ kk : Nat, kv = .int .i64 kk ∧ kk ≤ 4001 ∧ Tab wi o n (fun i' j => if i' = ii then (if j < kk then fewPart pl f wt ((j : Int) - 2000) pl.length else -1) else tabF pl ws n d i' j) ∧ Below o w wi) (fun kv _ => 4001 - (intOf kv).toNat)
          case atStart => exact ⟨0, rfl, Nat.zero_le _, HTM.out, HBA.out⟩
          case round =>
            obtain ⟨kk, rfl, hkk, hTk, hBk⟩ := hrel
            have HTK := Lib.hid hTk
            clear hTk
            by_cases hk4 : kk < 4001
            · go_wp2_with fail
              refine (HL.out _).mono ?_
              rintro e w' ⟨rfl, rfl⟩
              go_wp2_with fail
              go_loopw [11] (fun xv wj => ∃ mm : Nat, xv = .int .i64 (le + mm) ∧ mm ≤ pl.length ∧ Tab wj o n (fun i' j => if i' = ii then (if j = kk then fewPart pl f wt ((kk : Int) - 2000) mm else if j < kk then fewPart pl f wt ((j : Int) - 2000) pl.length else -1) else tabF pl ws n d i' j) ∧ Below o w wj) (fun xv _ => (2 - intOf xv).toNat)
              case atStart =>
                refine ⟨0, by simp, Nat.zero_le _, HTK.out.congr (fun i' j h1 h2 => ?_), hBk⟩
                by_cases e : i' = ii
                · rw [if_pos e, if_pos e]
                  by_cases e2 : j = kk
                  · rw [if_neg (by omega), if_pos e2]; simp [fewPart]
                  · rw [if_neg e2]
                · rw [if_neg e, if_neg e]
              case round =>
                obtain ⟨mm, rfl, hmm, hTj, hBj⟩ := hrel
                have HTJ := Lib.hid hTj
                clear hTj
                by_cases hlm : mm < pl.length
                · have hxx : le + (mm : Int) ≤ 1 := by have := HPL.out; omega
                  have hge : -1 ≤ le + (mm : Int) := by omega
                  have hcw : wr.cell? ⟨b, off + ii, none⟩ = some (.int .i16 wt) := by
                    rw [← HWT.out]
                    exact (hBj.cell (p := ⟨b, off + ii, none⟩) hb).trans (hc ii (by omega))
                  have HPS := Lib.hid (show fewPart pl f wt ((kk : Int) - 2000) (mm + 1) = fewStep f wt ((kk : Int) - 2000) (fewPart pl f wt ((kk : Int) - 2000) mm) (le + mm) from by rw [fewPart_step pl f wt _ mm hlm, HPG.out mm hlm])
                  have hPB := HPB.out f d HF.out (by omega) wt ((kk : Int) - 2000) mm
                  have hp1 := HTJ.out.ptr (i := ii) (by omega)
                  have hp2 := HTJ.out.ptr (i := ii + 1) hiin
                  have hcn : wr.cell? ⟨o + 1 + ii, kk, none⟩ = some (.int .i64 (fewPart pl f wt ((kk : Int) - 2000) mm)) := by
                    have := HTJ.out.cell (i := ii) (j := kk) (by omega) hk4
                    rw [if_pos rfl, if_pos rfl] at this
                    exact this
                  have hfz := HTJ.out.frozen (i := ii) (by omega) kk
                  have HNXj := Lib.hid (show ∀ j, j < 4001 → wr.cell? ⟨o + 1 + (ii + 1), j, none⟩ = some (.int .i64 (f ((j : Int) - 2000))) from fun j hj => by
                    have := HTJ.out.cell (i := ii + 1) (j := j) hiin hj
                    rw [if_neg (by omega), HNX.out j] at this
                    exact this)
                  have HKEEP := Lib.hid (show fewPart pl f wt ((kk : Int) - 2000) (mm + 1) = fewPart pl f wt ((kk : Int) - 2000) mm → Tab wr o n (fun i' j => if i' = ii then (if j = kk then fewPart pl f wt ((kk : Int) - 2000) (mm + 1) else if j < kk then fewPart pl f wt ((j : Int) - 2000) pl.length else -1) else tabF pl ws n d i' j) from fun h => by rw [h]; exact HTJ.out)
                  have HSET := Lib.hid (show ∀ v : Int, v = fewPart pl f wt ((kk : Int) - 2000) (mm + 1) → Tab (wr.setCell ⟨o + 1 + ii, kk, none⟩ (.int .i64 v)) o n (fun i' j => if i' = ii then (if j = kk then fewPart pl f wt ((kk : Int) - 2000) (mm + 1) else if j < kk then fewPart pl f wt ((j : Int) - 2000) pl.length else -1) else tabF pl ws n d i' j) ∧ Below o w (wr.setCell ⟨o + 1 + ii, kk, none⟩ (.int .i64 v)) from by
                    intro v hv
                    refine ⟨(HTJ.out.set (i := ii) (k := kk) v).congr (fun i' j _ _ => ?_), hBj.setCell (by show o ≤ o + 1 + ii; omega) _⟩
                    by_cases e : i' = ii
                    · by_cases e2 : j = kk
                      · rw [if_pos ⟨e, e2⟩, if_pos e, if_pos e2, hv]
                      · rw [if_neg (fun h => e2 h.2), if_pos e, if_pos e, if_neg e2, if_neg e2]
                    · rw [if_neg (fun h => e h.1), if_neg e, if_neg e])
                  obtain ⟨q, hq⟩ : ∃ q, (le + (mm : Int)) * wt = q := ⟨_, rfl⟩
                  obtain ⟨y, hy⟩ : ∃ y, (le + (mm : Int)) * (le + (mm : Int)) = y := ⟨_, rfl⟩
                  have h4 : le + (mm : Int) = -1 ∨ le + (mm : Int) = 0 ∨ le + (mm : Int) = 1 := by omega
                  have hqb : -2000 ≤ q ∧ q ≤ 2000 := by
                    rw [← hq]
                    rcases h4 with e | e | e <;> rw [e] <;> omega
                  have hyb : 0 ≤ y ∧ y ≤ 1 := by
                    rw [← hy]
                    rcases h4 with e | e | e <;> rw [e] <;> omega
                  clear h4
                  generalize fewPart pl f wt ((kk : Int) - 2000) mm = P at *
                  by_cases hin : 0 ≤ (kk : Int) - q ∧ (kk : Int) - q ≤ 4000
                  · obtain ⟨fr, hfr⟩ : ∃ fr : Nat, (kk : Int) - q = fr := ⟨((kk : Int) - q).toNat, by omega⟩
                    have hfr4 : fr < 4001 := by omega
                    have hcv := HNXj.out fr hfr4
                    have HV := Lib.hid (show f ((kk : Int) - 2000 - (le + (mm : Int)) * wt) = f ((fr : Int) - 2000) by rw [hq]; congr 1; omega)
                    have hvb := HF.out ((fr : Int) - 2000)
                    generalize f ((fr : Int) - 2000) = V at *
                    clear hin
                    by_cases hv0 : V < 0
                    · have HKP := Lib.hid (HKEEP.out (by rw [HPS.out, fewStep_neg (by rw [HV.out]; exact hv0)]))
                      go_wp2_with fail
                      refine (l00In_t _ _ _ _ (by omega)).mono ?_
                      rintro e w' ⟨rfl, rfl⟩
                      go_wp2
                      go_roundw
                      case rel => exact ⟨mm + 1, by go_num, hlm, HKP.out, hBj⟩
                      case measure => simp [intOf]; omega
                    · by_cases hpv : P < 0 ∨ V + y < P
                      · have HNV := Lib.hid (HSET.out (V + y) (by rw [HPS.out, fewStep_take (by rw [HV.out]; exact hv0) (by rw [HV.out, hy]; exact hpv), HV.out, hy]))
                        rcases (show P < 0 ∨ (¬ P < 0 ∧ V + y < P) by omega) with hp | ⟨hp, hvp⟩
                        · clear hpv
                          go_wp2_with fail
                          refine (l00In_t _ _ _ _ (by omega)).mono ?_
                          rintro e w' ⟨rfl, rfl⟩
                          go_wp2
                          go_roundw
                          case rel => exact ⟨mm + 1, by go_num, hlm, HNV.out.1, HNV.out.2⟩
                          case measure => simp [intOf]; omega
                        · clear hpv
                          go_wp2_with fail
                          refine (l00In_t _ _ _ _ (by omega)).mono ?_
                          rintro e w' ⟨rfl, rfl⟩
                          go_wp2
                          go_roundw
                          case rel => exact ⟨mm + 1, by go_num, hlm, HNV.out.1, HNV.out.2⟩
                          case measure => simp [intOf]; omega
                      · have HKP := Lib.hid (HKEEP.out (by rw [HPS.out, fewStep_keep (by rw [HV.out]; exact hv0) (by rw [HV.out, hy]; exact hpv)]))
                        have hp1' : ¬ P < 0 := by omega
                        have hp2' : ¬ V + y < P := by omega
                        clear hpv
                        go_wp2_with fail
                        refine (l00In_t _ _ _ _ (by omega)).mono ?_
                        rintro e w' ⟨rfl, rfl⟩
                        go_wp2
                        go_roundw
                        case rel => exact ⟨mm + 1, by go_num, hlm, HKP.out, hBj⟩
                        case measure => simp [intOf]; omega
                  · have HKP := Lib.hid (HKEEP.out (by rw [HPS.out, fewStep_neg (by rw [hq]; exact HFO.out _ (by omega))]))
                    have HIN := Lib.hid hin
                    clear hin
                    go_wp2_with fail
                    refine (l00In_f _ _ _ _ HIN.out).mono ?_
                    rintro e w' ⟨rfl, rfl⟩
                    go_wp2
                    go_roundw
                    case rel => exact ⟨mm + 1, by go_num, hlm, HKP.out, hBj⟩
                    case measure => simp [intOf]; omega
                · have HE2 := Lib.hid (show mm = pl.length by omega)
                  have hgt2 : ¬ le + (mm : Int) ≤ 1 := by have := HPL.out; have := HE2.out; omega
                  go_wp2
                  go_roundw
                  case rel =>
                    refine ⟨kk + 1, by go_num, hk4, HTJ.out.congr (fun i' j h1 h2 => ?_), hBj⟩
                    by_cases e : i' = ii
                    · rw [if_pos e, if_pos e]
                      by_cases e2 : j = kk
                      · rw [if_pos e2, if_pos (by omega), e2, HE2.out]
                      · by_cases e3 : j < kk
                        · rw [if_neg e2, if_pos e3, if_pos (by omega)]
                        · rw [if_neg e2, if_neg e3, if_neg (by omega)]
                    · rw [if_neg e, if_neg e]
                  case measure => simp [intOf]; omega
            · have HE2 := Lib.hid (show kk = 4001 by omega)
              go_wp2
              go_roundw
              case rel =>
                obtain ⟨hii, hiv⟩ := HII.out
                refine ⟨d + 1, by congr 1; omega, by omega, HTK.out.congr (fun i' j h1 h2 => ?_), hBk⟩
                unfold tabF
                by_cases e : i' = ii
                · rw [if_pos e, if_pos (by have := HE2.out; omega), if_pos (by omega), show n - i' = d + 1 by omega, HS1.out]
                · rw [if_neg e]
                  by_cases e2 : n - i' ≤ d
                  · rw [if_pos e2, if_pos (by omega)]
                  · rw [if_neg e2, if_neg (by omega)]
              case measure => first | (simp [intOf]; done) | (simp [intOf]; omega)
        · have HE2 := Lib.hid (show d = n by omega)
          have hiv : (n : Int) - 1 - d = -1 := by omega
          rw [hiv]
          go_wp2
          go_ret
          have hfin : Tab wr o n (fun i j => fewFn pl ws (n - i) ((j : Int) - 2000)) := HT.out.congr (fun i' j h1 h2 => by
            unfold tabF
            rw [if_pos (by have := HE2.out; omega)])
          subst hn ho
          exact ⟨rfl, hfin, hBd⟩
end Go.Proofs.Ytmmdldbaoemdoaa
