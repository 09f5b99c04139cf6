/-
  The coins on a pan, and balanced fixed plans: the walks of the program.
-/
import Derived.Test.YtlkkjjbihgiiiaaE3
import Derived.Test.YtlkkjjbihgiiiaaOwn
namespace Go.Proofs.Ytlkkjjbihgiiiaa
open Go.RowKit
set_option maxRecDepth 100000
set_option linter.unusedVariables false

/-- The first coins whose letter i is v. -/
def onL (ws : List Wf) (i : Nat) (v : Int) : Nat → List Int
  | 0 => []
  | k + 1 => if wI ws k i = v then onL ws i v k ++ [(k : Int)] else onL ws i v k
theorem onL_len (ws : List Wf) (i : Nat) (v : Int) (k : Nat) : (onL ws i v k).length ≤ k := by
  induction k with
  | zero => simp [onL]
  | succ k ih =>
    unfold onL
    split
    · simp; omega
    · omega
def sm (ws : List Wf) (i : Nat) : Nat → Int
  | 0 => 0
  | k + 1 => sm ws i k + wI ws k i
theorem sm_on (ws : List Wf) (i : Nat) (k : Nat) (h : ∀ j, j < k → -1 ≤ wI ws j i ∧ wI ws j i ≤ 1) : sm ws i k = ((onL ws i 1 k).length : Int) - ((onL ws i (-1) k).length : Int) := by
  induction k with
  | zero => simp [sm, onL]
  | succ k ih =>
    have h1 := ih (fun j hj => h j (by omega))
    have h2 := h k (by omega)
    unfold sm onL
    rcases (show wI ws k i = -1 ∨ wI ws k i = 0 ∨ wI ws k i = 1 by omega) with e | e | e
    · rw [e, if_neg (by omega), if_pos rfl, List.length_append, h1]; simp; omega
    · rw [e, if_neg (by omega), if_neg (by omega), h1]; omega
    · rw [e, if_pos rfl, if_neg (by omega), List.length_append, h1]; simp; omega
theorem sm_bd (ws : List Wf) (i : Nat) (k : Nat) (h : ∀ j, j < k → -1 ≤ wI ws j i ∧ wI ws j i ≤ 1) : -(k : Int) ≤ sm ws i k ∧ sm ws i k ≤ k := by
  rw [sm_on ws i k h]
  have := onL_len ws i 1 k
  have := onL_len ws i (-1) k
  omega
theorem Try.info_i64w : (Try.prog.info? 2).map (fun i => (i.zero, i.size, i.bytes)) = some (some (.int .i64 0), 1, 8) := by kernel_rfl
set_option maxHeartbeats 2000000 in
theorem onPan_any (b off c : Nat) (ws : List Wf) (i : Nat) (v : Int) (w : World) (hn : ws.length ≤ 80) (hi : i < 4) (hv : -1 ≤ v ∧ v ≤ 1) (hb : b < w.heap.size) (hc : WAt w b off ws) :
    Calls Try.prog 43 #[.slice (some ⟨b, off, none⟩) ws.length c, .int .i64 (i : Int), .int .i8 v] w fun e w' => ∃ u, e = .returned u ∧ w'.ownsRow w.heap.size 2 1 u (onL ws i v ws.length).length ((onL ws i v ws.length).map (Value.int .i64)) ∧ Below w.heap.size w w' := by
  obtain ⟨i0, hi0, hz0, hz1, hz2⟩ := info_parts Try.info_i64w
  have HLN := Lib.hid (onL_len ws i v)
  have HST := Lib.hid (show ∀ k, onL ws i v (k + 1) = if wI ws k i = v then onL ws i v k ++ [(k : Int)] else onL ws i v k from fun k => rfl)
  have hM0 : onL ws i v 0 = [] := rfl
  have hiz : (i : Int) < 4 := by omega
  generalize hLL : onL ws i v = L at *
  have HLQ := Lib.hid hLL
  clear hLL
  go_enter Try.func43, Try.ntmps43
  go_wp2
  go_loopw [7, 12] (fun u kv wr => ∃ k : Nat, kv = .int .i64 (k : Int) ∧ k ≤ ws.length ∧ wr.ownsRow w.heap.size 2 1 u (L k).length ((L k).map (Value.int .i64)) ∧ Below w.heap.size w wr) (fun _ kv _ => ws.length - (intOf kv).toNat)
  case atStart => exact ⟨0, rfl, Nat.zero_le _, by rw [hM0]; exact World.ownsRow_nil _ _ _ _, Below.refl _ _⟩
  case round =>
    obtain ⟨k, rfl, hk, hown, hB⟩ := hrel
    by_cases hlt : k < ws.length
    case neg =>
      obtain rfl : k = ws.length := by omega
      have HO := Lib.hid hown
      clear hown
      go_wp2
      go_ret
      exact ⟨_, rfl, HO.out, hB⟩
    obtain ⟨p0, p1, p2, p3⟩ := (hc.below hB hb).four k hlt
    have hkl : (k : Int) < (ws.length : Int) := by omega
    have hll := HLN.out k
    have HSTk := Lib.hid (HST.out k)
    generalize hgx : wI ws k = x at *
    obtain ⟨wq, rfl⟩ : ∃ wq : World, wq = wr := ⟨_, rfl⟩
    have hcell := Blk.word (x := x) (blk_new wq (wordC x) 47) i hi
    have hB1 := hB.alloc hB.size (.cells (wordC x) 47)
    have hO1 := hown.alloc (.cells (wordC x) 47)
    clear hgx
    by_cases hq : x i = v
    · have hqq : (x i == v) = true := by simpa using hq
      have HL1 := Lib.hid (show L (k + 1) = L k ++ [(k : Int)] by rw [HSTk.out, if_pos hq])
      clear hq hown hB
      have hs1 : w.heap.size ≤ (wq.alloc (.cells (wordC x) 47)).heap.size := hB1.size
      go_wp2_with (first
        | (at_builtin; refine wpList_append_own _ rfl _ _ 37 rfl w.heap.size 2 i0 (.int .i64 0) 1 8 Try.underlying37 hi0 hz0 hz1 hz2 rfl (by decide) _ _ _ rfl (hO1.alloc _) ⟨wq.heap.size + 1, 0, none⟩ 1 1 [.int .i64 (k : Int)] rfl rfl ?c1 ?c2 ?c3 ?c4 ?c5 ?_)
        | go_in)
      case c1 =>
        intro j u hj
        match j, hj with
        | 0, hj => simp at hj; subst hj; simp [Addr.add]
      case c2 => intro u hu; simp at hu; subst hu; rfl
      case c3 => unfold maxLen; omega
      case c4 => omega
      case c5 => simp at hs1; simp; omega
      intro u' w1 hown' hgrow _
      have hB3 : Below w.heap.size w w1 := (hB1.alloc hs1 _).grown hgrow (by simp at hs1; simp; omega) (fun j hj => (hO1.lt j hj).1)
      clear hgrow hO1 hB1 p0 p1 p2 p3 hcell
      have HOW := Lib.hid hown'
      clear hown'
      go_wp2
      go_roundw
      case rel => exact ⟨k + 1, by go_num, by omega, by rw [HL1.out]; simpa using HOW.out, hB3⟩
      case measure => simp [intOf]; omega
    · have hqq : (x i == v) = false := by simpa using hq
      have HL1 := Lib.hid (show L (k + 1) = L k by rw [HSTk.out, if_neg hq])
      have HOW := Lib.hid hO1
      have HB1 := Lib.hid hB1
      clear hq hown hB hO1 hB1
      go_wp2
      go_roundw
      case rel => exact ⟨k + 1, by go_num, by omega, by rw [HL1.out]; exact HOW.out, HB1.out⟩
      case measure => simp [intOf]; omega
end Go.Proofs.Ytlkkjjbihgiiiaa
