/-
  The text of a fixed plan: its model.
-/
import Derived.Test.YtghhmhkpkpcbjaaE3
import Derived.Test.YtghhmhkpkpcbjaaPText
import Derived.Deep.RegionWith
namespace Go.Proofs.Ytghhmhkpkpcbjaa
open Go.RowKit
set_option maxRecDepth 100000
set_option linter.unusedVariables false

/-- The words of the kinds. -/
def kindB (k : Int) : ByteArray := if k = 0 then ⟨#[104, 101, 97, 118, 121]⟩ else if k = 1 then ⟨#[108, 105, 103, 104, 116]⟩ else ⟨#[101, 105, 116, 104, 101, 114]⟩
abbrev kindsC : Array Value := #[.string ⟨#[104, 101, 97, 118, 121]⟩, .string ⟨#[108, 105, 103, 104, 116]⟩, .string ⟨#[101, 105, 116, 104, 101, 114]⟩]
/-- The text of the first j words. -/
def accF (n : Nat) (k : Int) (ws : List Wf) : Nat → ByteArray
  | 0 => kindB k
  | j + 1 => (accF n k ws j ++ ⟨#[32]⟩) ++ textTo (dl (wI ws j)) n
theorem kindB_size (k : Int) : (kindB k).size ≤ 6 := by
  unfold kindB
  split
  · exact Nat.le_succ 5
  · split
    · exact Nat.le_succ 5
    · exact Nat.le_refl 6
theorem accF_size (n : Nat) (k : Int) (ws : List Wf) (j : Nat) (hn : n ≤ 4) : (accF n k ws j).size ≤ 6 + 5 * j := by
  induction j with
  | zero => exact kindB_size k
  | succ j ih =>
    unfold accF
    rw [ByteArray.size_append, ByteArray.size_append]
    have := textTo_size (dl (wI ws j)) n
    have : (⟨#[32]⟩ : ByteArray).size = 1 := rfl
    omega
noncomputable def fxT (l k : Int) (ws : List Wf) : ByteArray := if okX l k ws = true then accF l.toNat k ws ws.length else ⟨#[]⟩
theorem l04Kinds_any (w : World) : Calls Try.prog 42 #[] w fun e w' => e = .returned (.slice (some ⟨w.heap.size, 0, none⟩) 3 3) ∧ w' = w.alloc (.cells kindsC 9) := by
  go_enter Try.func42, Try.ntmps42
  go_wp2
  go_ret
  exact ⟨rfl, rfl⟩
theorem kindNames_any (w : World) : Calls Try.prog 32 #[] w fun e w' => e = .returned (.slice (some ⟨w.heap.size, 0, none⟩) 3 3) ∧ w' = w.alloc (.cells kindsC 9) := by
  go_enter Try.func32, Try.ntmps32
  go_wp2
  go_ret
  exact ⟨rfl, rfl⟩
theorem okX_sign {l k : Int} {ws : List Wf} (h : OkX l k ws) (j : Nat) (hj : j < ws.length) (i : Nat) (hi : i < 4) : -1 ≤ wI ws j i ∧ wI ws j i ≤ 1 := ((h.2.2.2 j hj).2 i hi).1
set_option maxHeartbeats 4000000 in
theorem l04Text_any (fb b off c : Nat) (l k : Int) (ws : List Wf) (w : World) (K : Blk w fb #[.int .i8 l, .int .i8 k, .slice (some ⟨b, off, none⟩) ws.length c] 25) (hx : OkX l k ws) (hb : b < w.heap.size) (hc : WAt w b off ws) :
    Calls Try.prog 29 #[.pointer (some ⟨fb, 0, none⟩)] w fun e w' => e = .returned (.string (accF l.toNat k ws ws.length)) ∧ Below w.heap.size w w' := by
  have hl := hx.1
  have h80 := hx.2.2.1.2
  have hk := hx.2.1
  obtain ⟨n, rfl⟩ : ∃ n : Nat, l = n := ⟨l.toNat, by omega⟩
  rw [show ((n : Int)).toNat = n by simp]
  have HSG := Lib.hid (fun j hj i hi => okX_sign hx j hj i hi)
  have HSZ := Lib.hid (fun j => accF_size n k ws j (by omega))
  have HA0 := Lib.hid (show accF n k ws 0 = kindB k from rfl)
  have HAS := Lib.hid (show ∀ j, accF n k ws (j + 1) = (accF n k ws j ++ ⟨#[32]⟩) ++ textTo (dl (wI ws j)) n from fun j => rfl)
  generalize hA : accF n k ws = A at *
  have HC := Lib.hid hc
  have HK := Lib.hid K
  have F0 := FR.start w
  clear hx hc hA
  have hfb := K.lt
  have hk3 : k = 0 ∨ k = 1 ∨ k = 2 := by omega
  have HKB := Lib.hid (show kindB 0 = ⟨#[104, 101, 97, 118, 121]⟩ ∧ kindB 1 = ⟨#[108, 105, 103, 104, 116]⟩ ∧ kindB 2 = ⟨#[101, 105, 116, 104, 101, 114]⟩ from ⟨rfl, rfl, rfl⟩)
  obtain ⟨c0, c1, c2, -⟩ := K.three
  clear K
  go_enter Try.func29, Try.ntmps29
  go_upto_region 1 with fail
  go_cut [3] (fun s wx => s = .string (A 0) ∧ Below w.heap.size w wx)
  case first =>
    have F1 := F0.drew
    have q1 := HK.out.below F1.below hfb
    have A0 := HA0.out
    have KB := HKB.out
    rcases hk3 with rfl | rfl | rfl
    · go_region_with (first
        | (go_at_call 42; refine (l04Kinds_any _).mono ?_; rintro e w2 ⟨rfl, rfl⟩))
      all_goals (go_wp2_with fail; go_meet; exact ⟨by rw [A0, KB.1], (F1.box kindsC 9).below⟩)
    · go_region_with (first
        | (go_at_call 42; refine (l04Kinds_any _).mono ?_; rintro e w2 ⟨rfl, rfl⟩))
      all_goals (go_wp2_with fail; go_meet; exact ⟨by rw [A0, KB.2.1], (F1.box kindsC 9).below⟩)
    · go_region_with (first
        | (go_at_call 42; refine (l04Kinds_any _).mono ?_; rintro e w2 ⟨rfl, rfl⟩))
      all_goals (go_wp2_with fail; go_meet; exact ⟨by rw [A0, KB.2.2], (F1.box kindsC 9).below⟩)
  case rest =>
  obtain ⟨rfl, hB⟩ := hcut
  clear F0 c0 c1 c2 hk3 HA0 HKB hk
  go_wp2
  go_loopw [3, 4] (fun s jv wr => ∃ j : Nat, jv = .int .i64 (j : Int) ∧ j ≤ ws.length ∧ s = .string (A j) ∧ Below w.heap.size w wr) (fun _ jv _ => ws.length - (intOf jv).toNat)
  case atStart => exact ⟨0, rfl, Nat.zero_le _, rfl, hB⟩
  case round =>
    clear hB
    obtain ⟨j, rfl, hj, rfl, hB⟩ := hrel
    have HB := Lib.hid hB
    obtain ⟨c0, c1, c2, -⟩ := (HK.out.below hB hfb).three
    by_cases hlt : j < ws.length
    case neg =>
      obtain rfl : j = ws.length := by omega
      clear hB
      go_wp2
      go_ret
      exact ⟨rfl, HB.out⟩
    have hjz : (j : Int) < (ws.length : Int) := by omega
    have hsz := HSZ.out j
    have HASj := Lib.hid (HAS.out j)
    have HSGj := Lib.hid (HSG.out j hlt)
    have HCj := Lib.hid (fun wr (h : Below w.heap.size w wr) i hi => (HC.out.below h hb) j hlt i hi)
    generalize A j = Aj at *
    generalize wI ws j = x at *
    have HE0 := Lib.hid (show textTo (dl x) 0 = ⟨#[]⟩ from rfl)
    have HES := Lib.hid (fun i (hi : i < 4) => (show textTo (dl x) i ++ ⟨#[byteOf (x i)]⟩ = textTo (dl x) (i + 1) from by
      have := textTo_step (dl x) i (by simpa [dl] using hi)
      rwa [dl_get x i hi] at this))
    have HEZ := Lib.hid (fun i => textTo_size (dl x) i)
    clear hB
    have hsp : (⟨#[32]⟩ : ByteArray).size = 1 := rfl
    go_wp2_with fail
    generalize hAB : Aj ++ (⟨#[32]⟩ : ByteArray) = B at *
    have hbsz : B.size ≤ 407 := by rw [← hAB, ByteArray.size_append, hsp]; omega
    go_loopw [3, 5] (fun s iv wr => ∃ i : Nat, iv = .int .i8 (i : Int) ∧ i ≤ n ∧ s = .string (B ++ textTo (dl x) i) ∧ Below w.heap.size w wr) (fun _ iv _ => n - (intOf iv).toNat)
    case atStart => exact ⟨0, rfl, Nat.zero_le _, sv (by rw [HE0.out]; exact ByteArray.ext (by simp [ByteArray.data_append])), HB.out⟩
    case round =>
      clear c0 c1 c2
      obtain ⟨i, rfl, hi, rfl, hBi⟩ := hrel
      have HBI := Lib.hid hBi
      obtain ⟨wi, rfl⟩ : ∃ wi : World, wi = wr := ⟨_, rfl⟩
      obtain ⟨c0, c1, c2, -⟩ := (HK.out.below hBi hfb).three
      by_cases hlt2 : i < n
      case neg =>
        obtain rfl : i = n := by omega
        clear hBi
        go_wp2
        go_roundw
        case rel => exact ⟨j + 1, by go_num, by omega, sv HASj.out.symm, HBI.out⟩
        case measure => simp [intOf]; omega
      have hiz : (i : Int) < (n : Int) := by omega
      have hi4 : i < 4 := by omega
      have hcell := HCj.out wi hBi i hi4
      have hsg := HSGj.out i hi4
      have HTi := Lib.hid (HES.out i hi4)
      have hez := HEZ.out i
      have hiz4 : (i : Int) < 4 := by omega
      clear hBi
      generalize hTT : textTo (dl x) i = T at *
      have htsz : (B ++ T).size ≤ 420 := by rw [ByteArray.size_append]; omega
      rcases (show x i = -1 ∨ x i = 0 ∨ x i = 1 by omega) with e | e | e
      all_goals
        rw [e] at hcell HTi
        clear e hsg hTT
      · have hconv := Lib.run_convert_whole (P := Try.prog) (wi.alloc (.cells #[.int .u8 45] 5)) 69 5 9 Try.underlying69 Try.underlying5 Try.underlying9 wi.heap.size 0 ⟨#[45]⟩ (fun q hq => by
          have hq0 : q = 0 := by have : (⟨#[45]⟩ : ByteArray).size = 1 := rfl; omega
          subst hq0
          simp; rfl) 1
        rw [show (⟨#[45]⟩ : ByteArray).size = 1 from rfl] at hconv
        have HX := Lib.hid (show (⟨#[byteOf (-1)]⟩ : ByteArray) = ⟨#[45]⟩ from by decide)
        have hs1 : (⟨#[45]⟩ : ByteArray).size = 1 := rfl
        have hb1 : ((⟨#[45, 48, 43]⟩ : ByteArray)[0]'(by decide)).toNat = 45 := rfl
        go_wp2
        go_roundw
        case rel => exact ⟨i + 1, by go_num, by omega, sv (by rw [← HTi.out, ← ByteArray.append_assoc, HX.out]), HBI.out.alloc HBI.out.size _⟩
        case measure => simp [intOf]; omega
      · have hconv := Lib.run_convert_whole (P := Try.prog) (wi.alloc (.cells #[.int .u8 48] 5)) 69 5 9 Try.underlying69 Try.underlying5 Try.underlying9 wi.heap.size 0 ⟨#[48]⟩ (fun q hq => by
          have hq0 : q = 0 := by have : (⟨#[48]⟩ : ByteArray).size = 1 := rfl; omega
          subst hq0
          simp; rfl) 1
        rw [show (⟨#[48]⟩ : ByteArray).size = 1 from rfl] at hconv
        have HX := Lib.hid (show (⟨#[byteOf (0)]⟩ : ByteArray) = ⟨#[48]⟩ from by decide)
        have hs1 : (⟨#[48]⟩ : ByteArray).size = 1 := rfl
        have hb1 : ((⟨#[45, 48, 43]⟩ : ByteArray)[1]'(by decide)).toNat = 48 := rfl
        go_wp2
        go_roundw
        case rel => exact ⟨i + 1, by go_num, by omega, sv (by rw [← HTi.out, ← ByteArray.append_assoc, HX.out]), HBI.out.alloc HBI.out.size _⟩
        case measure => simp [intOf]; omega
      · have hconv := Lib.run_convert_whole (P := Try.prog) (wi.alloc (.cells #[.int .u8 43] 5)) 69 5 9 Try.underlying69 Try.underlying5 Try.underlying9 wi.heap.size 0 ⟨#[43]⟩ (fun q hq => by
          have hq0 : q = 0 := by have : (⟨#[43]⟩ : ByteArray).size = 1 := rfl; omega
          subst hq0
          simp; rfl) 1
        rw [show (⟨#[43]⟩ : ByteArray).size = 1 from rfl] at hconv
        have HX := Lib.hid (show (⟨#[byteOf (1)]⟩ : ByteArray) = ⟨#[43]⟩ from by decide)
        have hs1 : (⟨#[43]⟩ : ByteArray).size = 1 := rfl
        have hb1 : ((⟨#[45, 48, 43]⟩ : ByteArray)[2]'(by decide)).toNat = 43 := rfl
        go_wp2
        go_roundw
        case rel => exact ⟨i + 1, by go_num, by omega, sv (by rw [← HTi.out, ← ByteArray.append_assoc, HX.out]), HBI.out.alloc HBI.out.size _⟩
        case measure => simp [intOf]; omega
end Go.Proofs.Ytghhmhkpkpcbjaa
