/-
  The helpers of the laws, in these frames.
-/
import Derived.Test.YtmjkhkhjliadcaaDoorQF
import Derived.Test.YtmjkhkhjliadcaaDoorH21
namespace Go.Proofs.YtmjkhkhjliadcaaDoor
open Go.RowKit
set_option maxRecDepth 100000
set_option linter.unusedVariables false

theorem markByteS_k (b c : Nat) (k0 : Int) (xs : List Int) (w : World) (hn : xs.length ≤ 1048576) (hk0 : 0 ≤ k0 ∧ k0 ≤ 10000000) (hr : RowOf .u8 5 w b xs) :
    Calls Tryd.prog 15 #[.slice (some ⟨b, 0, none⟩) xs.length c, .int .i64 k0] w fun e w' => e = .returned (.int .i64 (k0 + (xs.length : Int))) ∧ Only b w w' := by
  go_enter Tryd.func15, Tryd.ntmps15
  go_wp2
  go_loopw [1, 5] (fun n i wr => ∃ (k : Nat) (f : Nat → Value), k ≤ xs.length ∧ i = .int .i64 k ∧ n = .int .i64 (k0 + (k : Int)) ∧ wr.rowIs b 5 xs.length f ∧ Only b w wr) (fun _ i _ => xs.length - (intOf i).toNat)
  case atStart => exact ⟨0, _, Nat.zero_le _, rfl, by simp, hr, Only.refl _ _⟩
  case round =>
    obtain ⟨k, f, hk, rfl, rfl, hr, hB⟩ := hrel
    by_cases hlt : k < xs.length
    · have h2 := hr.cell hlt
      have h3 : wr.frozen? ⟨b, k, none⟩ = false := hr.frozen k
      have hkl : (k : Int) < (xs.length : Int) := by omega
      have HR := Lib.hid hr
      have HB := Lib.hid hB
      generalize f k = o at *
      clear hr hB
      go_wp2
      go_roundw
      case rel => exact ⟨k + 1, _, by omega, by go_num, by go_num, HR.out.set k _, HB.out.setCell _ _⟩
      case measure => simp [intOf]; omega
    · obtain rfl : k = xs.length := by omega
      have HB := Lib.hid hB
      clear hr hB
      go_wp2
      go_ret
      exact ⟨rfl, HB.out⟩
section
variable {w0 W : World} {S : QL} {g g2 : Nat} {xs ys : List Int}
theorem toGlasses_q (h : QF w0 S W) (a : Option Addr) (c : Nat) (xs : List Int) (hn : xs.length ≤ 1048576) (hs : Sl .i16 w0.heap.size w0 a xs) :
    Calls Tryd.prog 6 #[.slice a xs.length c] W fun e w' => ∃ g, e = .returned (.slice (some ⟨g, 0, none⟩) xs.length xs.length) ∧ QF w0 ((g, blkQ g (rcells .i16 xs) 23) :: S) w' := by
  refine (toGlasses_any w0.heap.size a c xs W hn h.size (hs.below h.below)).mono ?_
  rintro e w' ⟨rfl, hk, hb⟩
  exact ⟨_, rfl, h.add hb (Nat.le_refl _) hk.lt (blk_of_ints hk) (on_blk _ _ _)⟩
theorem toByteS_q (h : QF w0 S W) (a : Option Addr) (c : Nat) (xs : List Int) (hn : xs.length ≤ 1048576) (hs : Sl .u8 w0.heap.size w0 a xs) :
    Calls Tryd.prog 8 #[.slice a xs.length c] W fun e w' => ∃ g, e = .returned (.slice (some ⟨g, 0, none⟩) xs.length xs.length) ∧ QF w0 ((g, blkQ g (rcells .u8 xs) 5) :: S) w' := by
  refine (toByteS_any w0.heap.size a c xs W hn h.size (hs.below h.below)).mono ?_
  rintro e w' ⟨rfl, hk, hb⟩
  exact ⟨_, rfl, h.add hb (Nat.le_refl _) hk.lt (blk_of_ints hk) (on_blk _ _ _)⟩
theorem toTops_q (h : QF w0 S W) (x : Nat → Int) :
    Calls Tryd.prog 7 #[watV x] W fun e w' => e = .returned (watV x) ∧ QF w0 S w' := by
  refine (toTops_any x W).mono ?_
  rintro e w' ⟨rfl, hb⟩
  exact ⟨rfl, h.next hb⟩
theorem eqTops_q (h : QF w0 S W) (x : Nat → Int) :
    Calls Tryd.prog 11 #[watV x, watV x] W fun e w' => e = .returned (.bool true) ∧ QF w0 S w' := by
  refine (eqTops_same x W).mono ?_
  rintro e w' ⟨rfl, hb⟩
  exact ⟨rfl, h.next hb⟩
theorem eqGlasses_q (h : QF w0 S W) (h1 : (g, blkQ g (rcells .i16 xs) 23) ∈ S) (h2 : (g2, blkQ g2 (rcells .i16 xs) 23) ∈ S) (c c2 : Nat) (hn : xs.length ≤ 1048576) :
    Calls Tryd.prog 12 #[.slice (some ⟨g, 0, none⟩) xs.length c, .slice (some ⟨g2, 0, none⟩) xs.length c2] W fun e w' => e = .returned (.bool true) ∧ QF w0 S w' := by
  refine (eqGlasses_same g 0 c g2 0 c2 xs W hn (Blk.ints (h.ok _ h1)) (Blk.ints (h.ok _ h2))).mono ?_
  rintro e w' ⟨rfl, hb⟩
  exact ⟨rfl, h.next hb.below⟩
theorem eqByteS_q (h : QF w0 S W) (h1 : (g, blkQ g (rcells .u8 xs) 5) ∈ S) (h2 : (g2, blkQ g2 (rcells .u8 xs) 5) ∈ S) (c c2 : Nat) (hn : xs.length ≤ 1048576) :
    Calls Tryd.prog 13 #[.slice (some ⟨g, 0, none⟩) xs.length c, .slice (some ⟨g2, 0, none⟩) xs.length c2] W fun e w' => e = .returned (.bool true) ∧ QF w0 S w' := by
  refine (eqByteS_same g 0 c g2 0 c2 xs W hn (Blk.ints (h.ok _ h1)) (Blk.ints (h.ok _ h2))).mono ?_
  rintro e w' ⟨rfl, hb⟩
  exact ⟨rfl, h.next hb.below⟩
theorem eqInt64S_q (h : QF w0 S W) (h1 : (g, ownQ g xs) ∈ S) (h2 : (g2, ownQ g2 xs) ∈ S) (c c2 : Nat) (hn : xs.length ≤ 1048576) :
    Calls Tryd.prog 10 #[.slice (some ⟨g, 0, none⟩) xs.length c, .slice (some ⟨g2, 0, none⟩) xs.length c2] W fun e w' => e = .returned (.bool true) ∧ QF w0 S w' := by
  refine (eqInt64S_same g 0 c g2 0 c2 xs W hn (show ownQ g xs W from h.ok _ h1).1 (show ownQ g2 xs W from h.ok _ h2).1).mono ?_
  rintro e w' ⟨rfl, hb⟩
  exact ⟨rfl, h.next hb.below⟩
theorem eqInt64S_qE (h : QF w0 S W) (a a2 : Option Addr) (c c2 : Nat) :
    Calls Tryd.prog 10 #[.slice a 0 c, .slice a2 0 c2] W fun e w' => e = .returned (.bool true) ∧ QF w0 S w' := by
  refine (eqInt64S_empty a a2 c c2 W).mono ?_
  rintro e w' ⟨rfl, hb⟩
  exact ⟨rfl, h.next hb.below⟩
theorem markGlasses_q (h : QF w0 ((g, blkQ g (rcells .i16 xs) 23) :: S) W) (c : Nat) (hn : xs.length ≤ 1048576) :
    Calls Tryd.prog 14 #[.slice (some ⟨g, 0, none⟩) xs.length c, .int .i64 1] W fun e w' => e = .returned (.int .i64 ((xs.length : Int) + 1)) ∧ QF w0 ((g, anyQ) :: S) w' := by
  refine (markGlasses_row g c xs W hn (ints_of_blk (h.ok _ List.mem_cons_self))).mono ?_
  rintro e w' ⟨rfl, _, ho⟩
  exact ⟨rfl, h.put ho trivial (on_any _)⟩
theorem markByteS_q (h : QF w0 ((g, blkQ g (rcells .u8 xs) 5) :: S) W) (c : Nat) (k0 : Int) (hn : xs.length ≤ 1048576) (hk0 : 0 ≤ k0 ∧ k0 ≤ 10000000) :
    Calls Tryd.prog 15 #[.slice (some ⟨g, 0, none⟩) xs.length c, .int .i64 k0] W fun e w' => e = .returned (.int .i64 (k0 + (xs.length : Int))) ∧ QF w0 ((g, anyQ) :: S) w' := by
  refine (markByteS_k g c k0 xs W hn hk0 (ints_of_blk (h.ok _ List.mem_cons_self))).mono ?_
  rintro e w' ⟨rfl, ho⟩
  exact ⟨rfl, h.put ho trivial (on_any _)⟩
theorem markInt64S_q (h : QF w0 ((g, ownQ g xs) :: S) W) (c : Nat) (hn : xs.length ≤ 1048576) :
    Calls Tryd.prog 16 #[.slice (some ⟨g, 0, none⟩) xs.length c, .int .i64 1] W fun e w' => e = .returned (.int .i64 ((xs.length : Int) + 1)) ∧ QF w0 ((g, mkQ g xs.length) :: S) w' := by
  have h1 : ownQ g xs W := h.ok _ List.mem_cons_self
  refine (markInt64S_own g c xs W hn h1.1 h1.2).mono ?_
  rintro e w' ⟨rfl, hm, ho⟩
  exact ⟨rfl, h.put ho hm (on_mk _ _)⟩
theorem heldInt64S_q {n : Nat} (h : QF w0 S W) (h1 : (g, mkQ g n) ∈ S) (c : Nat) (hn : n ≤ 1048576) :
    Calls Tryd.prog 17 #[.slice (some ⟨g, 0, none⟩) n c, .int .i64 1] W fun e w' => e = .returned (.int .i64 ((n : Int) + 1)) ∧ QF w0 S w' := by
  refine (heldInt64S_own g c n W hn (show mkQ g n W from h.ok _ h1)).mono ?_
  rintro e w' ⟨rfl, rfl⟩
  exact ⟨rfl, h⟩
theorem markInt64S_qE (h : QF w0 S W) (a : Option Addr) (c : Nat) :
    Calls Tryd.prog 16 #[.slice a 0 c, .int .i64 1] W fun e w' => e = .returned (.int .i64 1) ∧ QF w0 S w' := by
  refine (markInt64S_nil a c W).mono ?_
  rintro e w' ⟨rfl, rfl⟩
  exact ⟨rfl, h⟩
theorem heldInt64S_qE (h : QF w0 S W) (a : Option Addr) (c : Nat) :
    Calls Tryd.prog 17 #[.slice a 0 c, .int .i64 1] W fun e w' => e = .returned (.int .i64 1) ∧ QF w0 S w' := by
  refine (heldInt64S_nil a c W).mono ?_
  rintro e w' ⟨rfl, rfl⟩
  exact ⟨rfl, h⟩
theorem Calls.qrun {P : Program} {f : FuncId} {args : Array Value} {v0 : Value} {C : Int} {ts : List Int} {t t2 : TypeId} (h : QF w0 S W) (hm : (g, blkQ g (rcells .i16 xs) t) ∈ S) (hm2 : (g2, blkQ g2 (rcells .u8 ys) t2) ∈ S) (hts : ts ≠ [])
    (hc : g < W.heap.size → At .i16 W g 0 xs → g2 < W.heap.size → At .u8 W g2 0 ys → Calls P f args W fun e w' => ∃ v, e = .returned (.tuple #[v, v0, .int .i64 C]) ∧ OwnV .i64 W.heap.size w' v ts ∧ Below W.heap.size W w') :
    Calls P f args W fun e w' => ∃ q c, e = .returned (.tuple #[.slice (some ⟨q, 0, none⟩) ts.length c, v0, .int .i64 C]) ∧ QF w0 ((q, ownQ q ts) :: S) w' := by
  have r1 : Blk W g (rcells .i16 xs) t := h.ok _ hm
  have r2 : Blk W g2 (rcells .u8 ys) t2 := h.ok _ hm2
  refine (hc r1.lt r1.ints r2.lt r2.ints).mono ?_
  rintro e w' ⟨v, rfl, ho, hb⟩
  rcases ho with ⟨h0, _⟩ | ⟨q, c, rfl, h1, h2, h3, h4⟩
  · exact absurd h0 hts
  · exact ⟨q, c, rfl, h.add hb h1 h2 ⟨h3, h4⟩ (on_own _ _)⟩
theorem Calls.qrunE {P : Program} {f : FuncId} {args : Array Value} {v0 : Value} {C : Int} {ts : List Int} {t t2 : TypeId} (h : QF w0 S W) (hm : (g, blkQ g (rcells .i16 xs) t) ∈ S) (hm2 : (g2, blkQ g2 (rcells .u8 ys) t2) ∈ S) (hts : ts = [])
    (hc : g < W.heap.size → At .i16 W g 0 xs → g2 < W.heap.size → At .u8 W g2 0 ys → Calls P f args W fun e w' => ∃ v, e = .returned (.tuple #[v, v0, .int .i64 C]) ∧ OwnV .i64 W.heap.size w' v ts ∧ Below W.heap.size W w') :
    Calls P f args W fun e w' => ∃ a c, e = .returned (.tuple #[.slice a 0 c, v0, .int .i64 C]) ∧ QF w0 S w' := by
  have r1 : Blk W g (rcells .i16 xs) t := h.ok _ hm
  have r2 : Blk W g2 (rcells .u8 ys) t2 := h.ok _ hm2
  refine (hc r1.lt r1.ints r2.lt r2.ints).mono ?_
  rintro e w' ⟨v, rfl, ho, hb⟩
  subst hts
  rcases ho with ⟨_, a, c, rfl⟩ | ⟨q, c, rfl, _⟩
  · exact ⟨a, c, rfl, h.next hb⟩
  · exact ⟨_, c, rfl, h.next hb⟩
end
end Go.Proofs.YtmjkhkhjliadcaaDoor
