/-
  Groups made flat; the program's MakeFixed.
-/
import Derived.Test.YtieghjpecoiodaaMK6
namespace Go.Proofs.Ytieghjpecoiodaa
open Go.RowKit
set_option maxRecDepth 100000
set_option linter.unusedVariables false

/-- The cells of a group. -/
theorem WAt.twelve {w : World} {b : Nat} {ws : List Wf} (h : WAt w b 0 ws) (j : Nat) (hj : 3 * j + 2 < ws.length) :
    (w.cell? ⟨b, j * 12, none⟩ = some (.int .i8 (wI ws (3 * j) 0)) ∧ w.cell? ⟨b, j * 12 + 1, none⟩ = some (.int .i8 (wI ws (3 * j) 1)) ∧ w.cell? ⟨b, j * 12 + 2, none⟩ = some (.int .i8 (wI ws (3 * j) 2)) ∧ w.cell? ⟨b, j * 12 + 3, none⟩ = some (.int .i8 (wI ws (3 * j) 3))) ∧
    (w.cell? ⟨b, j * 12 + 4, none⟩ = some (.int .i8 (wI ws (3 * j + 1) 0)) ∧ w.cell? ⟨b, j * 12 + 5, none⟩ = some (.int .i8 (wI ws (3 * j + 1) 1)) ∧ w.cell? ⟨b, j * 12 + 6, none⟩ = some (.int .i8 (wI ws (3 * j + 1) 2)) ∧ w.cell? ⟨b, j * 12 + 7, none⟩ = some (.int .i8 (wI ws (3 * j + 1) 3))) ∧
    (w.cell? ⟨b, j * 12 + 8, none⟩ = some (.int .i8 (wI ws (3 * j + 2) 0)) ∧ w.cell? ⟨b, j * 12 + 9, none⟩ = some (.int .i8 (wI ws (3 * j + 2) 1)) ∧ w.cell? ⟨b, j * 12 + 10, none⟩ = some (.int .i8 (wI ws (3 * j + 2) 2)) ∧ w.cell? ⟨b, j * 12 + 11, none⟩ = some (.int .i8 (wI ws (3 * j + 2) 3))) := by
  have f : ∀ (q i p : Nat), q < ws.length → i < 4 → p = q * 4 + i → w.cell? ⟨b, p, none⟩ = some (.int .i8 (wI ws q i)) := fun q i p hq hi e => by
    rw [e, show q * 4 + i = 0 + q * 4 + i by omega]; exact h q hq i hi
  refine ⟨⟨f _ _ _ ?_ ?_ ?_, f _ _ _ ?_ ?_ ?_, f _ _ _ ?_ ?_ ?_, f _ _ _ ?_ ?_ ?_⟩, ⟨f _ _ _ ?_ ?_ ?_, f _ _ _ ?_ ?_ ?_, f _ _ _ ?_ ?_ ?_, f _ _ _ ?_ ?_ ?_⟩, ⟨f _ _ _ ?_ ?_ ?_, f _ _ _ ?_ ?_ ?_, f _ _ _ ?_ ?_ ?_, f _ _ _ ?_ ?_ ?_⟩⟩ <;> omega
theorem take3_succ (ws : List Wf) (j : Nat) (hj : 3 * j + 2 < ws.length) : ws.take (3 * (j + 1)) = ws.take (3 * j) ++ [wI ws (3 * j), wI ws (3 * j + 1), wI ws (3 * j + 2)] := by
  have e : ∀ n, n < ws.length → ws.take (n + 1) = ws.take n ++ [wI ws n] := fun n hn => by
    rw [List.take_add_one, List.getElem?_eq_getElem hn]
    unfold wI
    rw [List.getD_eq_getElem?_getD, List.getElem?_eq_getElem hn]
    rfl
  rw [show 3 * (j + 1) = 3 * j + 1 + 1 + 1 by omega, e _ (by omega), e _ (by omega), e _ (by omega)]
  simp
/-- A list of words under way. -/
structure FlT (w : World) (a : Option Addr) (cp n : Nat) (ws : List Wf) (wr : World) : Prop where
  own : wr.ownsRow w.heap.size 40 4 (.slice a n cp) n (wls ws)
  bel : Below w.heap.size w wr
theorem FlT.below {w wr w' : World} {a : Option Addr} {cp n : Nat} {ws : List Wf} (h : FlT w a cp n ws wr) (hb : Below wr.heap.size wr w') : FlT w a cp n ws w' :=
  ⟨h.own.kept (row := none) ⟨hb.os, hb.tape, hb.output, hb.size, fun k hk _ => hb.block k hk⟩ (by cases h : (Value.slice a n cp).ownBlock <;> simp), h.bel.trans (hb.mono h.bel.size)⟩
theorem FlT.alloc {w wr : World} {a : Option Addr} {cp n : Nat} {ws : List Wf} (h : FlT w a cp n ws wr) (o : Obj) : FlT w a cp n ws (wr.alloc o) :=
  h.below ((Below.refl _ _).alloc (Nat.le_refl _) o)
theorem FlT.app {w wr w1 : World} {a : Option Addr} {cp cp' n g : Nat} {ws : List Wf} {x y z : Nat → Int} (h : FlT w a cp n ws wr)
    (hown : w1.ownsRow w.heap.size 40 4 (.slice (some ⟨g, 0, none⟩) (n + 3) cp') (n + 3) (wls ws ++ [.int .i8 (x 0), .int .i8 (x 1), .int .i8 (x 2), .int .i8 (x 3), .int .i8 (y 0), .int .i8 (y 1), .int .i8 (y 2), .int .i8 (y 3), .int .i8 (z 0), .int .i8 (z 1), .int .i8 (z 2), .int .i8 (z 3)]))
    (hgrow : wr.grownBy w1 (Value.slice a n cp).ownBlock) : FlT w (some ⟨g, 0, none⟩) cp' (n + 3) (ws ++ [x, y, z]) w1 :=
  ⟨by simpa [wls] using hown, h.bel.grown hgrow h.bel.size (fun j e => (h.own.lt j e).1)⟩
set_option maxHeartbeats 8000000 in
theorem flat_any (b n c d : Nat) (ws : List Wf) (w : World) (hb : b < w.heap.size) (hc : WAt w b 0 ws) (hd : d ≤ n) (hw : 3 * d ≤ ws.length) (hn : n ≤ c) (hd81 : d ≤ 81) :
    Calls Try.prog 43 #[.slice (some ⟨b, 0, none⟩) n c, .int .i64 (d : Int)] w fun e w' => ∃ a cp, e = .returned (.slice a (3 * d) cp) ∧ FlT w a cp (3 * d) (ws.take (3 * d)) w' := by
  obtain ⟨i0, hi, hz0, hz1, hz2⟩ := info_parts Try.info_wd
  have hdz : (d : Int) ≤ (n : Int) := by omega
  have hdc : (d : Int) ≤ (c : Int) := by omega
  have hd0 : (0 : Int) ≤ (d : Int) := by omega
  go_enter Try.func43, Try.ntmps43
  go_wp2
  go_loopw [5, 12] (fun sv nv wr => ∃ (j : Nat) (a : Option Addr) (cp : Nat), sv = .slice a (3 * j) cp ∧ nv = .int .i64 (j : Int) ∧ j ≤ d ∧ FlT w a cp (3 * j) (ws.take (3 * j)) wr) (fun _ nv _ => 100 - (intOf nv).toNat)
  case atStart => exact ⟨0, none, 0, rfl, rfl, Nat.zero_le _, ⟨World.ownsRow_nil _ _ _ _, Below.refl _ _⟩⟩
  case round =>
    obtain ⟨j, a, cp, rfl, rfl, hj, hT⟩ := hrel
    by_cases h1 : j < d
    case neg =>
      obtain rfl : j = d := by omega
      go_wp2
      go_ret
      exact ⟨a, cp, rfl, hT⟩
    have h1z : (j : Int) < (d : Int) := by omega
    have h1n : (j : Int) < (n : Int) := by omega
    have HN := Lib.hid (take3_succ ws j (by omega))
    obtain ⟨⟨x0, x1, x2, x3⟩, ⟨y0, y1, y2, y3⟩, ⟨z0, z1, z2, z3⟩⟩ := (hc.below hT.bel hb).twelve j (by omega)
    generalize wI ws (3 * j) = x at *
    generalize wI ws (3 * j + 1) = y at *
    generalize wI ws (3 * j + 2) = z at *
    have HT := Lib.hid hT
    clear hT hc
    have own0 := HT.out.own
    have bz := HT.out.bel.size
    have hml : 3 * j + 3 ≤ maxLen := by unfold maxLen; omega
    go_wp2_with (at_builtin; refine wpList_append_lies _ rfl _ _ 25 rfl w.heap.size 40 i0 (.agg #[.int .i8 0, .int .i8 0, .int .i8 0, .int .i8 0]) 4 4 Try.underlying25 hi hz0 hz1 hz2 rfl (by decide) _ _ _ rfl (own0.alloc _) ⟨wr.heap.size, 0, none⟩ 3 3 [.int .i8 (x 0), .int .i8 (x 1), .int .i8 (x 2), .int .i8 (x 3), .int .i8 (y 0), .int .i8 (y 1), .int .i8 (y 2), .int .i8 (y 3), .int .i8 (z 0), .int .i8 (z 1), .int .i8 (z 2), .int .i8 (z 3)] rfl rfl (World.news_of_block (cs := #[.int .i8 (x 0), .int .i8 (x 1), .int .i8 (x 2), .int .i8 (x 3), .int .i8 (y 0), .int .i8 (y 1), .int .i8 (y 2), .int .i8 (y 3), .int .i8 (z 0), .int .i8 (z 1), .int .i8 (z 2), .int .i8 (z 3)]) (t := 100) (fr := (0, 0)) (heap_alloc_new wr _)) (by simp [Value.oneCell']) (by omega) hml (by omega) (by simp; omega) _ rfl ?_)
    intro g cp2 V hown hgrow hat hlt
    have T2 := (HT.out.alloc _).app hown hgrow
    rw [← HN.out] at T2
    go_wp2
    go_roundw
    case rel => exact ⟨j + 1, _, _, rfl, by go_num, by omega, T2⟩
    case measure => simp [intOf]; omega
theorem gp_at {w wr : World} {a : Option Addr} {cp n : Nat} {ws : List Wf} (h : GpT w a cp n ws wr) (hn : 0 < n) (hws : ws.length = 3 * n) :
    ∃ b, a = some ⟨b, 0, none⟩ ∧ b < wr.heap.size ∧ n ≤ cp ∧ WAt wr b 0 ws := by
  rcases h.own.2 with ⟨-, h0⟩ | ⟨g, cap, cur, hv, hbase, hg, hnc, hcm, hsz, htk⟩
  · omega
  · injection hv with e1 e2 e3
    subst e1 e3
    have hlt : g < wr.heap.size := by
      rcases Nat.lt_or_ge g wr.heap.size with hlt | hge
      · exact hlt
      · rw [Array.getElem?_eq_none hge] at hg; cases hg
    refine ⟨g, rfl, hlt, hnc, fun j hj i hi => ?_⟩
    have h1 := wls_get ws j hj i hi
    rw [cell_of_row wr g _ cur _ _ hg, ← h1, ← htk, Nat.zero_add, List.getElem?_take, if_pos (by omega)]
    simp
end Go.Proofs.Ytieghjpecoiodaa
