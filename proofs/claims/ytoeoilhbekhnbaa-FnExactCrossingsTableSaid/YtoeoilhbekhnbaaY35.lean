/-
  The program's search of ferries: its walk.
-/
import Derived.Test.YtoeoilhbekhnbaaY34
import Derived.Sort.CutIn
namespace Go.Proofs.Ytoeoilhbekhnbaa
open Go.RowKit Go.Shelf Go.Maps Go.MapKept Go.ChangeMaps
set_option maxRecDepth 100000
set_option linter.unusedVariables false

attribute [local go_sem] Oper.semAt_some

def KK (C n₀ : Nat) (S : Nat → Prop) (W W' : World) : Prop := KeepsFrom C W W' ∧ KpS n₀ S W W'
theorem KK.refl (C n₀ : Nat) (S : Nat → Prop) (W : World) : KK C n₀ S W W := ⟨KeepsFrom.refl _ _, ⟨Below.refl _ _, fun _ _ _ _ h => h⟩⟩
theorem KK.t {C n₀ : Nat} {S : Nat → Prop} {X Y Z : World} (h : KK C n₀ S X Y) (k : KK C n₀ S Y Z) : KK C n₀ S X Z := ⟨h.1.trans k.1, h.2.t k.2⟩
theorem KK.alloc {C n₀ : Nat} {S : Nat → Prop} {W : World} (hn : n₀ ≤ W.heap.size) (o : Obj) : KK C n₀ S W (W.alloc o) := ⟨(KeepsOthers.alloc _ _).from _, KpS.alloc hn o⟩
theorem KK.set {C n₀ : Nat} {S : Nat → Prop} {W : World} {b : Nat} (hn : n₀ ≤ b) (hS : ¬ S b) (o : Nat) (v : Value) : KK C n₀ S W (W.setCell ⟨b, o, none⟩ v) := ⟨(KeepsOthers.setCell _ _ _).from _, KpS.set hn hS o v⟩
theorem KK.grown {C n₀ : Nat} {S : Nat → Prop} {W W' : World} {row : Option Nat} (hg : W.grownBy W' row) (hn : n₀ ≤ W.heap.size) (hr : ∀ j, row = some j → n₀ ≤ j ∧ ¬ S j ∧ ∀ o, W.heap[j]? = some o → o.isCells = true) : KK C n₀ S W W' :=
  ⟨(KeepsOthers.of_grownBy hg fun j o ej hj => (hr j ej).2.2 o hj).from _, (Below.refl n₀ W).grown hg hn (fun j ej => (hr j ej).1), fun B cs t hS hb => (hg.block B hb.lt (fun e => (hr B e.symm).2.1 hS)).trans hb⟩
theorem KK.turned {C n₀ : Nat} {S : Nat → Prop} {W W' : World} {mb : Nat} (ht : W.mapTurned W' mb) (hC : mb < C) (hn : n₀ ≤ mb) (hnW : n₀ ≤ W.heap.size) (hS : ¬ S mb) : KK C n₀ S W W' :=
  ⟨KeepsFrom.of_grownBy ht.grown (fun j e => by have e2 : mb = j := Option.some.inj e; omega), (Below.refl n₀ W).grown ht.grown hnW (fun j e => by have e2 : mb = j := Option.some.inj e; omega), fun B cs t hB hb => (ht.grown.block B hb.lt (fun e => hS (by have e2 : B = mb := Option.some.inj e; exact e2 ▸ hB))).trans hb⟩
theorem leaves_marks {F : Fence} {n : Nat} {fn : Func} {tmps : Array Value} {R : Ending → World → Prop} {l : Int} {N B : Nat} {w0 : World} {O X mb : Nat} {v : Value} {s : St} : ∀ (bs : List Nat) (W : World), bs.Nodup → (∀ b ∈ bs, w0.heap.size ≤ b) → PM l N B (bs.map (fun b => (b, Obj.deferred (some [])))) w0 O X mb v s W →
    (∀ W', PM l N B [] w0 O X mb v s W' → ∃ u, (results fn tmps).run Try.prog W' = .ok u W' ∧ R (.returned u) W') → LeavesInM F n Try.prog fn tmps R (bs.map (fun b => { target := .collected b, args := #[] })) .returning W
  | [], W, _, _, hP, hk => hk W hP
  | b :: bs, W, hnd, hlo, hP, hk => by
    have hm : W.heap[b]? = some (.deferred (some [])) := hP.mem List.mem_cons_self
    have hb := hP.bL (b, .deferred (some [])) List.mem_cons_self
    have hnd2 := List.nodup_cons.1 hnd
    refine ⟨by simp, .inl ⟨b, _, rfl, run_takeDeferred hm, ?_⟩⟩
    refine leaves_marks bs _ hnd2.2 (fun b' h => hlo b' (List.mem_cons_of_mem _ h)) ?_ hk
    refine (hP.sub (L' := bs.map (fun b => (b, Obj.deferred (some [])))) (fun p hp => List.mem_cons_of_mem _ hp)).kept (grownBy_putObj' W b _) (fun j e => by have e2 : b = j := Option.some.inj e; exact e2 ▸ hlo b List.mem_cons_self) (fun e => hb.2.1.1 (Option.some.inj e).symm) (fun e => hb.2.1.2.1 (Option.some.inj e).symm) (fun e => hb.2.1.2.2 (Option.some.inj e).symm) (.inr hb.2.2) (fun p hp e => ?_)
    obtain ⟨b', hb', rfl⟩ := List.mem_map.1 hp
    have e2 : b = b' := Option.some.inj e
    exact hnd2.1 (e2 ▸ hb')
theorem zeroLg (w : World) : (zeroValue 66).run Try.prog w = .ok (.agg #[.int .u16 0, .bool false, .int .u16 0, .int .i16 0, .int .i64 0]) w := by kernel_rfl
theorem wpListIn_insH {F : Fence} {nF : Nat} {P : Program} {k : TypeId} {w : World} {b n : Nat} {G : Value → Option Value} {ops : Array Oper} {rest : List Oper} {o : Oper} {a : Act} {Q : Exit → Act → World → Prop}
    (hg : o.guard = none) (m x v : Operand) (t : TypeId) (hop : o.op = Op.insert t m x v)
    (e : TypeId) (K : Keyed P k) (ht : P.underlying t = some (.map k e))
    (hm : a.eval m = .map (some b)) (h : MapAt P k w b n G) (hn : n < maxLen) (key val : Value) (kl : Lit) (hx : a.eval x = key) (hv : a.eval v = val) (hkey : keyOf P k key = some kl)
    (hK : ∀ w', MapAt P k w' b (n + 1) (updF G key val) → w.mapTurned w' b → wpListIn F nF P ops Q rest (a.put o.dst undef) w') :
    wpListIn F nF P ops Q (o :: rest) a w := by
  refine wpListIn_plain hg fun K' hK' => ?_
  obtain ⟨w', hrun, r1, r2⟩ := h.store K ht hn hkey val
  unfold Oper.wpIn
  refine ⟨by simp [Oper.about, hop], ?_⟩
  rw [Oper.semAt_plain F _ _ (by rw [hop]; intro c hc'; cases hc')]
  simp [execOp, hop, hm, hx, hv, hrun, Result.andThen]
  exact hK' _ _ (hK w' r1 r2)
theorem PM.made {l k' : Int} {xs' : List Int} {N : Nat} (hl : 1 ≤ l ∧ l ≤ 8) (hN : (N : Int) = 2 * (allI l + 1)) {al : Nat} (hal : allI l = al) {w W : World} {O X mb g n : Nat} {L : List (Nat × Obj)} (hO : Blk W O #[.slice (some ⟨g, 0, none⟩) 1 1] 89) (hX : Blk W X #[.map (some mb)] 60) (hg : Blk W g #[.int .u16 (al : Int), .bool false] 64)
    (hM : MapAt Try.prog 64 W mb n (updF (fun _ => none) (bankV (al : Int) false) (.agg #[.int .u16 0, .bool false, .int .u16 0, .int .i16 0, .int .i64 1]))) (hn : n ≤ 1) (hb : Below w.heap.size w W) (lo : w.heap.size ≤ O ∧ w.heap.size ≤ X ∧ w.heap.size ≤ mb ∧ w.heap.size ≤ g) (ne : O ≠ X ∧ mb ≠ O ∧ mb ≠ X ∧ g ≠ O ∧ g ≠ X ∧ g ≠ mb)
    (hL : ∀ p ∈ L, W.heap[p.1]? = some p.2 ∧ (O ≠ p.1 ∧ X ≠ p.1 ∧ mb ≠ p.1) ∧ g ≠ p.1) :
    PM l N 1 L w O X mb (.slice (some ⟨g, 0, none⟩) (St.run l k' xs' (St.first N al) 0).q.length 1) (St.run l k' xs' (St.first N al) 0) W := by
  have ha := allI_le hl
  have h1 := bk_of (l := l) (n := allI l) (f := false) hl ⟨by omega, Int.le_refl _⟩
  have e1 : nmI l (allI l) false = (al : Int) := by unfold nmI; simp [hal]
  rw [e1, hal] at h1
  have e2 : bkV l (al : Int) = bankV (al : Int) false := by unfold bkV; rw [h1.1, h1.2.1]
  refine ⟨hb, ⟨ne.1, ne.2.1, ne.2.2.1⟩, ⟨lo.1, lo.2.1, lo.2.2.1⟩, hO, hX, ⟨_, n, hn, hM, ?_⟩, ⟨rfl, .inr ⟨g, 1, #[.int .u16 (bkN l (al : Int)), .bool (bkF l (al : Int))], rfl, lo.2.2.2, ?_, Nat.le_refl _, by decide, rfl, rfl⟩⟩, ⟨fun e => ne.2.2.2.1 (Option.some.inj e), fun e => ne.2.2.2.2.1 (Option.some.inj e), fun e => ne.2.2.2.2.2 (Option.some.inj e)⟩, fun p hp => ⟨(hL p hp).1, (hL p hp).2.1, fun e => (hL p hp).2.2 (Option.some.inj e)⟩⟩
  · rw [← e2]; exact FSb.first hl hN (by omega)
  · show W.heap[g]? = some (.cells #[.int .u16 (bkN l (al : Int)), .bool (bkF l (al : Int))] _ _)
    rw [h1.1, h1.2.1]; exact hg
theorem gd_at (T : Array Value) (i : Nat) (h : i < T.size) : T[i] = T.getD i undef := by simp [Array.getD, h]
set_option maxHeartbeats 4000000 in
theorem frame73a (T : Array Value) (h : T.size = 73) : T = #[T.getD 0 undef, T.getD 1 undef, T.getD 2 undef, T.getD 3 undef, T.getD 4 undef, T.getD 5 undef, T.getD 6 undef, T.getD 7 undef, T.getD 8 undef, T.getD 9 undef, T.getD 10 undef, T.getD 11 undef, T.getD 12 undef, T.getD 13 undef, T.getD 14 undef, T.getD 15 undef, T.getD 16 undef, T.getD 17 undef, T.getD 18 undef, T.getD 19 undef, T.getD 20 undef, T.getD 21 undef, T.getD 22 undef, T.getD 23 undef, T.getD 24 undef, T.getD 25 undef, T.getD 26 undef, T.getD 27 undef, T.getD 28 undef, T.getD 29 undef, T.getD 30 undef, T.getD 31 undef, T.getD 32 undef, T.getD 33 undef, T.getD 34 undef, T.getD 35 undef, T.getD 36 undef, T.getD 37 undef, T.getD 38 undef, T.getD 39 undef, T.getD 40 undef, T.getD 41 undef, T.getD 42 undef, T.getD 43 undef, T.getD 44 undef, T.getD 45 undef, T.getD 46 undef, T.getD 47 undef, T.getD 48 undef, T.getD 49 undef, T.getD 50 undef, T.getD 51 undef, T.getD 52 undef, T.getD 53 undef, T.getD 54 undef, T.getD 55 undef, T.getD 56 undef, T.getD 57 undef, T.getD 58 undef, T.getD 59 undef, T.getD 60 undef, T.getD 61 undef, T.getD 62 undef, T.getD 63 undef, T.getD 64 undef, T.getD 65 undef, T.getD 66 undef, T.getD 67 undef, T.getD 68 undef, T.getD 69 undef, T.getD 70 undef, T.getD 71 undef, T.getD 72 undef] := by
  apply Array.ext
  · rw [h]; rfl
  · intro i h1 h2
    have hi : i < 73 := by omega
    match i, hi with
    | 0, _ => exact gd_at T 0 _
    | 1, _ => exact gd_at T 1 _
    | 2, _ => exact gd_at T 2 _
    | 3, _ => exact gd_at T 3 _
    | 4, _ => exact gd_at T 4 _
    | 5, _ => exact gd_at T 5 _
    | 6, _ => exact gd_at T 6 _
    | 7, _ => exact gd_at T 7 _
    | 8, _ => exact gd_at T 8 _
    | 9, _ => exact gd_at T 9 _
    | 10, _ => exact gd_at T 10 _
    | 11, _ => exact gd_at T 11 _
    | 12, _ => exact gd_at T 12 _
    | 13, _ => exact gd_at T 13 _
    | 14, _ => exact gd_at T 14 _
    | 15, _ => exact gd_at T 15 _
    | 16, _ => exact gd_at T 16 _
    | 17, _ => exact gd_at T 17 _
    | 18, _ => exact gd_at T 18 _
    | 19, _ => exact gd_at T 19 _
    | 20, _ => exact gd_at T 20 _
    | 21, _ => exact gd_at T 21 _
    | 22, _ => exact gd_at T 22 _
    | 23, _ => exact gd_at T 23 _
    | 24, _ => exact gd_at T 24 _
    | 25, _ => exact gd_at T 25 _
    | 26, _ => exact gd_at T 26 _
    | 27, _ => exact gd_at T 27 _
    | 28, _ => exact gd_at T 28 _
    | 29, _ => exact gd_at T 29 _
    | 30, _ => exact gd_at T 30 _
    | 31, _ => exact gd_at T 31 _
    | 32, _ => exact gd_at T 32 _
    | 33, _ => exact gd_at T 33 _
    | 34, _ => exact gd_at T 34 _
    | 35, _ => exact gd_at T 35 _
    | 36, _ => exact gd_at T 36 _
    | 37, _ => exact gd_at T 37 _
    | 38, _ => exact gd_at T 38 _
    | 39, _ => exact gd_at T 39 _
    | 40, _ => exact gd_at T 40 _
    | 41, _ => exact gd_at T 41 _
    | 42, _ => exact gd_at T 42 _
    | 43, _ => exact gd_at T 43 _
    | 44, _ => exact gd_at T 44 _
    | 45, _ => exact gd_at T 45 _
    | 46, _ => exact gd_at T 46 _
    | 47, _ => exact gd_at T 47 _
    | 48, _ => exact gd_at T 48 _
    | 49, _ => exact gd_at T 49 _
    | 50, _ => exact gd_at T 50 _
    | 51, _ => exact gd_at T 51 _
    | 52, _ => exact gd_at T 52 _
    | 53, _ => exact gd_at T 53 _
    | 54, _ => exact gd_at T 54 _
    | 55, _ => exact gd_at T 55 _
    | 56, _ => exact gd_at T 56 _
    | 57, _ => exact gd_at T 57 _
    | 58, _ => exact gd_at T 58 _
    | 59, _ => exact gd_at T 59 _
    | 60, _ => exact gd_at T 60 _
    | 61, _ => exact gd_at T 61 _
    | 62, _ => exact gd_at T 62 _
    | 63, _ => exact gd_at T 63 _
    | 64, _ => exact gd_at T 64 _
    | 65, _ => exact gd_at T 65 _
    | 66, _ => exact gd_at T 66 _
    | 67, _ => exact gd_at T 67 _
    | 68, _ => exact gd_at T 68 _
    | 69, _ => exact gd_at T 69 _
    | 70, _ => exact gd_at T 70 _
    | 71, _ => exact gd_at T 71 _
    | 72, _ => exact gd_at T 72 _
    | n + 73, h9 => exact absurd h9 (by omega)
theorem frame73 (T : Array Value) (h : T.size = 73) : ∃ u : Nat → Value, T = #[u 0, u 1, u 2, u 3, u 4, u 5, u 6, u 7, u 8, u 9, u 10, u 11, u 12, u 13, u 14, u 15, u 16, u 17, u 18, u 19, u 20, u 21, u 22, u 23, u 24, u 25, u 26, u 27, u 28, u 29, u 30, u 31, u 32, u 33, u 34, u 35, u 36, u 37, u 38, u 39, u 40, u 41, u 42, u 43, u 44, u 45, u 46, u 47, u 48, u 49, u 50, u 51, u 52, u 53, u 54, u 55, u 56, u 57, u 58, u 59, u 60, u 61, u 62, u 63, u 64, u 65, u 66, u 67, u 68, u 69, u 70, u 71, u 72] := ⟨fun j => T.getD j undef, frame73a T h⟩
theorem y35_mark : True := trivial
end Go.Proofs.Ytoeoilhbekhnbaa
