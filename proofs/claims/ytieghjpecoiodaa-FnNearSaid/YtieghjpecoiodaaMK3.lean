/-
  The model's MakeFixed.
-/
import Derived.Test.YtieghjpecoiodaaMK2
import Derived.Test.YtieghjpecoiodaaE3
import Derived.Deep.AppendLies
namespace Go.Proofs.Ytieghjpecoiodaa
open Go.RowKit
set_option maxRecDepth 100000
set_option linter.unusedVariables false

/-- The cells of words, one behind the other. -/
def wls (xs : List Wf) : List Value := xs.flatMap fun x => [.int .i8 (x 0), .int .i8 (x 1), .int .i8 (x 2), .int .i8 (x 3)]
theorem wls_snoc (xs : List Wf) (x : Wf) : wls (xs ++ [x]) = wls xs ++ [.int .i8 (x 0), .int .i8 (x 1), .int .i8 (x 2), .int .i8 (x 3)] := by simp [wls]
theorem wls_get : ∀ (xs : List Wf) (j : Nat), j < xs.length → ∀ i, i < 4 → (wls xs)[j * 4 + i]? = some (.int .i8 (wI xs j i))
  | [], j, hj => absurd hj (by simp)
  | x :: xs, 0, _ => fun i hi => by
    match i, hi with
    | 0, _ => rfl
    | 1, _ => rfl
    | 2, _ => rfl
    | 3, _ => rfl
  | x :: xs, j + 1, hj => fun i hi => by
    have h := wls_get xs j (by simpa using hj) i hi
    rw [show (j + 1) * 4 + i = j * 4 + i + 4 by omega]
    exact h
theorem wls_len : ∀ xs : List Wf, (wls xs).length = xs.length * 4
  | [] => rfl
  | x :: xs => by
    have := wls_len xs
    show (wls xs).length + 1 + 1 + 1 + 1 = _
    rw [this, List.length_cons]; omega
/-- A fixed plan under way: the result's block, the plan's block and the row of its words. -/
structure MkT (l k : Int) (w : World) (a : Option Addr) (cp : Nat) (ws : List Wf) (wr : World) : Prop where
  R : Blk wr w.heap.size #[.int .i8 0, .int .i8 0, .slice none 0 0] 27
  F : Blk wr (w.heap.size + 1) #[.int .i8 l, .int .i8 k, .slice a ws.length cp] 27
  own : wr.ownsRow (w.heap.size + 2) 40 4 (.slice a ws.length cp) ws.length (wls ws)
  bel : Below w.heap.size w wr
theorem MkT.below {l k : Int} {w wr w' : World} {a : Option Addr} {cp : Nat} {ws : List Wf} (h : MkT l k w a cp ws wr) (hb : Below wr.heap.size wr w') : MkT l k w a cp ws w' :=
  ⟨h.R.below hb h.R.lt, h.F.below hb h.F.lt, h.own.kept (row := none) ⟨hb.os, hb.tape, hb.output, hb.size, fun k hk _ => hb.block k hk⟩ (by cases h : (Value.slice a ws.length cp).ownBlock <;> simp), h.bel.trans (hb.mono h.bel.size)⟩
/-- .. beside a word in a block of its own. -/
structure MkS (l k : Int) (w : World) (a : Option Addr) (cp : Nat) (ws : List Wf) (xb : Nat) (x : Nat → Int) (wr : World) : Prop where
  T : MkT l k w a cp ws wr
  X : Blk wr xb (wordC x) 40
  ne : (Value.slice a ws.length cp).ownBlock ≠ some xb
  lo : w.heap.size + 2 ≤ xb
theorem MkS.below {l k : Int} {w wr w' : World} {a : Option Addr} {cp xb : Nat} {ws : List Wf} {x : Nat → Int} (h : MkS l k w a cp ws xb x wr) (hb : Below wr.heap.size wr w') : MkS l k w a cp ws xb x w' :=
  ⟨h.T.below hb, h.X.below hb h.X.lt, h.ne, h.lo⟩
theorem MkT.start {l k : Int} {w wr : World} {a : Option Addr} {cp : Nat} {ws : List Wf} (h : MkT l k w a cp ws wr) (x : Nat → Int) : MkS l k w a cp ws wr.heap.size x (wr.alloc (.cells (wordC x) 40)) :=
  ⟨h.below ((Below.refl _ _).alloc (Nat.le_refl _) _), blk_new wr _ _, fun e => by have := (h.own.lt _ e).2; omega, by have := h.F.lt; omega⟩
theorem MkS.app {l k : Int} {w wr w1 : World} {a : Option Addr} {cp cp' xb g : Nat} {ws : List Wf} {x : Nat → Int} (h : MkS l k w a cp ws xb x wr)
    (hown : w1.ownsRow (w.heap.size + 2) 40 4 (.slice (some ⟨g, 0, none⟩) (ws.length + 1) cp') (ws.length + 1) (wls ws ++ [.int .i8 (x 0), .int .i8 (x 1), .int .i8 (x 2), .int .i8 (x 3)]))
    (hgrow : (wr.alloc (.cells (wordC x) 40)).grownBy w1 (Value.slice a ws.length cp).ownBlock) (hat : (Value.slice a ws.length cp).ownBlock = some g ∨ g = wr.heap.size + 1) :
    MkS l k w (some ⟨g, 0, none⟩) cp' (ws ++ [x]) xb x (w1.setCell ⟨w.heap.size + 1, 2, none⟩ (.slice (some ⟨g, 0, none⟩) (ws.length + 1) cp')) := by
  have hlo : ∀ j, (Value.slice a ws.length cp).ownBlock = some j → w.heap.size + 2 ≤ j := fun j e => (h.T.own.lt j e).1
  have keep : ∀ {b : Nat} {cs : Array Value} {t : TypeId}, Blk wr b cs t → (Value.slice a ws.length cp).ownBlock ≠ some b → Blk w1 b cs t := fun {b cs t} hb hne =>
    (hgrow.block b (by have := hb.lt; simp; omega) (fun e => hne e.symm)).trans (hb.alloc _)
  have hg : w.heap.size + 2 ≤ g := (hown.lt g rfl).1
  have hx := h.X.lt
  have hlo2 := h.lo
  have hF := keep h.T.F (fun e => by have := hlo _ e; omega)
  refine ⟨⟨(keep h.T.R (fun e => by have := hlo _ e; omega)).setOther (by omega) _ _, ?_, ?_, ?_⟩, (keep h.X h.ne).setOther (by omega) _ _, ?_, h.lo⟩
  · have := hF.set 2 (.slice (some ⟨g, 0, none⟩) (ws.length + 1) cp')
    rw [List.length_append]
    exact this
  · rw [List.length_append, wls_snoc]
    exact (show w1.ownsRow _ _ 4 (.slice (some ⟨g, 0, none⟩) (ws.length + 1) cp') (ws.length + 1) _ from hown).kept (row := some (w.heap.size + 1)) ⟨rfl, rfl, rfl, by simp, fun k hk hne => heap_setCell_other w1 _ k _ (fun e => hne (by rw [e]))⟩ (.inr (fun e => by have h2 : g = w.heap.size + 1 := Option.some.inj e; omega))
  · exact ((h.T.bel.alloc h.T.bel.size _).grown hgrow (by have := h.T.bel.size; simp; omega) (fun j e => by have := hlo _ e; omega)).setCell (show w.heap.size ≤ (⟨w.heap.size + 1, 2, none⟩ : Addr).block from Nat.le_succ _) _
  · intro e
    have e2 : g = xb := Option.some.inj e
    rcases hat with h1 | h1
    · exact h.ne (by rw [h1, e2])
    · omega
theorem MkS.mid {l k : Int} {w wr w1 : World} {a : Option Addr} {cp xb : Nat} {ws : List Wf} {x : Nat → Int} (h : MkS l k w a cp ws xb x wr)
    (hgrow : (wr.alloc (.cells (wordC x) 40)).grownBy w1 (Value.slice a ws.length cp).ownBlock) : Blk w1 (w.heap.size + 1) #[.int .i8 l, .int .i8 k, .slice a ws.length cp] 27 :=
  (hgrow.block _ (by have := h.T.F.lt; simp; omega) (fun e => by have := (h.T.own.lt _ e.symm).1; omega)).trans (h.T.F.alloc _)
theorem MkS.word {l k : Int} {w wr : World} {a : Option Addr} {cp xb : Nat} {ws : List Wf} {x : Nat → Int} (h : MkS l k w a cp ws xb x wr) (y : Nat → Int) :
    MkS l k w a cp ws xb y ((((wr.setCell ⟨xb, 0, none⟩ (.int .i8 (y 0))).setCell ⟨xb, 1, none⟩ (.int .i8 (y 1))).setCell ⟨xb, 2, none⟩ (.int .i8 (y 2))).setCell ⟨xb, 3, none⟩ (.int .i8 (y 3))) := by
  have hlo := h.lo
  have own1 : ∀ {W : World} {v : Value} {n : Nat} {cs : List Value} (i : Nat) (u : Value), W.ownsRow (w.heap.size + 2) 40 4 v n cs → v.ownBlock ≠ some xb → (W.setCell ⟨xb, i, none⟩ u).ownsRow (w.heap.size + 2) 40 4 v n cs := fun {W v n cs} i u ho hne =>
    ho.kept (row := some xb) ⟨rfl, rfl, rfl, by simp, fun k hk hne => heap_setCell_other W _ k _ (fun e => hne (by rw [e]))⟩ (.inr hne)
  refine ⟨⟨(((h.T.R.setOther (by omega) _ _).setOther (by omega) _ _).setOther (by omega) _ _).setOther (by omega) _ _, (((h.T.F.setOther (by omega) _ _).setOther (by omega) _ _).setOther (by omega) _ _).setOther (by omega) _ _, own1 _ _ (own1 _ _ (own1 _ _ (own1 _ _ h.T.own h.ne) h.ne) h.ne) h.ne, ?_⟩, (((h.X.set 0 _).set 1 _).set 2 _).set 3 _, h.ne, h.lo⟩
  have hle : w.heap.size ≤ xb := by omega
  exact (((h.T.bel.setCell (p := ⟨xb, 0, none⟩) hle _).setCell (p := ⟨xb, 1, none⟩) hle _).setCell (p := ⟨xb, 2, none⟩) hle _).setCell (p := ⟨xb, 3, none⟩) hle _
theorem MkT.ret {l k : Int} {w wr : World} {a : Option Addr} {cp : Nat} {ws : List Wf} (h : MkT l k w a cp ws wr) (u0 u1 u2 : Value) :
    (((wr.setCell ⟨w.heap.size, 0, none⟩ u0).setCell ⟨w.heap.size, 1, none⟩ u1).setCell ⟨w.heap.size, 2, none⟩ u2).ownsRow (w.heap.size + 2) 40 4 (.slice a ws.length cp) ws.length (wls ws) := by
  have own1 : ∀ {W : World} {v : Value} {n : Nat} {cs : List Value} (i : Nat) (u : Value), W.ownsRow (w.heap.size + 2) 40 4 v n cs → (W.setCell ⟨w.heap.size, i, none⟩ u).ownsRow (w.heap.size + 2) 40 4 v n cs := fun {W v n cs} i u ho =>
    ho.kept (row := some w.heap.size) ⟨rfl, rfl, rfl, by simp, fun k hk hne => heap_setCell_other W _ k _ (fun e => hne (by rw [e]))⟩ (by
      cases hv : v.ownBlock with
      | none => exact .inl rfl
      | some j => exact .inr (fun e => by have h1 := (ho.lt j hv).1; have h2 := Option.some.inj e; omega))
  exact own1 _ _ (own1 _ _ (own1 _ _ h.own))
theorem mf_out {l k c : Int} (h : ¬ MfO l k c) : mfC l k c = 2 ∧ mfW l k c = [] ∧ mfL l k c = 0 ∧ mfK l k c = 0 := by
  have e : mfC l k c = 2 := by unfold mfC; rw [if_neg (by rw [cb_f h]; decide)]
  refine ⟨e, ?_, ?_, ?_⟩
  · unfold mfW; rw [e]; rfl
  · unfold mfL; rw [e]; rfl
  · unfold mfK; rw [e]; rfl
theorem mf_state {l k c : Int} (h : MfO l k c) (h3 : c % 3 ≠ 0) : mfC l k c = 4 ∧ mfW l k c = [] ∧ mfL l k c = 0 ∧ mfK l k c = 0 := by
  have e : mfC l k c = 4 := by unfold mfC; rw [if_pos (cb_t h), if_neg h3]
  refine ⟨e, ?_, ?_, ?_⟩
  · unfold mfW; rw [e]; rfl
  · unfold mfL; rw [e]; rfl
  · unfold mfK; rw [e]; rfl
theorem mf_few {l k c : Nat} (h : MfO l k c) (h3 : (c : Int) % 3 = 0) (hf : 3 * (stI l k (p3N (l - 1))).length < c) : mfC l k c = 6 ∧ mfW l k c = [] ∧ mfL l k c = 0 ∧ mfK l k c = 0 := by
  have e : mfC l k c = 6 := by unfold mfC; rw [if_pos (cb_t h), if_pos h3, if_pos (by simp only [Int.toNat_natCast]; omega)]
  refine ⟨e, ?_, ?_, ?_⟩
  · unfold mfW; rw [e]; rfl
  · unfold mfL; rw [e]; rfl
  · unfold mfK; rw [e]; rfl
theorem mf_good {l k c : Nat} (h : MfO l k c) (h3 : (c : Int) % 3 = 0) (hf : ¬ 3 * (stI l k (p3N (l - 1))).length < c) : mfC l k c = 0 ∧ mfW l k c = gws l ((stI l k (p3N (l - 1))).take (c / 3)) ∧ mfL l k c = l ∧ mfK l k c = k := by
  have e : mfC l k c = 0 := by unfold mfC; rw [if_pos (cb_t h), if_pos h3, if_neg (by simp only [Int.toNat_natCast]; omega)]
  refine ⟨e, ?_, ?_, ?_⟩
  · unfold mfW mfI; rw [if_pos e]; simp only [Int.toNat_natCast]
  · unfold mfL; rw [if_pos e]
  · unfold mfK; rw [if_pos e]
theorem take_stI {l k m n d : Nat} (hn : n ≤ m) (hd : (stI l k n).length = d) : (stI l k m).take d = stI l k n := by
  obtain ⟨r, hr⟩ := stI_pre l k hn
  rw [← hr, ← hd, List.take_left']
  rfl

set_option maxHeartbeats 4000000 in
theorem specMf_out (l k c : Int) (w : World) (hl : -9223372036854775808 ≤ l ∧ l ≤ 9223372036854775807) (hk : -9223372036854775808 ≤ k ∧ k ≤ 9223372036854775807) (hc : -9223372036854775808 ≤ c ∧ c ≤ 9223372036854775807) (h : ¬ MfO l k c) :
    Calls Try.prog 14 #[.int .i64 l, .int .i64 k, .int .i64 c] w fun e w' => e = .returned (.tuple #[fixV 0 0 none 0 0, .int .i64 2]) ∧ Below w.heap.size w w' := by
  have F0 := (FR.start w).box #[.int .i8 0, .int .i8 0, .slice none 0 0] 27
  have HB := Lib.hid F0.below
  obtain ⟨f0, f1, f2, f3⟩ := (F0.blk _ List.mem_cons_self).three
  have HL := Lib.hid (fun W => l04Letters_any l W)
  have HK := Lib.hid (fun W => l04Kind_any k W)
  have HN := Lib.hid (fun W => l00In_any c 1 80 W)
  clear F0
  by_cases h1 : 1 ≤ l ∧ l ≤ 4
  case neg =>
    rw [show inB l 1 4 = false from cb_f h1] at HL
    clear h h1
    go_enter Try.func14, Try.ntmps14
    go_wp2_with fail
    refine (HL.out _).mono ?_
    rintro e w2 ⟨rfl, rfl⟩
    go_wp2
    exact bodyPost_ret (v := .tuple #[fixV 0 0 none 0 0, .int .i64 2]) (by simp [results, Try.results14, go_sem]) rfl ⟨rfl, by repeat (first | exact HB.out | refine Below.setCell ?_ (by simp <;> omega) _)⟩
  rw [show inB l 1 4 = true from cb_t h1] at HL
  by_cases h2 : 0 ≤ k ∧ k ≤ 2
  case neg =>
    rw [show inB k 0 2 = false from cb_f h2] at HK
    clear h h1 h2
    go_enter Try.func14, Try.ntmps14
    go_wp2_with fail
    refine (HL.out _).mono ?_
    rintro e w2 ⟨rfl, rfl⟩
    go_wp2_with fail
    refine (HK.out _).mono ?_
    rintro e w2 ⟨rfl, rfl⟩
    go_wp2
    exact bodyPost_ret (v := .tuple #[fixV 0 0 none 0 0, .int .i64 2]) (by simp [results, Try.results14, go_sem]) rfl ⟨rfl, by repeat (first | exact HB.out | refine Below.setCell ?_ (by simp <;> omega) _)⟩
  rw [show inB k 0 2 = true from cb_t h2] at HK
  rw [show inB c 1 80 = false from cb_f (fun h3 => h ⟨h1, h2, h3⟩)] at HN
  clear h h1 h2
  go_enter Try.func14, Try.ntmps14
  go_wp2_with fail
  refine (HL.out _).mono ?_
  rintro e w2 ⟨rfl, rfl⟩
  go_wp2_with fail
  refine (HK.out _).mono ?_
  rintro e w2 ⟨rfl, rfl⟩
  go_wp2_with fail
  refine (HN.out _).mono ?_
  rintro e w2 ⟨rfl, rfl⟩
  go_wp2
  exact bodyPost_ret (v := .tuple #[fixV 0 0 none 0 0, .int .i64 2]) (by simp [results, Try.results14, go_sem]) rfl ⟨rfl, by repeat (first | exact HB.out | refine Below.setCell ?_ (by simp <;> omega) _)⟩
set_option maxHeartbeats 4000000 in
theorem specMf_state (l k c : Int) (w : World) (h : MfO l k c) (h3 : c % 3 ≠ 0) :
    Calls Try.prog 14 #[.int .i64 l, .int .i64 k, .int .i64 c] w fun e w' => e = .returned (.tuple #[fixV 0 0 none 0 0, .int .i64 4]) ∧ Below w.heap.size w w' := by
  have F0 := (FR.start w).box #[.int .i8 0, .int .i8 0, .slice none 0 0] 27
  have HB := Lib.hid F0.below
  obtain ⟨f0, f1, f2, f3⟩ := (F0.blk _ List.mem_cons_self).three
  have HL := Lib.hid (fun W => l04Letters_any l W)
  have HK := Lib.hid (fun W => l04Kind_any k W)
  have HN := Lib.hid (fun W => l00In_any c 1 80 W)
  rw [show inB l 1 4 = true from cb_t h.1] at HL
  rw [show inB k 0 2 = true from cb_t h.2.1] at HK
  rw [show inB c 1 80 = true from cb_t h.2.2] at HN
  have hm : c.tmod 3 = c % 3 := Int.tmod_eq_emod_of_nonneg (by have := h.2.2; omega)
  have hmb : 0 ≤ c % 3 ∧ c % 3 ≤ 2 := by omega
  have hq : (c % 3 != 0) = true := by simpa using h3
  have hcc := h.2.2
  clear F0 h h3
  generalize c % 3 = r at *
  go_enter Try.func14, Try.ntmps14
  go_wp2_with fail
  refine (HL.out _).mono ?_
  rintro e w2 ⟨rfl, rfl⟩
  go_wp2_with fail
  refine (HK.out _).mono ?_
  rintro e w2 ⟨rfl, rfl⟩
  go_wp2_with fail
  refine (HN.out _).mono ?_
  rintro e w2 ⟨rfl, rfl⟩
  go_wp2
  exact bodyPost_ret (v := .tuple #[fixV 0 0 none 0 0, .int .i64 4]) (by simp [results, Try.results14, go_sem]) rfl ⟨rfl, by repeat (first | exact HB.out | refine Below.setCell ?_ (by simp <;> omega) _)⟩

set_option maxHeartbeats 16000000 in
theorem specMf_in (l k c : Nat) (w : World) (h : MfO l k c) (h3 : (c : Int) % 3 = 0) :
    Calls Try.prog 14 #[.int .i64 (l : Int), .int .i64 (k : Int), .int .i64 (c : Int)] w fun e w' => ∃ a cp, e = .returned (.tuple #[fixV (mfL l k c) (mfK l k c) a (mfW l k c).length cp, .int .i64 (mfC l k c)]) ∧ w'.ownsRow (w.heap.size + 2) 40 4 (.slice a (mfW l k c).length cp) (mfW l k c).length (wls (mfW l k c)) ∧ Below w.heap.size w w' := by
  obtain ⟨i0, hi, hz0, hz1, hz2⟩ := info_parts Try.info_wd
  have hl4 : 1 ≤ l ∧ l ≤ 4 := by have := h.1; omega
  have hk2 : k ≤ 2 := by have := h.2.1; omega
  have hc80 : 1 ≤ c ∧ c ≤ 80 := by have := h.2.2; omega
  have F0 := ((FR.start w).box #[.int .i8 0, .int .i8 0, .slice none 0 0] 27).box #[.int .i8 (l : Int), .int .i8 (k : Int), .slice none 0 0] 27
  simp only [World.size_alloc] at F0
  have T0 : MkT l k w none 0 (gws l (stI l k 0)) _ := ⟨F0.blk (w.heap.size, #[.int .i8 0, .int .i8 0, .slice none 0 0], 27) (by simp), F0.blk _ List.mem_cons_self, World.ownsRow_nil _ _ _ _, F0.below⟩
  have HL := Lib.hid (fun W => l04Letters_any l W)
  have HK := Lib.hid (fun W => l04Kind_any k W)
  have HN := Lib.hid (fun W => l00In_any c 1 80 W)
  rw [show inB l 1 4 = true from cb_t h.1] at HL
  rw [show inB k 0 2 = true from cb_t h.2.1] at HK
  rw [show inB c 1 80 = true from cb_t h.2.2] at HN
  have hm : (c : Int).tmod 3 = 0 := (Int.tmod_eq_emod_of_nonneg (by omega)).trans h3
  have HP := Lib.hid (fun W => l03Power_any (l - 1) W (by omega))
  rw [show ((l - 1 : Nat) : Int) = (l : Int) - 1 by omega, p3N_cast] at HP
  have HPN := Lib.hid (p3N_le (l - 1))
  have HFEW := Lib.hid (fun hf => mf_few h h3 hf)
  have HGOOD := Lib.hid (fun hf => mf_good h h3 hf)
  have h3' : c % 3 = 0 := by omega
  have lz : (l : Int) ≤ 4 := by omega
  have kz : (k : Int) ≤ 2 := by omega
  have cz : (c : Int) ≤ 80 := by omega
  have lz1 : 1 ≤ (l : Int) := by omega
  clear F0 h h3
  go_enter Try.func14, Try.ntmps14
  go_wp2_with fail
  refine (HL.out _).mono ?_
  rintro e w2 ⟨rfl, rfl⟩
  go_wp2_with fail
  refine (HK.out _).mono ?_
  rintro e w2 ⟨rfl, rfl⟩
  go_wp2_with fail
  refine (HN.out _).mono ?_
  rintro e w2 ⟨rfl, rfl⟩
  go_wp2
  have HT0 := Lib.hid T0
  clear T0
  go_loopw [9] (fun nv wr => ∃ (n : Nat) (a : Option Addr) (cp : Nat), nv = .int .i64 (n : Int) ∧ n ≤ p3N (l - 1) ∧ 3 * (stI l k n).length ≤ c ∧ MkT l k w a cp (gws l (stI l k n)) wr) (fun nv _ => 100 - (intOf nv).toNat)
  case atStart => exact ⟨0, none, 0, rfl, Nat.zero_le _, Nat.zero_le _, HT0.out⟩
  case round =>
    clear HT0 HL HK HN hm
    obtain ⟨n, a, cp, rfl, hn, hlen, hT⟩ := hrel
    have hgl := gws_len l (stI l k n)
    have hpn := HPN.out
    have HTK := Lib.hid (fun d => take_stI (l := l) (k := k) (d := d) hn)
    have HFEW2 := Lib.hid (fun (e : n = p3N (l - 1)) (hf : 3 * (stI l k n).length < c) => HFEW.out (by rw [← e]; exact hf))
    have HGD := Lib.hid (fun (hf : 3 * (stI l k n).length = c) => HGOOD.out (by have := (stI_pre l k hn).length_le; omega))
    generalize hpp : p3N (l - 1) = pp at *
    generalize hws : gws l (stI l k n) = ws at *
    have HWS := Lib.hid hws
    have HGL := Lib.hid hgl
    have hm240 : ws.length ≤ 243 := by have := stI_len l k n; omega
    clear hgl
    obtain ⟨f0, f1, f2, f3⟩ := hT.F.three
    by_cases h1 : n < pp
    case neg =>
      have HNPP := Lib.hid (show n = pp by omega)
      have h1z : ¬ (n : Int) < (pp : Int) := by omega
      by_cases h2 : ws.length < c
      · have h2z : (ws.length : Int) < (c : Int) := by omega
        obtain ⟨r0, r1, r2, r3⟩ := hT.R.three
        have HE := Lib.hid (HFEW2.out HNPP.out (by have := HGL.out; omega))
        have HB := Lib.hid hT.bel
        clear hT
        go_wp2_with fail
        refine (HP.out _).mono ?_
        rintro e w5 ⟨rfl, rfl⟩
        go_wp2
        refine bodyPost_ret (v := .tuple #[fixV 0 0 none 0 0, .int .i64 6]) (by simp [results, Try.results14, go_sem, r0, r1, r2]) rfl ⟨none, 0, ?_, ?_, by repeat (first | exact HB.out | refine Below.setCell ?_ (by simp <;> omega) _)⟩
        · obtain ⟨e1, e2, e3, e4⟩ := HE.out
          rw [e1, e2, e3, e4]; rfl
        · rw [HE.out.2.1]; exact World.ownsRow_nil _ _ _ _
      · have h2z : ¬ (ws.length : Int) < (c : Int) := by omega
        obtain ⟨r0, r1, r2, r3⟩ := hT.R.three
        have HE := Lib.hid (HGD.out (by have := HGL.out; omega))
        have HWE := Lib.hid (show mfW l k c = ws from by rw [HE.out.2.1, HTK.out (c / 3) (by have := HGL.out; omega), HWS.out])
        have HO := Lib.hid (hT.ret (.int .i8 (l : Int)) (.int .i8 (k : Int)) (.slice a ws.length cp))
        have HB := Lib.hid hT.bel
        clear hT
        go_wp2_with fail
        refine (HP.out _).mono ?_
        rintro e w5 ⟨rfl, rfl⟩
        go_wp2
        refine bodyPost_ret (v := .tuple #[fixV l k a ws.length cp, .int .i64 0]) (by simp [results, Try.results14, go_sem, r0, r1, r2]) rfl ⟨a, cp, ?_, ?_, by repeat (first | exact HB.out | refine Below.setCell ?_ (by simp <;> omega) _)⟩
        · obtain ⟨e1, e2, e3, e4⟩ := HE.out
          rw [e1, HWE.out, e3, e4]
        · rw [HWE.out]; exact HO.out
    have h1z : (n : Int) < (pp : Int) := by omega
    by_cases h2 : ws.length < c
    case neg =>
      have h2z : ¬ (ws.length : Int) < (c : Int) := by omega
      obtain ⟨r0, r1, r2, r3⟩ := hT.R.three
      have HE := Lib.hid (HGD.out (by have := HGL.out; omega))
      have HWE := Lib.hid (show mfW l k c = ws from by rw [HE.out.2.1, HTK.out (c / 3) (by have := HGL.out; omega), HWS.out])
      have HO := Lib.hid (hT.ret (.int .i8 (l : Int)) (.int .i8 (k : Int)) (.slice a ws.length cp))
      have HB := Lib.hid hT.bel
      clear hT
      go_wp2_with fail
      refine (HP.out _).mono ?_
      rintro e w5 ⟨rfl, rfl⟩
      go_wp2
      refine bodyPost_ret (v := .tuple #[fixV l k a ws.length cp, .int .i64 0]) (by simp [results, Try.results14, go_sem, r0, r1, r2]) rfl ⟨a, cp, ?_, ?_, by repeat (first | exact HB.out | refine Below.setCell ?_ (by simp <;> omega) _)⟩
      · obtain ⟨e1, e2, e3, e4⟩ := HE.out
        rw [e1, HWE.out, e3, e4]
      · rw [HWE.out]; exact HO.out
    have h2z : (ws.length : Int) < (c : Int) := by omega
    have HAT := Lib.hid (fun W => l04At_any l n W hl4 (by omega))
    obtain ⟨x0, hx0⟩ : ∃ x, dgs l n = x := ⟨_, rfl⟩
    have fit0 := dgs_fit (n := (n : Int)) hl4 (by omega)
    rw [hx0] at HAT fit0
    have HTU := Lib.hid (fun W => l04Turns_any l x0 W hl4 (fit_s4 fit0))
    have HX0 := Lib.hid (fun W => l04NextWord_any l x0 W hl4 (fit_s4 fit0))
    have fit1 := nxD_fit hl4 fit0
    have HX1 := Lib.hid (fun W => l04NextWord_any l (nxD l x0) W hl4 (fit_s4 fit1))
    have fit2 := nxD_fit hl4 fit1
    have HX2 := Lib.hid (fun W => l04NextWord_any l (nxD l (nxD l x0)) W hl4 (fit_s4 fit2))
    obtain ⟨x3, hx3⟩ : ∃ x, nxD l (nxD l (nxD l x0)) = x := ⟨_, rfl⟩
    rw [hx3] at HX2
    clear hx3
    have HMS := Lib.hid (show msB l k n = !(decide (k = 2) && !tnB l x0 || decide (n = 0)) from by unfold msB; rw [hx0])
    have HGR := Lib.hid (show grp l n = [x0, nxD l x0, nxD l (nxD l x0)] from by unfold grp; rw [hx0])
    have HNO := Lib.hid (fun (e : msB l k n = false) => (show stI l k (n + 1) = stI l k n from by rw [stI_succ, if_neg (by rw [e]; decide), List.append_nil]))
    have HYES := Lib.hid (fun (e : msB l k n = true) => (show stI l k (n + 1) = stI l k n ++ [n] from by rw [stI_succ, if_pos e]))
    clear fit0 fit1 fit2 hx0 hws
    generalize nxD l (nxD l x0) = x2 at *
    generalize nxD l x0 = x1 at *
    by_cases kk : k = 2
    · have kq : ((k : Int) == 2) = true := by simp [kk]
      cases tt : tnB l x0
      · have hms : msB l k n = false := by rw [HMS.out, tt]; simp [kk]
        rw [tt] at HTU
        clear kk tt
        go_wp2_with fail
        refine (HP.out _).mono ?_
        rintro e w5 ⟨rfl, rfl⟩
        go_wp2_with fail
        refine (HAT.out _).mono ?_
        rintro e w5 ⟨rfl, hb⟩
        have S0 := (hT.below hb).start x0
        clear f0 f1 f2 f3 hb hT
        obtain ⟨y0, y1, y2, y3, y4⟩ := S0.X.four
        go_wp2_with fail
        refine (HTU.out _).mono ?_
        rintro e w6 ⟨rfl, hb6⟩
        replace S0 := S0.below hb6
        clear y0 y1 y2 y3 y4 hb6
        have HS0 := Lib.hid S0
        clear S0
        go_wp2
        go_roundw
        case rel => exact ⟨n + 1, a, cp, by go_num, by omega, by rw [HNO.out hms]; exact hlen, by rw [HNO.out hms, HWS.out]; exact HS0.out.T⟩
        case measure => simp [intOf]; omega
      · rw [tt] at HTU
        have HKK := Lib.hid kk
        clear kk
        by_cases n0 : n = 0
        · have hms : msB l k n = false := by rw [HMS.out]; simp [n0]
          have nq : ((n : Int) == 0) = true := by simp [n0]
          clear n0 tt
          go_wp2_with fail
          refine (HP.out _).mono ?_
          rintro e w5 ⟨rfl, rfl⟩
          go_wp2_with fail
          refine (HAT.out _).mono ?_
          rintro e w5 ⟨rfl, hb⟩
          have S0 := (hT.below hb).start x0
          clear f0 f1 f2 f3 hb hT
          obtain ⟨y0, y1, y2, y3, y4⟩ := S0.X.four
          go_wp2_with fail
          refine (HTU.out _).mono ?_
          rintro e w6 ⟨rfl, hb6⟩
          replace S0 := S0.below hb6
          clear y0 y1 y2 y3 y4 hb6
          have HS0 := Lib.hid S0
          clear S0
          go_wp2
          go_roundw
          case rel => exact ⟨n + 1, a, cp, by go_num, by omega, by rw [HNO.out hms]; exact hlen, by rw [HNO.out hms, HWS.out]; exact HS0.out.T⟩
          case measure => simp [intOf]; omega
        · have hms : msB l k n = true := by rw [HMS.out, tt]; simp [n0]
          have nq : ((n : Int) == 0) = false := by simp [n0]
          clear n0 tt
          go_wp2_with fail
          refine (HP.out _).mono ?_
          rintro e w5 ⟨rfl, rfl⟩
          go_wp2_with fail
          refine (HAT.out _).mono ?_
          rintro e w5 ⟨rfl, hb⟩
          have S0 := (hT.below hb).start x0
          clear f0 f1 f2 f3 hb hT
          obtain ⟨y0, y1, y2, y3, y4⟩ := S0.X.four
          go_wp2_with fail
          refine (HTU.out _).mono ?_
          rintro e w6 ⟨rfl, hb6⟩
          replace S0 := S0.below hb6
          clear y0 y1 y2 y3 y4 hb6
          obtain ⟨W0, rfl⟩ : ∃ W0 : World, W0 = w6 := ⟨_, rfl⟩
          go_wp2
          generalize w5.heap.size = xb at *
          refine wp_loop_rounds 4 ?_
          rw [rounds_succ]
          obtain ⟨f0, f1, f2, f3⟩ := S0.T.F.three
          obtain ⟨y0, y1, y2, y3, y4⟩ := S0.X.four
          have lF := S0.T.F.lt
          have lX := S0.X.lt
          have bz := S0.T.bel.size
          have own0 := S0.T.own

          go_wp2_with (at_builtin; refine wpList_append_lies _ rfl _ _ 25 rfl (w.heap.size + 2) 40 i0 (.agg #[.int .i8 0, .int .i8 0, .int .i8 0, .int .i8 0]) 4 4 Try.underlying25 hi hz0 hz1 hz2 rfl (by decide) _ _ _ rfl (own0.alloc _) ⟨W0.heap.size, 0, none⟩ 1 1 [.int .i8 (x0 0), .int .i8 (x0 1), .int .i8 (x0 2), .int .i8 (x0 3)] rfl rfl (World.news_of_block (cs := wordC x0) (t := 40) (fr := (0, 0)) (heap_alloc_new W0 _)) (by simp [Value.oneCell']) (by omega) (by unfold maxLen; omega) (by omega) (by simp; omega) _ rfl ?_)
          intro g0 cp0 V0 hown hgrow hat hlt
          have T0 := S0.app (g := g0) (cp' := cp0) (w1 := V0) (by simpa using hown) (by simpa using hgrow) (by simpa using hat)

          clear f0 f1 f2 f3 y0 y1 y2 y3 y4
          obtain ⟨f0, f1, f2, f3⟩ := (S0.mid (w1 := V0) (by simpa using hgrow)).three
          obtain ⟨y0, y1, y2, y3, y4⟩ := T0.X.four

          clear hown hgrow hat S0 own0 lF lX bz
          go_wp2_with fail
          refine (HX0.out _).mono ?_
          rintro e U0 ⟨rfl, hb⟩
          have Z0 := T0.below hb
          obtain ⟨z0, z1, z2, z3, z4⟩ := Z0.X.four
          have S1 := Z0.word x1
          clear f0 f1 f2 f3 y0 y1 y2 y3 y4 hb T0 Z0
          go_wp2
          obtain ⟨W1, hW1⟩ : ∃ W1, ((((U0.setCell ⟨xb, 0, none⟩ (.int .i8 (x1 0))).setCell ⟨xb, 1, none⟩ (.int .i8 (x1 1))).setCell ⟨xb, 2, none⟩ (.int .i8 (x1 2))).setCell ⟨xb, 3, none⟩ (.int .i8 (x1 3))) = W1 := ⟨_, rfl⟩
          rw [hW1] at S1 ⊢
          clear hW1 z0 z1 z2 z3 z4
          rw [rounds_succ]
          obtain ⟨f0, f1, f2, f3⟩ := S1.T.F.three
          obtain ⟨y0, y1, y2, y3, y4⟩ := S1.X.four
          have lF := S1.T.F.lt
          have lX := S1.X.lt
          have bz := S1.T.bel.size
          have own1 := S1.T.own
          simp only [List.length_append, List.length_cons, List.length_nil, Nat.zero_add] at f2 own1
          go_wp2_with (at_builtin; refine wpList_append_lies _ rfl _ _ 25 rfl (w.heap.size + 2) 40 i0 (.agg #[.int .i8 0, .int .i8 0, .int .i8 0, .int .i8 0]) 4 4 Try.underlying25 hi hz0 hz1 hz2 rfl (by decide) _ _ _ rfl (own1.alloc _) ⟨W1.heap.size, 0, none⟩ 1 1 [.int .i8 (x1 0), .int .i8 (x1 1), .int .i8 (x1 2), .int .i8 (x1 3)] rfl rfl (World.news_of_block (cs := wordC x1) (t := 40) (fr := (0, 0)) (heap_alloc_new W1 _)) (by simp [Value.oneCell']) (by omega) (by unfold maxLen; omega) (by omega) (by simp; omega) _ rfl ?_)
          intro g1 cp1 V1 hown hgrow hat hlt
          have T1 := S1.app (g := g1) (cp' := cp1) (w1 := V1) (by simpa using hown) (by simpa using hgrow) (by simpa using hat)
          simp only [List.length_append, List.length_cons, List.length_nil, Nat.zero_add] at T1
          clear f0 f1 f2 f3 y0 y1 y2 y3 y4
          obtain ⟨f0, f1, f2, f3⟩ := (S1.mid (w1 := V1) (by simpa using hgrow)).three
          obtain ⟨y0, y1, y2, y3, y4⟩ := T1.X.four
          simp only [List.length_append, List.length_cons, List.length_nil, Nat.zero_add] at f2
          clear hown hgrow hat S1 own1 lF lX bz
          go_wp2_with fail
          refine (HX1.out _).mono ?_
          rintro e U1 ⟨rfl, hb⟩
          have Z1 := T1.below hb
          obtain ⟨z0, z1, z2, z3, z4⟩ := Z1.X.four
          have S2 := Z1.word x2
          clear f0 f1 f2 f3 y0 y1 y2 y3 y4 hb T1 Z1
          go_wp2
          obtain ⟨W2, hW2⟩ : ∃ W2, ((((U1.setCell ⟨xb, 0, none⟩ (.int .i8 (x2 0))).setCell ⟨xb, 1, none⟩ (.int .i8 (x2 1))).setCell ⟨xb, 2, none⟩ (.int .i8 (x2 2))).setCell ⟨xb, 3, none⟩ (.int .i8 (x2 3))) = W2 := ⟨_, rfl⟩
          rw [hW2] at S2 ⊢
          clear hW2 z0 z1 z2 z3 z4
          rw [rounds_succ]
          obtain ⟨f0, f1, f2, f3⟩ := S2.T.F.three
          obtain ⟨y0, y1, y2, y3, y4⟩ := S2.X.four
          have lF := S2.T.F.lt
          have lX := S2.X.lt
          have bz := S2.T.bel.size
          have own2 := S2.T.own
          simp only [List.length_append, List.length_cons, List.length_nil, Nat.zero_add] at f2 own2
          go_wp2_with (at_builtin; refine wpList_append_lies _ rfl _ _ 25 rfl (w.heap.size + 2) 40 i0 (.agg #[.int .i8 0, .int .i8 0, .int .i8 0, .int .i8 0]) 4 4 Try.underlying25 hi hz0 hz1 hz2 rfl (by decide) _ _ _ rfl (own2.alloc _) ⟨W2.heap.size, 0, none⟩ 1 1 [.int .i8 (x2 0), .int .i8 (x2 1), .int .i8 (x2 2), .int .i8 (x2 3)] rfl rfl (World.news_of_block (cs := wordC x2) (t := 40) (fr := (0, 0)) (heap_alloc_new W2 _)) (by simp [Value.oneCell']) (by omega) (by unfold maxLen; omega) (by omega) (by simp; omega) _ rfl ?_)
          intro g2 cp2 V2 hown hgrow hat hlt
          have T2 := S2.app (g := g2) (cp' := cp2) (w1 := V2) (by simpa using hown) (by simpa using hgrow) (by simpa using hat)
          simp only [List.length_append, List.length_cons, List.length_nil, Nat.zero_add] at T2
          clear f0 f1 f2 f3 y0 y1 y2 y3 y4
          obtain ⟨f0, f1, f2, f3⟩ := (S2.mid (w1 := V2) (by simpa using hgrow)).three
          obtain ⟨y0, y1, y2, y3, y4⟩ := T2.X.four
          simp only [List.length_append, List.length_cons, List.length_nil, Nat.zero_add] at f2
          clear hown hgrow hat S2 own2 lF lX bz
          go_wp2_with fail
          refine (HX2.out _).mono ?_
          rintro e U2 ⟨rfl, hb⟩
          have Z2 := T2.below hb
          obtain ⟨z0, z1, z2, z3, z4⟩ := Z2.X.four
          have S3 := Z2.word x3
          clear f0 f1 f2 f3 y0 y1 y2 y3 y4 hb T2 Z2
          go_wp2
          obtain ⟨W3, hW3⟩ : ∃ W3, ((((U2.setCell ⟨xb, 0, none⟩ (.int .i8 (x3 0))).setCell ⟨xb, 1, none⟩ (.int .i8 (x3 1))).setCell ⟨xb, 2, none⟩ (.int .i8 (x3 2))).setCell ⟨xb, 3, none⟩ (.int .i8 (x3 3))) = W3 := ⟨_, rfl⟩
          rw [hW3] at S3 ⊢
          clear hW3 z0 z1 z2 z3 z4
          rw [rounds_succ]
          have HWN := Lib.hid (show gws l (stI l k (n + 1)) = ws ++ [x0] ++ [x1] ++ [x2] from by rw [HYES.out hms, gws_snoc, HWS.out, HGR.out]; simp)
          have HT3 := Lib.hid S3.T
          clear S3
          go_wp2
          go_roundw
          case rel => exact ⟨n + 1, _, _, by go_num, by omega, by rw [HYES.out hms, List.length_append]; have := HGL.out; simp; omega, by rw [HWN.out]; exact HT3.out⟩
          case measure => simp [intOf]; omega
    · have kq : ((k : Int) == 2) = false := by simp; omega
      by_cases n0 : n = 0
      · have hms : msB l k n = false := by rw [HMS.out]; simp [n0]
        have nq : ((n : Int) == 0) = true := by simp [n0]
        clear n0
        go_wp2_with fail
        refine (HP.out _).mono ?_
        rintro e w5 ⟨rfl, rfl⟩
        go_wp2_with fail
        refine (HAT.out _).mono ?_
        rintro e w5 ⟨rfl, hb⟩
        have S0 := (hT.below hb).start x0
        clear f0 f1 f2 f3 hb hT
        have HS0 := Lib.hid S0
        clear S0
        go_wp2
        go_roundw
        case rel => exact ⟨n + 1, a, cp, by go_num, by omega, by rw [HNO.out hms]; exact hlen, by rw [HNO.out hms, HWS.out]; exact HS0.out.T⟩
        case measure => simp [intOf]; omega
      · have hms : msB l k n = true := by rw [HMS.out]; simp [n0, kk]
        have nq : ((n : Int) == 0) = false := by simp [n0]
        clear n0
        go_wp2_with fail
        refine (HP.out _).mono ?_
        rintro e w5 ⟨rfl, rfl⟩
        go_wp2_with fail
        refine (HAT.out _).mono ?_
        rintro e w5 ⟨rfl, hb⟩
        have S0 := (hT.below hb).start x0
        clear f0 f1 f2 f3 hb hT
        obtain ⟨W0, hW0⟩ : ∃ W0, w5.alloc (.cells (wordC x0) 40) = W0 := ⟨_, rfl⟩
        have HW0 := Lib.hid hW0
        clear hW0
        obtain ⟨y0, y1, y2, y3, y4⟩ := S0.X.four
        go_wp2
        clear y0 y1 y2 y3 y4
        rw [HW0.out] at S0 ⊢
        generalize w5.heap.size = xb at *
        refine wp_loop_rounds 4 ?_
        rw [rounds_succ]
        obtain ⟨f0, f1, f2, f3⟩ := S0.T.F.three
        obtain ⟨y0, y1, y2, y3, y4⟩ := S0.X.four
        have lF := S0.T.F.lt
        have lX := S0.X.lt
        have bz := S0.T.bel.size
        have own0 := S0.T.own

        go_wp2_with (at_builtin; refine wpList_append_lies _ rfl _ _ 25 rfl (w.heap.size + 2) 40 i0 (.agg #[.int .i8 0, .int .i8 0, .int .i8 0, .int .i8 0]) 4 4 Try.underlying25 hi hz0 hz1 hz2 rfl (by decide) _ _ _ rfl (own0.alloc _) ⟨W0.heap.size, 0, none⟩ 1 1 [.int .i8 (x0 0), .int .i8 (x0 1), .int .i8 (x0 2), .int .i8 (x0 3)] rfl rfl (World.news_of_block (cs := wordC x0) (t := 40) (fr := (0, 0)) (heap_alloc_new W0 _)) (by simp [Value.oneCell']) (by omega) (by unfold maxLen; omega) (by omega) (by simp; omega) _ rfl ?_)
        intro g0 cp0 V0 hown hgrow hat hlt
        have T0 := S0.app (g := g0) (cp' := cp0) (w1 := V0) (by simpa using hown) (by simpa using hgrow) (by simpa using hat)

        clear f0 f1 f2 f3 y0 y1 y2 y3 y4
        obtain ⟨f0, f1, f2, f3⟩ := (S0.mid (w1 := V0) (by simpa using hgrow)).three
        obtain ⟨y0, y1, y2, y3, y4⟩ := T0.X.four

        clear hown hgrow hat S0 own0 lF lX bz
        go_wp2_with fail
        refine (HX0.out _).mono ?_
        rintro e U0 ⟨rfl, hb⟩
        have Z0 := T0.below hb
        obtain ⟨z0, z1, z2, z3, z4⟩ := Z0.X.four
        have S1 := Z0.word x1
        clear f0 f1 f2 f3 y0 y1 y2 y3 y4 hb T0 Z0
        go_wp2
        obtain ⟨W1, hW1⟩ : ∃ W1, ((((U0.setCell ⟨xb, 0, none⟩ (.int .i8 (x1 0))).setCell ⟨xb, 1, none⟩ (.int .i8 (x1 1))).setCell ⟨xb, 2, none⟩ (.int .i8 (x1 2))).setCell ⟨xb, 3, none⟩ (.int .i8 (x1 3))) = W1 := ⟨_, rfl⟩
        rw [hW1] at S1 ⊢
        clear hW1 z0 z1 z2 z3 z4
        rw [rounds_succ]
        obtain ⟨f0, f1, f2, f3⟩ := S1.T.F.three
        obtain ⟨y0, y1, y2, y3, y4⟩ := S1.X.four
        have lF := S1.T.F.lt
        have lX := S1.X.lt
        have bz := S1.T.bel.size
        have own1 := S1.T.own
        simp only [List.length_append, List.length_cons, List.length_nil, Nat.zero_add] at f2 own1
        go_wp2_with (at_builtin; refine wpList_append_lies _ rfl _ _ 25 rfl (w.heap.size + 2) 40 i0 (.agg #[.int .i8 0, .int .i8 0, .int .i8 0, .int .i8 0]) 4 4 Try.underlying25 hi hz0 hz1 hz2 rfl (by decide) _ _ _ rfl (own1.alloc _) ⟨W1.heap.size, 0, none⟩ 1 1 [.int .i8 (x1 0), .int .i8 (x1 1), .int .i8 (x1 2), .int .i8 (x1 3)] rfl rfl (World.news_of_block (cs := wordC x1) (t := 40) (fr := (0, 0)) (heap_alloc_new W1 _)) (by simp [Value.oneCell']) (by omega) (by unfold maxLen; omega) (by omega) (by simp; omega) _ rfl ?_)
        intro g1 cp1 V1 hown hgrow hat hlt
        have T1 := S1.app (g := g1) (cp' := cp1) (w1 := V1) (by simpa using hown) (by simpa using hgrow) (by simpa using hat)
        simp only [List.length_append, List.length_cons, List.length_nil, Nat.zero_add] at T1
        clear f0 f1 f2 f3 y0 y1 y2 y3 y4
        obtain ⟨f0, f1, f2, f3⟩ := (S1.mid (w1 := V1) (by simpa using hgrow)).three
        obtain ⟨y0, y1, y2, y3, y4⟩ := T1.X.four
        simp only [List.length_append, List.length_cons, List.length_nil, Nat.zero_add] at f2
        clear hown hgrow hat S1 own1 lF lX bz
        go_wp2_with fail
        refine (HX1.out _).mono ?_
        rintro e U1 ⟨rfl, hb⟩
        have Z1 := T1.below hb
        obtain ⟨z0, z1, z2, z3, z4⟩ := Z1.X.four
        have S2 := Z1.word x2
        clear f0 f1 f2 f3 y0 y1 y2 y3 y4 hb T1 Z1
        go_wp2
        obtain ⟨W2, hW2⟩ : ∃ W2, ((((U1.setCell ⟨xb, 0, none⟩ (.int .i8 (x2 0))).setCell ⟨xb, 1, none⟩ (.int .i8 (x2 1))).setCell ⟨xb, 2, none⟩ (.int .i8 (x2 2))).setCell ⟨xb, 3, none⟩ (.int .i8 (x2 3))) = W2 := ⟨_, rfl⟩
        rw [hW2] at S2 ⊢
        clear hW2 z0 z1 z2 z3 z4
        rw [rounds_succ]
        obtain ⟨f0, f1, f2, f3⟩ := S2.T.F.three
        obtain ⟨y0, y1, y2, y3, y4⟩ := S2.X.four
        have lF := S2.T.F.lt
        have lX := S2.X.lt
        have bz := S2.T.bel.size
        have own2 := S2.T.own
        simp only [List.length_append, List.length_cons, List.length_nil, Nat.zero_add] at f2 own2
        go_wp2_with (at_builtin; refine wpList_append_lies _ rfl _ _ 25 rfl (w.heap.size + 2) 40 i0 (.agg #[.int .i8 0, .int .i8 0, .int .i8 0, .int .i8 0]) 4 4 Try.underlying25 hi hz0 hz1 hz2 rfl (by decide) _ _ _ rfl (own2.alloc _) ⟨W2.heap.size, 0, none⟩ 1 1 [.int .i8 (x2 0), .int .i8 (x2 1), .int .i8 (x2 2), .int .i8 (x2 3)] rfl rfl (World.news_of_block (cs := wordC x2) (t := 40) (fr := (0, 0)) (heap_alloc_new W2 _)) (by simp [Value.oneCell']) (by omega) (by unfold maxLen; omega) (by omega) (by simp; omega) _ rfl ?_)
        intro g2 cp2 V2 hown hgrow hat hlt
        have T2 := S2.app (g := g2) (cp' := cp2) (w1 := V2) (by simpa using hown) (by simpa using hgrow) (by simpa using hat)
        simp only [List.length_append, List.length_cons, List.length_nil, Nat.zero_add] at T2
        clear f0 f1 f2 f3 y0 y1 y2 y3 y4
        obtain ⟨f0, f1, f2, f3⟩ := (S2.mid (w1 := V2) (by simpa using hgrow)).three
        obtain ⟨y0, y1, y2, y3, y4⟩ := T2.X.four
        simp only [List.length_append, List.length_cons, List.length_nil, Nat.zero_add] at f2
        clear hown hgrow hat S2 own2 lF lX bz
        go_wp2_with fail
        refine (HX2.out _).mono ?_
        rintro e U2 ⟨rfl, hb⟩
        have Z2 := T2.below hb
        obtain ⟨z0, z1, z2, z3, z4⟩ := Z2.X.four
        have S3 := Z2.word x3
        clear f0 f1 f2 f3 y0 y1 y2 y3 y4 hb T2 Z2
        go_wp2
        obtain ⟨W3, hW3⟩ : ∃ W3, ((((U2.setCell ⟨xb, 0, none⟩ (.int .i8 (x3 0))).setCell ⟨xb, 1, none⟩ (.int .i8 (x3 1))).setCell ⟨xb, 2, none⟩ (.int .i8 (x3 2))).setCell ⟨xb, 3, none⟩ (.int .i8 (x3 3))) = W3 := ⟨_, rfl⟩
        rw [hW3] at S3 ⊢
        clear hW3 z0 z1 z2 z3 z4
        rw [rounds_succ]
        have HWN := Lib.hid (show gws l (stI l k (n + 1)) = ws ++ [x0] ++ [x1] ++ [x2] from by rw [HYES.out hms, gws_snoc, HWS.out, HGR.out]; simp)
        have HT3 := Lib.hid S3.T
        clear S3
        go_wp2
        go_roundw
        case rel => exact ⟨n + 1, _, _, by go_num, by omega, by rw [HYES.out hms, List.length_append]; have := HGL.out; simp; omega, by rw [HWN.out]; exact HT3.out⟩
        case measure => simp [intOf]; omega
theorem specMakeFixed_any (l k c : Int) (w : World) (hl : -9223372036854775808 ≤ l ∧ l ≤ 9223372036854775807) (hk : -9223372036854775808 ≤ k ∧ k ≤ 9223372036854775807) (hc : -9223372036854775808 ≤ c ∧ c ≤ 9223372036854775807) :
    Calls Try.prog 14 #[.int .i64 l, .int .i64 k, .int .i64 c] w fun e w' => ∃ a cp, e = .returned (.tuple #[fixV (mfL l k c) (mfK l k c) a (mfW l k c).length cp, .int .i64 (mfC l k c)]) ∧ w'.ownsRow (w.heap.size + 2) 40 4 (.slice a (mfW l k c).length cp) (mfW l k c).length (wls (mfW l k c)) ∧ Below w.heap.size w w' := by
  by_cases h : MfO l k c
  · by_cases h3 : c % 3 = 0
    · obtain ⟨h1, h2, h4⟩ := h
      obtain ⟨ln, rfl⟩ : ∃ n : Nat, l = n := ⟨l.toNat, by omega⟩
      obtain ⟨kn, rfl⟩ : ∃ n : Nat, k = n := ⟨k.toNat, by omega⟩
      obtain ⟨cn, rfl⟩ : ∃ n : Nat, c = n := ⟨c.toNat, by omega⟩
      exact specMf_in ln kn cn w ⟨h1, h2, h4⟩ h3
    · refine (specMf_state l k c w h h3).mono ?_
      rintro e w' ⟨rfl, hb⟩
      obtain ⟨e1, e2, e3, e4⟩ := mf_state h h3
      exact ⟨none, 0, by rw [e1, e2, e3, e4]; rfl, by rw [e2]; exact World.ownsRow_nil _ _ _ _, hb⟩
  · refine (specMf_out l k c w hl hk hc h).mono ?_
    rintro e w' ⟨rfl, hb⟩
    obtain ⟨e1, e2, e3, e4⟩ := mf_out h
    exact ⟨none, 0, by rw [e1, e2, e3, e4]; rfl, by rw [e2]; exact World.ownsRow_nil _ _ _ _, hb⟩
end Go.Proofs.Ytieghjpecoiodaa
