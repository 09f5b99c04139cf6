/-
  The program's groups of words.
-/
import Derived.Test.YtieghjpecoiodaaMK5
import Derived.Deep.AppendLies
import Derived.Laws.EntriesVeiled
namespace Go.Proofs.Ytieghjpecoiodaa
open Go.RowKit
set_option maxRecDepth 100000
set_option linter.unusedVariables false

def stG : Value := .agg #[.func (.func 69) #[] #[], .func (.func 69) #[] #[], .func (.func 70) #[] #[]]
theorem groupStarts_any (w : World) :
    Calls Try.prog 57 #[] w fun e w' => e = .returned stG ∧ Below w.heap.size w w' := by
  go_enter Try.func57, Try.ntmps57
  go_wp2
  exact bodyPost_ret (v := stG) (by simp [results, Try.results57, go_sem, stG]) rfl ⟨rfl, by repeat (first | exact Below.refl _ _ | refine Below.alloc ?_ (by simp <;> omega) _)⟩
theorem Try.info_gp : (Try.prog.info? 100).map (fun i => (i.zero, i.size, i.bytes)) = some (some (.agg #[.int .i8 0, .int .i8 0, .int .i8 0, .int .i8 0, .int .i8 0, .int .i8 0, .int .i8 0, .int .i8 0, .int .i8 0, .int .i8 0, .int .i8 0, .int .i8 0]), 12, 12) := by kernel_rfl
/-- Which function says what begins a group. -/
def stF (k : Nat) : Nat := if k = 2 then 70 else 69
theorem index_st {k : Nat} (hk : k ≤ 2) (w : World) : (Instr.index 97 stG (.int .i8 (k : Int))).run Try.prog w = .ok (.func (.func (stF k)) #[] #[]) w := by
  rcases (show k = 0 ∨ k = 1 ∨ k = 2 by omega) with rfl | rfl | rfl
  · kernel_rfl
  · kernel_rfl
  · kernel_rfl
def stV (l k : Nat) (x : Nat → Int) : Bool := if k = 2 then stB l x else soB l x
theorem starts_any (l k : Nat) (x : Nat → Int) (w : World) (hl : 1 ≤ l ∧ l ≤ 4) (hx : S4 x) :
    Calls Try.prog (stF k) #[wordV x, .int .i64 (l : Int)] w fun e w' => e = .returned (.bool (stV l k x)) ∧ Below w.heap.size w w' := by
  unfold stF stV
  by_cases h : k = 2
  · rw [if_pos h, if_pos h]; exact startsTurn_any l x w hl hx
  · rw [if_neg h, if_neg h]; exact startsOne_any l x w hl hx
/-- Groups under way. -/
structure GpT (w : World) (a : Option Addr) (cp n : Nat) (ws : List Wf) (wr : World) : Prop where
  own : wr.ownsRow w.heap.size 100 12 (.slice a n cp) n (wls ws)
  bel : Below w.heap.size w wr
theorem GpT.below {w wr w' : World} {a : Option Addr} {cp n : Nat} {ws : List Wf} (h : GpT w a cp n ws wr) (hb : Below wr.heap.size wr w') : GpT w a cp n ws w' :=
  ⟨h.own.kept (row := none) ⟨hb.os, hb.tape, hb.output, hb.size, fun k hk _ => hb.block k hk⟩ (by cases h : (Value.slice a n cp).ownBlock <;> simp), h.bel.trans (hb.mono h.bel.size)⟩
theorem GpT.alloc {w wr : World} {a : Option Addr} {cp n : Nat} {ws : List Wf} (h : GpT w a cp n ws wr) (o : Obj) : GpT w a cp n ws (wr.alloc o) :=
  h.below ((Below.refl _ _).alloc (Nat.le_refl _) o)
theorem GpT.drew {w wr : World} {a : Option Addr} {cp n : Nat} {ws : List Wf} (h : GpT w a cp n ws wr) : GpT w a cp n ws wr.drew :=
  h.below (Below.refl _ _).drew
theorem GpT.app {w wr w1 : World} {a : Option Addr} {cp cp' n g : Nat} {ws : List Wf} {x y z : Nat → Int} (h : GpT w a cp n ws wr)
    (hown : w1.ownsRow w.heap.size 100 12 (.slice (some ⟨g, 0, none⟩) (n + 1) cp') (n + 1) (wls ws ++ [.int .i8 (x 0), .int .i8 (x 1), .int .i8 (x 2), .int .i8 (x 3), .int .i8 (y 0), .int .i8 (y 1), .int .i8 (y 2), .int .i8 (y 3), .int .i8 (z 0), .int .i8 (z 1), .int .i8 (z 2), .int .i8 (z 3)]))
    (hgrow : wr.grownBy w1 (Value.slice a n cp).ownBlock) : GpT w (some ⟨g, 0, none⟩) cp' (n + 1) (ws ++ [x, y, z]) w1 :=
  ⟨by simpa [wls] using hown, h.bel.grown hgrow h.bel.size (fun j e => (h.own.lt j e).1)⟩
theorem index_one {k : Nat} (hk : k ≤ 1) (w : World) : (Instr.index 97 stG (.int .i8 (k : Int))).run Try.prog w = .ok (.func (.func 69) #[] #[]) w := by
  have := index_st (k := k) (by omega) w
  rwa [show stF k = 69 from if_neg (by omega)] at this
theorem index_turn (w : World) : (Instr.index 97 stG (.int .i8 2)).run Try.prog w = .ok (.func (.func 70) #[] #[]) w := index_st (k := 2) (by omega) w
theorem stV_one {l k : Nat} (hk : k ≤ 1) (x : Nat → Int) : stV l k x = soB l x := if_neg (by omega)
theorem keepB {wr w1 : World} {v : Value} {b : Nat} {cs : Array Value} {t : TypeId} (hgrow : wr.grownBy w1 v.ownBlock) (hb : Blk wr b cs t) (hne : v.ownBlock ≠ some b) : Blk w1 b cs t :=
  (hgrow.block b hb.lt (fun e => hne e.symm)).trans hb
set_option maxHeartbeats 16000000 in
theorem groupsFor_one (l k : Nat) (w : World) (hl : 1 ≤ l ∧ l ≤ 4) (hk : k ≤ 1) :
    Calls Try.prog 42 #[.int .i64 (l : Int), .int .i8 (k : Int)] w fun e w' => ∃ a cp, e = .returned (.slice a (siI l k (p3N l)).length cp) ∧ GpT w a cp (siI l k (p3N l)).length (gws l (siI l k (p3N l))) w' := by
  obtain ⟨i0, hi, hz0, hz1, hz2⟩ := info_parts Try.info_gp
  have HIX := fun W => index_one hk W
  have HST := Lib.hid (fun x W hx => startsOne_any l x W hl hx)
  have HGS := Lib.hid (fun W => groupStarts_any W)
  have HCW := Lib.hid (fun W => countWords_any l W (by omega))
  rw [p3N_cast] at HCW
  have HP := Lib.hid (p3N_le l)
  generalize hpp : p3N l = pp at *
  have hpl := HP.out
  go_enter Try.func42, Try.ntmps42
  go_wp2_with fail
  refine (HGS.out _).mono ?_
  rintro e w1 ⟨rfl, hb1⟩
  have HB1 := Lib.hid hb1
  clear hb1
  generalize stG = sg at *
  go_wp2_with fail
  refine (HCW.out _).mono ?_
  rintro e w2 ⟨rfl, rfl⟩
  go_wp2
  have T0 : GpT w none 0 (siI l k 0).length (gws l (siI l k 0)) w1 := ⟨World.ownsRow_nil _ _ _ _, HB1.out⟩
  have HT0 := Lib.hid T0
  clear T0
  go_loopw [6, 15] (fun sv nv wr => ∃ (n : Nat) (a : Option Addr) (cp : Nat), sv = .slice a (siI l k n).length cp ∧ nv = .int .i64 (n : Int) ∧ n ≤ pp ∧ GpT w a cp (siI l k n).length (gws l (siI l k n)) wr) (fun _ nv _ => 100 - (intOf nv).toNat)
  case atStart => exact ⟨0, none, 0, rfl, rfl, Nat.zero_le _, HT0.out⟩
  case round =>
    obtain ⟨n, a, cp, rfl, rfl, hn, hT⟩ := hrel
    have hsl := siI_len l k n
    have HNO := Lib.hid (fun (e : mkB l k n = false) => (show siI l k (n + 1) = siI l k n from by rw [siI_succ, if_neg (by rw [e]; decide), List.append_nil]))
    have HYES := Lib.hid (fun (e : mkB l k n = true) => (show siI l k (n + 1) = siI l k n ++ [n] from by rw [siI_succ, if_pos e]))
    by_cases h1 : n < pp
    case neg =>
      obtain rfl : n = pp := by omega
      go_wp2
      go_ret
      exact ⟨a, cp, rfl, hT⟩
    have h1z : (n : Int) < (pp : Int) := by omega
    have HMB := Lib.hid (show mkB l k n = soB l (dgs l n) from stV_one hk _)
    have fit0 := dgs_fit (n := (n : Int)) hl (by omega)
    have HAT := Lib.hid (fun W => wordAt_any l n W hl (by omega))
    have HGR := Lib.hid (show gws l (siI l k n ++ [n]) = gws l (siI l k n) ++ [dgs l n, nxD l (dgs l n), nxD l (nxD l (dgs l n))] from gws_snoc l _ n)
    obtain ⟨x, hx⟩ : ∃ x, dgs l n = x := ⟨_, rfl⟩
    rw [hx] at HMB fit0 HAT HGR
    clear hx
    have HS := Lib.hid (fun W => HST.out x W (fit_s4 fit0))
    have HX0 := Lib.hid (fun W => turned_any l x W hl (fit_s4 fit0))
    have HX1 := Lib.hid (fun W => turned_any l (nxD l x) W hl (fit_s4 (nxD_fit hl fit0)))
    generalize nxD l (nxD l x) = z at *
    generalize nxD l x = y at *
    obtain ⟨m, hm⟩ : ∃ m, (siI l k n).length = m := ⟨_, rfl⟩
    obtain ⟨ws, hws⟩ : ∃ ws, gws l (siI l k n) = ws := ⟨_, rfl⟩
    rw [hm, hws] at hT
    rw [hws] at HGR
    have HM := Lib.hid hm
    have HWS := Lib.hid hws
    rw [hm] at hsl ⊢
    obtain ⟨stx, hst⟩ : ∃ b, soB l x = b := ⟨_, rfl⟩
    rw [hst] at HMB
    rw [hst] at HS
    clear hm hws hst fit0 HIX HGS HT0
    go_wp2_with fail
    refine (HAT.out _).mono ?_
    rintro e w3 ⟨rfl, hb3⟩
    have hT3 := (hT.below hb3).alloc (.cells (wordC x) 40)
    have hX3 := blk_new w3 (wordC x) 40
    have hlt3 : w.heap.size ≤ w3.heap.size := (hT.below hb3).bel.size
    have hO3 := (hT.below hb3).own
    clear hT hb3
    go_wp2_with fail
    refine (HS.out _).mono ?_
    rintro e w4 ⟨rfl, hb4⟩
    have hT4 := hT3.below hb4
    have hX4 := hX3.below hb4 hX3.lt
    have hne4 : (Value.slice a m cp).ownBlock ≠ some w3.heap.size := fun e => by have := (hO3.lt _ e).2; omega
    clear hT3 hX3 hb4 hO3
    generalize w3.heap.size = xb at *
    cases stx with
    | false =>
      have HN := Lib.hid (HNO.out HMB.out)
      go_wp2
      go_roundw
      case rel => exact ⟨n + 1, a, cp, by rw [HN.out, HM.out], by go_num, by omega, by rw [HN.out, HM.out, HWS.out]; exact hT4⟩
      case measure => simp [intOf]; omega
    | true =>
      have HN := Lib.hid (HYES.out HMB.out)
      obtain ⟨x0, x1, x2, x3, x4⟩ := hX4.four
      go_wp2_with fail
      refine (HX0.out _).mono ?_
      rintro e w5 ⟨rfl, hb5⟩
      have T6 := (hT4.below hb5).alloc (.cells (wordC y) 40)
      have X6 := (hX4.below hb5 hX4.lt).alloc (.cells (wordC y) 40)
      have Y6 := blk_new w5 (wordC y) 40
      have hO5 := (hT4.below hb5).own
      have hny : (Value.slice a m cp).ownBlock ≠ some w5.heap.size := fun e => by have := (hO5.lt _ e).2; omega
      clear x0 x1 x2 x3 x4 hX4 hT4 hb5 hO5
      go_upto_region 9 with fail
      simp only [wordC] at T6 X6 Y6
      obtain ⟨W6, hW6⟩ : ∃ W6, w5.alloc (.cells #[.int .i8 (y 0), .int .i8 (y 1), .int .i8 (y 2), .int .i8 (y 3)] 40) = W6 := ⟨_, rfl⟩
      rw [hW6] at T6 X6 Y6 ⊢
      clear hW6
      generalize w5.heap.size = yb at *
      have keepS : ∀ W', Blk W' xb #[.int .i8 (x 0), .int .i8 (x 1), .int .i8 (x 2), .int .i8 (x 3)] 40 ∧ Blk W' yb #[.int .i8 (y 0), .int .i8 (y 1), .int .i8 (y 2), .int .i8 (y 3)] 40 → (W'.cell? ⟨xb, 0, none⟩ = some (.int .i8 (x 0)) ∧ W'.cell? ⟨xb, 1, none⟩ = some (.int .i8 (x 1)) ∧ W'.cell? ⟨xb, 2, none⟩ = some (.int .i8 (x 2)) ∧ W'.cell? ⟨xb, 3, none⟩ = some (.int .i8 (x 3))) ∧ (W'.cell? ⟨yb, 0, none⟩ = some (.int .i8 (y 0)) ∧ W'.cell? ⟨yb, 1, none⟩ = some (.int .i8 (y 1)) ∧ W'.cell? ⟨yb, 2, none⟩ = some (.int .i8 (y 2)) ∧ W'.cell? ⟨yb, 3, none⟩ = some (.int .i8 (y 3))) := fun W' h => ⟨h.1.fourc, h.2.fourc⟩
      have K0 : Blk W6.drew xb #[.int .i8 (x 0), .int .i8 (x 1), .int .i8 (x 2), .int .i8 (x 3)] 40 ∧ Blk W6.drew yb #[.int .i8 (y 0), .int .i8 (y 1), .int .i8 (y 2), .int .i8 (y 3)] 40 := And.intro X6 Y6
      have T60 := T6.drew
      have hmx : m ≤ 81 := by omega
      have hml : m + 1 ≤ maxLen := by unfold maxLen; omega
      have hmb : (m + 1) * 12 ≤ 140737488355328 := by omega
      clear X6 Y6 T6
      go_region_held3 (fun W' => (W'.cell? ⟨xb, 0, none⟩ = some (.int .i8 (x 0)) ∧ W'.cell? ⟨xb, 1, none⟩ = some (.int .i8 (x 1)) ∧ W'.cell? ⟨xb, 2, none⟩ = some (.int .i8 (x 2)) ∧ W'.cell? ⟨xb, 3, none⟩ = some (.int .i8 (x 3))) ∧ (W'.cell? ⟨yb, 0, none⟩ = some (.int .i8 (y 0)) ∧ W'.cell? ⟨yb, 1, none⟩ = some (.int .i8 (y 1)) ∧ W'.cell? ⟨yb, 2, none⟩ = some (.int .i8 (y 2)) ∧ W'.cell? ⟨yb, 3, none⟩ = some (.int .i8 (y 3))))
        (first | with_reducible exact keepS _ K0 | with_reducible exact keepS _ K7 | with_reducible exact keepS _ ⟨K7.1.alloc _, K7.2.alloc _⟩ | with_reducible exact keepS _ K8 | fail)
        (first
          | (go_at_call 60; with_reducible refine (HX1.out _).mono ?_; rintro e w7 ⟨rfl, hb7⟩; have K7 := And.intro (K0.1.below hb7 K0.1.lt) (K0.2.below hb7 K0.2.lt); have T7 := T60.below hb7; clear hb7)
          | (refine step_append_lies _ rfl _ _ 78 rfl w.heap.size 100 i0 _ 12 12 (by kernel_rfl) hi hz0 hz1 hz2 rfl (by decide) _ _ _ rfl (T7.own.alloc _) ⟨w7.heap.size, 0, none⟩ 1 1 [.int .i8 (x 0), .int .i8 (x 1), .int .i8 (x 2), .int .i8 (x 3), .int .i8 (y 0), .int .i8 (y 1), .int .i8 (y 2), .int .i8 (y 3), .int .i8 (z 0), .int .i8 (z 1), .int .i8 (z 2), .int .i8 (z 3)] rfl rfl (World.news_of_block (fr := (0, 0)) (heap_alloc_new w7 _)) (by simp [Value.oneCell']) (by omega) hml hmb (T7.alloc _).bel.size _ rfl ?_; intro g cp2 w8 hown hgrow hat hlt; have K8 := And.intro (keepB hgrow (K7.1.alloc _) hne4) (keepB hgrow (K7.2.alloc _) hny); have T8 := (T7.alloc _).app hown hgrow; clear hown hgrow hat hlt))
      clear K7 K8 T7 T60 keepS K0 hne4 hny
      go_wp2
      go_roundw
      case rel => exact ⟨n + 1, _, _, by rw [HN.out, List.length_append, HM.out]; rfl, by go_num, by omega, by rw [HN.out, List.length_append, HM.out, HGR.out]; exact T8⟩
      case measure => simp [intOf]; omega
set_option maxHeartbeats 16000000 in
theorem groupsFor_turn (l : Nat) (w : World) (hl : 1 ≤ l ∧ l ≤ 4) :
    Calls Try.prog 42 #[.int .i64 (l : Int), .int .i8 2] w fun e w' => ∃ a cp, e = .returned (.slice a (siI l 2 (p3N l)).length cp) ∧ GpT w a cp (siI l 2 (p3N l)).length (gws l (siI l 2 (p3N l))) w' := by
  obtain ⟨i0, hi, hz0, hz1, hz2⟩ := info_parts Try.info_gp
  have HIX := fun W => index_turn W
  have HST := Lib.hid (fun x W hx => startsTurn_any l x W hl hx)
  have HGS := Lib.hid (fun W => groupStarts_any W)
  have HCW := Lib.hid (fun W => countWords_any l W (by omega))
  rw [p3N_cast] at HCW
  have HP := Lib.hid (p3N_le l)
  generalize hpp : p3N l = pp at *
  have hpl := HP.out
  go_enter Try.func42, Try.ntmps42
  go_wp2_with fail
  refine (HGS.out _).mono ?_
  rintro e w1 ⟨rfl, hb1⟩
  have HB1 := Lib.hid hb1
  clear hb1
  generalize stG = sg at *
  go_wp2_with fail
  refine (HCW.out _).mono ?_
  rintro e w2 ⟨rfl, rfl⟩
  go_wp2
  have T0 : GpT w none 0 (siI l 2 0).length (gws l (siI l 2 0)) w1 := ⟨World.ownsRow_nil _ _ _ _, HB1.out⟩
  have HT0 := Lib.hid T0
  clear T0
  go_loopw [6, 15] (fun sv nv wr => ∃ (n : Nat) (a : Option Addr) (cp : Nat), sv = .slice a (siI l 2 n).length cp ∧ nv = .int .i64 (n : Int) ∧ n ≤ pp ∧ GpT w a cp (siI l 2 n).length (gws l (siI l 2 n)) wr) (fun _ nv _ => 100 - (intOf nv).toNat)
  case atStart => exact ⟨0, none, 0, rfl, rfl, Nat.zero_le _, HT0.out⟩
  case round =>
    obtain ⟨n, a, cp, rfl, rfl, hn, hT⟩ := hrel
    have hsl := siI_len l 2 n
    have HNO := Lib.hid (fun (e : mkB l 2 n = false) => (show siI l 2 (n + 1) = siI l 2 n from by rw [siI_succ, if_neg (by rw [e]; decide), List.append_nil]))
    have HYES := Lib.hid (fun (e : mkB l 2 n = true) => (show siI l 2 (n + 1) = siI l 2 n ++ [n] from by rw [siI_succ, if_pos e]))
    by_cases h1 : n < pp
    case neg =>
      obtain rfl : n = pp := by omega
      go_wp2
      go_ret
      exact ⟨a, cp, rfl, hT⟩
    have h1z : (n : Int) < (pp : Int) := by omega
    have HMB := Lib.hid (show mkB l 2 n = stB l (dgs l n) from rfl)
    have fit0 := dgs_fit (n := (n : Int)) hl (by omega)
    have HAT := Lib.hid (fun W => wordAt_any l n W hl (by omega))
    have HGR := Lib.hid (show gws l (siI l 2 n ++ [n]) = gws l (siI l 2 n) ++ [dgs l n, nxD l (dgs l n), nxD l (nxD l (dgs l n))] from gws_snoc l _ n)
    obtain ⟨x, hx⟩ : ∃ x, dgs l n = x := ⟨_, rfl⟩
    rw [hx] at HMB fit0 HAT HGR
    clear hx
    have HS := Lib.hid (fun W => HST.out x W (fit_s4 fit0))
    have HX0 := Lib.hid (fun W => turned_any l x W hl (fit_s4 fit0))
    have HX1 := Lib.hid (fun W => turned_any l (nxD l x) W hl (fit_s4 (nxD_fit hl fit0)))
    generalize nxD l (nxD l x) = z at *
    generalize nxD l x = y at *
    obtain ⟨m, hm⟩ : ∃ m, (siI l 2 n).length = m := ⟨_, rfl⟩
    obtain ⟨ws, hws⟩ : ∃ ws, gws l (siI l 2 n) = ws := ⟨_, rfl⟩
    rw [hm, hws] at hT
    rw [hws] at HGR
    have HM := Lib.hid hm
    have HWS := Lib.hid hws
    rw [hm] at hsl ⊢
    obtain ⟨stx, hst⟩ : ∃ b, stB l x = b := ⟨_, rfl⟩
    rw [hst] at HMB
    rw [hst] at HS
    clear hm hws hst fit0 HIX HGS HT0
    go_wp2_with fail
    refine (HAT.out _).mono ?_
    rintro e w3 ⟨rfl, hb3⟩
    have hT3 := (hT.below hb3).alloc (.cells (wordC x) 40)
    have hX3 := blk_new w3 (wordC x) 40
    have hlt3 : w.heap.size ≤ w3.heap.size := (hT.below hb3).bel.size
    have hO3 := (hT.below hb3).own
    clear hT hb3
    go_wp2_with fail
    refine (HS.out _).mono ?_
    rintro e w4 ⟨rfl, hb4⟩
    have hT4 := hT3.below hb4
    have hX4 := hX3.below hb4 hX3.lt
    have hne4 : (Value.slice a m cp).ownBlock ≠ some w3.heap.size := fun e => by have := (hO3.lt _ e).2; omega
    clear hT3 hX3 hb4 hO3
    generalize w3.heap.size = xb at *
    cases stx with
    | false =>
      have HN := Lib.hid (HNO.out HMB.out)
      go_wp2
      go_roundw
      case rel => exact ⟨n + 1, a, cp, by rw [HN.out, HM.out], by go_num, by omega, by rw [HN.out, HM.out, HWS.out]; exact hT4⟩
      case measure => simp [intOf]; omega
    | true =>
      have HN := Lib.hid (HYES.out HMB.out)
      obtain ⟨x0, x1, x2, x3, x4⟩ := hX4.four
      go_wp2_with fail
      refine (HX0.out _).mono ?_
      rintro e w5 ⟨rfl, hb5⟩
      have T6 := (hT4.below hb5).alloc (.cells (wordC y) 40)
      have X6 := (hX4.below hb5 hX4.lt).alloc (.cells (wordC y) 40)
      have Y6 := blk_new w5 (wordC y) 40
      have hO5 := (hT4.below hb5).own
      have hny : (Value.slice a m cp).ownBlock ≠ some w5.heap.size := fun e => by have := (hO5.lt _ e).2; omega
      clear x0 x1 x2 x3 x4 hX4 hT4 hb5 hO5
      go_upto_region 9 with fail
      simp only [wordC] at T6 X6 Y6
      obtain ⟨W6, hW6⟩ : ∃ W6, w5.alloc (.cells #[.int .i8 (y 0), .int .i8 (y 1), .int .i8 (y 2), .int .i8 (y 3)] 40) = W6 := ⟨_, rfl⟩
      rw [hW6] at T6 X6 Y6 ⊢
      clear hW6
      generalize w5.heap.size = yb at *
      have keepS : ∀ W', Blk W' xb #[.int .i8 (x 0), .int .i8 (x 1), .int .i8 (x 2), .int .i8 (x 3)] 40 ∧ Blk W' yb #[.int .i8 (y 0), .int .i8 (y 1), .int .i8 (y 2), .int .i8 (y 3)] 40 → (W'.cell? ⟨xb, 0, none⟩ = some (.int .i8 (x 0)) ∧ W'.cell? ⟨xb, 1, none⟩ = some (.int .i8 (x 1)) ∧ W'.cell? ⟨xb, 2, none⟩ = some (.int .i8 (x 2)) ∧ W'.cell? ⟨xb, 3, none⟩ = some (.int .i8 (x 3))) ∧ (W'.cell? ⟨yb, 0, none⟩ = some (.int .i8 (y 0)) ∧ W'.cell? ⟨yb, 1, none⟩ = some (.int .i8 (y 1)) ∧ W'.cell? ⟨yb, 2, none⟩ = some (.int .i8 (y 2)) ∧ W'.cell? ⟨yb, 3, none⟩ = some (.int .i8 (y 3))) := fun W' h => ⟨h.1.fourc, h.2.fourc⟩
      have K0 : Blk W6.drew xb #[.int .i8 (x 0), .int .i8 (x 1), .int .i8 (x 2), .int .i8 (x 3)] 40 ∧ Blk W6.drew yb #[.int .i8 (y 0), .int .i8 (y 1), .int .i8 (y 2), .int .i8 (y 3)] 40 := And.intro X6 Y6
      have T60 := T6.drew
      have hmx : m ≤ 81 := by omega
      have hml : m + 1 ≤ maxLen := by unfold maxLen; omega
      have hmb : (m + 1) * 12 ≤ 140737488355328 := by omega
      clear X6 Y6 T6
      go_region_held3 (fun W' => (W'.cell? ⟨xb, 0, none⟩ = some (.int .i8 (x 0)) ∧ W'.cell? ⟨xb, 1, none⟩ = some (.int .i8 (x 1)) ∧ W'.cell? ⟨xb, 2, none⟩ = some (.int .i8 (x 2)) ∧ W'.cell? ⟨xb, 3, none⟩ = some (.int .i8 (x 3))) ∧ (W'.cell? ⟨yb, 0, none⟩ = some (.int .i8 (y 0)) ∧ W'.cell? ⟨yb, 1, none⟩ = some (.int .i8 (y 1)) ∧ W'.cell? ⟨yb, 2, none⟩ = some (.int .i8 (y 2)) ∧ W'.cell? ⟨yb, 3, none⟩ = some (.int .i8 (y 3))))
        (first | with_reducible exact keepS _ K0 | with_reducible exact keepS _ K7 | with_reducible exact keepS _ ⟨K7.1.alloc _, K7.2.alloc _⟩ | with_reducible exact keepS _ K8 | fail)
        (first
          | (go_at_call 60; with_reducible refine (HX1.out _).mono ?_; rintro e w7 ⟨rfl, hb7⟩; have K7 := And.intro (K0.1.below hb7 K0.1.lt) (K0.2.below hb7 K0.2.lt); have T7 := T60.below hb7; clear hb7)
          | (refine step_append_lies _ rfl _ _ 78 rfl w.heap.size 100 i0 _ 12 12 (by kernel_rfl) hi hz0 hz1 hz2 rfl (by decide) _ _ _ rfl (T7.own.alloc _) ⟨w7.heap.size, 0, none⟩ 1 1 [.int .i8 (x 0), .int .i8 (x 1), .int .i8 (x 2), .int .i8 (x 3), .int .i8 (y 0), .int .i8 (y 1), .int .i8 (y 2), .int .i8 (y 3), .int .i8 (z 0), .int .i8 (z 1), .int .i8 (z 2), .int .i8 (z 3)] rfl rfl (World.news_of_block (fr := (0, 0)) (heap_alloc_new w7 _)) (by simp [Value.oneCell']) (by omega) hml hmb (T7.alloc _).bel.size _ rfl ?_; intro g cp2 w8 hown hgrow hat hlt; have K8 := And.intro (keepB hgrow (K7.1.alloc _) hne4) (keepB hgrow (K7.2.alloc _) hny); have T8 := (T7.alloc _).app hown hgrow; clear hown hgrow hat hlt))
      clear K7 K8 T7 T60 keepS K0 hne4 hny
      go_wp2
      go_roundw
      case rel => exact ⟨n + 1, _, _, by rw [HN.out, List.length_append, HM.out]; rfl, by go_num, by omega, by rw [HN.out, List.length_append, HM.out, HGR.out]; exact T8⟩
      case measure => simp [intOf]; omega
theorem groupsFor_any (l k : Nat) (w : World) (hl : 1 ≤ l ∧ l ≤ 4) (hk : k ≤ 2) :
    Calls Try.prog 42 #[.int .i64 (l : Int), .int .i8 (k : Int)] w fun e w' => ∃ a cp, e = .returned (.slice a (siI l k (p3N l)).length cp) ∧ GpT w a cp (siI l k (p3N l)).length (gws l (siI l k (p3N l))) w' := by
  by_cases h : k ≤ 1
  · exact groupsFor_one l k w hl h
  · obtain rfl : k = 2 := by omega
    exact groupsFor_turn l w hl
end Go.Proofs.Ytieghjpecoiodaa
