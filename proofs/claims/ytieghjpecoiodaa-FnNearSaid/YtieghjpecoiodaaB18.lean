/-
  The least distance of seen words, as a number over lists; the model's LeastDistance.
-/
import Derived.Test.YtieghjpecoiodaaB16
namespace Go.Proofs.Ytieghjpecoiodaa
open Go.RowKit
set_option maxRecDepth 100000
set_option linter.unusedVariables false

theorem df_comm (x y : Nat → Int) (i : Nat) : df x y i = df y x i := by
  unfold df; by_cases h : x i = y i
  · rw [if_pos h, if_pos h.symm]
  · rw [if_neg h, if_neg (fun e => h e.symm)]
theorem dist_comm (x y : Nat → Int) (n : Nat) : dist x y n = dist y x n := by
  induction n with
  | zero => rfl
  | succ n ih => show dist x y n + df x y n = dist y x n + df y x n; rw [ih, df_comm]
/-- The least of a number and the distances from a word. -/
def minI (ws : List Wf) (z : Wf) (a : Int) (M : List Cs) : Int := M.foldl (fun a p => min a (dist z (seenV ws p) 4)) a
theorem minI_snoc (ws : List Wf) (z : Wf) (a : Int) (M : List Cs) (p : Cs) : minI ws z a (M ++ [p]) = min (minI ws z a M) (dist z (seenV ws p) 4) := by simp [minI]
theorem minI_min (ws : List Wf) (z : Wf) (a b : Int) (M : List Cs) : minI ws z (min a b) M = min a (minI ws z b M) := by
  induction M generalizing b with
  | nil => rfl
  | cons p M ih =>
    show minI ws z (min (min a b) _) M = min a (minI ws z (min b _) M)
    rw [show min (min a b) (dist z (seenV ws p) 4) = min a (min b (dist z (seenV ws p) 4)) by omega]
    exact ih _
theorem minI_le (ws : List Wf) (z : Wf) (a : Int) (M : List Cs) : minI ws z a M ≤ a := by
  induction M generalizing a with
  | nil => exact Int.le_refl _
  | cons p M ih => exact Int.le_trans (ih (min a (dist z (seenV ws p) 4))) (Int.min_le_left _ _)
/-- The least distance among the first cases, with a number. -/
def ldJ (ws : List Wf) (L : List Cs) (a : Int) : Nat → Int
  | 0 => a
  | j + 1 => minI ws (seenV ws (L.getD j (0, false))) (ldJ ws L a j) (L.take j)
theorem ldJ_min (ws : List Wf) (L : List Cs) (a b : Int) (j : Nat) : ldJ ws L (min a b) j = min a (ldJ ws L b j) := by
  induction j with
  | zero => rfl
  | succ j ih => show minI _ _ (ldJ ws L (min a b) j) _ = _; rw [ih, minI_min]; rfl
theorem ldJ_le (ws : List Wf) (L : List Cs) (a : Int) {i j : Nat} (h : i ≤ j) : ldJ ws L a j ≤ ldJ ws L a i := by
  induction j with
  | zero => rw [show i = 0 by omega]; exact Int.le_refl _
  | succ j ih =>
    by_cases e : i = j + 1
    · rw [e]; exact Int.le_refl _
    · exact Int.le_trans (minI_le _ _ _ _) (ih (by omega))
theorem df01 (x y : Nat → Int) (i : Nat) : 0 ≤ df x y i ∧ df x y i ≤ 1 := by unfold df; split <;> omega
theorem dist_le {l : Int} {x y : Nat → Int} (hl : 1 ≤ l ∧ l ≤ 4) (hx : ∀ i : Nat, i < 4 → l ≤ (i : Int) → x i = 0) (hy : ∀ i : Nat, i < 4 → l ≤ (i : Int) → y i = 0) : dist x y 4 ≤ l := by
  have hd : ∀ i : Nat, i < 4 → l ≤ i → df x y i = 0 := fun i h1 h2 => by unfold df; rw [if_pos (by rw [hx i h1 h2, hy i h1 h2])]
  show dist x y 0 + df x y 0 + df x y 1 + df x y 2 + df x y 3 ≤ l
  have h0 := df01 x y 0
  have h1 := df01 x y 1
  have h2 := df01 x y 2
  have h3 := df01 x y 3
  have e0 : dist x y 0 = 0 := rfl
  rcases (show l = 1 ∨ l = 2 ∨ l = 3 ∨ l = 4 by omega) with rfl | rfl | rfl | rfl
  · rw [hd 1 (by omega) (by omega), hd 2 (by omega) (by omega), hd 3 (by omega) (by omega)]; omega
  · rw [hd 2 (by omega) (by omega), hd 3 (by omega) (by omega)]; omega
  · rw [hd 3 (by omega) (by omega)]; omega
  · omega
theorem seen_far {l k : Int} {ws : List Wf} (hx : OkX l k ws) {q : Cs} (hq : q ∈ upC k true ws.length) (i : Nat) (hi : i < 4) (hl : l ≤ i) : seenV ws q i = 0 := by
  rcases (upC_mem k ws.length q).1 hq with rfl | ⟨j, hj, ⟨rfl, -⟩ | ⟨rfl, -⟩⟩
  · rw [seen_none ws false (by decide)]
  · rw [seen_heavy]; exact ((hx.2.2.2 j hj).2 i hi).2 hl
  · rw [seen_light]; unfold opD; rw [((hx.2.2.2 j hj).2 i hi).2 hl]; decide
/-- What LeastDistance hands back. -/
noncomputable def lsD (l k : Int) (ws : List Wf) : Int := if okX l k ws = true then ldJ ws (upC k true ws.length) 4 (upC k true ws.length).length else 0
noncomputable def lsC (l k : Int) (ws : List Wf) : Int := if okX l k ws = true then 0 else 1
theorem ls_no {l k : Int} {ws : List Wf} (h : okX l k ws = false) : lsD l k ws = 0 ∧ lsC l k ws = 1 := by unfold lsD lsC; rw [h]; exact ⟨rfl, rfl⟩
theorem ls_t {l k : Int} {ws : List Wf} (h : okX l k ws = true) : lsD l k ws = ldJ ws (upC k true ws.length) 4 (upC k true ws.length).length ∧ lsC l k ws = 0 := by unfold lsD lsC; rw [h]; exact ⟨rfl, rfl⟩
theorem upC_two {k : Int} {n : Nat} (hn : 1 ≤ n) (hk : 0 ≤ k ∧ k ≤ 2) : 2 ≤ (upC k true n).length := by
  have h := (upC_pre k true n hn).length_le
  refine Nat.le_trans ?_ h
  rcases k_of hk with rfl | rfl | rfl <;> decide
theorem ldJ_start {l k : Int} {ws : List Wf} (hx : OkX l k ws) : ldJ ws (upC k true ws.length) l (upC k true ws.length).length = ldJ ws (upC k true ws.length) 4 (upC k true ws.length).length := by
  have h2 := upC_two (k := k) (n := ws.length) (by have := hx.2.2.1.1; omega) hx.2.1
  have e := ldJ_min ws (upC k true ws.length) l 4 (upC k true ws.length).length
  rw [show min l 4 = l by have := hx.1.2; omega] at e
  rw [e]
  have h3 : ldJ ws (upC k true ws.length) 4 (upC k true ws.length).length ≤ l := by
    refine Int.le_trans (ldJ_le ws _ 4 h2) ?_
    show minI ws _ (minI ws _ 4 ((upC k true ws.length).take 0)) ((upC k true ws.length).take 1) ≤ l
    rw [take_cs _ 0 (by omega), minI_snoc]
    have := dist_le hx.1 (fun i h1 h2 => seen_far hx (getD_mem_cs (upC k true ws.length) 1 (by omega)) i h1 h2) (fun i h1 h2 => seen_far hx (getD_mem_cs (upC k true ws.length) 0 (by omega)) i h1 h2)
    exact Int.le_trans (Int.min_le_right _ _) this
  omega
theorem l00Min_any (a b : Int) (w : World) : Calls Try.prog 28 #[.int .i64 a, .int .i64 b] w fun e w' => e = .returned (.int .i64 (min a b)) ∧ w = w' := by
  by_cases h : a < b
  · rw [show min a b = a by omega]
    go_enter Try.func28, Try.ntmps28
    go_wp2
    go_ret
    exact ⟨rfl, rfl⟩
  · rw [show min a b = b by omega]
    go_enter Try.func28, Try.ntmps28
    go_wp2
    go_ret
    exact ⟨rfl, rfl⟩
set_option maxHeartbeats 4000000 in
theorem specLd_no (l k : Int) (a : Option Addr) (c : Nat) (ws : List Wf) (w : World) (hs : Slw w.heap.size w a ws) (hl : B8 l) (hk : B8 k) (hn : ws.length ≤ 1048576) (hw : Wall ws) (hok : okX l k ws = false) :
    Calls Try.prog 9 #[fixV l k a ws.length c] w fun e w' => e = .returned (.tuple #[.int .i64 0, .int .i64 1]) ∧ Below w.heap.size w w' := by
  have F0 := (FR.start w).box #[.int .i8 l, .int .i8 k, .slice a ws.length c] 27
  have HO := Lib.hid (l04Ok_any w.heap.size l k a c ws _ (F0.blk _ List.mem_cons_self) (slw_up hs F0.below) hl hk hn hw)
  rw [hok] at HO
  clear hok hw hs hn hl hk
  go_enter Try.func9, Try.ntmps9
  go_wp2_with fail
  refine HO.out.mono ?_
  rintro e w2 ⟨rfl, hb⟩
  have HB := Lib.hid (F0.next hb).below
  clear hb F0 HO
  go_wp2
  go_ret2
  exact ⟨rfl, HB.out⟩
set_option maxHeartbeats 8000000 in
theorem specLd_in (l k : Int) (b off c : Nat) (ws : List Wf) (w : World) (hb1 : b < w.heap.size) (hc1 : WAt w b off ws) (hl : B8 l) (hk : B8 k) (hw : Wall ws) (hok : okX l k ws = true) :
    Calls Try.prog 9 #[fixV l k (some ⟨b, off, none⟩) ws.length c] w fun e w' => e = .returned (.tuple #[.int .i64 (lsD l k ws), .int .i64 (lsC l k ws)]) ∧ Below w.heap.size w w' := by
  rw [(ls_t hok).1, (ls_t hok).2]
  have F0 := (FR.start w).box #[.int .i8 l, .int .i8 k, .slice (some ⟨b, off, none⟩) ws.length c] 27
  have hx2 := okX_t hok
  have hn : ws.length ≤ 80 := by have := hx2.2.2.1.2; omega
  have HO := Lib.hid (l04Ok_any w.heap.size l k (some ⟨b, off, none⟩) c ws _ (F0.blk _ List.mem_cons_self) (slw_up (.inr ⟨b, off, rfl, hb1, hc1⟩) F0.below) hl hk (by omega) hw)
  rw [hok] at HO
  have HC := Lib.hid (fun W K => l04Cases_any w.heap.size b off c l k ws W K hn hx2.2.1)
  have hUL := upC80 k ws.length hn
  have HW := Lib.hid (And.intro hw hc1)
  have hL2 := upC_two (k := k) (n := ws.length) (by have := hx2.2.2.1.1; omega) hx2.2.1
  clear hw hc1 hok hl hk hx2
  go_enter Try.func9, Try.ntmps9
  go_wp2_with fail
  refine HO.out.mono ?_
  rintro e w2 ⟨rfl, hb⟩
  have F1 := F0.next hb
  clear hb F0 HO
  go_wp2_with fail
  refine (HC.out _ (F1.blk _ List.mem_cons_self)).mono ?_
  rintro e w4 ⟨g, c', rfl, hg0, hg1, hcs, hfr, hb4⟩
  have F3 := F1.next hb4
  have hM : MD w.heap.size b off c g l k ws w4 := ⟨F3.blk _ List.mem_cons_self, Nat.lt_of_lt_of_le hb1 F3.below.size, HW.out.2.below F3.below hb1, hg1, hcs⟩
  have HM := Lib.hid (And.intro hM F3.below)
  clear hM F3 F1 hb4 HC hcs hfr hg0 hg1
  generalize hL : upC k true ws.length = L at *
  have hst : ldJ ws L 4 1 = 4 := rfl
  have HST := Lib.hid hst
  clear hst
  go_wp2
  go_loopw [5, 6, 7] (fun av jv iv wr => ∃ j : Nat, jv = .int .i64 (j : Int) ∧ j ≤ L.length ∧ av = .int .i64 (ldJ ws L 4 j) ∧ Below w4.heap.size w4 wr) (fun _ jv _ _ => L.length - (intOf jv).toNat)
  case atStart => exact ⟨1, rfl, by omega, by rw [HST.out], Below.refl _ _⟩
  case round =>
    clear HST
    obtain ⟨j, rfl, hj', rfl, hB⟩ := hrel
    by_cases hlt : j < L.length
    case neg =>
      obtain rfl : j = L.length := by omega
      have HB := Lib.hid (HM.out.2.trans (hB.mono HM.out.2.size))
      clear hB
      have HLL := Lib.hid (show ldJ ws (upC k true ws.length) 4 (upC k true ws.length).length = ldJ ws L 4 L.length by rw [hL])
      go_wp2
      go_ret2
      exact ⟨by rw [HLL.out]; rfl, HB.out⟩
    have hltz : (j : Int) < (L.length : Int) := by omega
    have hlL : (L.length : Int) ≤ 161 := by omega
    go_wp2
    go_loopw [5, 7] (fun av iv wr => ∃ i : Nat, iv = .int .i64 (i : Int) ∧ i ≤ j ∧ av = .int .i64 (minI ws (seenV ws (L.getD j (0, false))) (ldJ ws L 4 j) (L.take i)) ∧ Below w4.heap.size w4 wr) (fun _ iv _ => j - (intOf iv).toNat)
    case atStart => exact ⟨0, rfl, Nat.zero_le _, rfl, hB⟩
    case round =>
      obtain ⟨i, rfl, hi', rfl, hB⟩ := hrel
      by_cases hij : i < j
      case neg =>
        obtain rfl : i = j := by omega
        have HN := Lib.hid (show minI ws (seenV ws (L.getD i (0, false))) (ldJ ws L 4 i) (L.take i) = ldJ ws L 4 (i + 1) from rfl)
        generalize minI ws (seenV ws (L.getD i (0, false))) (ldJ ws L 4 i) (L.take i) = av at *
        go_wp2
        go_roundw
        case rel => exact ⟨i + 1, by go_num, by omega, by rw [HN.out], hB⟩
        case measure => simp [intOf]; omega
      have hM := HM.out.1
      have hijz : (i : Int) < (j : Int) := by omega
      have hli : (i : Int) < (L.length : Int) := by omega
      have hi2 : i < (upC k true ws.length).length := by rw [hL]; omega
      have hj2 : j < (upC k true ws.length).length := by rw [hL]; omega
      have M1 := (hM.below (hB.mono (Nat.le_refl _))).below (Below.refl wr.heap.size wr).drew
      have H4 := Lib.hid (fun W' (h : Below wr.drew.heap.size wr.drew W') => (M1.below h).four i j hi2 hj2)
      have HSi := Lib.hid (fun W' (h : Below wr.drew.heap.size wr.drew W') => (M1.below h).seen hn HW.out.1 i hi2)
      have HSj := Lib.hid (fun W' (h : Below wr.drew.heap.size wr.drew W') => (M1.below h).seen hn HW.out.1 j hj2)
      rw [hL] at H4 HSi HSj
      have HB1 := Lib.hid (hB.trans ((Below.refl wr.heap.size wr).drew.mono hB.size))
      have HN := Lib.hid (show minI ws (seenV ws (L.getD j (0, false))) (ldJ ws L 4 j) (L.take (i + 1)) = min (minI ws (seenV ws (L.getD j (0, false))) (ldJ ws L 4 j) (L.take i)) (dist (seenV ws (L.getD i (0, false))) (seenV ws (L.getD j (0, false))) 4) by rw [take_cs L i (by omega), minI_snoc, dist_comm])
      have HD := Lib.hid (fun W => l04Distance_any (seenV ws (L.getD i (0, false))) (seenV ws (L.getD j (0, false))) W)
      generalize minI ws (seenV ws (L.getD j (0, false))) (ldJ ws L 4 j) (L.take i) = av at *
      obtain ⟨y, hy⟩ : ∃ y, L.getD i (0, false) = y := ⟨_, rfl⟩
      obtain ⟨z, hz⟩ : ∃ z, L.getD j (0, false) = z := ⟨_, rfl⟩
      have HYZ := Lib.hid (And.intro hy hz)
      rw [hy] at H4 HSi HD HN
      rw [hz] at H4 HSj HD HN
      have HM2 := Lib.hid (fun W => l00Min_any av (dist (seenV ws y) (seenV ws z) 4) W)
      rw [← HN.out] at HM2
      have HMZ := Lib.hid (show ∃ v, minI ws (seenV ws (L.getD j (0, false))) (ldJ ws L 4 j) (L.take (i + 1)) = v from ⟨_, rfl⟩)
      obtain ⟨nv, hnv⟩ := HMZ.out
      have HNV := Lib.hid hnv
      rw [← hz, hnv, hz] at HM2
      generalize dist (seenV ws y) (seenV ws z) 4 = d at *
      generalize seenV ws y = sy at *
      generalize seenV ws z = sz at *
      clear hB hM M1 hi2 hj2 hy hz hnv HMZ HN
      go_wp2_with fail
      go_region_held3 (fun w' => w'.cell? ⟨g, i * 2, none⟩ = some (.int .i8 y.1) ∧ w'.cell? ⟨g, i * 2 + 1, none⟩ = some (.bool y.2) ∧ w'.cell? ⟨g, j * 2, none⟩ = some (.int .i8 z.1) ∧ w'.cell? ⟨g, j * 2 + 1, none⟩ = some (.bool z.2))
        (first | with_reducible exact H4.out _ ((hb5.trans (hb6.mono hb5.size)).trans (hb7.mono (hb5.trans (hb6.mono hb5.size)).size)) | with_reducible exact H4.out _ (hb5.trans (hb6.mono hb5.size)) | with_reducible exact H4.out _ hb5 | with_reducible exact H4.out _ (Below.refl _ _))
        (first
          | (go_at_call 30; with_reducible refine (HSi.out _ (Below.refl _ _)).mono ?_; rintro e w5 ⟨rfl, hb5⟩)
          | (go_at_call 30; with_reducible refine (HSj.out _ hb5).mono ?_; rintro e w6 ⟨rfl, hb6⟩)
          | (go_at_call 29; with_reducible refine (HD.out _).mono ?_; rintro e w7 ⟨rfl, hb7⟩)
          | (go_at_call 28; with_reducible refine (HM2.out _).mono ?_; rintro e w8 ⟨rfl, rfl⟩))
      have hb := (hb5.trans (hb6.mono hb5.size)).trans (hb7.mono (hb5.trans (hb6.mono hb5.size)).size)
      have HB6 := Lib.hid (HB1.out.trans (hb.mono HB1.out.size))
      clear hb hb5 hb6 hb7 HSi HSj H4 HB1 HD HM2
      go_wp2
      go_roundw
      case rel => exact ⟨i + 1, by go_num, by omega, by rw [HNV.out], HB6.out⟩
      case measure => simp [intOf]; omega
theorem specLeastDistance_any (l k : Int) (a : Option Addr) (c : Nat) (ws : List Wf) (w : World) (hs : Slw w.heap.size w a ws) (hl : B8 l) (hk : B8 k) (hn : ws.length ≤ 1048576) (hw : Wall ws) :
    Calls Try.prog 9 #[fixV l k a ws.length c] w fun e w' => e = .returned (.tuple #[.int .i64 (lsD l k ws), .int .i64 (lsC l k ws)]) ∧ Below w.heap.size w w' := by
  cases hok : okX l k ws
  · rw [(ls_no hok).1, (ls_no hok).2]
    exact specLd_no l k a c ws w hs hl hk hn hw hok
  obtain ⟨b, off, rfl, hb1, hc1⟩ := own_of hs (Below.refl _ _) (okX_t hok).2.2.1.1
  exact specLd_in l k b off c ws w hb1 hc1 hl hk hw hok
end Go.Proofs.Ytieghjpecoiodaa
