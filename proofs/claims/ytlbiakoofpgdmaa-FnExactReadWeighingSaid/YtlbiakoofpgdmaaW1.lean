/-
  The walks of WeighingText and its model.
-/
import Derived.Test.YtlbiakoofpgdmaaC9
import Derived.Test.YtlbiakoofpgdmaaPText
namespace Go.Proofs.Ytlbiakoofpgdmaa
open Go.RowKit Go.Shelf
set_option maxRecDepth 100000
set_option linter.unusedVariables false

/-- The bytes of the first k places of a weighing, as values. -/
def bvs (x : Nat → Int) (k : Nat) : List Value := ((wl x).take k).map (fun y => .int .u8 ((byteOf y).toNat : Int))
theorem bvs_len (x : Nat → Int) (k : Nat) (hk : k ≤ 14) : (bvs x k).length = k := by simp [bvs, wl_len]; omega
theorem bvs_succ (x : Nat → Int) (k : Nat) (hk : k < 14) : bvs x (k + 1) = bvs x k ++ [.int .u8 ((byteOf (x k)).toNat : Int)] := by
  unfold bvs
  rw [take_getD _ _ (by rw [wl_len]; exact hk), wl_get x k hk, List.map_append]
  rfl
theorem ownsRow_bel {w w' : World} {base : Nat} {e : TypeId} {size : Nat} {v : Value} {n : Nat} {xs : List Value} (h : w.ownsRow base e size v n xs) (hb : Below w.heap.size w w') : w'.ownsRow base e size v n xs := by
  refine ⟨h.1, ?_⟩
  rcases h.2 with hn | ⟨g, cap, cur, rfl, hB, hg, rest⟩
  · exact .inl hn
  · exact .inr ⟨g, cap, cur, rfl, hB, (hb.block g (Array.getElem?_eq_some_iff.1 hg).1).trans hg, rest⟩
theorem FR.grown {w0 w w' : World} {L : List (Nat × Array Value × TypeId)} {row : Option Nat} {B : Nat} (h : FR w0 L w) (hg : w.grownBy w' row) (hr : ∀ k, row = some k → B ≤ k) (hB : w0.heap.size ≤ B) (hL : ∀ p ∈ L, p.1 < B) : FR w0 L w' :=
  ⟨h.below.grown hg h.below.size (fun k e => Nat.le_trans hB (hr k e)), fun p hp => (hg.block _ (h.blk p hp).lt (fun e => by have := hr _ e.symm; have := hL p hp; omega)).trans (h.blk p hp), h.top⟩
theorem okG_ok' {c k : Int} {g : Bool} {x : Nat → Int} (h : okG c k g x = true) : okT c k = true := by
  unfold okG at h
  cases h1 : okT c k <;> simp_all
theorem okG_sign' {c k : Int} {g : Bool} {x : Nat → Int} (h : okG c k g x = true) : ∀ i, i < 14 → -1 ≤ x i ∧ x i ≤ 1 := by
  unfold okG at h
  have h2 : okGw c g x = true := by cases h1 : okT c k <;> simp_all
  exact fun i hi => ((of_cb (p := OkG c g x) h2).1 i hi).1
theorem text_size (x : Nat → Int) (k : Nat) (hk : k ≤ 14) : (textTo (wl x) k).size = k := by
  show (((wl x).take k).map byteOf).toArray.size = k
  simp [wl_len]; omega
theorem text_bytes (x : Nat → Int) (k : Nat) (hk : k ≤ 14) {w : World} {B : Nat} {t : TypeId} {v : Value} (h : w.ownsRow B t 1 v k (bvs x k)) (h0 : 0 < k) :
    ∃ g c, v = .slice (some ⟨g, 0, none⟩) k c ∧ Lib.Bytes w g 0 (textTo (wl x) k) := by
  rcases h.2 with ⟨_, hx⟩ | ⟨g, cap, cur, rfl, hB, hg, hnc, _, hs, htake⟩
  · omega
  · refine ⟨g, cap, rfl, fun i hi => ?_⟩
    have hi' : i < k := by rw [text_size x k hk] at hi; exact hi
    have h1 : (cur.toList.take (k * 1))[i]? = (bvs x k)[i]? := by rw [htake]
    rw [Nat.mul_one, List.getElem?_take_of_lt hi'] at h1
    have hb : (bvs x k)[i]? = some (.int .u8 ((byteOf (x i)).toNat : Int)) := by
      unfold bvs
      rw [List.getElem?_map, List.getElem?_take_of_lt hi']
      simp [wl, show i < 14 by omega]
    rw [hb] at h1
    have h2 : cur[i]? = some (.int .u8 ((byteOf (x i)).toNat : Int)) := by simpa using h1
    rw [Nat.zero_add]
    have e : (textTo (wl x) k)[i] = byteOf (x i) := by
      show (((wl x).take k).map byteOf).toArray[i] = _
      simp [wl]
    rw [e]
    simp [World.cell?, hg, h2]
set_option maxHeartbeats 4000000 in
theorem l03Text_any (c k : Int) (n g : Bool) (x : Nat → Int) (w : World) (hc : B8 c) (hok : okG c k g x = true) :
    Calls Try.prog 44 #[taskV c k n g, weigV x] w fun e w' => e = .returned (.string (textTo (wl x) (plI c g).toNat)) ∧ Below w.heap.size w w' := by
  obtain ⟨i0, hi0, hz0, hz1, hz2⟩ := info_parts Try.info_u8
  have hsg := okG_sign' hok
  have hmk := (okT_t (okG_ok' hok))
  have hp : ∃ p : Nat, plI c g = (p : Int) ∧ 1 ≤ p ∧ p ≤ 14 := by
    unfold plI
    split
    · exact ⟨c.toNat + 1, by omega, by omega, by omega⟩
    · exact ⟨c.toNat, by omega, by omega, by omega⟩
  obtain ⟨p, hp, hp1, hp14⟩ := hp
  have HT := Lib.hid (fun i W hi => l03There_any c k n g i W hc hi)
  rw [hp] at HT ⊢
  simp only [Int.toNat_natCast]
  clear hc hmk hok hp
  have F0 := ((FR.start w).box #[.int .i8 c, .int .i8 k, .bool n, .bool g] 32).box (weigC x) 34
  simp only [World.size_alloc] at F0
  have hown := World.ownsRow_made (base := w.heap.size + 1 + 1) (e := 5) (size := 1) ((w.alloc (.cells #[.int .i8 c, .int .i8 k, .bool n, .bool g] 32)).alloc (.cells (weigC x) 34)) #[] 0 (by simp) (by unfold maxLen; omega) (by simp)
  simp only [World.size_alloc] at hown
  have F1 := F0.next ((Below.refl _ _).alloc (Nat.le_refl _) (.cells #[] 5))
  have HX := Lib.hid (And.intro F1 hown)
  clear F0 F1 hown
  go_enter Try.func44, Try.ntmps44
  go_wp2_with fail
  go_loopw [5, 6] (fun v iv wr => ∃ i : Nat, iv = .int .i64 (i : Int) ∧ i ≤ p ∧ wr.ownsRow (w.heap.size + 1 + 1) 5 1 v i (bvs x i) ∧ FR w [(w.heap.size + 1, weigC x, 34), (w.heap.size, #[.int .i8 c, .int .i8 k, .bool n, .bool g], 32)] wr) (fun _ iv _ => p - (intOf iv).toNat)
  case atStart => exact ⟨0, rfl, Nat.zero_le _, by simpa [bvs] using HX.out.2, HX.out.1⟩
  case round =>
    clear HX
    obtain ⟨i, rfl, hi, hown, F1⟩ := hrel
    have hi14 : i ≤ 14 := by omega
    have HTi := Lib.hid (fun W => HT.out i W hi14)
    by_cases hlt : i < p
    case neg =>
      obtain rfl : i = p := by omega
      by_cases h14 : i = 14
      · obtain ⟨gg, cc, rfl, hby⟩ := text_bytes x i hp14 hown (by omega)
        have hconv := Lib.run_convert_whole (P := Try.prog) wr 83 5 9 Try.underlying83 Try.underlying5 Try.underlying9 gg 0 (textTo (wl x) i) hby cc
        rw [text_size x i hp14] at hconv
        have hiz : ¬ (i : Int) < 14 := by omega
        have HF := Lib.hid F1.below
        clear F1 hown hby h14
        go_wp2
        go_ret
        exact ⟨rfl, HF.out⟩
      · have hiz : (i : Int) < 14 := by omega
        rw [show decide ((i : Int) < (i : Int)) = false from by simp] at HTi
        obtain ⟨c0, c1, c2, c3, -⟩ := (F1.blk _ (List.mem_cons_of_mem _ List.mem_cons_self)).four
        have HO := Lib.hid hown
        clear hown
        go_wp2_with fail
        refine (HTi.out _).mono ?_
        rintro e w2 ⟨rfl, hb⟩
        have F2 := F1.next hb
        have hown2 := ownsRow_bel HO.out hb
        obtain ⟨gg, cc, rfl, hby⟩ := text_bytes x i hp14 hown2 (by omega)
        have hconv := Lib.run_convert_whole (P := Try.prog) w2 83 5 9 Try.underlying83 Try.underlying5 Try.underlying9 gg 0 (textTo (wl x) i) hby cc
        rw [text_size x i hp14] at hconv
        have HF := Lib.hid F2.below
        clear F1 F2 hb hown2 hby c0 c1 c2 c3
        go_wp2
        go_ret
        exact ⟨rfl, HF.out⟩
    have hiz : (i : Int) < 14 := by omega
    rw [show decide ((i : Int) < (p : Int)) = true from by simpa using hlt] at HTi
    obtain ⟨c0, c1, c2, c3, -⟩ := (F1.blk _ (List.mem_cons_of_mem _ List.mem_cons_self)).four
    have HO := Lib.hid hown
    clear hown
    go_wp2_with fail
    refine (HTi.out _).mono ?_
    rintro e w2 ⟨rfl, hb⟩
    have F2 := F1.next hb
    have hown := ownsRow_bel HO.out hb
    clear HO hb F1 c0 c1 c2 c3
    have h1 := Blk.weig (x := x) (F2.blk _ List.mem_cons_self) i (by omega)
    dsimp only at h1
    have hy : x i = -1 ∨ x i = 0 ∨ x i = 1 := by have := hsg i (by omega); omega
    have Hs := Lib.hid (bvs_succ x i (by omega))
    obtain ⟨wq, rfl⟩ : ∃ wq : World, wq = w2 := ⟨_, rfl⟩
    generalize x i = y at *
    rcases hy with rfl | rfl | rfl
    · go_wp2_with (at_builtin; refine wpList_append_own _ rfl _ _ 83 rfl (w.heap.size + 1 + 1) 5 i0 (.int .u8 0) 1 1 Try.underlying83 hi0 hz0 hz1 hz2 rfl (by decide) _ _ _ rfl (hown.alloc _) ⟨wq.heap.size, 0, none⟩ 1 1 [.int .u8 45] rfl rfl (cell_one_new _ _ _) (by simp [Value.oneCell']) (by unfold maxLen; omega) (by omega) (by have := (F2.blk _ List.mem_cons_self).lt; simp at this; simp; omega) ?_)
      intro v' w1 hown' hgrow _
      have HF := Lib.hid (show FR w [(w.heap.size + 1, weigC x, 34), (w.heap.size, #[.int .i8 c, .int .i8 k, .bool n, .bool g], 32)] w1 from FR.grown (F2.next ((Below.refl _ _).alloc (Nat.le_refl _) (.cells #[.int .u8 45] 5))) hgrow (fun q e => (hown.lt q e).1) (by omega) (fun q hq => by simp only [List.mem_cons, List.not_mem_nil, or_false] at hq; rcases hq with rfl | rfl <;> simp only <;> omega))
      have HO1 := Lib.hid (show w1.ownsRow (w.heap.size + 1 + 1) 5 1 v' (i + 1) (bvs x (i + 1)) by rw [Hs.out]; exact hown')
      clear hown' hgrow hown F2
      go_wp2
      go_roundw
      case rel => exact ⟨i + 1, by go_num, by omega, HO1.out, HF.out⟩
      case measure => simp [intOf]; omega
    · go_wp2_with (at_builtin; refine wpList_append_own _ rfl _ _ 83 rfl (w.heap.size + 1 + 1) 5 i0 (.int .u8 0) 1 1 Try.underlying83 hi0 hz0 hz1 hz2 rfl (by decide) _ _ _ rfl (hown.alloc _) ⟨wq.heap.size, 0, none⟩ 1 1 [.int .u8 48] rfl rfl (cell_one_new _ _ _) (by simp [Value.oneCell']) (by unfold maxLen; omega) (by omega) (by have := (F2.blk _ List.mem_cons_self).lt; simp at this; simp; omega) ?_)
      intro v' w1 hown' hgrow _
      have HF := Lib.hid (show FR w [(w.heap.size + 1, weigC x, 34), (w.heap.size, #[.int .i8 c, .int .i8 k, .bool n, .bool g], 32)] w1 from FR.grown (F2.next ((Below.refl _ _).alloc (Nat.le_refl _) (.cells #[.int .u8 48] 5))) hgrow (fun q e => (hown.lt q e).1) (by omega) (fun q hq => by simp only [List.mem_cons, List.not_mem_nil, or_false] at hq; rcases hq with rfl | rfl <;> simp only <;> omega))
      have HO1 := Lib.hid (show w1.ownsRow (w.heap.size + 1 + 1) 5 1 v' (i + 1) (bvs x (i + 1)) by rw [Hs.out]; exact hown')
      clear hown' hgrow hown F2
      go_wp2
      go_roundw
      case rel => exact ⟨i + 1, by go_num, by omega, HO1.out, HF.out⟩
      case measure => simp [intOf]; omega
    · go_wp2_with (at_builtin; refine wpList_append_own _ rfl _ _ 83 rfl (w.heap.size + 1 + 1) 5 i0 (.int .u8 0) 1 1 Try.underlying83 hi0 hz0 hz1 hz2 rfl (by decide) _ _ _ rfl (hown.alloc _) ⟨wq.heap.size, 0, none⟩ 1 1 [.int .u8 43] rfl rfl (cell_one_new _ _ _) (by simp [Value.oneCell']) (by unfold maxLen; omega) (by omega) (by have := (F2.blk _ List.mem_cons_self).lt; simp at this; simp; omega) ?_)
      intro v' w1 hown' hgrow _
      have HF := Lib.hid (show FR w [(w.heap.size + 1, weigC x, 34), (w.heap.size, #[.int .i8 c, .int .i8 k, .bool n, .bool g], 32)] w1 from FR.grown (F2.next ((Below.refl _ _).alloc (Nat.le_refl _) (.cells #[.int .u8 43] 5))) hgrow (fun q e => (hown.lt q e).1) (by omega) (fun q hq => by simp only [List.mem_cons, List.not_mem_nil, or_false] at hq; rcases hq with rfl | rfl <;> simp only <;> omega))
      have HO1 := Lib.hid (show w1.ownsRow (w.heap.size + 1 + 1) 5 1 v' (i + 1) (bvs x (i + 1)) by rw [Hs.out]; exact hown')
      clear hown' hgrow hown F2
      go_wp2
      go_roundw
      case rel => exact ⟨i + 1, by go_num, by omega, HO1.out, HF.out⟩
      case measure => simp [intOf]; omega
/-- The text of a weighing; empty if it is not valid. -/
noncomputable def wtV (c k : Int) (g : Bool) (x : Nat → Int) : ByteArray := if okG c k g x = true then textTo (wl x) (plI c g).toNat else ⟨#[]⟩
theorem specWeighingText_any (c k : Int) (n g : Bool) (x : Nat → Int) (w : World) (hc : B8 c) (hk : B8 k) (hx : W8 x) :
    Calls Try.prog 23 #[taskV c k n g, weigV x] w fun e w' => e = .returned (.string (wtV c k g x)) ∧ Below w.heap.size w w' := by
  have F0 := ((FR.start w).box #[.int .i8 c, .int .i8 k, .bool n, .bool g] 32).box (weigC x) 34
  simp only [World.size_alloc] at F0
  have HV := Lib.hid (fun W => specValidWeighing_any c k n g x W hc hk hx)
  unfold wtV
  obtain ⟨c0, c1, c2, c3, -⟩ := (F0.blk _ (List.mem_cons_of_mem _ List.mem_cons_self)).four
  obtain ⟨d0, d1, d2, d3, d4, d5, d6, d7, d8, d9, d10, d11, d12, d13, -⟩ := Blk.fourteen (x := x) (F0.blk _ List.mem_cons_self)
  cases hok : okG c k g x
  · rw [hok] at HV
    simp only [Bool.false_eq_true, if_false]
    clear hc hk hx
    go_enter Try.func23, Try.ntmps23
    go_wp2_with fail
    refine (HV.out _).mono ?_
    rintro e w2 ⟨rfl, hb2⟩
    have HF := Lib.hid (F0.next hb2).below
    clear hb2 F0 c0 c1 c2 c3 d0 d1 d2 d3 d4 d5 d6 d7 d8 d9 d10 d11 d12 d13
    go_wp2
    go_ret
    exact ⟨rfl, HF.out⟩
  · rw [hok] at HV
    simp only [if_true]
    have HT := Lib.hid (fun W => l03Text_any c k n g x W hc hok)
    clear hc hk hx hok
    generalize textTo (wl x) (plI c g).toNat = tx at *
    go_enter Try.func23, Try.ntmps23
    go_wp2_with fail
    refine (HV.out _).mono ?_
    rintro e w2 ⟨rfl, hb2⟩
    have F1 := F0.next hb2
    clear hb2 F0 c0 c1 c2 c3 d0 d1 d2 d3 d4 d5 d6 d7 d8 d9 d10 d11 d12 d13
    obtain ⟨c0, c1, c2, c3, -⟩ := (F1.blk _ (List.mem_cons_of_mem _ List.mem_cons_self)).four
    obtain ⟨d0, d1, d2, d3, d4, d5, d6, d7, d8, d9, d10, d11, d12, d13, -⟩ := Blk.fourteen (x := x) (F1.blk _ List.mem_cons_self)
    go_wp2_with fail
    refine (HT.out _).mono ?_
    rintro e w3 ⟨rfl, hb2⟩
    have HF := Lib.hid (F1.next hb2).below
    clear hb2 F1 c0 c1 c2 c3 d0 d1 d2 d3 d4 d5 d6 d7 d8 d9 d10 d11 d12 d13
    go_wp2
    go_ret
    exact ⟨rfl, HF.out⟩
theorem take_text (x : Nat → Int) (p : Nat) (hp : p ≤ 14) (hs : ∀ i, i < 14 → -1 ≤ x i ∧ x i ≤ 1) : ptV ((wl x).take p) = textTo (wl x) p := by
  have hl : ((wl x).take p).length = p := by rw [List.length_take, wl_len]; omega
  have ho : okP ((wl x).take p) = true := cb_t (p := OkP ((wl x).take p)) (fun j hj => by
    rw [hl] at hj
    have e : ((wl x).take p).getD j 0 = x j := by
      rw [List.getD_eq_getElem?_getD, List.getElem?_take_of_lt hj]
      simp [wl, show j < 14 by omega]
    rw [e]
    exact hs j (by omega))
  unfold ptV
  rw [ho, if_pos rfl, hl, if_pos (by omega)]
  unfold textTo
  rw [List.take_take, Nat.min_self]
set_option maxHeartbeats 4000000 in
theorem weighingText_any (c k : Int) (n g : Bool) (x : Nat → Int) (w : World) (hc : B8 c) (hk : B8 k) (hx : W8 x) :
    Calls Try.prog 24 #[taskV c k n g, weigV x] w fun e w' => e = .returned (.string (wtV c k g x)) ∧ Below w.heap.size w w' := by
  have F0 := ((FR.start w).box #[.int .i8 c, .int .i8 k, .bool n, .bool g] 32).box (weigC x) 34
  simp only [World.size_alloc] at F0
  have HV := Lib.hid (fun W => validWeighing_any c k n g x W hc hk hx)
  unfold wtV
  obtain ⟨c0, c1, c2, c3, -⟩ := (F0.blk _ (List.mem_cons_of_mem _ List.mem_cons_self)).four
  obtain ⟨d0, d1, d2, d3, d4, d5, d6, d7, d8, d9, d10, d11, d12, d13, -⟩ := Blk.fourteen (x := x) (F0.blk _ List.mem_cons_self)
  cases hok : okG c k g x
  · rw [hok] at HV
    simp only [Bool.false_eq_true, if_false]
    clear hc hk hx
    go_enter Try.func24, Try.ntmps24
    go_wp2_with fail
    refine (HV.out _).mono ?_
    rintro e w2 ⟨rfl, hb2⟩
    have HF := Lib.hid (F0.next hb2).below
    clear hb2 F0 c0 c1 c2 c3 d0 d1 d2 d3 d4 d5 d6 d7 d8 d9 d10 d11 d12 d13
    go_wp2
    go_ret
    exact ⟨rfl, HF.out⟩
  · rw [hok] at HV
    simp only [if_true]
    have hsg := okG_sign' hok
    have hmk := (okT_t (okG_ok' hok))
    have hp : ∃ p : Nat, plI c g = (p : Int) ∧ 1 ≤ p ∧ p ≤ 14 := by
      unfold plI
      split
      · exact ⟨c.toNat + 1, by omega, by omega, by omega⟩
      · exact ⟨c.toNat, by omega, by omega, by omega⟩
    obtain ⟨p, hp, hp1, hp14⟩ := hp
    have HP := Lib.hid (fun W => placesOf_any c k n g W hc)
    have hl : ((wl x).take p).length = p := by rw [List.length_take, wl_len]; omega
    have HT := Lib.hid (fun W (h : Blk W (w.heap.size + 1) (weigC x) 34) => placingText_any (w.heap.size + 1) 0 14 ((wl x).take p) W (by rw [hl]; omega) h.lt (fun j hj => by
      rw [hl] at hj
      have e : ((wl x).take p).getD j 0 = x j := by
        rw [List.getD_eq_getElem?_getD, List.getElem?_take_of_lt hj]
        simp [wl, show j < 14 by omega]
      rw [e, Nat.zero_add]
      exact Blk.weig (x := x) h j (by omega)))
    rw [hl, take_text x p hp14 hsg] at HT
    rw [hp] at HP ⊢
    simp only [Int.toNat_natCast]
    have hpz : (p : Int) ≤ 14 := by omega
    have hpz2 : (1 : Int) ≤ (p : Int) := by omega
    clear hc hk hx hok hsg hmk hp hl
    generalize textTo (wl x) p = tx at *
    go_enter Try.func24, Try.ntmps24
    go_wp2_with fail
    refine (HV.out _).mono ?_
    rintro e w2 ⟨rfl, hb2⟩
    have F1 := F0.next hb2
    clear hb2 F0 c0 c1 c2 c3 d0 d1 d2 d3 d4 d5 d6 d7 d8 d9 d10 d11 d12 d13
    obtain ⟨c0, c1, c2, c3, -⟩ := (F1.blk _ (List.mem_cons_of_mem _ List.mem_cons_self)).four
    go_wp2_with fail
    refine (HP.out _).mono ?_
    rintro e w3 ⟨rfl, hb2⟩
    have F2 := F1.next hb2
    clear hb2 F1 c0 c1 c2 c3
    go_wp2_with fail
    refine (HT.out _ (F2.blk _ List.mem_cons_self)).mono ?_
    rintro e w4 ⟨rfl, hb2⟩
    have HF := Lib.hid (F2.next hb2).below
    clear hb2 F2
    go_wp2
    go_ret
    exact ⟨rfl, HF.out⟩
end Go.Proofs.Ytlbiakoofpgdmaa
