/-
  The text of a fixed plan: the program.
-/
import Derived.Test.YtghhmhkpkpcbjaaT5
import Derived.Test.YtghhmhkpkpcbjaaShelf
import Derived.Lib.Join
namespace Go.Proofs.Ytghhmhkpkpcbjaa
open Go.RowKit
set_option maxRecDepth 100000
set_option linter.unusedVariables false

theorem join_snoc (sep a : List UInt8) : ∀ (l : List (List UInt8)), l ≠ [] → Lib.join (l ++ [a]) sep = Lib.join l sep ++ (sep ++ a) := by
  intro l
  induction l with
  | nil => exact fun h => absurd rfl h
  | cons x l ih =>
    intro _
    cases l with
    | nil => simp [Lib.join, List.intercalate, List.intersperse]
    | cons y l =>
      have h := ih (by simp)
      simp only [Lib.join, List.intercalate, List.intersperse, List.cons_append, List.flatten_cons] at h ⊢
      simp only [List.append_assoc] at h ⊢
      rw [h]
/-- The parts of the text. -/
def parts (n : Nat) (k : Int) (ws : List Wf) : Nat → List ByteArray
  | 0 => [kindB k]
  | j + 1 => parts n k ws j ++ [textTo (dl (wI ws j)) n]
theorem parts_len (n : Nat) (k : Int) (ws : List Wf) (j : Nat) : (parts n k ws j).length = j + 1 := by
  induction j with
  | zero => rfl
  | succ j ih => unfold parts; rw [List.length_append, ih]; rfl
theorem parts_join (n : Nat) (k : Int) (ws : List Wf) (j : Nat) : Lib.join ((parts n k ws j).map (·.data.toList)) [32] = (accF n k ws j).data.toList := by
  induction j with
  | zero => simp [parts, accF, Lib.join, List.intercalate]
  | succ j ih =>
    unfold parts accF
    rw [List.map_append, List.map_cons, List.map_nil, join_snoc _ _ _ (by
      intro h
      have h2 := congrArg List.length h
      rw [List.length_map, parts_len] at h2
      simp at h2), ih]
    rw [ByteArray.data_append, ByteArray.data_append, Array.toList_append, Array.toList_append]
    simp [List.append_assoc]
theorem parts_text (n : Nat) (k : Int) (ws : List Wf) (j : Nat) : (⟨(Lib.join ((parts n k ws j).map (·.data.toList)) [32]).toArray⟩ : ByteArray) = accF n k ws j := by
  apply ByteArray.ext
  apply Array.toList_inj.1
  rw [parts_join]
theorem ownsRow_bel {w w' : World} {base : Nat} {e : TypeId} {size : Nat} {v : Value} {n : Nat} {xs : List Value} (h : w.ownsRow base e size v n xs) (hb : Below w.heap.size w w') : w'.ownsRow base e size v n xs := by
  refine ⟨h.1, ?_⟩
  rcases h.2 with hn | ⟨g, cap, cur, rfl, hB, hg, rest⟩
  · exact .inl hn
  · exact .inr ⟨g, cap, cur, rfl, hB, (hb.block g (Array.getElem?_eq_some_iff.1 hg).1).trans hg, rest⟩
theorem FR.grown {w0 w w' : World} {L : List (Nat × Array Value × TypeId)} {row : Option Nat} {B : Nat} (h : FR w0 L w) (hg : w.grownBy w' row) (hr : ∀ k, row = some k → B ≤ k) (hB : w0.heap.size ≤ B) (hL : ∀ p ∈ L, p.1 < B) : FR w0 L w' :=
  ⟨h.below.grown hg h.below.size (fun k e => Nat.le_trans hB (hr k e)), fun p hp => (hg.block _ (h.blk p hp).lt (fun e => by have := hr _ e.symm; have := hL p hp; omega)).trans (h.blk p hp), h.top⟩
theorem own_one (w : World) (base : Nat) (e : TypeId) (v : Value) (hB : base ≤ w.heap.size) : (w.alloc (.cells #[v] e)).ownsRow base e 1 (.slice (some ⟨w.heap.size, 0, none⟩) 1 1) 1 [v] :=
  ⟨rfl, .inr ⟨w.heap.size, 1, #[v], rfl, hB, heap_alloc_new w _, Nat.le_refl _, by unfold maxLen; omega, rfl, rfl⟩⟩
theorem okX_t' {l k : Int} {ws : List Wf} (h : okX l k ws = true) : OkX l k ws := of_cb h
theorem ptV_take (x : Nat → Int) (n : Nat) (hn : n ≤ 4) (hs : ∀ i, i < 4 → -1 ≤ x i ∧ x i ≤ 1) : ((dl x).take n).length = n ∧ ptV ((dl x).take n) = textTo (dl x) n := by
  have hl : ((dl x).take n).length = n := by simp [dl]; omega
  refine ⟨hl, ?_⟩
  unfold ptV
  rw [if_pos (show okP ((dl x).take n) = true from cb_t (p := OkP ((dl x).take n)) (fun i hi => by
    rw [hl] at hi
    have e : ((dl x).take n).getD i 0 = x i := by
      rw [List.getD_eq_getElem?_getD, List.getElem?_take_of_lt hi, ← List.getD_eq_getElem?_getD, dl_get x i (by omega)]
    rw [e]
    exact hs i (by omega))), if_pos (by omega), hl]
  unfold textTo
  rw [List.take_take, Nat.min_self]
theorem Try.infoS : (Try.prog.info? 9).map (fun i => (i.zero, i.size, i.bytes)) = some (some (.string ⟨#[]⟩), 1, 16) := by kernel_rfl
set_option maxHeartbeats 4000000 in
theorem fixedText_ok (l k : Int) (b off c : Nat) (ws : List Wf) (w : World) (hb : b < w.heap.size) (hc : WAt w b off ws) (hl8 : B8 l) (hk8 : B8 k) (hw : Wall ws) (hok : okX l k ws = true) :
    Calls Try.prog 13 #[fixV l k (some ⟨b, off, none⟩) ws.length c] w fun e w' => e = .returned (.string (accF l.toNat k ws ws.length)) ∧ Below w.heap.size w w' := by
  obtain ⟨i0, hi0, hz0, hz1, hz2⟩ := info_parts Try.infoS
  have hx := okX_t' hok
  have F0 := (FR.start w).box #[.int .i8 l, .int .i8 k, .slice (some ⟨b, off, none⟩) ws.length c] 25
  have h80 := hx.2.2.1.2
  have HV := Lib.hid (validFixed_any l k (some ⟨b, off, none⟩) c ws (w.alloc (.cells #[.int .i8 l, .int .i8 k, .slice (some ⟨b, off, none⟩) ws.length c] 25)) (.inr ⟨b, off, rfl, by simp; omega, hc.below F0.below hb⟩) hl8 hk8 (by omega) hw)
  rw [hok] at HV
  have hl := hx.1
  have hk := hx.2.1
  have hk3 : k = 0 ∨ k = 1 ∨ k = 2 := by omega
  obtain ⟨n, rfl⟩ : ∃ n : Nat, l = n := ⟨l.toNat, by omega⟩
  rw [show ((n : Int)).toNat = n by simp]
  have HPT := Lib.hid (fun j (hj : j < ws.length) => ptV_take (wI ws j) n (by omega) (fun i hi => okX_sign hx j hj i hi))
  have HPL := Lib.hid (fun j => parts_len n k ws j)
  have HP0 := Lib.hid (show parts n k ws 0 = [kindB k] from rfl)
  have HPS := Lib.hid (show ∀ j, parts n k ws (j + 1) = parts n k ws j ++ [textTo (dl (wI ws j)) n] from fun j => rfl)
  have HTX := Lib.hid (parts_text n k ws ws.length)
  have HSZ := Lib.hid (accF_size n k ws ws.length (by omega))
  generalize hP : parts n k ws = P at *
  generalize hA : accF n k ws ws.length = A at *
  have HC := Lib.hid hc
  clear hx hc hA hP hok hw hl8 hk8
  have hl4 : n ≤ 4 := by omega
  obtain ⟨c0, c1, c2, -⟩ := (F0.blk _ List.mem_cons_self).three
  go_enter Try.func13, Try.ntmps13
  go_wp2_with fail
  refine HV.out.mono ?_
  rintro e w1 ⟨rfl, hb1⟩
  have F1 := F0.next hb1
  clear F0 hb1 c0 c1 c2 HV
  go_upto_region 3 with fail
  go_cut [3] (fun s wx => ∃ g cap, s = .slice (some ⟨g, 0, none⟩) (0 + 1) cap ∧ wx.ownsRow (w.heap.size + 1) 9 1 (.slice (some ⟨g, 0, none⟩) (0 + 1) cap) (0 + 1) ((P 0).map Value.string) ∧ FR w [(w.heap.size, #[.int .i8 (n : Int), .int .i8 k, .slice (some ⟨b, off, none⟩) ws.length c], 25)] wx)
  case first =>
    have F2 := F1.drew
    have P0 := HP0.out
    have hB0 := (F1.blk _ List.mem_cons_self).lt
    dsimp only at hB0
    have q1 := (F1.blk _ List.mem_cons_self).cell 1
    simp only [List.getElem?_toArray, List.getElem?_cons_succ, List.getElem?_cons_zero] at q1
    have F3 := F2.box kindsC 9
    have KB : kindB 0 = ⟨#[104, 101, 97, 118, 121]⟩ ∧ kindB 1 = ⟨#[108, 105, 103, 104, 116]⟩ ∧ kindB 2 = ⟨#[101, 105, 116, 104, 101, 114]⟩ := ⟨rfl, rfl, rfl⟩
    rcases hk3 with rfl | rfl | rfl
    · go_region_with (first
        | (go_at_call 32; refine (kindNames_any _).mono ?_; rintro e w2 ⟨rfl, rfl⟩))
      all_goals
        have ho := own_one (w1.drew.alloc (.cells kindsC 9)) (w.heap.size + 1) 9 (.string ⟨#[104, 101, 97, 118, 121]⟩) (by simp; omega)
        simp only [World.size_alloc] at ho
        have F4 := F3.box #[.string ⟨#[104, 101, 97, 118, 121]⟩] 9
        go_wp2_with fail
        go_meet
        rw [P0, KB.1]
        exact ⟨_, _, rfl, ho, ⟨F4.below, fun p hp => F4.blk p (List.mem_cons_of_mem _ (List.mem_cons_of_mem _ hp)), fun p L' e => by cases e; exact ⟨Nat.le_refl _, fun q hq => by cases hq⟩⟩⟩
    · go_region_with (first
        | (go_at_call 32; refine (kindNames_any _).mono ?_; rintro e w2 ⟨rfl, rfl⟩))
      all_goals
        have ho := own_one (w1.drew.alloc (.cells kindsC 9)) (w.heap.size + 1) 9 (.string ⟨#[108, 105, 103, 104, 116]⟩) (by simp; omega)
        simp only [World.size_alloc] at ho
        have F4 := F3.box #[.string ⟨#[108, 105, 103, 104, 116]⟩] 9
        go_wp2_with fail
        go_meet
        rw [P0, KB.2.1]
        exact ⟨_, _, rfl, ho, ⟨F4.below, fun p hp => F4.blk p (List.mem_cons_of_mem _ (List.mem_cons_of_mem _ hp)), fun p L' e => by cases e; exact ⟨Nat.le_refl _, fun q hq => by cases hq⟩⟩⟩
    · go_region_with (first
        | (go_at_call 32; refine (kindNames_any _).mono ?_; rintro e w2 ⟨rfl, rfl⟩))
      all_goals
        have ho := own_one (w1.drew.alloc (.cells kindsC 9)) (w.heap.size + 1) 9 (.string ⟨#[101, 105, 116, 104, 101, 114]⟩) (by simp; omega)
        simp only [World.size_alloc] at ho
        have F4 := F3.box #[.string ⟨#[101, 105, 116, 104, 101, 114]⟩] 9
        go_wp2_with fail
        go_meet
        rw [P0, KB.2.2]
        exact ⟨_, _, rfl, ho, ⟨F4.below, fun p hp => F4.blk p (List.mem_cons_of_mem _ (List.mem_cons_of_mem _ hp)), fun p L' e => by cases e; exact ⟨Nat.le_refl _, fun q hq => by cases hq⟩⟩⟩
  case rest =>
  obtain ⟨g0, cap0, rfl, hown, F2⟩ := hcut
  clear F1
  obtain ⟨c0, c1, c2, -⟩ := (F2.blk _ List.mem_cons_self).three
  go_wp2
  clear c0 c1 c2
  go_loopw [3, 18] (fun v jv wr => ∃ j : Nat, jv = .int .i64 (j : Int) ∧ j ≤ ws.length ∧ ∃ g cap, v = .slice (some ⟨g, 0, none⟩) (j + 1) cap ∧ wr.ownsRow (w.heap.size + 1) 9 1 (.slice (some ⟨g, 0, none⟩) (j + 1) cap) (j + 1) ((P j).map Value.string) ∧ FR w [(w.heap.size, #[.int .i8 (n : Int), .int .i8 k, .slice (some ⟨b, off, none⟩) ws.length c], 25)] wr) (fun _ jv _ => ws.length - (intOf jv).toNat)
  case atStart => exact ⟨0, rfl, Nat.zero_le _, _, _, rfl, hown, F2⟩
  case round =>
    clear hown F2
    obtain ⟨j, rfl, hj, g, cap, rfl, hown, F3⟩ := hrel
    by_cases hlt : j < ws.length
    case neg =>
      obtain rfl : j = ws.length := by omega
      have hpl := HPL.out ws.length
      rw [← hpl] at hown
      obtain ⟨cur, hg, hnc, htake⟩ : ∃ cur : Array Value, wr.heap[g]? = some (.cells cur 9 (0, 0)) ∧ (P ws.length).length ≤ cap ∧ cur.toList.take ((P ws.length).length * 1) = (P ws.length).map Value.string := by
        rcases hown.2 with ⟨e, _⟩ | ⟨g', cap', cur, e, hB, hg, hnc, hcm, hs, htake⟩
        · cases e
        · cases e
          exact ⟨cur, hg, hnc, htake⟩
      have hcells : ∀ (i : Nat) y, (P ws.length)[i]? = some y → wr.cell? ⟨g, 0 + i, none⟩ = some (.string y) := by
        intro i y hy
        have hi : i < (P ws.length).length := (List.getElem?_eq_some_iff.1 hy).1
        have h1 : (cur.toList.take ((P ws.length).length * 1))[i]? = ((P ws.length).map Value.string)[i]? := by rw [htake]
        rw [Nat.mul_one, List.getElem?_take_of_lt hi, List.getElem?_map, hy] at h1
        have h2 : cur[i]? = some (.string y) := by simpa using h1
        rw [Nat.zero_add]
        simp [World.cell?, hg, h2]
      have hglt : g < wr.heap.size := (Array.getElem?_eq_some_iff.1 hg).1
      have hsz : (Lib.join ((P ws.length).map (·.data.toList)) (⟨#[32]⟩ : ByteArray).data.toList).length ≤ 140737488355328 := by
        have h1 := HSZ.out
        have h2 := congrArg ByteArray.size HTX.out
        have h3 : (⟨(Lib.join ((P ws.length).map (·.data.toList)) [32]).toArray⟩ : ByteArray).size = (Lib.join ((P ws.length).map (·.data.toList)) [32]).length := by simp [ByteArray.size]
        rw [h3] at h2
        show (Lib.join ((P ws.length).map (·.data.toList)) [32]).length ≤ _
        omega
      have HJ := Try.strings_Join g 0 cap (P ws.length) ⟨#[32]⟩ wr hcells hglt (by rw [hpl]; omega) hnc hsz
      rw [show (⟨(Lib.join ((P ws.length).map (·.data.toList)) (⟨#[32]⟩ : ByteArray).data.toList).toArray⟩ : ByteArray) = A from HTX.out] at HJ
      rw [hpl] at HJ
      have HJH := Lib.hid HJ
      have HB := Lib.hid F3.below
      clear hpl hg hnc htake hcells hglt hsz HJ hown F3
      go_wp2_with fail
      refine HJH.out.mono ?_
      rintro e w2 ⟨rfl, hb2⟩
      go_wp2
      go_ret
      exact ⟨rfl, HB.out.trans (hb2.mono HB.out.size)⟩
    have hjz : (j : Int) < (ws.length : Int) := by omega
    obtain ⟨htl, hpt⟩ := HPT.out j hlt
    have HPj := Lib.hid (HPS.out j)
    obtain ⟨p0, p1, p2, p3⟩ := (HC.out.below F3.below hb).four j hlt
    generalize wI ws j = x at *
    obtain ⟨wq, rfl⟩ : ∃ wq : World, wq = wr := ⟨_, rfl⟩
    have hgb := (F3.blk _ List.mem_cons_self).lt
    dsimp only at hgb
    have F4 := F3.box (wordC x) 41
    have hO4 := hown.alloc (.cells (wordC x) 41)
    obtain ⟨c0, c1, c2, -⟩ := (F4.blk _ (List.mem_cons_of_mem _ List.mem_cons_self)).three
    have HT := Lib.hid (placingText_any wq.heap.size 0 4 ((dl x).take n) (wq.alloc (.cells (wordC x) 41)) (by omega) (by simp) (fun i hi => by
      rw [htl] at hi
      have e : ((dl x).take n).getD i 0 = x i := by
        rw [List.getD_eq_getElem?_getD, List.getElem?_take_of_lt hi, ← List.getD_eq_getElem?_getD, dl_get x i (by omega)]
      rw [e, Nat.zero_add]
      exact Blk.word (x := x) (blk_new wq (wordC x) 41) i (by omega)))
    rw [htl, hpt] at HT
    generalize textTo (dl x) n = T at *
    have HF4 := Lib.hid F4
    have HO4 := Lib.hid hO4
    clear F3 F4 hO4 hown htl hpt
    go_wp2_with fail
    refine HT.out.mono ?_
    rintro e w5 ⟨rfl, hb5⟩
    have F5 := HF4.out.next hb5
    have hO5 := ownsRow_bel HO4.out hb5
    have F6 := F5.tail (fun q L' e => by cases e; exact ⟨Nat.le_refl _, fun r hr => by cases hr⟩)
    have hgb5 : w.heap.size < w5.heap.size := (F6.blk _ List.mem_cons_self).lt
    have hs5 : w.heap.size + 1 ≤ w5.heap.size := hgb5
    clear HF4 HO4 hb5 F5 HT
    go_wp2_with (first
      | (at_builtin; refine wpList_append_own _ rfl _ _ 57 rfl (w.heap.size + 1) 9 i0 (.string ⟨#[]⟩) 1 16 Try.underlying57 hi0 hz0 hz1 hz2 rfl (by decide) _ _ _ rfl (hO5.alloc _) ⟨w5.heap.size, 0, none⟩ 1 1 [.string T] rfl rfl ?c1 ?c2 ?c3 ?c4 ?c5 ?_)
      | go_in)
    case c1 =>
      intro q u hq
      match q, hq with
      | 0, hq => simp at hq; subst hq; simp [Addr.add]
    case c2 => intro u hu; simp at hu; subst hu; rfl
    case c3 => unfold maxLen; omega
    case c4 => omega
    case c5 => simp; omega
    intro v' w6 hown' hgrow _
    obtain ⟨g', cap', rfl⟩ : ∃ g' cap', v' = .slice (some ⟨g', 0, none⟩) (j + 1 + 1) cap' := by
      rcases hown'.2 with ⟨_, h⟩ | ⟨g', cap', cur, e, _⟩
      · omega
      · exact ⟨_, _, e⟩
    have F7 := (F6.next ((Below.refl w5.heap.size w5).alloc (Nat.le_refl _) (.cells #[.string T] 9))).grown hgrow (B := w.heap.size + 1) (fun q e => (hO5.lt q e).1) (by omega) (fun p hp => by
      simp only [List.mem_cons, List.not_mem_nil, or_false] at hp
      subst hp
      exact Nat.lt_succ_self _)
    have HOW := Lib.hid hown'
    have HF7 := Lib.hid F7
    clear hown' hgrow hO5 F6 F7 p0 p1 p2 p3 c0 c1 c2
    go_wp2
    go_roundw
    case rel => exact ⟨j + 1, by go_num, by omega, g', cap', rfl, by rw [HPj.out, List.map_append]; exact HOW.out, HF7.out⟩
    case measure => simp [intOf]; omega
end Go.Proofs.Ytghhmhkpkpcbjaa
