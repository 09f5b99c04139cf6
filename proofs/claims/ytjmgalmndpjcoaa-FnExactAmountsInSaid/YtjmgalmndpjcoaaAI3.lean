/-
  The walk of AmountsIn.
-/
import Derived.Test.YtjmgalmndpjcoaaAI2
namespace Go.Proofs.Ytjmgalmndpjcoaa
open Go.RowKit
set_option maxRecDepth 100000
set_option linter.unusedVariables false

set_option maxHeartbeats 2000000 in
theorem amountsIn_any (b off c : Nat) (J : List Int) (x : Nat → Int) (t : Bool) (w : World) (hn : J.length ≤ 1048576) (hb : b < w.heap.size) (hc : At .i16 w b off J) (hi : I16 J) :
    Calls Try.prog 27 #[puzV (some ⟨b, off, none⟩) J.length c x t] w fun e w' => ∃ v, e = .returned (.tuple #[v, .int .i64 (codZ J x)]) ∧ OwnV .i64 w.heap.size w' v (aiL J x t) ∧ Below w.heap.size w w' := by
  have k0 := blk_new w #[.slice (some ⟨b, off, none⟩) J.length c, .int .i16 (x 0), .int .i16 (x 1), .int .i16 (x 2), .int .i16 (x 3), .bool t] 32
  have hB := (Below.refl w.heap.size w).alloc (Nat.le_refl _) (.cells #[.slice (some ⟨b, off, none⟩) J.length c, .int .i16 (x 0), .int .i16 (x 1), .int .i16 (x 2), .int .i16 (x 3), .bool t] 32)
  have hc1 := hc.below hB hb
  have hb1 := Nat.lt_of_lt_of_le hb hB.size
  have HO := Lib.hid (validPuzzle_any b off c J x t _ hn hb1 hc1 hi)
  unfold aiL codZ
  clear hc
  cases hok : okZ J x
  · rw [hok] at HO
    simp only [Bool.false_eq_true, if_false]
    clear hok
    obtain ⟨c0, c1, c2, c3, c4, c5, -⟩ := k0.six
    go_enter Try.func27, Try.ntmps27
    go_wp2_with fail
    refine HO.out.mono ?_
    rintro e w2 ⟨rfl, hb2⟩
    have HB2 := Lib.hid (hB.trans (hb2.mono hB.size))
    clear hb2 hB HO c0 c1 c2 c3 c4 c5
    go_wp2
    go_ret2
    exact ⟨_, rfl, OwnV.nil _ _ _ _ _, HB2.out⟩
  · rw [hok] at HO
    simp only [if_true]
    have hJ := okZ_J hok
    have hx := okZ_X hok
    clear hok
    have hI := gsJ_inv (t := t) hJ hx
    have hN := (nW_eq hJ).2.2
    have hpos := gsJ_pos (t := t) hJ hx
    have HFD := Lib.hid (fun W2 (h1 : b < W2.heap.size) (h2 : At .i16 W2 b off J) => (show Calls Try.prog 46 _ W2 fun e w' => ∃ R mb g cap, e = .returned (.agg #[.slice (some ⟨g, 0, none⟩) (gsJ J x t).q.length cap, .map (some mb)]) ∧ PMem J [] W2 R mb (.slice (some ⟨g, 0, none⟩) (gsJ J x t).q.length cap) (gsJ J x t) (gsJ J x t).q w' from search_any b off c J x t W2 hJ hx h1 h2))
    generalize gsJ J x t = s at *
    have HI := Lib.hid hI
    have hsh := hI.short
    have HJ := Lib.hid hJ
    clear hI hx hJ
    obtain ⟨c0, c1, c2, c3, c4, c5, -⟩ := k0.six
    go_enter Try.func27, Try.ntmps27
    go_wp2_with fail
    refine HO.out.mono ?_
    rintro e w2 ⟨rfl, hb2⟩
    have hB2 := hB.trans (hb2.mono hB.size)
    replace k0 := k0.below hb2 k0.lt
    replace hc1 := hc1.below hb2 hb1
    replace hb1 := Nat.lt_of_lt_of_le hb1 hb2.size
    clear hb2 hB HO c0 c1 c2 c3 c4 c5
    go_upto_region 3 with fail
    refine wp_region_lit ?_
    refine Go.Great.wpList_allocTo rfl (some 4) rfl (.pointer (some ⟨w2.heap.size, 0, none⟩)) (.cells (bcells (List.replicate 61 false)) 89) (run_alloc_had _ _ w2) ?_
    have hH3 := blk_new w2 (bcells (List.replicate 61 false)) 89
    have hB3 := hB2.alloc hB2.size (.cells (bcells (List.replicate 61 false)) 89)
    have hbA := (Below.refl w2.heap.size w2).alloc (Nat.le_refl _) (.cells (bcells (List.replicate 61 false)) 89)
    have hk2 := k0.lt
    replace k0 := k0.below hbA k0.lt
    replace hc1 := hc1.below hbA hb1
    replace hb1 := Nat.lt_of_lt_of_le hb1 hbA.size
    have hs2 := hB2.size
    have hHl := hH3.lt
    clear hbA hB2
    generalize w2.alloc (.cells (bcells (List.replicate 61 false)) 89) = w3 at *
    generalize w2.heap.size = hb0 at *
    obtain ⟨c0, c1, c2, c3, c4, c5, -⟩ := k0.six
    have HF := Lib.hid (HFD.out w3 hb1 hc1)
    have hfl := field_res0
    go_wp2_with fail
    refine HF.out.mono ?_
    rintro e w4 ⟨R, mb, g, cap, rfl, hP⟩
    have hb4 := hP.below
    have hB4 := hB3.trans (hb4.mono hB3.size)
    have hH4 := hH3.below hb4 hH3.lt
    have hk4 := k0.below hb4 k0.lt
    have hglo := hP.own.lt g rfl
    obtain ⟨G, hG⟩ : ∃ G, w4.heap[g]? = some G := ⟨_, Array.getElem?_eq_getElem hglo.2⟩
    have HQ := Lib.hid (fun (W : World) (h : W.heap[g]? = some G) (k : Nat) (hk : k < s.q.length) => (show W.cell? ⟨g, k * 4, none⟩ = some (.int .i16 (atV J (s.q.getD k 0) 0)) ∧ W.cell? ⟨g, k * 4 + 1, none⟩ = some (.int .i16 (atV J (s.q.getD k 0) 1)) ∧ W.cell? ⟨g, k * 4 + 2, none⟩ = some (.int .i16 (atV J (s.q.getD k 0) 2)) ∧ W.cell? ⟨g, k * 4 + 3, none⟩ = some (.int .i16 (atV J (s.q.getD k 0) 3)) by
      obtain ⟨g0, g1, g2, g3⟩ := wvals_get J s.q k hk
      have o0 := hP.own.cells (g := g) rfl _ _ g0
      have o1 := hP.own.cells (g := g) rfl _ _ g1
      have o2 := hP.own.cells (g := g) rfl _ _ g2
      have o3 := hP.own.cells (g := g) rfl _ _ g3
      have ea : ∀ j, (⟨g, 0, none⟩ : Addr).add j = ⟨g, j, none⟩ := fun j => by unfold Addr.add; split <;> simp_all
      rw [ea] at o0 o1 o2 o3
      have e : W.heap[g]? = w4.heap[g]? := h.trans hG.symm
      exact ⟨(World.cell?_of_block (w := w4) (a := ⟨g, k * 4, none⟩) e).trans o0, (World.cell?_of_block (w := w4) (a := ⟨g, k * 4 + 1, none⟩) e).trans o1, (World.cell?_of_block (w := w4) (a := ⟨g, k * 4 + 2, none⟩) e).trans o2, (World.cell?_of_block (w := w4) (a := ⟨g, k * 4 + 3, none⟩) e).trans o3⟩))
    have HS := Lib.hid (And.intro hH4 (And.intro hG (And.intro hk4 hB4)))
    have hgb : hb0 < g := by omega
    clear c0 c1 c2 c3 c4 c5 k0 hc1 hb1 hb4 hB3 hP HFD HF hH4 hk4 hB4 hH3 hG hglo hHl
    go_wp2_with fail
    go_loopw [19] (fun iv wr => ∃ k : Nat, iv = .int .i64 k ∧ k ≤ s.q.length ∧ Blk wr hb0 (bcells (mkQ J s.q k)) 89 ∧ wr.heap[g]? = some G ∧ Blk wr w.heap.size #[.slice (some ⟨b, off, none⟩) J.length c, .int .i16 (x 0), .int .i16 (x 1), .int .i16 (x 2), .int .i16 (x 3), .bool t] 32 ∧ Below w.heap.size w wr) (fun iv _ => s.q.length - (intOf iv).toNat)
    case atStart => exact ⟨0, rfl, Nat.zero_le _, HS.out.1, HS.out.2.1, HS.out.2.2.1, HS.out.2.2.2⟩
    case round =>
      clear HS hfl
      obtain ⟨k, rfl, hk, hH, hG, hP, hB⟩ := hrel
      by_cases hlt : k < s.q.length
      · have HQN := Lib.hid (show mkQ J s.q (k + 1) = mkJ J (s.q.getD k 0) (mkQ J s.q k) J.length from rfl)
        have hql := mkQ_len J s.q k
        have hh := HI.out.here _ (gs_mem hlt)
        obtain ⟨a, ha⟩ : ∃ a : Nat, s.q.getD k 0 = a := ⟨(s.q.getD k 0).toNat, by omega⟩
        obtain ⟨o0, o1, o2, o3⟩ := HQ.out wr hG k hlt
        rw [ha] at HQN o0 o1 o2 o3
        have hli : (k : Int) < (s.q.length : Int) := by omega
        generalize mkQ J s.q k = bs at *
        have hgl := blk_lt hG
        have hbw : hb0 < wr.heap.size := hH.lt
        have HB6 := Lib.hid (hB.alloc hB.size (.cells #[.int .i16 (atV J (a : Int) 0), .int .i16 (atV J (a : Int) 1), .int .i16 (atV J (a : Int) 2), .int .i16 (atV J (a : Int) 3)] 30))
        have HK6 := Lib.hid (And.intro (hH.alloc (.cells #[.int .i16 (atV J (a : Int) 0), .int .i16 (atV J (a : Int) 1), .int .i16 (atV J (a : Int) 2), .int .i16 (atV J (a : Int) 3)] 30)) (And.intro (blk_new wr #[.int .i16 (atV J (a : Int) 0), .int .i16 (atV J (a : Int) 1), .int .i16 (atV J (a : Int) 2), .int .i16 (atV J (a : Int) 3)] 30) (And.intro (hP.alloc (.cells #[.int .i16 (atV J (a : Int) 0), .int .i16 (atV J (a : Int) 1), .int .i16 (atV J (a : Int) 2), .int .i16 (atV J (a : Int) 3)] 30)) (map_alloc hG (.cells #[.int .i16 (atV J (a : Int) 0), .int .i16 (atV J (a : Int) 1), .int .i16 (atV J (a : Int) 2), .int .i16 (atV J (a : Int) 3)] 30)))))
        have hwl : w.heap.size < wr.heap.size := hP.lt
        clear hB hH hP hG ha hh
        go_upto_region 7 with fail
        generalize wr.alloc (.cells #[.int .i16 (atV J (a : Int) 0), .int .i16 (atV J (a : Int) 1), .int .i16 (atV J (a : Int) 2), .int .i16 (atV J (a : Int) 3)] 30) = w6 at *
        generalize wr.heap.size = bw at *
        obtain ⟨c0, -, -, -, -, -, -⟩ := HK6.out.2.2.1.six
        have hJ4 : J.length ≤ 4 := HJ.out.1.2
        have hJ4i : (J.length : Int) ≤ 4 := by omega
        clear o0 o1 o2 o3
        go_wp2_with fail
        go_loopw [28] (fun jv wq => ∃ j : Nat, jv = .int .i64 j ∧ j ≤ J.length ∧ Blk wq hb0 (bcells (mkJ J a bs j)) 89 ∧ Blk wq bw #[.int .i16 (atV J (a : Int) 0), .int .i16 (atV J (a : Int) 1), .int .i16 (atV J (a : Int) 2), .int .i16 (atV J (a : Int) 3)] 30 ∧ wq.heap[g]? = some G ∧ Blk wq w.heap.size #[.slice (some ⟨b, off, none⟩) J.length c, .int .i16 (x 0), .int .i16 (x 1), .int .i16 (x 2), .int .i16 (x 3), .bool t] 32 ∧ Below w.heap.size w wq) (fun jv _ => J.length - (intOf jv).toNat)
        case atStart => exact ⟨0, rfl, Nat.zero_le _, HK6.out.1, HK6.out.2.1, HK6.out.2.2.2, HK6.out.2.2.1, HB6.out⟩
        case round =>
          clear HK6 HB6 c0
          obtain ⟨j, rfl, hj, hH, hW, hG, hP, hB⟩ := hrel
          by_cases hjl : j < J.length
          · have hj4 : j < 4 := Nat.lt_of_lt_of_le hjl HJ.out.1.2
            have hjli : (j : Int) < (J.length : Int) := by omega
            obtain ⟨m, hm, hm61⟩ := at61 HJ.out (a : Int) j
            have d0 : wr.cell? ⟨bw, j, none⟩ = some (.int .i16 (m : Int)) := by
              rw [← hm]
              obtain ⟨q0, q1, q2, q3, -⟩ := hW.four
              have : j = 0 ∨ j = 1 ∨ j = 2 ∨ j = 3 := by omega
              rcases this with rfl | rfl | rfl | rfl
              · exact q0
              · exact q1
              · exact q2
              · exact q3
            have hJl : (mkJ J a bs j).length = 61 := by rw [mkJ_len, hql]
            have e0 : wr.cell? ⟨hb0, m, none⟩ = some (.bool ((mkJ J a bs j).getD m false)) := by rw [hH.cell]; exact bcells_get _ _ (by omega)
            have e1 := hH.free m
            have hm61i : (m : Int) < 61 := by omega
            have HSN := Lib.hid (show Blk (wr.setCell ⟨hb0, m, none⟩ (.bool true)) hb0 (bcells (mkJ J a bs (j + 1))) 89 by
              have h := hH.set m (.bool true)
              rw [bcells_set] at h
              show Blk _ _ (bcells ((mkJ J a bs j).set (atV J a j).toNat true)) _
              rw [hm, Int.toNat_natCast]; exact h)
            have HSW := Lib.hid (hW.setOther (show bw ≠ hb0 by omega) m (.bool true))
            have HSP := Lib.hid (hP.setOther (show w.heap.size ≠ hb0 by omega) m (.bool true))
            have HSG := Lib.hid (bG_set hG (show hb0 ≠ g by omega) m (.bool true))
            have HSB := Lib.hid (show Below w.heap.size w (wr.setCell ⟨hb0, m, none⟩ (.bool true)) from hB.setCell (show w.heap.size ≤ hb0 by omega) _)
            clear hH hW hB hJl hm hG hP
            go_wp2
            go_roundw
            case rel => exact ⟨j + 1, by go_num, by omega, HSN.out, HSW.out, HSG.out, HSP.out, HSB.out⟩
            case measure => simp [intOf]; omega
          · obtain rfl : j = J.length := by omega
            have HF := Lib.hid (show Blk wr hb0 (bcells (mkQ J s.q (k + 1))) 89 by rw [HQN.out]; exact hH)
            have hjli : ¬ (J.length : Int) < (J.length : Int) := by omega
            have HR := Lib.hid (And.intro hG (And.intro hP hB))
            clear hH hW hG hP hB
            go_wp2
            go_roundw
            case rel => exact ⟨k + 1, by go_num, by omega, HF.out, HR.out.1, HR.out.2.1, HR.out.2.2⟩
            case measure => simp [intOf]; omega
      · obtain rfl : k = s.q.length := by omega
        have hli : ¬ (s.q.length : Int) < (s.q.length : Int) := by omega
        have hql := mkQ_len J s.q s.q.length
        generalize hbs : mkQ J s.q s.q.length = bs at *
        have HBS := Lib.hid hbs
        clear hbs hG hP
        obtain ⟨i0, hi0, hz0, hz1, hz2⟩ := info_parts info_s64
        have hsE := hB.size
        have HBL := Lib.hid hB
        clear hB
        go_upto_region 14 with fail
        refine wp_region_lit ?_
        refine wpList_load_row rfl 89 _ rfl hb0 rfl 89 (bcells bs) (0, 0) _ hH Try.underlying89 rfl (by rw [bcells_size, hql]; exact info_had) ?_
        clear hH
        go_wp2_with fail
        go_loopw [9, 37] (fun v iv wr => ∃ k : Nat, iv = .int .i64 k ∧ k ≤ 61 ∧ wr.ownsRow w.heap.size 2 1 v (amts bs k).length ((amts bs k).map (Value.int .i64)) ∧ Below w.heap.size w wr) (fun _ iv _ => 61 - (intOf iv).toNat)
        case atStart => exact ⟨0, rfl, Nat.zero_le _, World.ownsRow_nil _ _ _ _, HBL.out⟩
        case round =>
          clear HBL
          obtain ⟨k, rfl, hk, hown, hB⟩ := hrel
          by_cases hlt : k < 61
          · have hki : (k : Int) < 61 := by omega
            have hix := fun W => index_had bs hql k hlt W
            have HAN := Lib.hid (show amts bs (k + 1) = if bs.getD k false = true then amts bs k ++ [(k : Int)] else amts bs k from rfl)
            have hal := amts_len bs k
            generalize bs.getD k false = r at *
            generalize amts bs k = A at *
            generalize hA1 : amts bs (k + 1) = A1 at *
            have HA1 := Lib.hid hA1
            clear hA1
            have HBb := Lib.hid hB
            have hsz := hB.size
            clear hB
            cases r
            · have HA := Lib.hid (show A1 = A from HAN.out)
              have HOW := Lib.hid hown
              clear hown
              go_wp2
              go_roundw
              case rel => exact ⟨k + 1, by go_num, by omega, by rw [HA1.out, HA.out]; exact HOW.out, HBb.out⟩
              case measure => simp [intOf]; omega
            · have HA := Lib.hid (show A1 = A ++ [(k : Int)] from HAN.out)
              go_wp2_with (at_builtin; refine wpList_append_lies _ rfl _ _ 48 rfl w.heap.size 2 i0 (.int .i64 0) 1 8 Try.underlying48 hi0 hz0 hz1 hz2 rfl (by decide) _ _ _ rfl (hown.alloc _) ⟨wr.heap.size, 0, none⟩ 1 1 [.int .i64 (k : Int)] rfl rfl (World.news_of_block (cs := #[.int .i64 (k : Int)]) (t := 2) (fr := (0, 0)) (heap_alloc_new wr _)) (by simp [Value.oneCell']) (by omega) (by unfold maxLen; omega) (by omega) (by simp; omega) _ rfl ?_)
              intro g' cap' w1 hown' hgrow hat hlt'
              have HON := Lib.hid (show w1.ownsRow w.heap.size 2 1 (Value.slice (some ⟨g', 0, none⟩) (A.length + 1) cap') A1.length (A1.map (Value.int .i64)) by rw [HA.out, List.length_append, List.map_append]; exact hown')
              have HBN := Lib.hid (show Below w.heap.size w w1 from (HBb.out.alloc hsz _).grown hgrow (by simp; omega) (fun j hj => (hown.lt j hj).1))
              clear hown hown' hgrow hat hlt'
              go_wp2
              go_roundw
              case rel => exact ⟨k + 1, by go_num, by omega, by rw [HA1.out]; exact HON.out, HBN.out⟩
              case measure => simp [intOf]; omega
          · obtain rfl : k = 61 := by omega
            have HV := Lib.hid (OwnV.ofOwns64 (B' := w.heap.size) hown rfl (Nat.le_refl _))
            clear hown
            go_wp2
            go_ret2
            exact ⟨u9, rfl, by rw [HBS.out]; exact HV.out, hB⟩
end Go.Proofs.Ytjmgalmndpjcoaa
