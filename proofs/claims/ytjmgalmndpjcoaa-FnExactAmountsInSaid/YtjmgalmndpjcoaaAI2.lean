/-
  The walk of AmountsIn's model.
-/
import Derived.Test.YtjmgalmndpjcoaaAI1
import Derived.Great.Walk
import Derived.Great.BuildSlice
import Derived.Deep.WholeRow
namespace Go.Proofs.Ytjmgalmndpjcoaa
open Go.RowKit
set_option maxRecDepth 100000
set_option linter.unusedVariables false

theorem at61 {J : List Int} (hJ : OkJ J) (a : Int) (k : Nat) : ∃ m : Nat, atV J a k = (m : Int) ∧ m < 61 := by
  have h := atV_bd (i := k) hJ.2.1 a
  exact ⟨(atV J a k).toNat, by omega, by omega⟩
theorem zero_had : (Try.prog.info? 89).map (fun i => (i.zero, i.size)) = some (some (.agg (bcells (List.replicate 61 false))), 61) := by kernel_rfl
theorem bcells_one : (bcells (List.replicate 61 false)).all (·.oneCell') = true := by kernel_rfl
theorem run_alloc_had (ρ : Operand → Value) (o : Oper) (w : World) (ho : o.op = .alloc 89 := by rfl) : (execOp ρ o).run Try.prog w = .ok (.value (.pointer (some ⟨w.heap.size, 0, none⟩))) (w.alloc (.cells (bcells (List.replicate 61 false)) 89)) := by
  obtain ⟨hz, hs⟩ := zero_of_info zero_had
  unfold execOp
  simp [ho, Instr.alloc, hz, go_sem, Value.cells]
set_option maxHeartbeats 2000000 in
theorem specAmountsIn_any (b off c : Nat) (J : List Int) (x : Nat → Int) (t : Bool) (w : World) (hn : J.length ≤ 1048576) (hb : b < w.heap.size) (hc : At .i16 w b off J) :
    Calls Try.prog 26 #[puzV (some ⟨b, off, none⟩) J.length c x t] w fun e w' => ∃ v, e = .returned (.tuple #[v, .int .i64 (codZ J x)]) ∧ OwnV .i64 w.heap.size w' v (aiL J x t) ∧ Below w.heap.size w w' := by
  have k0 := blk_new w #[.slice (some ⟨b, off, none⟩) J.length c, .int .i16 (x 0), .int .i16 (x 1), .int .i16 (x 2), .int .i16 (x 3), .bool t] 32
  have hB := (Below.refl w.heap.size w).alloc (Nat.le_refl _) (.cells #[.slice (some ⟨b, off, none⟩) J.length c, .int .i16 (x 0), .int .i16 (x 1), .int .i16 (x 2), .int .i16 (x 3), .bool t] 32)
  have hc1 := hc.below hB hb
  have hb1 := Nat.lt_of_lt_of_le hb hB.size
  have HO := Lib.hid (l02Ok_any w.heap.size b off c J x t _ hn hb1 hc1 k0)
  unfold aiL codZ
  clear hc
  cases hok : okZ J x
  · rw [hok] at HO
    simp only [Bool.false_eq_true, if_false]
    clear hok
    go_enter Try.func26, Try.ntmps26
    go_wp2_with fail
    refine HO.out.mono ?_
    rintro e w2 ⟨rfl, hb2⟩
    have HB2 := Lib.hid (hB.trans (hb2.mono hB.size))
    clear hb2 hB HO
    go_wp2
    go_ret2
    exact ⟨_, rfl, OwnV.nil _ _ _ _ _, HB2.out.alloc HB2.out.size _⟩
  · rw [hok] at HO
    simp only [if_true]
    have hJ := okZ_J hok
    have hx := okZ_X hok
    clear hok
    have hI := gsJ_inv (t := t) hJ hx
    have hN := (nW_eq hJ).2.2
    have hpos := gsJ_pos (t := t) hJ hx
    have HFD := Lib.hid (fun W2 (h1 : b < W2.heap.size) (h2 : At .i16 W2 b off J) (h3 : Blk W2 w.heap.size _ _) => (show Calls Try.prog 38 _ W2 fun e w' => ∃ S T Z U v, e = .returned (.pointer (some ⟨S, 0, none⟩)) ∧ JMem J.length (nW J) [] W2 S T Z U v (gsJ J x t) w' from l02Find_any w.heap.size b off c J x t W2 hJ hx h1 h2 h3))
    generalize gsJ J x t = s at *
    generalize nW J = N at *
    have HI := Lib.hid hI
    have hsh := hI.short
    have HJ := Lib.hid hJ
    clear hI hx hJ
    go_enter Try.func26, Try.ntmps26
    go_wp2_with fail
    refine HO.out.mono ?_
    rintro e w2 ⟨rfl, hb2⟩
    have hB2 := hB.trans (hb2.mono hB.size)
    replace k0 := k0.below hb2 k0.lt
    replace hc1 := hc1.below hb2 hb1
    replace hb1 := Nat.lt_of_lt_of_le hb1 hb2.size
    clear hb2 hB HO
    go_wp2_with fail
    refine (HFD.out _ hb1 hc1 k0).mono ?_
    rintro e w4 ⟨S, T, Z, U, v, rfl, hM⟩
    obtain ⟨g, cap, rfl, -, -⟩ := hM.own.form hpos
    have hb4 := hM.below
    have HB4 := Lib.hid (hB2.trans (hb4.mono hB2.size))
    have HPZ := Lib.hid (fun W (h : Below w4.heap.size w4 W) => (show Blk W w.heap.size _ _ ∧ b < W.heap.size ∧ At .i16 W b off J from ⟨(k0.below hb4 k0.lt).below h (k0.below hb4 k0.lt).lt, Nat.lt_of_lt_of_le (Nat.lt_of_lt_of_le hb1 hb4.size) h.size, (hc1.below hb4 hb1).below h (Nat.lt_of_lt_of_le hb1 hb4.size)⟩))
    have HM := Lib.hid hM
    have hkl := (k0.below hb4 k0.lt).lt
    clear hM hb4 hB2 k0 hc1 hb1 HFD
    have HB5 := Lib.hid ((Below.refl w4.heap.size w4).alloc (Nat.le_refl _) (.cells (bcells (List.replicate 61 false)) 89))
    have HH5 := Lib.hid (blk_new w4 (bcells (List.replicate 61 false)) 89)
    go_upto_region 4 with fail
    refine wp_region_lit ?_
    refine wpList_buildTo rfl 89 _ rfl (some 15) rfl (bcells (List.replicate 61 false)) (by kernel_rfl) ?_
    refine Go.Great.wpList_allocTo rfl (some 5) rfl (.pointer (some ⟨w4.heap.size, 0, none⟩)) (.cells (bcells (List.replicate 61 false)) 89) (run_alloc_had _ _ w4) ?_
    refine wpList_store_rowTo rfl 89 _ _ rfl rfl w4.heap.size (bcells (List.replicate 61 false)) rfl rfl 89 _ (heap_alloc_last w4 _) (by rw [bcells_size]; exact info_had) rfl bcells_one ?_
    rw [World.setRow_alloc_new]
    have hsz4 := HB4.out.size
    go_wp2_with fail
    go_loopw [6] (fun iv wr => ∃ k : Nat, iv = .int .i64 k ∧ k ≤ s.q.length ∧ Blk wr w4.heap.size (bcells (mkQ J s.q k)) 89 ∧ Below w4.heap.size w4 wr) (fun iv _ => s.q.length - (intOf iv).toNat)
    case atStart => exact ⟨0, rfl, Nat.zero_le _, HH5.out, HB5.out⟩
    case round =>
      clear HH5 HB5
      obtain ⟨k, rfl, hk, hH, hB⟩ := hrel
      have hR := HM.out.next hB
      obtain ⟨s0, s1, s2, s3, -⟩ := hR.bS.four
      by_cases hlt : k < s.q.length
      · have hm := gs_mem hlt
        have hh := HI.out.here _ hm
        have HQN := Lib.hid (show mkQ J s.q (k + 1) = mkJ J (s.q.getD k 0) (mkQ J s.q k) J.length from rfl)
        have hql := mkQ_len J s.q k
        obtain ⟨a, ha⟩ : ∃ a : Nat, s.q.getD k 0 = a := ⟨(s.q.getD k 0).toNat, by omega⟩
        have o1 : wr.cell? ⟨g, k, none⟩ = some (.int .i64 (a : Int)) := by
          have h1 := hR.own.cells (g := g) rfl k (.int .i64 (a : Int)) (by rw [List.getElem?_map, List.getElem?_eq_getElem hlt]; rw [List.getD_eq_getElem?_getD, List.getElem?_eq_getElem hlt] at ha; simpa using ha)
          have e : (⟨g, 0, none⟩ : Addr).add k = ⟨g, k, none⟩ := by unfold Addr.add; split <;> simp_all
          rw [← e]; exact h1
        rw [ha] at HQN hh
        rw [Int.toNat_natCast] at hh
        have hli : (k : Int) < (s.q.length : Int) := by omega
        have hp := HPZ.out wr hB
        have HAT := Lib.hid (l02At_any w.heap.size b off c J x t (a : Int) wr HJ.out.1.2 HJ.out.2.1 (by omega) hp.2.1 hp.2.2 hp.1)
        generalize mkQ J s.q k = bs at *
        have HB := Lib.hid hB
        have HH := Lib.hid hH
        clear hp hR hm ha hB hH
        go_wp2_with fail
        refine HAT.out.mono ?_
        rintro e w5 ⟨rfl, hb5⟩
        have hB5 := HB.out.trans (hb5.mono HB.out.size)
        have hbw : w4.heap.size < w5.heap.size := Nat.lt_of_lt_of_le HH.out.lt hb5.size
        have HB6 := Lib.hid (hB5.alloc hB5.size (.cells #[.int .i16 (atV J (a : Int) 0), .int .i16 (atV J (a : Int) 1), .int .i16 (atV J (a : Int) 2), .int .i16 (atV J (a : Int) 3)] 30))
        have HK6 := Lib.hid (And.intro ((HH.out.below hb5 HH.out.lt).alloc (.cells #[.int .i16 (atV J (a : Int) 0), .int .i16 (atV J (a : Int) 1), .int .i16 (atV J (a : Int) 2), .int .i16 (atV J (a : Int) 3)] 30)) (blk_new w5 #[.int .i16 (atV J (a : Int) 0), .int .i16 (atV J (a : Int) 1), .int .i16 (atV J (a : Int) 2), .int .i16 (atV J (a : Int) 3)] 30))
        clear hb5 HB HH HAT s0 s1 s2 s3 o1 hB5
        go_upto_region 9 with fail
        generalize w5.alloc (.cells #[.int .i16 (atV J (a : Int) 0), .int .i16 (atV J (a : Int) 1), .int .i16 (atV J (a : Int) 2), .int .i16 (atV J (a : Int) 3)] 30) = w6 at *
        generalize w5.heap.size = bw at *
        go_wp2_with fail
        go_loopw [8] (fun jv wq => ∃ j : Nat, jv = .int .i64 j ∧ j ≤ J.length ∧ Blk wq w4.heap.size (bcells (mkJ J a bs j)) 89 ∧ Blk wq bw #[.int .i16 (atV J (a : Int) 0), .int .i16 (atV J (a : Int) 1), .int .i16 (atV J (a : Int) 2), .int .i16 (atV J (a : Int) 3)] 30 ∧ Below w4.heap.size w4 wq) (fun jv _ => J.length - (intOf jv).toNat)
        case atStart => exact ⟨0, rfl, Nat.zero_le _, HK6.out.1, HK6.out.2, HB6.out⟩
        case round =>
          clear HK6 HB6
          obtain ⟨j, rfl, hj, hH, hW, hB⟩ := hrel
          obtain ⟨c0, -, -, -, -, -, -⟩ := (HPZ.out wr hB).1.six
          by_cases hjl : j < J.length
          · have hj4 : j < 4 := Nat.lt_of_lt_of_le hjl HJ.out.1.2
            have hj4i : (j : Int) < 4 := by omega
            have hjli : (j : Int) < (J.length : Int) := by omega
            obtain ⟨m, hm, hm61⟩ := at61 HJ.out (a : Int) j
            have d0 : wr.cell? ⟨bw, j, none⟩ = some (.int .i16 (m : Int)) := by
              rw [← hm]
              obtain ⟨q0, q1, q2, q3, -⟩ := hW.four
              have : j = 0 ∨ j = 1 ∨ j = 2 ∨ j = 3 := by omega
              rcases this with rfl | rfl | rfl | rfl
              · exact q0
              · exact q1
              · exact q2
              · exact q3
            have hJl : (mkJ J a bs j).length = 61 := by rw [mkJ_len, hql]
            have e0 : wr.cell? ⟨w4.heap.size, m, none⟩ = some (.bool ((mkJ J a bs j).getD m false)) := by rw [hH.cell]; exact bcells_get _ _ (by omega)
            have e1 := hH.free m
            have hm61i : (m : Int) < 61 := by omega
            have HSN := Lib.hid (show Blk (wr.setCell ⟨w4.heap.size, m, none⟩ (.bool true)) w4.heap.size (bcells (mkJ J a bs (j + 1))) 89 by
              have h := hH.set m (.bool true)
              rw [bcells_set] at h
              show Blk _ _ (bcells ((mkJ J a bs j).set (atV J a j).toNat true)) _
              rw [hm, Int.toNat_natCast]; exact h)
            have HSW := Lib.hid (hW.setOther (show bw ≠ w4.heap.size by omega) m (.bool true))
            have HSB := Lib.hid (show Below w4.heap.size w4 (wr.setCell ⟨w4.heap.size, m, none⟩ (.bool true)) from hB.setCell (Nat.le_refl _) _)
            clear hH hW hB hJl hm
            go_wp2
            go_roundw
            case rel => exact ⟨j + 1, by go_num, by omega, HSN.out, HSW.out, HSB.out⟩
            case measure => simp [intOf]; omega
          · obtain rfl : j = J.length := by omega
            have HF := Lib.hid (show Blk wr w4.heap.size (bcells (mkQ J s.q (k + 1))) 89 by rw [HQN.out]; exact hH)
            have hjli : ¬ (J.length : Int) < (J.length : Int) := by omega
            clear hH hW
            go_wp2
            go_roundw
            case rel => exact ⟨k + 1, by go_num, by omega, HF.out, hB⟩
            case measure => simp [intOf]; omega
      · obtain rfl : k = s.q.length := by omega
        have hli : ¬ (s.q.length : Int) < (s.q.length : Int) := by omega
        have hql := mkQ_len J s.q s.q.length
        generalize hbs : mkQ J s.q s.q.length = bs at *
        have HBS := Lib.hid hbs
        clear hbs
        obtain ⟨i0, hi0, hz0, hz1, hz2⟩ := info_parts info_s64
        have hBE := HB4.out.trans (hB.mono HB4.out.size)
        have hsE := hBE.size
        have HH0 := Lib.hid (hH.alloc (.cells #[] 2))
        have HO0 := Lib.hid (World.ownsRow_made (base := w.heap.size) (e := 2) (size := 1) wr #[] 0 hsE (by unfold maxLen; omega) (by simp))
        have HN0 := Lib.hid (show (Value.slice (some ⟨wr.heap.size, 0, none⟩) 0 0).ownBlock ≠ some w4.heap.size from fun e => absurd (show wr.heap.size = w4.heap.size by simpa [Value.ownBlock] using e) (Nat.ne_of_gt hH.lt))
        have HBL := Lib.hid (hBE.alloc hsE (.cells #[] 2))
        clear hR hB hH hBE hsE
        go_wp2_with fail
        go_loopw [9, 10] (fun v iv wr => ∃ k : Nat, iv = .int .i64 k ∧ k ≤ 61 ∧ wr.ownsRow w.heap.size 2 1 v (amts bs k).length ((amts bs k).map (Value.int .i64)) ∧ v.ownBlock ≠ some w4.heap.size ∧ Blk wr w4.heap.size (bcells bs) 89 ∧ Below w.heap.size w wr) (fun _ iv _ => 61 - (intOf iv).toNat)
        case atStart => exact ⟨0, rfl, Nat.zero_le _, HO0.out, HN0.out, HH0.out, HBL.out⟩
        case round =>
          clear HO0 HN0 HH0 HBL s0 s1 s2 s3
          obtain ⟨k, rfl, hk, hown, hob, hH, hB⟩ := hrel
          by_cases hlt : k < 61
          · have hki : (k : Int) < 61 := by omega
            have e0 : wr.cell? ⟨w4.heap.size, k, none⟩ = some (.bool (bs.getD k false)) := by rw [hH.cell]; exact bcells_get _ _ (by omega)
            have HAN := Lib.hid (show amts bs (k + 1) = if bs.getD k false = true then amts bs k ++ [(k : Int)] else amts bs k from rfl)
            have hal := amts_len bs k
            generalize bs.getD k false = r at *
            generalize amts bs k = A at *
            generalize hA1 : amts bs (k + 1) = A1 at *
            have HA1 := Lib.hid hA1
            clear hA1
            have HHb := Lib.hid hH
            have HBb := Lib.hid hB
            have hsz := hB.size
            have hHlt := hH.lt
            clear hH hB
            cases r
            · have HA := Lib.hid (show A1 = A from HAN.out)
              have HOW := Lib.hid hown
              clear hown
              go_wp2
              go_roundw
              case rel => exact ⟨k + 1, by go_num, by omega, by rw [HA1.out, HA.out]; exact HOW.out, hob, HHb.out, HBb.out⟩
              case measure => simp [intOf]; omega
            · have HA := Lib.hid (show A1 = A ++ [(k : Int)] from HAN.out)
              go_wp2_with (at_builtin; refine wpList_append_lies _ rfl _ _ 48 rfl w.heap.size 2 i0 (.int .i64 0) 1 8 Try.underlying48 hi0 hz0 hz1 hz2 rfl (by decide) _ _ _ rfl (hown.alloc _) ⟨wr.heap.size, 0, none⟩ 1 1 [.int .i64 (k : Int)] rfl rfl (World.news_of_block (cs := #[.int .i64 (k : Int)]) (t := 2) (fr := (0, 0)) (heap_alloc_new wr _)) (by simp [Value.oneCell']) (by omega) (by unfold maxLen; omega) (by omega) (by simp; omega) _ rfl ?_)
              intro g' cap' w1 hown' hgrow hat hlt'
              have HON := Lib.hid (show w1.ownsRow w.heap.size 2 1 (Value.slice (some ⟨g', 0, none⟩) (A.length + 1) cap') A1.length (A1.map (Value.int .i64)) by rw [HA.out, List.length_append, List.map_append]; exact hown')
              have HNE := Lib.hid (show (Value.slice (some ⟨g', 0, none⟩) (A.length + 1) cap').ownBlock ≠ some w4.heap.size by
                intro e
                have e2 : g' = w4.heap.size := by simpa [Value.ownBlock] using e
                rcases hat with h | h
                · exact hob (h.trans (by rw [e2]))
                · have h5 : g' = wr.heap.size + 1 := h
                  omega)
              have HHN := Lib.hid (show Blk w1 w4.heap.size (bcells bs) 89 from (hgrow.block w4.heap.size (by simp; omega) (fun e => hob e.symm)).trans (HHb.out.alloc _))
              have HBN := Lib.hid (show Below w.heap.size w w1 from (HBb.out.alloc hsz _).grown hgrow (by simp; omega) (fun j hj => (hown.lt j hj).1))
              clear hown hown' hgrow hat hlt' e0
              go_wp2
              go_roundw
              case rel => exact ⟨k + 1, by go_num, by omega, by rw [HA1.out]; exact HON.out, HNE.out, HHN.out, HBN.out⟩
              case measure => simp [intOf]; omega
          · obtain rfl : k = 61 := by omega
            have HV := Lib.hid (OwnV.ofOwns64 (B' := w.heap.size) hown rfl (Nat.le_refl _))
            clear hown hH
            go_wp2
            go_ret2
            exact ⟨u9, rfl, by rw [HBS.out]; exact HV.out, hB⟩
end Go.Proofs.Ytjmgalmndpjcoaa
