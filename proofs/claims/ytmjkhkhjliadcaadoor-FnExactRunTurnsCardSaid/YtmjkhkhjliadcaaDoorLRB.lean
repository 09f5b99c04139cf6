/-
  The walk of the law of RunTurns, where there are some times.
-/
import Derived.Test.YtmjkhkhjliadcaaDoorLRA
namespace Go.Proofs.YtmjkhkhjliadcaaDoor
open Go.RowKit
set_option linter.unusedVariables false

set_option maxRecDepth 100000 in
set_option maxHeartbeats 40000000 in
theorem walkN (a0 : Option Addr) (c0 : Nat) (xs0 : List Int) (x1 : Nat → Int) (a2 : Option Addr) (c2 : Nat) (xs2 : List Int) (w : World) (m0 : xs0.length ≤ 9223372036854775807) (s0 : Sl .i16 w.heap.size w a0 xs0) (g0 : I16 xs0) (v1 : W16 x1) (m2 : xs2.length ≤ 9223372036854775807) (s2 : Sl .u8 w.heap.size w a2 xs2) (g2 : ∀ j, 0 ≤ xs2.getD j 0 ∧ xs2.getD j 0 ≤ 255) (hE0 : w.cell? ⟨0, 0, none⟩ = some errV) (hts : (rtL xs0 x1 xs2) ≠ []) :
    Calls Tryd.prog 3 #[.slice a0 xs0.length c0, watV x1, .slice a2 xs2.length c2] w fun e w' => e = .returned (.bool true) ∧ Below w.heap.size w w' := by
  have F0 := (QF.start w).box #[.int .i16 (x1 0), .int .i16 (x1 1), .int .i16 (x1 2), .int .i16 (x1 3)] 24
  have HS0 := Lib.hid s0
  have HS2 := Lib.hid s2
  have HEE := Lib.hid hE0
  have hge := errV_lt hE0
  clear s0 s2 hE0
  by_cases l0 : (1048576 : Int) < xs0.length
  · have HB := Lib.hid F0.below
    clear F0 HS0 g0 HS2 g2 hts
    generalize xs0.length = len0 at *
    generalize xs2.length = len2 at *
    go_enter Tryd.func3, Tryd.ntmps3
    go_wp2
    go_ret
    exact ⟨rfl, HB.out⟩
  have hn0 : xs0.length ≤ 1048576 := by omega
  have hz0 : (xs0.length : Int) ≤ 1048576 := by omega
  clear l0
  by_cases l2 : (1048576 : Int) < xs2.length
  · have HB := Lib.hid F0.below
    clear F0 HS0 g0 HS2 g2 hts
    generalize xs2.length = len2 at *
    generalize xs0.length = len0 at *
    go_enter Tryd.func3, Tryd.ntmps3
    go_wp2
    go_ret
    exact ⟨rfl, HB.out⟩
  have hn2 : xs2.length ≤ 1048576 := by omega
  have hz2 : (xs2.length : Int) ≤ 1048576 := by omega
  clear l2
  have hml : (rtL xs0 x1 xs2).length ≤ 60 := rtL_len xs0 x1 xs2
  have hmm : (rtL xs0 x1 xs2).length ≤ 1048576 := by omega
  have HSP := Lib.hid (fun (b p : Nat) (W : World) (h1 : b < W.heap.size) (h2 : At .i16 W b 0 xs0) (h3 : p < W.heap.size) (h4 : At .u8 W p 0 xs2) => specRunTurns_any b 0 xs0.length p 0 xs2.length xs0 x1 xs2 W hn0 hn2 h1 h2 h3 h4 g2)
  have HIM := Lib.hid (fun (b p : Nat) (W : World) (h1 : b < W.heap.size) (h2 : At .i16 W b 0 xs0) (h3 : p < W.heap.size) (h4 : At .u8 W p 0 xs2) (hE : W.cell? ⟨0, 0, none⟩ = some errV) => runTurns_any b 0 xs0.length p 0 xs2.length xs0 x1 xs2 W hn0 hn2 h1 h2 g0 h3 h4 g2 hE)
  generalize rtX xs0 x1 xs2 = X at *
  generalize rtC xs0 x1 xs2 = C at *
  generalize hTS : rtL xs0 x1 xs2 = ts at *
  clear hTS g0 g2
  go_enter Tryd.func3, Tryd.ntmps3
  go_upto_region 5 with fail
  generalize hgg : w.alloc (.cells #[.int .i16 (x1 0), .int .i16 (x1 1), .int .i16 (x1 2), .int .i16 (x1 3)] 24) = wa at *
  clear hgg
  go_upto_region 5 with fail
  have keepS : ∀ S W', QF w S W' → (w.heap.size, blkQ w.heap.size #[.int .i16 (x1 0), .int .i16 (x1 1), .int .i16 (x1 2), .int .i16 (x1 3)] 24) ∈ S → (W'.cell? ⟨w.heap.size, 0, none⟩ = some (.int .i16 (x1 0)) ∧ W'.cell? ⟨w.heap.size, 1, none⟩ = some (.int .i16 (x1 1)) ∧ W'.cell? ⟨w.heap.size, 2, none⟩ = some (.int .i16 (x1 2)) ∧ W'.cell? ⟨w.heap.size, 3, none⟩ = some (.int .i16 (x1 3))) := by
    intro S W' h hm
    obtain ⟨u0, u1, u2, u3, -⟩ := Blk.four (show Blk W' w.heap.size _ _ from h.ok _ hm)
    exact ⟨u0, u1, u2, u3⟩
  go_cut [7, 8, 9] (fun s0 s1 s2 wx => ∃ Bq q c, s0 = .slice (some ⟨q, 0, none⟩) ts.length c ∧ s1 = .pointer (some ⟨Bq, 0, none⟩) ∧ s2 = .int .i64 C ∧ QF w ((Bq, blkQ Bq #[.int .i16 (X 0), .int .i16 (X 1), .int .i16 (X 2), .int .i16 (X 3)] 27) :: (q, ownQ q ts) :: [(w.heap.size, blkQ w.heap.size #[.int .i16 (x1 0), .int .i16 (x1 1), .int .i16 (x1 2), .int .i16 (x1 3)] 24)]) wx)
  case first =>
    go_region_held3 (fun W' => W'.cell? ⟨w.heap.size, 0, none⟩ = some (.int .i16 (x1 0)) ∧ W'.cell? ⟨w.heap.size, 1, none⟩ = some (.int .i16 (x1 1)) ∧ W'.cell? ⟨w.heap.size, 2, none⟩ = some (.int .i16 (x1 2)) ∧ W'.cell? ⟨w.heap.size, 3, none⟩ = some (.int .i16 (x1 3)))
      (first | exact keepS _ _ (by with_reducible first | assumption | exact QF.drew (by assumption) | exact QF.drew (QF.box (by assumption) _ _) | exact QF.box (by first | assumption | exact QF.drew (by assumption)) _ _) (by with_reducible first | exact List.mem_cons_self | exact List.mem_cons_of_mem _ (List.mem_cons_self) | exact List.mem_cons_of_mem _ (List.mem_cons_of_mem _ (List.mem_cons_self)) | exact List.mem_cons_of_mem _ (List.mem_cons_of_mem _ (List.mem_cons_of_mem _ (List.mem_cons_self))) | exact List.mem_cons_of_mem _ (List.mem_cons_of_mem _ (List.mem_cons_of_mem _ (List.mem_cons_of_mem _ (List.mem_cons_self)))) | exact List.mem_cons_of_mem _ (List.mem_cons_of_mem _ (List.mem_cons_of_mem _ (List.mem_cons_of_mem _ (List.mem_cons_of_mem _ (List.mem_cons_self))))) | exact List.mem_cons_of_mem _ (List.mem_cons_of_mem _ (List.mem_cons_of_mem _ (List.mem_cons_of_mem _ (List.mem_cons_of_mem _ (List.mem_cons_of_mem _ (List.mem_cons_self)))))) | exact List.mem_cons_of_mem _ (List.mem_cons_of_mem _ (List.mem_cons_of_mem _ (List.mem_cons_of_mem _ (List.mem_cons_of_mem _ (List.mem_cons_of_mem _ (List.mem_cons_of_mem _ (List.mem_cons_self))))))) | exact List.mem_cons_of_mem _ (List.mem_cons_of_mem _ (List.mem_cons_of_mem _ (List.mem_cons_of_mem _ (List.mem_cons_of_mem _ (List.mem_cons_of_mem _ (List.mem_cons_of_mem _ (List.mem_cons_of_mem _ (List.mem_cons_self)))))))) | exact List.mem_cons_of_mem _ (List.mem_cons_of_mem _ (List.mem_cons_of_mem _ (List.mem_cons_of_mem _ (List.mem_cons_of_mem _ (List.mem_cons_of_mem _ (List.mem_cons_of_mem _ (List.mem_cons_of_mem _ (List.mem_cons_of_mem _ (List.mem_cons_self)))))))))) | exact keepS _ _ (QF.finN (S0 := [(w.heap.size, blkQ w.heap.size #[.int .i16 (x1 0), .int .i16 (x1 1), .int .i16 (x1 2), .int .i16 (x1 3)] 24)]) (by with_reducible first | assumption | exact QF.drew (by assumption) | exact QF.drew (QF.box (by assumption) _ _) | exact QF.box (by first | assumption | exact QF.drew (by assumption)) _ _) (by with_reducible repeat (first | exact List.Sublist.refl _ | apply List.Sublist.cons_cons | apply List.Sublist.cons))) (by with_reducible first | exact List.mem_cons_self | exact List.mem_cons_of_mem _ (List.mem_cons_self) | exact List.mem_cons_of_mem _ (List.mem_cons_of_mem _ (List.mem_cons_self)) | exact List.mem_cons_of_mem _ (List.mem_cons_of_mem _ (List.mem_cons_of_mem _ (List.mem_cons_self))) | exact List.mem_cons_of_mem _ (List.mem_cons_of_mem _ (List.mem_cons_of_mem _ (List.mem_cons_of_mem _ (List.mem_cons_self)))) | exact List.mem_cons_of_mem _ (List.mem_cons_of_mem _ (List.mem_cons_of_mem _ (List.mem_cons_of_mem _ (List.mem_cons_of_mem _ (List.mem_cons_self))))) | exact List.mem_cons_of_mem _ (List.mem_cons_of_mem _ (List.mem_cons_of_mem _ (List.mem_cons_of_mem _ (List.mem_cons_of_mem _ (List.mem_cons_of_mem _ (List.mem_cons_self)))))) | exact List.mem_cons_of_mem _ (List.mem_cons_of_mem _ (List.mem_cons_of_mem _ (List.mem_cons_of_mem _ (List.mem_cons_of_mem _ (List.mem_cons_of_mem _ (List.mem_cons_of_mem _ (List.mem_cons_self))))))) | exact List.mem_cons_of_mem _ (List.mem_cons_of_mem _ (List.mem_cons_of_mem _ (List.mem_cons_of_mem _ (List.mem_cons_of_mem _ (List.mem_cons_of_mem _ (List.mem_cons_of_mem _ (List.mem_cons_of_mem _ (List.mem_cons_self)))))))) | exact List.mem_cons_of_mem _ (List.mem_cons_of_mem _ (List.mem_cons_of_mem _ (List.mem_cons_of_mem _ (List.mem_cons_of_mem _ (List.mem_cons_of_mem _ (List.mem_cons_of_mem _ (List.mem_cons_of_mem _ (List.mem_cons_of_mem _ (List.mem_cons_self)))))))))))
      (first
        | (go_at_call 6; with_reducible refine (toGlasses_q (by with_reducible first | assumption | exact QF.drew (by assumption) | exact QF.drew (QF.box (by assumption) _ _) | exact QF.box (by first | assumption | exact QF.drew (by assumption)) _ _) a0 c0 xs0 hn0 HS0.out).mono ?_; rintro e w' ⟨r0, rfl, Fa⟩)
        | (go_at_call 7; with_reducible refine (toTops_q (by with_reducible first | assumption | exact QF.drew (by assumption) | exact QF.drew (QF.box (by assumption) _ _) | exact QF.box (by first | assumption | exact QF.drew (by assumption)) _ _) x1).mono ?_; rintro e w' ⟨rfl, Fb⟩)
        | (go_at_call 8; with_reducible refine (toByteS_q (by with_reducible first | assumption | exact QF.drew (by assumption) | exact QF.drew (QF.box (by assumption) _ _) | exact QF.box (by first | assumption | exact QF.drew (by assumption)) _ _) a2 c2 xs2 hn2 HS2.out).mono ?_; rintro e w' ⟨r2, rfl, Fc⟩)
        | (go_at_call 5; with_reducible refine (Calls.qrun (by with_reducible first | assumption | exact QF.drew (by assumption) | exact QF.drew (QF.box (by assumption) _ _) | exact QF.box (by first | assumption | exact QF.drew (by assumption)) _ _) (by with_reducible first | exact List.mem_cons_self | exact List.mem_cons_of_mem _ (List.mem_cons_self) | exact List.mem_cons_of_mem _ (List.mem_cons_of_mem _ (List.mem_cons_self)) | exact List.mem_cons_of_mem _ (List.mem_cons_of_mem _ (List.mem_cons_of_mem _ (List.mem_cons_self))) | exact List.mem_cons_of_mem _ (List.mem_cons_of_mem _ (List.mem_cons_of_mem _ (List.mem_cons_of_mem _ (List.mem_cons_self)))) | exact List.mem_cons_of_mem _ (List.mem_cons_of_mem _ (List.mem_cons_of_mem _ (List.mem_cons_of_mem _ (List.mem_cons_of_mem _ (List.mem_cons_self))))) | exact List.mem_cons_of_mem _ (List.mem_cons_of_mem _ (List.mem_cons_of_mem _ (List.mem_cons_of_mem _ (List.mem_cons_of_mem _ (List.mem_cons_of_mem _ (List.mem_cons_self)))))) | exact List.mem_cons_of_mem _ (List.mem_cons_of_mem _ (List.mem_cons_of_mem _ (List.mem_cons_of_mem _ (List.mem_cons_of_mem _ (List.mem_cons_of_mem _ (List.mem_cons_of_mem _ (List.mem_cons_self))))))) | exact List.mem_cons_of_mem _ (List.mem_cons_of_mem _ (List.mem_cons_of_mem _ (List.mem_cons_of_mem _ (List.mem_cons_of_mem _ (List.mem_cons_of_mem _ (List.mem_cons_of_mem _ (List.mem_cons_of_mem _ (List.mem_cons_self)))))))) | exact List.mem_cons_of_mem _ (List.mem_cons_of_mem _ (List.mem_cons_of_mem _ (List.mem_cons_of_mem _ (List.mem_cons_of_mem _ (List.mem_cons_of_mem _ (List.mem_cons_of_mem _ (List.mem_cons_of_mem _ (List.mem_cons_of_mem _ (List.mem_cons_self)))))))))) (by with_reducible first | exact List.mem_cons_self | exact List.mem_cons_of_mem _ (List.mem_cons_self) | exact List.mem_cons_of_mem _ (List.mem_cons_of_mem _ (List.mem_cons_self)) | exact List.mem_cons_of_mem _ (List.mem_cons_of_mem _ (List.mem_cons_of_mem _ (List.mem_cons_self))) | exact List.mem_cons_of_mem _ (List.mem_cons_of_mem _ (List.mem_cons_of_mem _ (List.mem_cons_of_mem _ (List.mem_cons_self)))) | exact List.mem_cons_of_mem _ (List.mem_cons_of_mem _ (List.mem_cons_of_mem _ (List.mem_cons_of_mem _ (List.mem_cons_of_mem _ (List.mem_cons_self))))) | exact List.mem_cons_of_mem _ (List.mem_cons_of_mem _ (List.mem_cons_of_mem _ (List.mem_cons_of_mem _ (List.mem_cons_of_mem _ (List.mem_cons_of_mem _ (List.mem_cons_self)))))) | exact List.mem_cons_of_mem _ (List.mem_cons_of_mem _ (List.mem_cons_of_mem _ (List.mem_cons_of_mem _ (List.mem_cons_of_mem _ (List.mem_cons_of_mem _ (List.mem_cons_of_mem _ (List.mem_cons_self))))))) | exact List.mem_cons_of_mem _ (List.mem_cons_of_mem _ (List.mem_cons_of_mem _ (List.mem_cons_of_mem _ (List.mem_cons_of_mem _ (List.mem_cons_of_mem _ (List.mem_cons_of_mem _ (List.mem_cons_of_mem _ (List.mem_cons_self)))))))) | exact List.mem_cons_of_mem _ (List.mem_cons_of_mem _ (List.mem_cons_of_mem _ (List.mem_cons_of_mem _ (List.mem_cons_of_mem _ (List.mem_cons_of_mem _ (List.mem_cons_of_mem _ (List.mem_cons_of_mem _ (List.mem_cons_of_mem _ (List.mem_cons_self)))))))))) hts (fun h1 h2 h3 h4 => HSP.out _ _ _ h1 h2 h3 h4)).mono ?_; rintro e w' ⟨q1, c1q, rfl, Fd⟩; try (first | (with_reducible have hzz := QF.z Fd (List.mem_cons_of_mem _ (List.mem_cons_self)); obtain ⟨zz0, zz1, zz2, zz3, zz4⟩ := hzz) | (with_reducible have hzz := QF.z Fd (List.mem_cons_of_mem _ (List.mem_cons_of_mem _ (List.mem_cons_self))); obtain ⟨zz0, zz1, zz2, zz3, zz4⟩ := hzz) | (with_reducible have hzz := QF.z Fd (List.mem_cons_of_mem _ (List.mem_cons_of_mem _ (List.mem_cons_of_mem _ (List.mem_cons_self)))); obtain ⟨zz0, zz1, zz2, zz3, zz4⟩ := hzz))))
    all_goals (go_wp2_with fail; go_meet; first | exact ⟨_, _, _, rfl, rfl, rfl, QF.finN (by with_reducible first | assumption | exact QF.drew (by assumption) | exact QF.drew (QF.box (by assumption) _ _) | exact QF.box (by first | assumption | exact QF.drew (by assumption)) _ _) (by with_reducible repeat (first | exact List.Sublist.refl _ | apply List.Sublist.cons_cons | apply List.Sublist.cons))⟩ | exact ⟨_, _, _, rfl, rfl, rfl, QF.lateN (by with_reducible first | assumption | exact QF.drew (by assumption) | exact QF.drew (QF.box (by assumption) _ _) | exact QF.box (by first | assumption | exact QF.drew (by assumption)) _ _) (by with_reducible repeat (first | exact List.Sublist.refl _ | apply List.Sublist.cons_cons | apply List.Sublist.cons))⟩)
  case rest =>
  obtain ⟨B6, q6, c6, rfl, rfl, rfl, Fr6⟩ := hcut
  clear F0 keepS
  have F1 := Fr6
  clear Fr6
  go_wp2_with fail
  refine (toGlasses_q F1 a0 c0 xs0 hn0 HS0.out).mono ?_
  rintro e w2 ⟨gx, rfl, F2⟩
  clear F1 
  go_wp2_with fail
  refine (toByteS_q F2 a2 c2 xs2 hn2 HS2.out).mono ?_
  rintro e w3 ⟨gp, rfl, F3⟩
  clear F2 
  obtain ⟨u0, u1, u2, u3, -⟩ := Blk.four (F3.ok _ (List.mem_cons_of_mem _ (List.mem_cons_of_mem _ (List.mem_cons_of_mem _ (List.mem_cons_of_mem _ (List.mem_cons_self))))))
  go_wp2_with fail
  refine (toTops_q F3 x1).mono ?_
  rintro e w4 ⟨rfl, F4⟩
  clear F3 u0 u1 u2 u3
  go_wp2_with fail
  refine (Calls.qrun F4 (List.mem_cons_of_mem _ (List.mem_cons_self)) (List.mem_cons_self) hts (fun h1 h2 h3 h4 => HIM.out _ _ _ h1 h2 h3 h4 (errV_below HEE.out F4.below hge))).mono ?_
  rintro e w5 ⟨q9, c9, rfl, F5⟩
  clear F4 
  have F6 := F5.box #[.int .i16 (X 0), .int .i16 (X 1), .int .i16 (X 2), .int .i16 (X 3)] 27
  clear F5
  go_wp2_with fail
  refine (eqInt64S_q F6 (List.mem_cons_of_mem _ (List.mem_cons_self)) (List.mem_cons_of_mem _ (List.mem_cons_of_mem _ (List.mem_cons_of_mem _ (List.mem_cons_of_mem _ (List.mem_cons_of_mem _ (List.mem_cons_self)))))) _ _ hmm).mono ?_
  rintro e w7 ⟨rfl, F7⟩
  clear F6 
  obtain ⟨e0, e1, e2, e3, -⟩ := Blk.four (F7.ok _ (List.mem_cons_self))
  obtain ⟨f0, f1, f2, f3, -⟩ := Blk.four (F7.ok _ (List.mem_cons_of_mem _ (List.mem_cons_of_mem _ (List.mem_cons_of_mem _ (List.mem_cons_of_mem _ (List.mem_cons_self))))))
  go_wp2_with fail
  refine (eqTops_q F7 X).mono ?_
  rintro e w8 ⟨rfl, F8⟩
  clear F7 e0 e1 e2 e3 f0 f1 f2 f3
  go_wp2_with fail
  refine (toGlasses_q F8 a0 c0 xs0 hn0 HS0.out).mono ?_
  rintro e w9 ⟨gy, rfl, F9⟩
  clear F8 
  go_wp2_with fail
  refine (eqGlasses_q F9 (List.mem_cons_of_mem _ (List.mem_cons_of_mem _ (List.mem_cons_of_mem _ (List.mem_cons_of_mem _ (List.mem_cons_self))))) (List.mem_cons_self) _ _ hn0).mono ?_
  rintro e w10 ⟨rfl, F10⟩
  clear F9 
  have F11 := F10.tail
  clear F10
  go_wp2_with fail
  refine (toByteS_q F11 a2 c2 xs2 hn2 HS2.out).mono ?_
  rintro e w12 ⟨gz, rfl, F12⟩
  clear F11 
  go_wp2_with fail
  refine (eqByteS_q F12 (List.mem_cons_of_mem _ (List.mem_cons_of_mem _ (List.mem_cons_of_mem _ (List.mem_cons_self)))) (List.mem_cons_self) _ _ hn2).mono ?_
  rintro e w13 ⟨rfl, F13⟩
  clear F12 
  have F14 := F13.tail
  clear F13
  have F15 := F14.perm (show List.Perm [(w5.heap.size, blkQ w5.heap.size #[.int .i16 (X 0), .int .i16 (X 1), .int .i16 (X 2), .int .i16 (X 3)] 27), (q9, ownQ q9 ts), (gp, blkQ gp (rcells .u8 xs2) 5), (gx, blkQ gx (rcells .i16 xs0) 23), (B6, blkQ B6 #[.int .i16 (X 0), .int .i16 (X 1), .int .i16 (X 2), .int .i16 (X 3)] 27), (q6, ownQ q6 ts), (w.heap.size, blkQ w.heap.size #[.int .i16 (x1 0), .int .i16 (x1 1), .int .i16 (x1 2), .int .i16 (x1 3)] 24)] [(gx, blkQ gx (rcells .i16 xs0) 23), (w5.heap.size, blkQ w5.heap.size #[.int .i16 (X 0), .int .i16 (X 1), .int .i16 (X 2), .int .i16 (X 3)] 27), (q9, ownQ q9 ts), (gp, blkQ gp (rcells .u8 xs2) 5), (B6, blkQ B6 #[.int .i16 (X 0), .int .i16 (X 1), .int .i16 (X 2), .int .i16 (X 3)] 27), (q6, ownQ q6 ts), (w.heap.size, blkQ w.heap.size #[.int .i16 (x1 0), .int .i16 (x1 1), .int .i16 (x1 2), .int .i16 (x1 3)] 24)] from List.perm_middle (l₁ := [(w5.heap.size, blkQ w5.heap.size #[.int .i16 (X 0), .int .i16 (X 1), .int .i16 (X 2), .int .i16 (X 3)] 27), (q9, ownQ q9 ts), (gp, blkQ gp (rcells .u8 xs2) 5)]) (a := (gx, blkQ gx (rcells .i16 xs0) 23)) (l₂ := [(B6, blkQ B6 #[.int .i16 (X 0), .int .i16 (X 1), .int .i16 (X 2), .int .i16 (X 3)] 27), (q6, ownQ q6 ts), (w.heap.size, blkQ w.heap.size #[.int .i16 (x1 0), .int .i16 (x1 1), .int .i16 (x1 2), .int .i16 (x1 3)] 24)]))
  clear F14
  go_wp2_with fail
  refine (markGlasses_q F15 _ hn0).mono ?_
  rintro e w16 ⟨rfl, F16⟩
  clear F15 
  have F17 := F16.tail
  clear F16
  have F18 := F17.perm (show List.Perm [(w5.heap.size, blkQ w5.heap.size #[.int .i16 (X 0), .int .i16 (X 1), .int .i16 (X 2), .int .i16 (X 3)] 27), (q9, ownQ q9 ts), (gp, blkQ gp (rcells .u8 xs2) 5), (B6, blkQ B6 #[.int .i16 (X 0), .int .i16 (X 1), .int .i16 (X 2), .int .i16 (X 3)] 27), (q6, ownQ q6 ts), (w.heap.size, blkQ w.heap.size #[.int .i16 (x1 0), .int .i16 (x1 1), .int .i16 (x1 2), .int .i16 (x1 3)] 24)] [(gp, blkQ gp (rcells .u8 xs2) 5), (w5.heap.size, blkQ w5.heap.size #[.int .i16 (X 0), .int .i16 (X 1), .int .i16 (X 2), .int .i16 (X 3)] 27), (q9, ownQ q9 ts), (B6, blkQ B6 #[.int .i16 (X 0), .int .i16 (X 1), .int .i16 (X 2), .int .i16 (X 3)] 27), (q6, ownQ q6 ts), (w.heap.size, blkQ w.heap.size #[.int .i16 (x1 0), .int .i16 (x1 1), .int .i16 (x1 2), .int .i16 (x1 3)] 24)] from List.perm_middle (l₁ := [(w5.heap.size, blkQ w5.heap.size #[.int .i16 (X 0), .int .i16 (X 1), .int .i16 (X 2), .int .i16 (X 3)] 27), (q9, ownQ q9 ts)]) (a := (gp, blkQ gp (rcells .u8 xs2) 5)) (l₂ := [(B6, blkQ B6 #[.int .i16 (X 0), .int .i16 (X 1), .int .i16 (X 2), .int .i16 (X 3)] 27), (q6, ownQ q6 ts), (w.heap.size, blkQ w.heap.size #[.int .i16 (x1 0), .int .i16 (x1 1), .int .i16 (x1 2), .int .i16 (x1 3)] 24)]))
  clear F17
  go_wp2_with fail
  refine (markByteS_q F18 _ ((xs0.length : Int) + 1) hn2 (by omega)).mono ?_
  rintro e w19 ⟨rfl, F19⟩
  clear F18 
  have F20 := F19.tail
  clear F19
  have hk0 : decide ((xs0.length : Int) + 1 + (xs2.length : Int) < 0) = false := decide_eq_false (by omega)
  obtain ⟨kq, hkq⟩ : ∃ kq : Int, (xs0.length : Int) + 1 + (xs2.length : Int) = kq := ⟨_, rfl⟩
  have hkq0 : ¬ kq < 0 := by omega
  rw [hkq] at hk0 ⊢
  clear hkq
  go_wp2_with fail
  refine (eqInt64S_q F20 (List.mem_cons_of_mem _ (List.mem_cons_self)) (List.mem_cons_of_mem _ (List.mem_cons_of_mem _ (List.mem_cons_of_mem _ (List.mem_cons_self)))) _ _ hmm).mono ?_
  rintro e w21 ⟨rfl, F21⟩
  clear F20 
  obtain ⟨e0, e1, e2, e3, -⟩ := Blk.four (F21.ok _ (List.mem_cons_self))
  obtain ⟨f0, f1, f2, f3, -⟩ := Blk.four (F21.ok _ (List.mem_cons_of_mem _ (List.mem_cons_of_mem _ (List.mem_cons_self))))
  go_wp2_with fail
  refine (eqTops_q F21 X).mono ?_
  rintro e w22 ⟨rfl, F22⟩
  clear F21 e0 e1 e2 e3 f0 f1 f2 f3
  have F23 := F22.perm (show List.Perm [(w5.heap.size, blkQ w5.heap.size #[.int .i16 (X 0), .int .i16 (X 1), .int .i16 (X 2), .int .i16 (X 3)] 27), (q9, ownQ q9 ts), (B6, blkQ B6 #[.int .i16 (X 0), .int .i16 (X 1), .int .i16 (X 2), .int .i16 (X 3)] 27), (q6, ownQ q6 ts), (w.heap.size, blkQ w.heap.size #[.int .i16 (x1 0), .int .i16 (x1 1), .int .i16 (x1 2), .int .i16 (x1 3)] 24)] [(q9, ownQ q9 ts), (w5.heap.size, blkQ w5.heap.size #[.int .i16 (X 0), .int .i16 (X 1), .int .i16 (X 2), .int .i16 (X 3)] 27), (B6, blkQ B6 #[.int .i16 (X 0), .int .i16 (X 1), .int .i16 (X 2), .int .i16 (X 3)] 27), (q6, ownQ q6 ts), (w.heap.size, blkQ w.heap.size #[.int .i16 (x1 0), .int .i16 (x1 1), .int .i16 (x1 2), .int .i16 (x1 3)] 24)] from List.perm_middle (l₁ := [(w5.heap.size, blkQ w5.heap.size #[.int .i16 (X 0), .int .i16 (X 1), .int .i16 (X 2), .int .i16 (X 3)] 27)]) (a := (q9, ownQ q9 ts)) (l₂ := [(B6, blkQ B6 #[.int .i16 (X 0), .int .i16 (X 1), .int .i16 (X 2), .int .i16 (X 3)] 27), (q6, ownQ q6 ts), (w.heap.size, blkQ w.heap.size #[.int .i16 (x1 0), .int .i16 (x1 1), .int .i16 (x1 2), .int .i16 (x1 3)] 24)]))
  clear F22
  go_wp2_with fail
  refine (markInt64S_q F23 _ hmm).mono ?_
  rintro e w24 ⟨rfl, F24⟩
  clear F23 
  go_wp2_with fail
  refine (heldInt64S_q F24 (List.mem_cons_self) _ hmm).mono ?_
  rintro e w25 ⟨rfl, F25⟩
  clear F24 
  go_upto_region 28 with fail
  have keepS : ∀ S W', QF w S W' → (w.heap.size, blkQ w.heap.size #[.int .i16 (x1 0), .int .i16 (x1 1), .int .i16 (x1 2), .int .i16 (x1 3)] 24) ∈ S → (W'.cell? ⟨w.heap.size, 0, none⟩ = some (.int .i16 (x1 0)) ∧ W'.cell? ⟨w.heap.size, 1, none⟩ = some (.int .i16 (x1 1)) ∧ W'.cell? ⟨w.heap.size, 2, none⟩ = some (.int .i16 (x1 2)) ∧ W'.cell? ⟨w.heap.size, 3, none⟩ = some (.int .i16 (x1 3))) := by
    intro S W' h hm
    obtain ⟨u0, u1, u2, u3, -⟩ := Blk.four (show Blk W' w.heap.size _ _ from h.ok _ hm)
    exact ⟨u0, u1, u2, u3⟩
  go_cut [18, 19, 20] (fun s0 s1 s2 wx => ∃ Bq q c, s0 = .slice (some ⟨q, 0, none⟩) ts.length c ∧ s1 = .pointer (some ⟨Bq, 0, none⟩) ∧ s2 = .int .i64 C ∧ QF w ((Bq, blkQ Bq #[.int .i16 (X 0), .int .i16 (X 1), .int .i16 (X 2), .int .i16 (X 3)] 27) :: (q, ownQ q ts) :: [(q9, mkQ q9 ts.length), (w5.heap.size, blkQ w5.heap.size #[.int .i16 (X 0), .int .i16 (X 1), .int .i16 (X 2), .int .i16 (X 3)] 27), (B6, blkQ B6 #[.int .i16 (X 0), .int .i16 (X 1), .int .i16 (X 2), .int .i16 (X 3)] 27), (q6, ownQ q6 ts), (w.heap.size, blkQ w.heap.size #[.int .i16 (x1 0), .int .i16 (x1 1), .int .i16 (x1 2), .int .i16 (x1 3)] 24)]) wx)
  case first =>
    go_region_held3 (fun W' => W'.cell? ⟨w.heap.size, 0, none⟩ = some (.int .i16 (x1 0)) ∧ W'.cell? ⟨w.heap.size, 1, none⟩ = some (.int .i16 (x1 1)) ∧ W'.cell? ⟨w.heap.size, 2, none⟩ = some (.int .i16 (x1 2)) ∧ W'.cell? ⟨w.heap.size, 3, none⟩ = some (.int .i16 (x1 3)))
      (first | exact keepS _ _ (by with_reducible first | assumption | exact QF.drew (by assumption) | exact QF.drew (QF.box (by assumption) _ _) | exact QF.box (by first | assumption | exact QF.drew (by assumption)) _ _) (by with_reducible first | exact List.mem_cons_self | exact List.mem_cons_of_mem _ (List.mem_cons_self) | exact List.mem_cons_of_mem _ (List.mem_cons_of_mem _ (List.mem_cons_self)) | exact List.mem_cons_of_mem _ (List.mem_cons_of_mem _ (List.mem_cons_of_mem _ (List.mem_cons_self))) | exact List.mem_cons_of_mem _ (List.mem_cons_of_mem _ (List.mem_cons_of_mem _ (List.mem_cons_of_mem _ (List.mem_cons_self)))) | exact List.mem_cons_of_mem _ (List.mem_cons_of_mem _ (List.mem_cons_of_mem _ (List.mem_cons_of_mem _ (List.mem_cons_of_mem _ (List.mem_cons_self))))) | exact List.mem_cons_of_mem _ (List.mem_cons_of_mem _ (List.mem_cons_of_mem _ (List.mem_cons_of_mem _ (List.mem_cons_of_mem _ (List.mem_cons_of_mem _ (List.mem_cons_self)))))) | exact List.mem_cons_of_mem _ (List.mem_cons_of_mem _ (List.mem_cons_of_mem _ (List.mem_cons_of_mem _ (List.mem_cons_of_mem _ (List.mem_cons_of_mem _ (List.mem_cons_of_mem _ (List.mem_cons_self))))))) | exact List.mem_cons_of_mem _ (List.mem_cons_of_mem _ (List.mem_cons_of_mem _ (List.mem_cons_of_mem _ (List.mem_cons_of_mem _ (List.mem_cons_of_mem _ (List.mem_cons_of_mem _ (List.mem_cons_of_mem _ (List.mem_cons_self)))))))) | exact List.mem_cons_of_mem _ (List.mem_cons_of_mem _ (List.mem_cons_of_mem _ (List.mem_cons_of_mem _ (List.mem_cons_of_mem _ (List.mem_cons_of_mem _ (List.mem_cons_of_mem _ (List.mem_cons_of_mem _ (List.mem_cons_of_mem _ (List.mem_cons_self)))))))))) | exact keepS _ _ (QF.finN (S0 := [(q9, mkQ q9 ts.length), (w5.heap.size, blkQ w5.heap.size #[.int .i16 (X 0), .int .i16 (X 1), .int .i16 (X 2), .int .i16 (X 3)] 27), (B6, blkQ B6 #[.int .i16 (X 0), .int .i16 (X 1), .int .i16 (X 2), .int .i16 (X 3)] 27), (q6, ownQ q6 ts), (w.heap.size, blkQ w.heap.size #[.int .i16 (x1 0), .int .i16 (x1 1), .int .i16 (x1 2), .int .i16 (x1 3)] 24)]) (by with_reducible first | assumption | exact QF.drew (by assumption) | exact QF.drew (QF.box (by assumption) _ _) | exact QF.box (by first | assumption | exact QF.drew (by assumption)) _ _) (by with_reducible repeat (first | exact List.Sublist.refl _ | apply List.Sublist.cons_cons | apply List.Sublist.cons))) (by with_reducible first | exact List.mem_cons_self | exact List.mem_cons_of_mem _ (List.mem_cons_self) | exact List.mem_cons_of_mem _ (List.mem_cons_of_mem _ (List.mem_cons_self)) | exact List.mem_cons_of_mem _ (List.mem_cons_of_mem _ (List.mem_cons_of_mem _ (List.mem_cons_self))) | exact List.mem_cons_of_mem _ (List.mem_cons_of_mem _ (List.mem_cons_of_mem _ (List.mem_cons_of_mem _ (List.mem_cons_self)))) | exact List.mem_cons_of_mem _ (List.mem_cons_of_mem _ (List.mem_cons_of_mem _ (List.mem_cons_of_mem _ (List.mem_cons_of_mem _ (List.mem_cons_self))))) | exact List.mem_cons_of_mem _ (List.mem_cons_of_mem _ (List.mem_cons_of_mem _ (List.mem_cons_of_mem _ (List.mem_cons_of_mem _ (List.mem_cons_of_mem _ (List.mem_cons_self)))))) | exact List.mem_cons_of_mem _ (List.mem_cons_of_mem _ (List.mem_cons_of_mem _ (List.mem_cons_of_mem _ (List.mem_cons_of_mem _ (List.mem_cons_of_mem _ (List.mem_cons_of_mem _ (List.mem_cons_self))))))) | exact List.mem_cons_of_mem _ (List.mem_cons_of_mem _ (List.mem_cons_of_mem _ (List.mem_cons_of_mem _ (List.mem_cons_of_mem _ (List.mem_cons_of_mem _ (List.mem_cons_of_mem _ (List.mem_cons_of_mem _ (List.mem_cons_self)))))))) | exact List.mem_cons_of_mem _ (List.mem_cons_of_mem _ (List.mem_cons_of_mem _ (List.mem_cons_of_mem _ (List.mem_cons_of_mem _ (List.mem_cons_of_mem _ (List.mem_cons_of_mem _ (List.mem_cons_of_mem _ (List.mem_cons_of_mem _ (List.mem_cons_self)))))))))))
      (first
        | (go_at_call 6; with_reducible refine (toGlasses_q (by with_reducible first | assumption | exact QF.drew (by assumption) | exact QF.drew (QF.box (by assumption) _ _) | exact QF.box (by first | assumption | exact QF.drew (by assumption)) _ _) a0 c0 xs0 hn0 HS0.out).mono ?_; rintro e w' ⟨r0, rfl, Fa⟩)
        | (go_at_call 7; with_reducible refine (toTops_q (by with_reducible first | assumption | exact QF.drew (by assumption) | exact QF.drew (QF.box (by assumption) _ _) | exact QF.box (by first | assumption | exact QF.drew (by assumption)) _ _) x1).mono ?_; rintro e w' ⟨rfl, Fb⟩)
        | (go_at_call 8; with_reducible refine (toByteS_q (by with_reducible first | assumption | exact QF.drew (by assumption) | exact QF.drew (QF.box (by assumption) _ _) | exact QF.box (by first | assumption | exact QF.drew (by assumption)) _ _) a2 c2 xs2 hn2 HS2.out).mono ?_; rintro e w' ⟨r2, rfl, Fc⟩)
        | (go_at_call 9; with_reducible refine (Calls.qrun (by with_reducible first | assumption | exact QF.drew (by assumption) | exact QF.drew (QF.box (by assumption) _ _) | exact QF.box (by first | assumption | exact QF.drew (by assumption)) _ _) (by with_reducible first | exact List.mem_cons_self | exact List.mem_cons_of_mem _ (List.mem_cons_self) | exact List.mem_cons_of_mem _ (List.mem_cons_of_mem _ (List.mem_cons_self)) | exact List.mem_cons_of_mem _ (List.mem_cons_of_mem _ (List.mem_cons_of_mem _ (List.mem_cons_self))) | exact List.mem_cons_of_mem _ (List.mem_cons_of_mem _ (List.mem_cons_of_mem _ (List.mem_cons_of_mem _ (List.mem_cons_self)))) | exact List.mem_cons_of_mem _ (List.mem_cons_of_mem _ (List.mem_cons_of_mem _ (List.mem_cons_of_mem _ (List.mem_cons_of_mem _ (List.mem_cons_self))))) | exact List.mem_cons_of_mem _ (List.mem_cons_of_mem _ (List.mem_cons_of_mem _ (List.mem_cons_of_mem _ (List.mem_cons_of_mem _ (List.mem_cons_of_mem _ (List.mem_cons_self)))))) | exact List.mem_cons_of_mem _ (List.mem_cons_of_mem _ (List.mem_cons_of_mem _ (List.mem_cons_of_mem _ (List.mem_cons_of_mem _ (List.mem_cons_of_mem _ (List.mem_cons_of_mem _ (List.mem_cons_self))))))) | exact List.mem_cons_of_mem _ (List.mem_cons_of_mem _ (List.mem_cons_of_mem _ (List.mem_cons_of_mem _ (List.mem_cons_of_mem _ (List.mem_cons_of_mem _ (List.mem_cons_of_mem _ (List.mem_cons_of_mem _ (List.mem_cons_self)))))))) | exact List.mem_cons_of_mem _ (List.mem_cons_of_mem _ (List.mem_cons_of_mem _ (List.mem_cons_of_mem _ (List.mem_cons_of_mem _ (List.mem_cons_of_mem _ (List.mem_cons_of_mem _ (List.mem_cons_of_mem _ (List.mem_cons_of_mem _ (List.mem_cons_self)))))))))) (by with_reducible first | exact List.mem_cons_self | exact List.mem_cons_of_mem _ (List.mem_cons_self) | exact List.mem_cons_of_mem _ (List.mem_cons_of_mem _ (List.mem_cons_self)) | exact List.mem_cons_of_mem _ (List.mem_cons_of_mem _ (List.mem_cons_of_mem _ (List.mem_cons_self))) | exact List.mem_cons_of_mem _ (List.mem_cons_of_mem _ (List.mem_cons_of_mem _ (List.mem_cons_of_mem _ (List.mem_cons_self)))) | exact List.mem_cons_of_mem _ (List.mem_cons_of_mem _ (List.mem_cons_of_mem _ (List.mem_cons_of_mem _ (List.mem_cons_of_mem _ (List.mem_cons_self))))) | exact List.mem_cons_of_mem _ (List.mem_cons_of_mem _ (List.mem_cons_of_mem _ (List.mem_cons_of_mem _ (List.mem_cons_of_mem _ (List.mem_cons_of_mem _ (List.mem_cons_self)))))) | exact List.mem_cons_of_mem _ (List.mem_cons_of_mem _ (List.mem_cons_of_mem _ (List.mem_cons_of_mem _ (List.mem_cons_of_mem _ (List.mem_cons_of_mem _ (List.mem_cons_of_mem _ (List.mem_cons_self))))))) | exact List.mem_cons_of_mem _ (List.mem_cons_of_mem _ (List.mem_cons_of_mem _ (List.mem_cons_of_mem _ (List.mem_cons_of_mem _ (List.mem_cons_of_mem _ (List.mem_cons_of_mem _ (List.mem_cons_of_mem _ (List.mem_cons_self)))))))) | exact List.mem_cons_of_mem _ (List.mem_cons_of_mem _ (List.mem_cons_of_mem _ (List.mem_cons_of_mem _ (List.mem_cons_of_mem _ (List.mem_cons_of_mem _ (List.mem_cons_of_mem _ (List.mem_cons_of_mem _ (List.mem_cons_of_mem _ (List.mem_cons_self)))))))))) hts (fun h1 h2 h3 h4 => HIM.out _ _ _ h1 h2 h3 h4 (errV_below HEE.out (QF.below (by with_reducible first | assumption | exact QF.drew (by assumption) | exact QF.drew (QF.box (by assumption) _ _) | exact QF.box (by first | assumption | exact QF.drew (by assumption)) _ _)) hge))).mono ?_; rintro e w' ⟨q1, c1q, rfl, Fd⟩; try (first | (with_reducible have hzz := QF.z Fd (List.mem_cons_of_mem _ (List.mem_cons_self)); obtain ⟨zz0, zz1, zz2, zz3, zz4⟩ := hzz) | (with_reducible have hzz := QF.z Fd (List.mem_cons_of_mem _ (List.mem_cons_of_mem _ (List.mem_cons_self))); obtain ⟨zz0, zz1, zz2, zz3, zz4⟩ := hzz) | (with_reducible have hzz := QF.z Fd (List.mem_cons_of_mem _ (List.mem_cons_of_mem _ (List.mem_cons_of_mem _ (List.mem_cons_self)))); obtain ⟨zz0, zz1, zz2, zz3, zz4⟩ := hzz))))
    all_goals (go_wp2_with fail; go_meet; first | exact ⟨_, _, _, rfl, rfl, rfl, QF.finN (by with_reducible first | assumption | exact QF.drew (by assumption) | exact QF.drew (QF.box (by assumption) _ _) | exact QF.box (by first | assumption | exact QF.drew (by assumption)) _ _) (by with_reducible repeat (first | exact List.Sublist.refl _ | apply List.Sublist.cons_cons | apply List.Sublist.cons))⟩ | exact ⟨_, _, _, rfl, rfl, rfl, QF.lateN (by with_reducible first | assumption | exact QF.drew (by assumption) | exact QF.drew (QF.box (by assumption) _ _) | exact QF.box (by first | assumption | exact QF.drew (by assumption)) _ _) (by with_reducible repeat (first | exact List.Sublist.refl _ | apply List.Sublist.cons_cons | apply List.Sublist.cons))⟩)
  case rest =>
  obtain ⟨B14, q14, c14, rfl, rfl, rfl, Fr14⟩ := hcut
  clear F25 keepS
  have F26 := Fr14
  clear Fr14
  go_wp2_with fail
  refine (eqInt64S_q F26 (List.mem_cons_of_mem _ (List.mem_cons_self)) (List.mem_cons_of_mem _ (List.mem_cons_of_mem _ (List.mem_cons_of_mem _ (List.mem_cons_of_mem _ (List.mem_cons_of_mem _ (List.mem_cons_self)))))) _ _ hmm).mono ?_
  rintro e w27 ⟨rfl, F27⟩
  clear F26 
  obtain ⟨e0, e1, e2, e3, -⟩ := Blk.four (F27.ok _ (List.mem_cons_self))
  obtain ⟨f0, f1, f2, f3, -⟩ := Blk.four (F27.ok _ (List.mem_cons_of_mem _ (List.mem_cons_of_mem _ (List.mem_cons_of_mem _ (List.mem_cons_of_mem _ (List.mem_cons_self))))))
  go_wp2_with fail
  refine (eqTops_q F27 X).mono ?_
  rintro e w28 ⟨rfl, F28⟩
  clear F27 e0 e1 e2 e3 f0 f1 f2 f3
  go_wp2_with fail
  refine (heldInt64S_q F28 (List.mem_cons_of_mem _ (List.mem_cons_of_mem _ (List.mem_cons_self))) _ hmm).mono ?_
  rintro e w29 ⟨rfl, F29⟩
  clear F28 
  have HB := Lib.hid F29.below
  clear F29
  go_wp2
  go_ret
  exact ⟨rfl, HB.out⟩
end Go.Proofs.YtmjkhkhjliadcaaDoor
