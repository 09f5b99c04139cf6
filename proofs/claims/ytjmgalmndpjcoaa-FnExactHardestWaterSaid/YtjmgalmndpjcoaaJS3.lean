/-
  The model's search: its walk.
-/
import Derived.Test.YtjmgalmndpjcoaaJS2
import Derived.Test.YtjmgalmndpjcoaaDoMove
namespace Go.Proofs.Ytjmgalmndpjcoaa
open Go.RowKit
set_option maxRecDepth 100000
set_option linter.unusedVariables false

theorem info_s16 : (Try.prog.info? 23).map (fun i => (i.zero, i.size, i.bytes)) = some (some (.int .i16 0), 1, 2) := by kernel_rfl
theorem info_s64 : (Try.prog.info? 2).map (fun i => (i.zero, i.size, i.bytes)) = some (some (.int .i64 0), 1, 8) := by kernel_rfl
theorem blk_at {W : World} {b : Nat} {cs : Array Value} {t : TypeId} (h : W.heap.size = b) : Blk (W.alloc (.cells cs t)) b cs t := by subst h; exact blk_new W cs t
theorem blk_dw {W : World} {b : Nat} {cs : Array Value} {t : TypeId} (h : Blk W b cs t) : Blk W.drew b cs t := h
def GS.none (N : Nat) : GS := { tb := List.replicate N 0, fr := List.replicate N 0, mv := List.replicate N 0, q := [] }
theorem JMem.made {n N : Nat} {w W : World} {S T Z U : Nat} (hS : Blk W S #[.slice (some ⟨T, 0, none⟩) N N, .slice (some ⟨Z, 0, none⟩) N N, .slice (some ⟨U, 0, none⟩) N N, .slice none 0 0] 61)
    (hT : Blk W T (ncells .i16 (List.replicate N 0)) 23) (hZ : Blk W Z (ncells .i64 (List.replicate N 0)) 2) (hU : Blk W U (mcells (List.replicate N (0, 0, 0))) 78)
    (hb : Below w.heap.size w W) (lo : w.heap.size ≤ S ∧ w.heap.size ≤ T ∧ w.heap.size ≤ Z ∧ w.heap.size ≤ U) (ne : S ≠ T ∧ S ≠ Z ∧ S ≠ U ∧ T ≠ Z ∧ T ≠ U ∧ Z ≠ U) :
    JMem n N [] w S T Z U (.slice none 0 0) (GS.none N) W := by
  refine ⟨hb, ne, lo, hS, hT, hZ, ?_, World.ownsRow_nil _ _ _ _, by simp [Value.ownBlock], fun p hp => by cases hp⟩
  show Blk W U (mcells (mvL n (List.replicate N 0))) _
  rw [mvL_rep]; exact hU
def GS.fill (N i : Nat) : GS := { tb := List.replicate i (-1) ++ List.replicate (N - i) 0, fr := List.replicate N 0, mv := List.replicate N 0, q := [] }
theorem GS.fill_zero (N : Nat) : GS.fill N 0 = GS.none N := by simp [GS.fill, GS.none]
theorem GS.fill_next {N i : Nat} (h : i < N) : { GS.fill N i with tb := (GS.fill N i).tb.set i (-1) } = GS.fill N (i + 1) := by
  unfold GS.fill
  have e : (List.replicate i (-1 : Int) ++ List.replicate (N - i) 0).set i (-1) = List.replicate (i + 1) (-1) ++ List.replicate (N - (i + 1)) 0 := by
    rw [List.set_append_right _ _ (by simp)]
    obtain ⟨m, hm⟩ : ∃ m, N - i = m + 1 := ⟨N - i - 1, by omega⟩
    rw [hm, show N - (i + 1) = m by omega, List.replicate_succ' (n := i)]
    simp [List.replicate_succ]
  show GS.mk _ _ _ _ = _
  rw [e]
theorem GS.fill_len {N i : Nat} (h : i ≤ N) : (GS.fill N i).tb.length = N := by simp [GS.fill]; omega
theorem GS.fill_all {N f : Nat} : { { GS.fill N N with tb := (GS.fill N N).tb.set f 0 } with q := [(f : Int)] } = GS.first N f := by
  simp [GS.fill, GS.first]
theorem allM_M8 (n : Nat) (hn : n ≤ 4) (j : Nat) : M8 (mvI (allM n) j).1 (mvI (allM n) j).2.1 (mvI (allM n) j).2.2 := by
  have h : ∀ m ∈ allM n, M8 m.1 m.2.1 m.2.2 := fun m hm => by
    unfold allM part2 pours at hm
    simp only [List.mem_append, List.mem_flatMap, List.mem_map, List.mem_range] at hm
    rcases hm with ⟨i, hi, q, hq, rfl⟩ | ⟨d, hd, q, hq, rfl⟩ | ⟨q, hq, rfl⟩
    · exact ⟨by dsimp only; omega, by dsimp only; omega, by dsimp only; omega⟩
    · exact ⟨by dsimp only; omega, by dsimp only; omega, by dsimp only; omega⟩
    · omega
  unfold mvI
  rw [List.getD_eq_getElem?_getD]
  cases hg : (allM n)[j]? with
  | none => exact ⟨by simp, by simp, by simp⟩
  | some m => exact h m (List.mem_of_getElem? hg)
theorem movC_bdJ (J : List Int) (t : Bool) (y : Nat → Int) (k f g : Int) : 0 ≤ movC J t y k f g ∧ movC J t y k f g ≤ 4 := by
  rcases movC_cases J t y k f g with h | h | h <;> omega
theorem below_set4J {B : Nat} {w W : World} {v0 v1 v2 v3 : Value} (h : Below B w W) : Below B w ((((W.setCell ⟨B, 0, none⟩ v0).setCell ⟨B, 1, none⟩ v1).setCell ⟨B, 2, none⟩ v2).setCell ⟨B, 3, none⟩ v3) :=
  (((h.setCell (Nat.le_refl B) v0).setCell (Nat.le_refl B) v1).setCell (Nat.le_refl B) v2).setCell (Nat.le_refl B) v3
set_option maxHeartbeats 8000000 in
theorem l02Find_any (pb b off c : Nat) (J : List Int) (x : Nat → Int) (t : Bool) (w : World) (hJ : OkJ J) (hx : OkX J x) (hb : b < w.heap.size) (hc : At .i16 w b off J) (hp : Blk w pb #[.slice (some ⟨b, off, none⟩) J.length c, .int .i16 (x 0), .int .i16 (x 1), .int .i16 (x 2), .int .i16 (x 3), .bool t] 32) :
    Calls Try.prog 38 #[.pointer (some ⟨pb, 0, none⟩)] w fun e w' => ∃ S T Z U v, e = .returned (.pointer (some ⟨S, 0, none⟩)) ∧ JMem J.length (nW J) [] w S T Z U v (GS.all (nxJ J t) (allM J.length).length (nW J) (ixN J x)) w' := by
  have hnw := nW_eq hJ
  have HST := Lib.hid (l02States_any b off c J w (by have := hJ.1.2; omega) hc)
  have hst : stV J = ((nW J : Nat) : Int) := by
    unfold stV
    rw [if_pos (okJ_of hJ), hnw.1]
  rw [hst] at HST
  clear hst
  have hN1 : 1 ≤ nW J := hnw.2.1
  have hN2 : nW J ≤ 5000 := hnw.2.2
  have m16 := run_make_row' (P := Try.prog) 22 23 (.int .i16 0) 2 Try.underlying22 info_s16 rfl .i64 .i64 (nW J) (by omega) (by omega)
  have m64 := run_make_row' (P := Try.prog) 48 2 (.int .i64 0) 8 Try.underlying48 info_s64 rfl .i64 .i64 (nW J) (by omega) (by omega)
  have mmv := run_make_mv (nW J) (by omega)
  rw [made_ncells] at m16 m64
  simp only [made_mcells] at mmv
  have hpl := hp.lt
  have hpq := hp
  obtain ⟨p0, -, -, -, -, -, -⟩ := hp.six
  have KP : ∀ W, Below w.heap.size w W → b < W.heap.size ∧ At .i16 W b off J ∧ Blk W pb #[.slice (some ⟨b, off, none⟩) J.length c, .int .i16 (x 0), .int .i16 (x 1), .int .i16 (x 2), .int .i16 (x 3), .bool t] 32 := fun W h => ⟨Nat.lt_of_lt_of_le hb h.size, hc.below h hb, hpq.below h hpl⟩
  have HIX := Lib.hid (fun W (h : Below w.heap.size w W) (y : Nat → Int) (hy : OkX J y) => (l02Index_any pb b off c J x y t W hJ.1.2 hJ.1.1 hJ.2.1 hy (KP W h).1 (KP W h).2.1 (KP W h).2.2))
  have HAT := Lib.hid (fun W (h : Below w.heap.size w W) (a : Nat) (ha : a ≤ 5000) => (l02At_any pb b off c J x t (a : Int) W hJ.1.2 hJ.2.1 (by omega) (KP W h).1 (KP W h).2.1 (KP W h).2.2))
  have HAL := Lib.hid (fun W (h : Below w.heap.size w W) => (l02All_any pb b off J.length c x t W hJ.1 (KP W h).2.2))
  have HMV := Lib.hid (fun W (h : Below w.heap.size w W) (y : Nat → Int) (hy : OkX J y) (k f g : Int) (hm : M8 k f g) => (l02Move_any pb b off c J x y t k f g W hJ hy hm.1 hm.2.1 hm.2.2 (KP W h).1 (KP W h).2.1 (KP W h).2.2))
  have HJ := Lib.hid hJ
  have HX := Lib.hid hx
  have HP := Lib.hid (fun W h => (KP W h).2.2)
  have HFX := Lib.hid (ixN_eq hJ hx)
  clear hnw hJ hx hc hp hpq KP
  generalize hN : nW J = N at *
  have HN := Lib.hid hN
  clear hN
  go_enter Try.func38, Try.ntmps38
  go_wp2_with fail
  refine HST.out.mono ?_
  rintro e w2 ⟨rfl, rfl⟩
  clear HST
  go_upto_region 2 with fail
  go_cut [4] (fun s wx => ∃ S T Z U, s = .pointer (some ⟨S, 0, none⟩) ∧ JMem J.length N [] w S T Z U (.slice none 0 0) (GS.none N) wx)
  case first =>
    go_region
    all_goals
      go_wp2_with fail
      go_meet
      refine ⟨_, _, _, _, rfl, JMem.made (blk_dw (blk_at ?_)) ?_ ?_ ?_ ?_ ?_ ?_⟩
      · simp
      · repeat (first | (refine blk_at ?_; simp; done) | refine blk_dw ?_ | refine Blk.alloc ?_ _)
      · repeat (first | (refine blk_at ?_; simp; done) | refine blk_dw ?_ | refine Blk.alloc ?_ _)
      · repeat (first | (refine blk_at ?_; simp; done) | refine blk_dw ?_ | refine Blk.alloc ?_ _)
      · repeat (first | exact Below.refl _ _ | refine Below.drew ?_ | refine Below.alloc ?_ (by simp <;> omega) _)
      · omega
      · omega
  case rest =>
    obtain ⟨S, T, Z, U, rfl, hM0⟩ := hcut
    have hM := Lib.hid hM0
    clear hM0 m16 m64 mmv p0
    go_wp2_with fail
    go_loopw [5] (fun i wr => ∃ k : Nat, i = .int .i64 k ∧ k ≤ N ∧ JMem J.length N [] w S T Z U (.slice none 0 0) (GS.fill N k) wr) (fun i _ => N - (intOf i).toNat)
    case atStart => exact ⟨0, rfl, Nat.zero_le _, by rw [GS.fill_zero]; exact hM.out⟩
    case round =>
      obtain ⟨k, rfl, hk, hR⟩ := hrel
      clear hM
      by_cases hlt : k < N
      · have hkn : (k : Int) < (N : Int) := by omega
        obtain ⟨s0, -, -, -, -⟩ := hR.bS.four
        have t1 : wr.cell? ⟨T, k, none⟩ = some (.int .i16 ((GS.fill N k).tb.getD k 0)) := by
          rw [hR.bT.cell]; exact ncells_get _ _ _ (by rw [GS.fill_len hk]; exact hlt)
        have t2 := hR.bT.free k
        have HN2 := Lib.hid (show JMem J.length N [] w S T Z U (.slice none 0 0) (GS.fill N (k + 1)) _ from (GS.fill_next hlt) ▸ hR.setT (i := k) (by rw [GS.fill_len hk]; exact hlt) (-1))
        clear hR
        go_wp2
        go_roundw
        case rel => exact ⟨k + 1, by go_num, by omega, HN2.out⟩
        case measure => simp [intOf]; omega
      · obtain rfl : k = N := by omega
        have HR := Lib.hid hR
        obtain ⟨c0, c1, c2, c3, c4, c5, -⟩ := (HP.out _ hR.below).six
        clear hR hk
        generalize hf : ixN J x = f at *
        have HF := Lib.hid hf
        clear hf
        go_wp2_with fail
        refine (HIX.out _ HR.out.below x HX.out).mono ?_
        rintro e w3 ⟨rfl, hb3⟩
        rw [← HFX.out.1]
        have hfk : f < k := HFX.out.2
        have hR3 := HR.out.next hb3
        clear HR c0 c1 c2 c3 c4 c5 hb3
        obtain ⟨s0, -, -, -, -⟩ := hR3.bS.four
        have t1 : w3.cell? ⟨T, f, none⟩ = some (.int .i16 ((GS.fill k k).tb.getD f 0)) := by
          rw [hR3.bT.cell]; exact ncells_get _ _ _ (by rw [GS.fill_len (Nat.le_refl _)]; exact hfk)
        have t2 := hR3.bT.free f
        have HR4 := Lib.hid (hR3.setT (i := f) (by rw [GS.fill_len (Nat.le_refl _)]; exact hfk) 0)
        have hfi : (f : Int) < (k : Int) := by omega
        go_upto_region 9 with fail
        clear hR3 s0 t1 t2
        generalize w3.setCell ⟨T, f, none⟩ (.int .i16 0) = w4 at *
        obtain ⟨s0, s1, s2, s3, s4⟩ := HR4.out.bS.four
        have hsz := HR4.out.below.size
        have hSlt := HR4.out.bS.lt
        have hSf := HR4.out.bS.free 3
        obtain ⟨i0, hi0, hz0, hz1, hz2⟩ := info_parts info_s64
        go_wp2_with (at_builtin; refine wpList_append_lies _ rfl _ _ 48 rfl w.heap.size 2 i0 (.int .i64 0) 1 8 Try.underlying48 hi0 hz0 hz1 hz2 rfl (by decide) _ _ _ rfl (HR4.out.own.alloc _) ⟨w4.heap.size, 0, none⟩ 1 1 [.int .i64 (f : Int)] rfl rfl (World.news_of_block (cs := #[.int .i64 (f : Int)]) (t := 2) (fr := (0, 0)) (heap_alloc_new w4 _)) (by simp [Value.oneCell']) (by decide) (by simp [GS.fill, maxLen]) (by simp [GS.fill]) (by simp; omega) (w4.heap.size + 1) (by simp) ?_)
        intro g cap w5 hown5 hgrow5 hat5 hlt5
        have HR5 := Lib.hid (show JMem J.length k [] w S T Z U (.slice (some ⟨g, 0, none⟩) 1 cap) (GS.first k f) (w5.setCell ⟨S, 3, none⟩ (.slice (some ⟨g, 0, none⟩) ((GS.fill k k).q.length + 1) cap)) by rw [← GS.fill_all]; exact JMem.push HR4.out hown5 hgrow5 hat5 (by omega))
        have hS5 := JMem.pushS HR4.out hgrow5
        obtain ⟨u0, u1, u2, u3, u4⟩ := hS5.four
        have u5 := u4 3
        clear HR4 s0 s1 s2 s3 s4 hsz hSlt hSf hown5 hgrow5 hat5 hS5 u0 u1 u2 u4
        go_upto_region 10 with fail
        generalize w5.setCell ⟨S, 3, none⟩ (.slice (some ⟨g, 0, none⟩) ((GS.fill k k).q.length + 1) cap) = w6 at *
        clear u3 u5 hlt5
        go_wp2_with fail
        refine (HAL.out _ HR5.out.below).mono ?_
        rintro e w7 ⟨vm, rfl, ⟨gl, cm, rfl, hcm, hgl, hglt, hMA, hfz⟩, hb7⟩
        obtain ⟨G, hG⟩ : ∃ G, w7.heap[gl]? = some G := ⟨_, Array.getElem?_eq_getElem hglt⟩
        have HR7 := Lib.hid (HR5.out.far hb7 hG hgl)
        have HMA := Lib.hid (fun (W : World) (h : W.heap[gl]? = some G) (j : Nat) (hj : j < (allM J.length).length) => (show _ ∧ _ ∧ _ by
          have h0 := hMA j hj
          rw [Nat.zero_add] at h0
          have e : W.heap[gl]? = w7.heap[gl]? := h.trans hG.symm
          exact ⟨(World.cell?_of_block (w := w7) (a := ⟨gl, j * 3, none⟩) e).trans h0.1, (World.cell?_of_block (w := w7) (a := ⟨gl, j * 3 + 1, none⟩) e).trans h0.2.1, (World.cell?_of_block (w := w7) (a := ⟨gl, j * 3 + 2, none⟩) e).trans h0.2.2⟩))
        clear hMA hfz hb7 HR5 hcm hgl hglt hG HAL
        have hM28 := allM_len J.length HJ.out.1.2
        have HNX := Lib.hid (fun a j c (ha : a < k) (h : nxJ J t a j = some c) => (show c < k from HN.out ▸ nxJ_lt HJ.out a j c (HN.out ▸ ha) h))
        have HI0 := Lib.hid (GInv.first (N := k) (M := (allM J.length).length) hfk)
        have HALL := Lib.hid (fun i h => GS.all_of (nx := nxJ J t) (M := (allM J.length).length) (i := i) hfk HNX.out h)
        generalize hMM : (allM J.length).length = M at *
        have HMM := Lib.hid hMM
        clear hMM HP hpl hb
        go_wp2_with fail
        go_loopw [8] (fun kv wr => ∃ (i g cap : Nat), kv = .int .i64 i ∧ i ≤ (GS.run (nxJ J t) M (GS.first k f) i).q.length ∧ JMem J.length k [(gl, G)] w S T Z U (.slice (some ⟨g, 0, none⟩) (GS.run (nxJ J t) M (GS.first k f) i).q.length cap) (GS.run (nxJ J t) M (GS.first k f) i) wr) (fun kv _ => k - (intOf kv).toNat)
        case atStart => exact ⟨0, g, cap, rfl, Nat.zero_le _, HR7.out⟩
        case round =>
          clear HR7
          obtain ⟨i, g, cap, rfl, hi, hR⟩ := hrel
          have HI := Lib.hid (HI0.out.run HNX.out i).1
          have HNEXT := Lib.hid (GS.run_next (nx := nxJ J t) (M := M) (s := GS.first k f) (i := i))
          have HALLI := Lib.hid (HALL.out i)
          generalize hs : GS.run (nxJ J t) M (GS.first k f) i = s at *
          have HS := Lib.hid hs
          clear hs
          have hshort := HI.out.short
          obtain ⟨s0, s1, s2, s3, -⟩ := hR.bS.four
          by_cases hlt : i < s.q.length
          · have hm := gs_mem hlt
            have hh := HI.out.here _ hm
            obtain ⟨a, ha⟩ : ∃ a : Nat, s.q.getD i 0 = a := ⟨(s.q.getD i 0).toNat, by omega⟩
            have HQ := Lib.hid (hR.own.cells (g := g) rfl i (.int .i64 (a : Int)) (by rw [List.getElem?_map, List.getElem?_eq_getElem hlt]; rw [List.getD_eq_getElem?_getD, List.getElem?_eq_getElem hlt] at ha; simpa using ha))
            have o1 : wr.cell? ⟨g, i, none⟩ = some (.int .i64 (a : Int)) := by
              have e : (⟨g, 0, none⟩ : Addr).add i = ⟨g, i, none⟩ := by unfold Addr.add; split <;> simp_all
              rw [← e]; exact HQ.out
            have hak : a < k := by omega
            rw [ha] at hm
            have HA := Lib.hid ha
            have HM := Lib.hid hm
            clear HQ hh hm ha
            have hli : (i : Int) < (s.q.length : Int) := by omega
            have HR := Lib.hid hR
            clear hR
            go_wp2_with fail
            refine (HAT.out _ HR.out.below a (by omega)).mono ?_
            rintro e w8 ⟨rfl, hb8⟩
            clear o1 s0 s1 s2 s3
            have HR9 := Lib.hid ((HR.out.next hb8).far ((Below.refl _ _).alloc (Nat.le_refl _) (.cells #[.int .i16 (atV J a 0), .int .i16 (atV J a 1), .int .i16 (atV J a 2), .int .i16 (atV J a 3)] 30)) (heap_alloc_new w8 (.cells #[.int .i16 (atV J a 0), .int .i16 (atV J a 1), .int .i16 (atV J a 2), .int .i16 (atV J a 3)] 30)) (Nat.le_refl _))
            clear HR hb8
            go_upto_region 16 with fail
            generalize w8.alloc (.cells #[.int .i16 (atV J a 0), .int .i16 (atV J a 1), .int .i16 (atV J a 2), .int .i16 (atV J a 3)] 30) = w9 at *
            generalize w8.heap.size = bw at *
            go_wp2_with fail
            go_loopw [11] (fun jv wq => ∃ (j g cap : Nat), jv = .int .i64 j ∧ j ≤ M ∧ JMem J.length k [(bw, .cells #[.int .i16 (atV J a 0), .int .i16 (atV J a 1), .int .i16 (atV J a 2), .int .i16 (atV J a 3)] 30 (0, 0)), (gl, G)] w S T Z U (.slice (some ⟨g, 0, none⟩) (GS.part (nxJ J t) a s j).q.length cap) (GS.part (nxJ J t) a s j) wq) (fun jv _ => M - (intOf jv).toNat)
            case atStart => exact ⟨0, g, cap, rfl, Nat.zero_le _, HR9.out⟩
            case round =>
              clear HR9
              obtain ⟨j, g', cap', rfl, hj, hQ⟩ := hrel
              have HI2 := Lib.hid (HI.out.part (nx := nxJ J t) HM.out (fun j c => HNX.out a j c hak) j hj)
              have HN3 := Lib.hid (show GS.part (nxJ J t) a s (j + 1) = GS.one (nxJ J t) a (GS.part (nxJ J t) a s j) j from rfl)
              have hM2 := HI2.out.2.subset HM.out
              have HFULL := Lib.hid (fun (e : j = M) => (show GS.part (nxJ J t) a s j = GS.run (nxJ J t) M (GS.first k f) (i + 1) by rw [HNEXT.out hlt, HA.out, Int.toNat_natCast, e]))
              have HPRE := Lib.hid (show s.q.length ≤ (GS.part (nxJ J t) a s j).q.length from HI2.out.2.length_le)
              generalize hs2 : GS.part (nxJ J t) a s j = s2 at *
              have HS2 := Lib.hid hs2
              clear hs2
              by_cases hjM : j < M
              · have hli : (j : Int) < (M : Int) := by omega
                have HCC := Lib.hid (movC_bdJ J t (atV J a) (mvI (allM J.length) j).1 (mvI (allM J.length) j).2.1 (mvI (allM J.length) j).2.2)
                have HM8 := allM_M8 J.length HJ.out.1.2 j
                have HLI := Lib.hid (fun (W : World) (h : W.heap[gl]? = some G) => HMA.out W h j hjM)
                have HK := Lib.hid (fun W (h : Below wr.heap.size wr W) => HMV.out W (hQ.next h).below (atV J a) (at_ok HJ.out a) _ _ _ HM8)
                have HNJ := Lib.hid (show nxJ J t a j = if movC J t (atV J a) (mvI (allM J.length) j).1 (mvI (allM J.length) j).2.1 (mvI (allM J.length) j).2.2 = 0 then some (ixN J (movX J t (atV J a) (mvI (allM J.length) j).1 (mvI (allM J.length) j).2.1 (mvI (allM J.length) j).2.2)) else none from rfl)
                have HOK := Lib.hid (fun (h : movC J t (atV J a) (mvI (allM J.length) j).1 (mvI (allM J.length) j).2.1 (mvI (allM J.length) j).2.2 = 0) => (show OkX J _ from movX_okJ HJ.out (at_ok HJ.out a) h))
                clear HM8
                generalize movC J t (atV J a) (mvI (allM J.length) j).1 (mvI (allM J.length) j).2.1 (mvI (allM J.length) j).2.2 = C at *
                generalize movX J t (atV J a) (mvI (allM J.length) j).1 (mvI (allM J.length) j).2.1 (mvI (allM J.length) j).2.2 = E at *
                generalize hM3 : mvI (allM J.length) j = m3 at *
                obtain ⟨v0, v1, v2⟩ := m3
                have HM3 := Lib.hid hM3
                clear hM3
                simp only at HK HLI
                go_upto_region 19 with fail
                have keepS : ∀ W', Below wr.heap.size wr W' → (W'.cell? ⟨bw, 0, none⟩ = some (.int .i16 (atV J a 0)) ∧ W'.cell? ⟨bw, 1, none⟩ = some (.int .i16 (atV J a 1)) ∧ W'.cell? ⟨bw, 2, none⟩ = some (.int .i16 (atV J a 2)) ∧ W'.cell? ⟨bw, 3, none⟩ = some (.int .i16 (atV J a 3)) ∧ W'.cell? ⟨gl, j * 3, none⟩ = some (.int .i8 v0) ∧ W'.cell? ⟨gl, j * 3 + 1, none⟩ = some (.int .i8 v1) ∧ W'.cell? ⟨gl, j * 3 + 2, none⟩ = some (.int .i8 v2)) := fun W' h => by
                  have h1 := hQ.next h
                  have h2 := HLI.out W' h1.at2
                  have h3 : Blk W' bw #[.int .i16 (atV J a 0), .int .i16 (atV J a 1), .int .i16 (atV J a 2), .int .i16 (atV J a 3)] 30 := h1.at1
                  exact ⟨h3.cell 0, h3.cell 1, h3.cell 2, h3.cell 3, h2.1, h2.2.1, h2.2.2⟩
                go_cut [12, 13] (fun s12 s13 wx => ∃ Bq, s12 = .pointer (some ⟨Bq, 0, none⟩) ∧ s13 = .int .i64 C ∧ Below wr.heap.size wr wx ∧ wr.heap.size ≤ Bq ∧ Blk wx Bq #[.int .i16 (E 0), .int .i16 (E 1), .int .i16 (E 2), .int .i16 (E 3)] 30)
                case first =>
                  have HB0 := Lib.hid (show Below wr.heap.size wr wr.drew from (Below.refl _ _).drew)
                  have HBZ := Lib.hid (show Below wr.heap.size wr (wr.alloc (.cells #[.int .i16 0, .int .i16 0, .int .i16 0, .int .i16 0] 30)).drew from ((Below.refl _ _).alloc (Nat.le_refl _) _).drew)
                  have HZ0 := Lib.hid (show Blk (wr.alloc (.cells #[.int .i16 0, .int .i16 0, .int .i16 0, .int .i16 0] 30)).drew wr.heap.size #[.int .i16 0, .int .i16 0, .int .i16 0, .int .i16 0] 30 from blk_new wr #[.int .i16 0, .int .i16 0, .int .i16 0, .int .i16 0] 30)
                  go_region_held3 (fun W' => W'.cell? ⟨bw, 0, none⟩ = some (.int .i16 (atV J a 0)) ∧ W'.cell? ⟨bw, 1, none⟩ = some (.int .i16 (atV J a 1)) ∧ W'.cell? ⟨bw, 2, none⟩ = some (.int .i16 (atV J a 2)) ∧ W'.cell? ⟨bw, 3, none⟩ = some (.int .i16 (atV J a 3)) ∧ W'.cell? ⟨gl, j * 3, none⟩ = some (.int .i8 v0) ∧ W'.cell? ⟨gl, j * 3 + 1, none⟩ = some (.int .i8 v1) ∧ W'.cell? ⟨gl, j * 3 + 2, none⟩ = some (.int .i8 v2))
                    (exact keepS _ (by with_reducible first | assumption | exact HB0.out | exact HBZ.out | exact Below.alloc (by assumption) (Below.size (by assumption)) _ | exact below_set4J (by assumption)))
                    (first
                      | (go_at_call 59; with_reducible refine (HK.out _ (by with_reducible first | assumption | exact HB0.out | exact HBZ.out | exact Below.alloc (by assumption) (Below.size (by assumption)) _ | exact below_set4J (by assumption))).mono ?_; rintro e w4 ⟨rfl, hb4⟩; have hq := Below.trans (by with_reducible first | assumption | exact HB0.out | exact HBZ.out | exact Below.alloc (by assumption) (Below.size (by assumption)) _ | exact below_set4J (by assumption)) (hb4.mono (Below.size (by with_reducible first | assumption | exact HB0.out | exact HBZ.out | exact Below.alloc (by assumption) (Below.size (by assumption)) _ | exact below_set4J (by assumption)))); try (have hz1 := HZ0.out.below hb4 HZ0.out.lt; obtain ⟨zz0, zz1, zz2, zz3, zz4⟩ := hz1.four)))
                  all_goals (go_wp2_with fail; go_meet; first
                    | exact ⟨_, rfl, rfl, (by with_reducible first | assumption | exact HB0.out | exact HBZ.out | exact Below.alloc (by assumption) (Below.size (by assumption)) _ | exact below_set4J (by assumption)), Nat.le_refl _, (((hz1.set 0 _).set 1 _).set 2 _).set 3 _⟩
                    | exact ⟨_, rfl, rfl, (by with_reducible first | assumption | exact HB0.out | exact HBZ.out | exact Below.alloc (by assumption) (Below.size (by assumption)) _ | exact below_set4J (by assumption)), Below.size (by assumption), blk_new _ _ _⟩)
                case rest =>
                  obtain ⟨Bq, rfl, rfl, hbx, hBq, hEb⟩ := hcut
                  have hR := hQ.next hbx
                  have hli2 := HLI.out _ hR.at2
                  clear hQ keepS hbx HK hBq
                  obtain ⟨e0, e1, e2, e3, -⟩ := hEb.four
                  have hC := HCC.out
                  clear hEb
                  by_cases hC0 : C = 0
                  · have HNJ2 := Lib.hid (show nxJ J t a j = some (ixN J E) by rw [HNJ.out, if_pos hC0])
                    have htk : ixN J E < k := HNX.out a j _ hak HNJ2.out
                    have HEQ := Lib.hid (ixN_eq HJ.out (HOK.out hC0)).1
                    have HOE := Lib.hid (HOK.out hC0)
                    generalize ixN J E = te at *
                    clear HNJ HOK HCC hC
                    subst hC0
                    have HR := Lib.hid hR
                    have HLI2 := Lib.hid hli2
                    clear hR hli2
                    go_wp2_with fail
                    refine (HIX.out _ HR.out.below E HOE.out).mono ?_
                    rintro e w5 ⟨rfl, hb5⟩
                    rw [← HEQ.out]
                    have hR5 := HR.out.next hb5
                    clear HR hb5 e0 e1 e2 e3 HLI2
                    have hfar := HI2.out.1.far te htk
                    have t1 : w5.cell? ⟨T, te, none⟩ = some (.int .i16 (s2.tb.getD te 0)) := by
                      rw [hR5.bT.cell]; exact ncells_get _ _ _ (by rw [HI2.out.1.tb]; exact htk)
                    obtain ⟨s0, s1, s2', s3, -⟩ := hR5.bS.four
                    have htk' : (te : Int) < (k : Int) := by omega
                    by_cases hkn : 0 ≤ s2.tb.getD te 0
                    · have HN4 := Lib.hid (show GS.part (nxJ J t) a s (j + 1) = s2 by rw [HN3.out]; unfold GS.one; rw [HNJ2.out]; show GS.find _ _ _ _ = _; unfold GS.find; rw [if_neg (by omega)])
                      have HR5 := Lib.hid hR5
                      clear hR5
                      generalize hv : s2.tb.getD te 0 = vv at *
                      clear hv
                      go_wp2
                      go_roundw
                      case rel => exact ⟨j + 1, g', cap', by go_num, by omega, by rw [HN4.out]; exact HR5.out⟩
                      case measure => simp [intOf]; omega
                    · have hneg : s2.tb.getD te 0 = -1 := by omega
                      have HN4 := Lib.hid (show GS.part (nxJ J t) a s (j + 1) = s2.find a te j by rw [HN3.out]; unfold GS.one; rw [HNJ2.out])
                      have hat := HI2.out.1.here _ hM2
                      rw [Int.toNat_natCast] at hat
                      have hat2 := hat.2.2
                      have hfa := (HI2.out.1.far a hak).2
                      have hsh := HI2.out.1.short
                      have t3 : w5.cell? ⟨T, a, none⟩ = some (.int .i16 (s2.tb.getD a 0)) := by
                        rw [hR5.bT.cell]; exact ncells_get _ _ _ (by rw [HI2.out.1.tb]; exact hak)
                      have HT2 := Lib.hid (And.intro HI2.out.1.tb (And.intro HI2.out.1.fr HI2.out.1.mv))
                      have HNEG := Lib.hid hneg
                      rw [hneg] at t1
                      have hak2 : (a : Int) < (k : Int) := by omega
                      clear hat hneg hfar
                      have HR5 := Lib.hid hR5
                      clear hR5
                      generalize hva : s2.tb.getD a 0 = va at *
                      have HVA := Lib.hid hva
                      clear hva
                      have hwr : IntKind.i16.wrap (va + 1) = va + 1 := IntWalk.i16_in _ (by omega)
                      go_upto_region 23 with fail
                      go_still_tail 14, (by kernel_rfl)
                      change wpList _ _ _ _ _ w5.drew
                      have HR6 := Lib.hid (HR5.out.next (Below.refl _ _).drew)
                      clear t1 t3 s0 s1 s2' s3 HR5
                      generalize w5.drew = w6 at *
                      have t1 : w6.cell? ⟨T, te, none⟩ = some (.int .i16 (s2.tb.getD te 0)) := by
                        rw [HR6.out.bT.cell]; exact ncells_get _ _ _ (by rw [HT2.out.1]; exact htk)
                      have t2 := HR6.out.bT.free te
                      have HR7 := Lib.hid (HR6.out.setT (i := te) (by rw [HT2.out.1]; exact htk) (va + 1))
                      go_upto_region 24 with fail
                      clear t1 t2 HR6 hwr
                      generalize w6.setCell ⟨T, te, none⟩ (.int .i16 (va + 1)) = w7 at *
                      obtain ⟨s0, s1, s2', s3, -⟩ := HR7.out.bS.four
                      have t1 : w7.cell? ⟨Z, te, none⟩ = some (.int .i64 (s2.fr.getD te 0)) := by
                        rw [HR7.out.bZ.cell]; exact ncells_get _ _ _ (by rw [HT2.out.2.1]; exact htk)
                      have t2 := HR7.out.bZ.free te
                      have HR8 := Lib.hid (HR7.out.setZ (i := te) (show te < s2.fr.length by rw [HT2.out.2.1]; exact htk) (a : Int))
                      go_upto_region 25 with fail
                      clear t1 t2 s0 s1 s2' s3 HR7
                      generalize w7.setCell ⟨Z, te, none⟩ (.int .i64 (a : Int)) = w8' at *
                      obtain ⟨s0, s1, s2', s3, -⟩ := HR8.out.bS.four
                      have hli3 := HLI.out _ HR8.out.at2
                      go_still_tail 10, (by kernel_rfl)
                      change wpList _ _ _ _ _ w8'.drew
                      have HR9 := Lib.hid (HR8.out.next (Below.refl _ _).drew)
                      clear s0 s1 s2' s3 HR8 hli3
                      generalize w8'.drew = wa at *
                      have t0 := mcells_get (mvL J.length s2.mv) (te * 3) (by rw [mvL_len, HT2.out.2.2]; omega)
                      have t1 := mcells_get (mvL J.length s2.mv) (te * 3 + 1) (by rw [mvL_len, HT2.out.2.2]; omega)
                      have t2 := mcells_get (mvL J.length s2.mv) (te * 3 + 2) (by rw [mvL_len, HT2.out.2.2]; omega)
                      have hbU : Blk wa U (mcells (mvL J.length s2.mv)) 78 := HR9.out.bU
                      rw [← hbU.cell] at t0 t1 t2
                      have t3 := hbU.free (te * 3)
                      have t4 := hbU.free (te * 3 + 1)
                      have t5 := hbU.free (te * 3 + 2)
                      have HRa := Lib.hid (HR9.out.setU (i := te) (show te < s2.mv.length by rw [HT2.out.2.2]; exact htk) j HM3.out)
                      clear hbU
                      go_upto_region 26 with fail
                      clear t0 t1 t2 t3 t4 t5 HR9
                      generalize (((wa.setCell ⟨U, te * 3, none⟩ (.int .i8 v0)).setCell ⟨U, te * 3 + 1, none⟩ (.int .i8 v1)).setCell ⟨U, te * 3 + 2, none⟩ (.int .i8 v2)) = wb at *
                      have HFD := Lib.hid (show s2.find a te j = GS.mk (s2.tb.set te (va + 1)) (s2.fr.set te (a : Int)) (s2.mv.set te (j : Int)) (s2.q ++ [(te : Int)]) by unfold GS.find; rw [if_pos (by rw [HNEG.out]; decide), HVA.out])
                      obtain ⟨s0, s1, s2', s3, s4⟩ := HRa.out.bS.four
                      have hsz := HRa.out.below.size
                      go_wp2_with (at_builtin; refine wpList_append_lies _ rfl _ _ 48 rfl w.heap.size 2 i0 (.int .i64 0) 1 8 Try.underlying48 hi0 hz0 hz1 hz2 rfl (by decide) _ _ _ rfl (HRa.out.own.alloc _) ⟨wb.heap.size, 0, none⟩ 1 1 [.int .i64 (te : Int)] rfl rfl (World.news_of_block (cs := #[.int .i64 (te : Int)]) (t := 2) (fr := (0, 0)) (heap_alloc_new wb _)) (by simp [Value.oneCell']) (by decide) (by show s2.q.length + 1 ≤ maxLen; unfold maxLen; omega) (by show (s2.q.length + 1) * 8 ≤ 140737488355328; omega) (by simp; omega) (wb.heap.size + 1) (by simp) ?_)
                      intro g2 cap2 wd hown5 hgrow5 hat5 hlt5
                      have HRb := Lib.hid (JMem.push HRa.out hown5 hgrow5 hat5 (by omega))
                      have hS5 := JMem.pushS HRa.out hgrow5
                      obtain ⟨u0, u1, u2, u3, u4⟩ := hS5.four
                      have u5 := u4 3
                      clear HRa s0 s1 s2' s3 s4 hsz hown5 hgrow5 hat5 hS5 u0 u1 u2 u4
                      go_wp2
                      go_roundw
                      case rel => exact ⟨j + 1, g2, cap2, by go_num, by omega, by rw [HN4.out, HFD.out]; show JMem _ _ _ _ _ _ _ _ (Value.slice (some ⟨g2, 0, none⟩) (s2.q ++ [(te : Int)]).length cap2) _ _; rw [List.length_append]; exact HRb.out⟩
                      case measure => simp [intOf]; omega
                  · have HN4 := Lib.hid (show GS.part (nxJ J t) a s (j + 1) = s2 by rw [HN3.out]; unfold GS.one; rw [HNJ.out, if_neg hC0])
                    have HR := Lib.hid hR
                    clear hR hli2 e0 e1 e2 e3
                    have hCb : ((C == 0) = false) := by simpa using hC0
                    go_wp2
                    go_roundw
                    case rel => exact ⟨j + 1, g', cap', by go_num, by omega, by rw [HN4.out]; exact HR.out⟩
                    case measure => simp [intOf]; omega
              · obtain rfl : j = M := by omega
                have HR := Lib.hid hQ
                have hpre := HPRE.out
                have hfull := HFULL.out rfl
                clear hQ
                go_wp2
                go_roundw
                case rel => exact ⟨i + 1, g', cap', by go_num, by rw [← hfull]; omega, by rw [← hfull]; exact HR.out.sub (by simp)⟩
                case measure => simp [intOf]; omega
          · have he := HALLI.out (by omega)
            have HE := Lib.hid (show JMem J.length k [] w S T Z U (.slice (some ⟨g, 0, none⟩) s.q.length cap) (GS.all (nxJ J t) M k f) wr from he ▸ hR.sub (by simp))
            clear he hR
            go_wp2
            go_ret
            exact ⟨S, T, Z, U, _, rfl, by rw [HMM.out, HF.out]; exact HE.out⟩
end Go.Proofs.Ytjmgalmndpjcoaa
