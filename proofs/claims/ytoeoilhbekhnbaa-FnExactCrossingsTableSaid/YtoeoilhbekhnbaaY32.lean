/-
  The model's search of ferries: its walk.
-/
import Derived.Test.YtoeoilhbekhnbaaY31
import Derived.StillTailTactics
namespace Go.Proofs.Ytoeoilhbekhnbaa
open Go.RowKit
set_option maxRecDepth 100000
set_option linter.unusedVariables false

theorem LMem.made {w w5 : World} {S T Y Z U N : Nat} {s : St} (h : Mem w S T Y Z U N s w5) (a : Int) : LMem [] w S T Y Z U N (.slice (some ⟨w5.heap.size, 0, none⟩) 1 1) { s with q := [a] } (w5.alloc (.cells #[.int .i64 a] 2)) := by
  have h1 := h.next ((Below.refl _ w5).alloc (Nat.le_refl _) (.cells #[.int .i64 a] 2))
  refine ⟨⟨h1.below, h1.five, h1.lo, h1.bS, h1.bT, h1.bY, h1.bZ, h1.bU⟩, ⟨rfl, .inr ⟨w5.heap.size, 1, _, rfl, h.below.size, blk_new w5 _ _, Nat.le_refl _, by decide, rfl, rfl⟩⟩, ?_, fun p hp => by cases hp⟩
  have l1 := h.bS.lt
  have l2 := h.bT.lt
  have l3 := h.bY.lt
  have l4 := h.bZ.lt
  have l5 := h.bU.lt
  have h9 : ∀ b, b < w5.heap.size → (Value.slice (some ⟨w5.heap.size, 0, none⟩) 1 1).ownBlock ≠ some b := fun b hb e => by
    have e2 : w5.heap.size = b := Option.some.inj e
    omega
  exact ⟨h9 _ l1, h9 _ l2, h9 _ l3, h9 _ l4, h9 _ l5⟩
set_option maxHeartbeats 8000000 in
theorem l05Find_any (fb : Nat) (l k : Int) (a : Option Addr) (c : Nat) (xs : List Int) (N : Nat) (w : World) (K : Blk w fb #[.int .i8 l, .int .i8 k, .slice a xs.length c] 30) (hs : Sl .u16 w.heap.size w a xs) (hn : xs.length ≤ 1048576) (hl : 1 ≤ l ∧ l ≤ 8) (hk : 0 ≤ k ∧ k ≤ 8) (hN : (N : Int) = 2 * (allI l + 1)) :
    Calls Try.prog 34 #[.pointer (some ⟨fb, 0, none⟩)] w fun e w' => ∃ S T Y Z U, e = .returned (.pointer (some ⟨S, 0, none⟩)) ∧ Mem w S T Y Z U N (stA l k xs N) w' := by
  have hal := allI_le hl
  have HK := Lib.hid (fun W (hW : Below w.heap.size w W) => And.intro (K.below hW K.lt) (hs.up hW (Nat.le_refl _)))
  have HA := Lib.hid (fun W (hW : Below w.heap.size w W) => l05All_any fb l _ _ W (HK.out W hW).1 hl)
  have HAt := Lib.hid (fun (W : World) (i : Nat) (hW : Below w.heap.size w W) (hi : i < N) => l05At_any fb l _ _ (i : Int) W (HK.out W hW).1 hl ⟨by omega, by omega⟩)
  have HLo := Lib.hid (fun (W : World) (i : Nat) (hW : Below w.heap.size w W) => l05Loads_any fb l k a c xs (bkN l i) (bkF l i) W (HK.out W hW).1 (HK.out W hW).2 hn hl hk (near_bk hl i))
  have HCr := Lib.hid (fun (W : World) (i : Nat) (x : Int) (hW : Below w.heap.size w W) (hx : x ∈ ldA l k xs (bkN l i) (bkF l i)) => by
    have h0 := nx_lt hl hx
    have h := l05Cross_any fb l k a c xs (bkN l i) (bkF l i) x W (HK.out W hW).1 (HK.out W hW).2 hn hl hk h0.2.2.2 (near_bk hl i)
    rw [(cr_0 h0.2.2.1).1, (cr_0 h0.2.2.1).2.1, h0.2.2.1] at h
    exact h)
  have HIn := Lib.hid (fun (W : World) (i : Nat) (x : Int) (hW : Below w.heap.size w W) => l05Index_any fb l _ _ (xorI (bkN l i) x) (!(bkF l i)) W (HK.out W hW).1 hl (xor_16 (bkN l i) x))
  have HNX := Lib.hid (fun (i : Nat) (x : Int) (h : x ∈ ldA l k xs (bkN l i) (bkF l i)) => (show 0 ≤ nxI l (bkN l i) (bkF l i) x ∧ nxI l (bkN l i) (bkF l i) x < N ∧ 0 ≤ x ∧ x ≤ 65535 by have h1 := nx_lt hl h; omega))
  have HINV := Lib.hid (fun i => ((Inv.first (N := N) (f := (allI l).toNat) (by omega)).run (k := k) (xs := xs) hl hN i).1)
  have HPI := Lib.hid (fun (s : St) (h : Inv N s) (a : Nat) (ha : (a : Int) ∈ s.q) (p : Nat) => stP_inv (k := k) (xs := xs) h hl hN ha p)
  have HALL := Lib.hid (fun i h => stA_of (k := k) (xs := xs) (N := N) (i := i) hl hN h)
  have HNEXT := Lib.hid (fun i h => run_next (l := l) (k := k) (xs := xs) (s := St.first N (allI l).toNat) (i := i) h)
  have HLN := Lib.hid (fun (i : Nat) => (show (ldA l k xs (bkN l i) (bkF l i)).length ≤ 256 by have h1 := ldT_len l k xs (bkN l i) (bkF l i) ((allI l).toNat + 1); unfold ldA; omega))
  obtain ⟨al, hal2⟩ : ∃ al : Nat, allI l = al := ⟨(allI l).toNat, by omega⟩
  have hNN : N ≤ 512 := by omega
  have m16 := run_make_row' (P := Try.prog) 27 58 (.int .i16 0) 2 Try.underlying27 info_s16 rfl .i64 .i64 N (by omega) (by omega)
  have m64 := run_make_row' (P := Try.prog) 50 2 (.int .i64 0) 8 Try.underlying50 info_s64 rfl .i64 .i64 N (by omega) (by omega)
  have mu16 := run_make_row' (P := Try.prog) 23 62 (.int .u16 0) 2 Try.underlying23 Try.info_u16 rfl .i64 .i64 N (by omega) (by omega)
  rw [made_ncells] at m16 m64 mu16
  have h2N : 2 * ((al : Int) + 1) = (N : Int) := by omega
  have halN : al < N := by omega
  rw [hal2] at HA hal
  have haT : (allI l).toNat = al := by omega
  rw [haT] at HINV HALL HNEXT
  clear K hs hk hl haT hN hal2
  go_enter Try.func34, Try.ntmps34
  go_wp2_with fail
  refine (HA.out _ (Below.refl _ _)).mono ?_
  rintro e w2 ⟨rfl, rfl⟩
  go_upto_region 2 with fail
  go_cut [4] (fun s wx => ∃ S T Y Z U, s = .pointer (some ⟨S, 0, none⟩) ∧ Mem w S T Y Z U N (St.none N) wx)
  case first =>
    go_region
    all_goals
      go_wp2_with fail
      go_meet
      refine ⟨_, _, _, _, _, rfl, Mem.made (blk_dw (blk_at ?_)) ?_ ?_ ?_ ?_ ?_ ?_ ?_⟩
      · simp
      · repeat (first | (refine blk_at ?_; simp; done) | refine blk_dw ?_ | refine Blk.alloc ?_ _)
      · repeat (first | (refine blk_at ?_; simp; done) | refine blk_dw ?_ | refine Blk.alloc ?_ _)
      · repeat (first | (refine blk_at ?_; simp; done) | refine blk_dw ?_ | refine Blk.alloc ?_ _)
      · repeat (first | (refine blk_at ?_; simp; done) | refine blk_dw ?_ | refine Blk.alloc ?_ _)
      · repeat (first | exact Below.refl _ _ | refine Below.drew ?_ | refine Below.alloc ?_ (by simp <;> omega) _)
      · omega
      · omega
  case rest =>
    obtain ⟨S, T, Y, Z, U, rfl, hM0⟩ := hcut
    have hM := Lib.hid hM0
    clear hM0 m16 m64 mu16
    go_wp2_with fail
    go_loopw [5] (fun i wr => ∃ k : Nat, i = .int .i64 k ∧ k ≤ N ∧ Mem w S T Y Z U N (St.fill N k) wr) (fun i _ => N - (intOf i).toNat)
    case atStart => exact ⟨0, rfl, Nat.zero_le _, by rw [St.fill_zero]; exact hM.out⟩
    case round =>
      obtain ⟨k', rfl, hk, hR⟩ := hrel
      clear hM
      by_cases hlt : k' < N
      · have hkn : (k' : Int) < (N : Int) := by omega
        obtain ⟨s0, -, -, -, -⟩ := hR.bS.four
        have t1 : wr.cell? ⟨T, k', none⟩ = some (.int .i16 ((St.fill N k').tb.getD k' 0)) := by
          rw [hR.bT.cell]; exact ncells_get _ _ _ (by rw [(St.fill_len hk).1]; exact hlt)
        have t2 := hR.bT.free k'
        have HN2 := Lib.hid (show Mem w S T Y Z U N (St.fill N (k' + 1)) _ from (St.fill_next hlt) ▸ hR.setT (i := k') (by rw [(St.fill_len hk).1]; exact hlt) (-1))
        clear hR
        go_wp2
        go_roundw
        case rel => exact ⟨k' + 1, by go_num, by omega, HN2.out⟩
        case measure => simp [intOf]; omega
      · obtain rfl : k' = N := by omega
        have HR := Lib.hid hR
        clear hR hk
        go_wp2_with fail
        refine (HA.out _ HR.out.below).mono ?_
        rintro e w3 ⟨rfl, rfl⟩
        obtain ⟨s0, s1, -, -, -⟩ := HR.out.bS.four
        have t1 : wr.cell? ⟨T, al, none⟩ = some (.int .i16 ((St.fill k' k').tb.getD al 0)) := by
          rw [HR.out.bT.cell]; exact ncells_get _ _ _ (by rw [(St.fill_len (Nat.le_refl _)).1]; exact halN)
        have t2 := HR.out.bT.free al
        have HR4 := Lib.hid (HR.out.setT (i := al) (by rw [(St.fill_len (Nat.le_refl _)).1]; exact halN) 0)
        have hali : (al : Int) < (k' : Int) := by omega
        go_upto_region 9 with fail
        clear HR s0 s1 t1 t2
        generalize wr.setCell ⟨T, al, none⟩ (.int .i16 0) = w4 at *
        obtain ⟨s0, s1, -, -, -⟩ := HR4.out.bS.four
        have t1 : w4.cell? ⟨Y, al, none⟩ = some (.int .i64 ((St.fill k' k').wy.getD al 0)) := by
          rw [HR4.out.bY.cell]; exact ncells_get _ _ _ (by show al < (St.fill k' k').wy.length; rw [(St.fill_len (Nat.le_refl _)).2]; exact halN)
        have t2 := HR4.out.bY.free al
        have HR5 := Lib.hid (HR4.out.setY (i := al) (by show al < (St.fill k' k').wy.length; rw [(St.fill_len (Nat.le_refl _)).2]; exact halN) 1)
        go_upto_region 10 with fail
        clear HR4 s0 s1 t1 t2
        generalize w4.setCell ⟨Y, al, none⟩ (.int .i64 1) = w5 at *
        have HR6 := Lib.hid (show LMem [] w S T Y Z U k' (.slice (some ⟨w5.heap.size, 0, none⟩) 1 1) (St.first k' al) (w5.alloc (.cells #[.int .i64 (al : Int)] 2)) by rw [← St.fill_all]; exact LMem.made HR5.out _)
        clear HR5
        go_upto_region 12 with fail
        generalize w5.alloc (.cells #[.int .i64 (al : Int)] 2) = w6 at *
        generalize w5.heap.size = g0 at *
        go_wp2_with fail
        go_loopw [7, 8] (fun qv kv wr => ∃ (i g cap : Nat), kv = .int .i64 i ∧ qv = .slice (some ⟨g, 0, none⟩) (St.run l k xs (St.first k' al) i).q.length cap ∧ i ≤ (St.run l k xs (St.first k' al) i).q.length ∧ LMem [] w S T Y Z U k' (.slice (some ⟨g, 0, none⟩) (St.run l k xs (St.first k' al) i).q.length cap) (St.run l k xs (St.first k' al) i) wr) (fun _ kv _ => k' - (intOf kv).toNat)
        case atStart => exact ⟨0, g0, 1, rfl, rfl, Nat.zero_le _, HR6.out⟩
        case round =>
          clear HR6
          obtain ⟨i, g, cap, rfl, rfl, hi, hR⟩ := hrel
          have HI := Lib.hid (HINV.out i)
          have HNX1 := Lib.hid (HNEXT.out i)
          have HALLI := Lib.hid (HALL.out i)
          generalize hs : St.run l k xs (St.first k' al) i = s at *
          have HS := Lib.hid hs
          clear hs
          have hshort := HI.out.short
          by_cases hlt : i < s.q.length
          · have hm := st_mem hlt
            have hh := HI.out.here _ hm
            obtain ⟨a, ha⟩ : ∃ a : Nat, s.q.getD i 0 = a := ⟨(s.q.getD i 0).toNat, by omega⟩
            have o1 : wr.cell? ⟨g, i, none⟩ = some (.int .i64 (a : Int)) := by
              have h9 := hR.own.cells (g := g) rfl i (.int .i64 (a : Int)) (by rw [List.getElem?_map, List.getElem?_eq_getElem hlt]; rw [List.getD_eq_getElem?_getD, List.getElem?_eq_getElem hlt] at ha; simpa using ha)
              have e : (⟨g, 0, none⟩ : Addr).add i = ⟨g, i, none⟩ := by unfold Addr.add; split <;> simp_all
              rw [← e]; exact h9
            have hak : a < k' := by omega
            have hak0 : (a : Int) < (k' : Int) := by omega
            rw [ha] at hm
            have HA' := Lib.hid ha
            have HM := Lib.hid hm
            clear hh hm ha
            have hli : (i : Int) < (s.q.length : Int) := by omega
            have HR := Lib.hid hR
            clear hR
            go_wp2_with fail
            refine (HAt.out _ a HR.out.mem.below hak).mono ?_
            rintro e w8 ⟨rfl, hb8⟩
            clear o1
            have HR9 := Lib.hid ((HR.out.next hb8).far ((Below.refl _ _).alloc (Nat.le_refl _) (.cells #[.int .u16 (bkN l a), .bool (bkF l a)] 64)) (heap_alloc_new w8 (.cells #[.int .u16 (bkN l a), .bool (bkF l a)] 64)) (Nat.le_refl _))
            clear HR hb8
            go_upto_region 16 with fail
            generalize w8.alloc (.cells #[.int .u16 (bkN l a), .bool (bkF l a)] 64) = w9 at *
            generalize w8.heap.size = nb at *
            have hnbk : Blk w9 nb #[.int .u16 (bkN l a), .bool (bkF l a)] 64 := HR9.out.at1
            obtain ⟨g0', g1', -⟩ := hnbk.two
            clear hnbk
            have HLL := Lib.hid (HLo.out w9 a HR9.out.mem.below)
            have HPI2 := Lib.hid (HPI.out s HI.out a HM.out)
            have HBK := Lib.hid (show ldA l k xs (bkN l a) (bkF l a) = ldA l k xs (bkN l a) (bkF l a) from rfl)
            have HCr2 := Lib.hid (fun W x hW hx => HCr.out W a x hW hx)
            have HNX2 := Lib.hid (fun x h => HNX.out a x h)
            have HNX3 := Lib.hid (show i < s.q.length → St.run l k xs (St.first k' al) (i + 1) = (ldA l k xs (bkN l a) (bkF l a)).foldl (St.one l a) s from fun h => by rw [HNX1.out h, HA'.out, Int.toNat_natCast]; rfl)
            have hln := HLN.out a
            generalize ldA l k xs (bkN l a) (bkF l a) = LL at *
            clear HCr HNX HBK HPI HNX1
            obtain ⟨ln, hln2⟩ : ∃ ln, LL.length = ln := ⟨_, rfl⟩
            go_wp2_with fail
            refine HLL.out.mono ?_
            rintro e w5 ⟨v8, rfl, hov, hb5⟩
            clear g0' g1'
            obtain ⟨sa, sc, gl, G, rfl, HR5', HX'⟩ : ∃ sa sc gl G, v8 = .slice sa ln sc ∧ LMem [(gl, G), (nb, .cells #[.int .u16 (bkN l a), .bool (bkF l a)] 64 (0, 0))] w S T Y Z U k' (.slice (some ⟨g, 0, none⟩) s.q.length cap) s w5 ∧ ∀ p, p < ln → sa = some ⟨gl, 0, none⟩ ∧ ∀ W : World, W.heap[gl]? = some G → W.cell? ⟨gl, p, none⟩ = some (.int .u16 (LL.getD p 0)) := by
              rcases hov with ⟨h1, a', c', h2⟩ | ⟨b', c', h1, h2, h3, h4, h5⟩
              · subst h1
                subst hln2
                exact ⟨a', c', nb, .cells #[.int .u16 (bkN l a), .bool (bkF l a)] 64 (0, 0), h2, (HR9.out.next hb5).sub (by simp), fun p hp => by simp at hp⟩
              · obtain ⟨G, hG⟩ : ∃ G, w5.heap[b']? = some G := ⟨_, Array.getElem?_eq_getElem h3⟩
                refine ⟨_, c', b', G, by rw [← hln2]; exact h1, HR9.out.far hb5 hG h2, fun p hp => ⟨rfl, fun W hW => ?_⟩⟩
                have h0 := h4 p (by omega)
                rw [Nat.zero_add] at h0
                exact (World.cell?_of_block (w := w5) (a := ⟨b', p, none⟩) (hW.trans hG.symm)).trans h0
            have HR5 := Lib.hid HR5'
            have HX := Lib.hid HX'
            have HLN2 := Lib.hid hln2
            clear hov hb5 HR9 HLL HR5' HX'
            rw [hln2] at hln
            clear hln2
            go_wp2_with fail
            go_loopw [7, 12] (fun qv pv wq => ∃ (p g cap : Nat), pv = .int .i64 p ∧ qv = .slice (some ⟨g, 0, none⟩) (stP l a s LL p).q.length cap ∧ p ≤ ln ∧ LMem [(gl, G), (nb, .cells #[.int .u16 (bkN l a), .bool (bkF l a)] 64 (0, 0))] w S T Y Z U k' (.slice (some ⟨g, 0, none⟩) (stP l a s LL p).q.length cap) (stP l a s LL p) wq) (fun _ pv _ => ln - (intOf pv).toNat)
            case atStart => exact ⟨0, g, cap, rfl, rfl, Nat.zero_le _, HR5.out⟩
            case round =>
              clear HR5
              obtain ⟨p, g', cap', rfl, rfl, hp, hQ⟩ := hrel
              have HI2 := Lib.hid (HPI2.out p)
              have HN3 := Lib.hid (fun h => stP_next (l := l) (a := a) (s := s) (LL := LL) (p := p) h)
              have HFULL := Lib.hid (show p = ln → stP l a s LL p = St.run l k xs (St.first k' al) (i + 1) from fun e => by rw [HNX3.out hlt]; exact stP_all (by rw [HLN2.out, e]; exact Nat.le_refl _))
              have hM2 := HI2.out.2.subset HM.out
              have HPRE := Lib.hid (show s.q.length ≤ (stP l a s LL p).q.length from HI2.out.2.length_le)
              generalize hs2 : stP l a s LL p = s2 at *
              have HS2 := Lib.hid hs2
              clear hs2
              by_cases hpl : p < ln
              · have hplz : (p : Int) < (ln : Int) := by omega
                have hpL : p < LL.length := by rw [HLN2.out]; exact hpl
                obtain ⟨rfl, hx0⟩ := HX.out p hpl
                have HXC := Lib.hid hx0
                have hxm : LL.getD p 0 ∈ LL := by
                  rw [List.getD_eq_getElem?_getD, List.getElem?_eq_getElem hpL]
                  exact List.getElem_mem hpL
                have hnx := HNX2.out _ hxm
                have HN5 := Lib.hid (HN3.out hpL)
                have HCx := Lib.hid (fun W hW => HCr2.out W _ hW hxm)
                have HIx := Lib.hid (fun W hW => HIn.out W a (LL.getD p 0) hW)
                clear hx0 hxm HN3 hpL HFULL HPRE
                generalize LL.getD p 0 = x at *
                obtain ⟨q, hq⟩ : ∃ q : Nat, nxI l (bkN l a) (bkF l a) x = q := ⟨(nxI l (bkN l a) (bkF l a) x).toNat, by omega⟩
                have HQ := Lib.hid (show nmI l (xorI (bkN l a) x) (!(bkF l a)) = (q : Int) from hq)
                have hqT : (nxI l (bkN l a) (bkF l a) x).toNat = q := by omega
                rw [HQ.out] at HIx
                have hqk : q < k' := by omega
                have hqk0 : (q : Int) < (k' : Int) := by omega
                have HO1 := Lib.hid (fun h1 h2 => one_same (l := l) (a := a) (s := s2) (x := x) h1 h2)
                have HO2 := Lib.hid (fun h1 h2 => one_more (l := l) (a := a) (s := s2) (x := x) h1 h2)
                have HO3 := Lib.hid (fun h1 h2 h3 => one_new (l := l) (a := a) (s := s2) (x := x) h1 h2 h3)
                rw [hqT] at HO1 HO2 HO3
                clear hnx hq hqT
                have F0 := FR.start wr
                have HQM := Lib.hid hQ
                have HC4 := Lib.hid (fun (L : List (Nat × Array Value × TypeId)) (W : World) (h : FR wr L W) => Calls.fr h (HCx.out W (hQ.next h.below).mem.below))
                have keepS : ∀ (L : List (Nat × Array Value × TypeId)) (W' : World), FR wr L W' → (W'.cell? ⟨nb, 0, none⟩ = some (.int .u16 (bkN l a)) ∧ W'.cell? ⟨nb, 1, none⟩ = some (.bool (bkF l a)) ∧ W'.cell? ⟨gl, p, none⟩ = some (.int .u16 x)) := fun L W' h => by
                  have h1 := hQ.next h.below
                  have h3 : Blk W' nb #[.int .u16 (bkN l a), .bool (bkF l a)] 64 := h1.at2
                  exact ⟨h3.cell 0, h3.cell 1, HXC.out W' h1.at1⟩
                obtain ⟨g0, g1, g2⟩ := keepS _ _ F0
                clear hQ HCx
                go_upto_region 20 with fail
                go_cut [13, 14] (fun s10 s11 wx => ∃ B, s10 = .pointer (some ⟨B, 0, none⟩) ∧ s11 = .int .i64 0 ∧ FR wr [(B, #[.int .u16 (xorI (bkN l a) x), .bool (!(bkF l a))], 64)] wx)
                case first =>
                  go_region_held3 (fun w' => w'.cell? ⟨nb, 0, none⟩ = some (.int .u16 (bkN l a)) ∧ w'.cell? ⟨nb, 1, none⟩ = some (.bool (bkF l a)) ∧ w'.cell? ⟨gl, p, none⟩ = some (.int .u16 x))
                    (exact keepS _ _ (by first | assumption | exact FR.drew (by assumption) | exact FR.drew (FR.box (by assumption) _ _) | exact FR.drew (FR.bank (by assumption)) | exact FR.box (by first | assumption | exact FR.drew (by assumption)) _ _ | exact FR.bank (by first | assumption | exact FR.box (by assumption) _ _)))
                    (first
                      | (go_at_call 52; with_reducible refine (HC4.out _ _ (by first | assumption | exact FR.drew (by assumption) | exact FR.drew (FR.box (by assumption) _ _) | exact FR.drew (FR.bank (by assumption)) | exact FR.box (by first | assumption | exact FR.drew (by assumption)) _ _ | exact FR.bank (by first | assumption | exact FR.box (by assumption) _ _))).mono ?_; rintro e w8 ⟨rfl, F5⟩; try (obtain ⟨zz0, zz1, zz2⟩ := (F5.blk _ List.mem_cons_self).two)))
                  all_goals (go_wp2_with fail; go_meet; exact ⟨_, rfl, rfl, (by first | assumption | exact FR.drew (by assumption) | exact FR.drew (FR.box (by assumption) _ _) | exact FR.drew (FR.bank (by assumption)) | exact FR.box (by first | assumption | exact FR.drew (by assumption)) _ _ | exact FR.bank (by first | assumption | exact FR.box (by assumption) _ _))⟩)
                case rest =>
                  obtain ⟨B, rfl, rfl, F6⟩ := hcut
                  obtain ⟨e0, e1, -⟩ := (F6.blk _ List.mem_cons_self).two
                  clear g0 g1 g2 keepS HC4 F0
                  go_wp2_with fail
                  refine (Calls.fr F6 (HIx.out _ (HQM.out.next F6.below).mem.below)).mono ?_
                  rintro e w9 ⟨rfl, F7⟩
                  have HR7 := Lib.hid (HQM.out.next F7.below)
                  clear e0 e1 F6 F7 HQM HIx
                  have HT2 := Lib.hid (And.intro HI2.out.1.tb (And.intro HI2.out.1.wy (And.intro HI2.out.1.fr HI2.out.1.by')))
                  have hat := HI2.out.1.here _ hM2
                  rw [Int.toNat_natCast] at hat
                  have hat2 := hat.2.2
                  have hfa := (HI2.out.1.far a hak).2
                  have hfq := HI2.out.1.far q hqk
                  have hsh := HI2.out.1.short
                  clear hat
                  obtain ⟨va, hva⟩ : ∃ va, s2.tb.getD a 0 = va := ⟨_, rfl⟩
                  obtain ⟨vq, hvq⟩ : ∃ vq, s2.tb.getD q 0 = vq := ⟨_, rfl⟩
                  rw [hva] at HO1 HO2 HO3 hat2 hfa
                  rw [hvq] at HO1 HO2 HO3 hfq
                  obtain ⟨ua, hua⟩ : ∃ ua, s2.wy.getD a 0 = ua := ⟨_, rfl⟩
                  obtain ⟨uq, huq⟩ : ∃ uq, s2.wy.getD q 0 = uq := ⟨_, rfl⟩
                  rw [hua, huq] at HO2 HO3
                  have HUA := Lib.hid hua
                  have HUQ := Lib.hid huq
                  clear hua huq
                  have HVA := Lib.hid hva
                  have HVQ := Lib.hid hvq
                  clear hva hvq
                  have hwr : IntKind.i16.wrap (va + 1) = va + 1 := IntWalk.i16_in _ (by omega)
                  by_cases hkn : 0 ≤ vq
                  · by_cases heq : vq = va + 1
                    · have HN4 := Lib.hid (HN5.out.trans (HO2.out hkn heq))
                      have hqe : (vq == va + 1) = true := by rw [beq_iff_eq]; exact heq
                      obtain ⟨s0, s1, s2', s3, -⟩ := HR7.out.mem.bS.four
                      have t1 : w9.cell? ⟨T, q, none⟩ = some (.int .i16 (s2.tb.getD q 0)) := by
                        rw [HR7.out.mem.bT.cell]; exact ncells_get _ _ _ (by rw [HT2.out.1]; assumption)
                      have t3 : w9.cell? ⟨T, a, none⟩ = some (.int .i16 (s2.tb.getD a 0)) := by
                        rw [HR7.out.mem.bT.cell]; exact ncells_get _ _ _ (by rw [HT2.out.1]; assumption)
                      rw [HVQ.out] at t1
                      rw [HVA.out] at t3
                      go_upto_region 27 with fail
                      go_still_tail 15, (by kernel_rfl)
                      change wpList _ _ _ _ _ w9.drew
                      have HRd := Lib.hid (HR7.out.next (Below.refl _ _).drew)
                      clear s0 s1 s2' s3 t1 t3 HR7
                      generalize w9.drew = wd at *
                      obtain ⟨s0, s1, s2', s3, -⟩ := HRd.out.mem.bS.four
                      have y1 : wd.cell? ⟨Y, q, none⟩ = some (.int .i64 (s2.wy.getD q 0)) := by
                        rw [HRd.out.mem.bY.cell]; exact ncells_get _ _ _ (by rw [HT2.out.2.1]; assumption)
                      have y3 : wd.cell? ⟨Y, a, none⟩ = some (.int .i64 (s2.wy.getD a 0)) := by
                        rw [HRd.out.mem.bY.cell]; exact ncells_get _ _ _ (by rw [HT2.out.2.1]; assumption)
                      rw [HUQ.out] at y1
                      rw [HUA.out] at y3
                      go_upto_region 28 with fail
                      go_still_tail 16, (by kernel_rfl)
                      change wpList _ _ _ _ _ wd.drew
                      have HRe := Lib.hid (HRd.out.next (Below.refl _ _).drew)
                      clear s0 s1 s2' s3 y1 y3 HRd
                      generalize wd.drew = we at *
                      obtain ⟨s0, s1, s2', s3, -⟩ := HRe.out.mem.bS.four
                      have y1 : we.cell? ⟨Y, q, none⟩ = some (.int .i64 (s2.wy.getD q 0)) := by
                        rw [HRe.out.mem.bY.cell]; exact ncells_get _ _ _ (by rw [HT2.out.2.1]; assumption)
                      have yf := HRe.out.mem.bY.free q
                      have HRf := Lib.hid (HRe.out.setY (i := q) (by show q < s2.wy.length; rw [HT2.out.2.1]; exact hqk) (IntKind.i64.wrap (uq + ua)))
                      clear HRe
                      go_wp2
                      go_roundw
                      case rel => exact ⟨p + 1, g', cap', by go_num, (congrArg (fun s : St => Value.slice (some ⟨g', 0, none⟩) s.q.length cap') HN4.out).symm, by omega, by rw [HN4.out]; have h := HRf.out; rw [IntWalk.i64_left] at h ⊢; exact h⟩
                      case measure => simp [intOf]; omega
                    · have HN4 := Lib.hid (show stP l a s LL (p + 1) = s2 from by rw [HN5.out]; exact HO1.out hkn heq)
                      have hqe : (vq == va + 1) = false := by rw [beq_eq_false_iff_ne]; exact heq
                      obtain ⟨s0, s1, s2', s3, -⟩ := HR7.out.mem.bS.four
                      have t1 : w9.cell? ⟨T, q, none⟩ = some (.int .i16 (s2.tb.getD q 0)) := by
                        rw [HR7.out.mem.bT.cell]; exact ncells_get _ _ _ (by rw [HT2.out.1]; assumption)
                      have t3 : w9.cell? ⟨T, a, none⟩ = some (.int .i16 (s2.tb.getD a 0)) := by
                        rw [HR7.out.mem.bT.cell]; exact ncells_get _ _ _ (by rw [HT2.out.1]; assumption)
                      rw [HVQ.out] at t1
                      rw [HVA.out] at t3
                      go_upto_region 27 with fail
                      go_still_tail 15, (by kernel_rfl)
                      change wpList _ _ _ _ _ w9.drew
                      have HR8 := Lib.hid (HR7.out.next (Below.refl _ _).drew)
                      clear s0 s1 s2' s3 t1 t3 HR7
                      generalize w9.drew = w10 at *
                      go_wp2
                      go_roundw
                      case rel => exact ⟨p + 1, g', cap', by go_num, (congrArg (fun s : St => Value.slice (some ⟨g', 0, none⟩) s.q.length cap') HN4.out).symm, by omega, by rw [HN4.out]; exact HR8.out⟩
                      case measure => simp [intOf]; omega
                  · have hne : a ≠ q := fun e => by
                      have h1 := HVA.out
                      have h2 := HVQ.out
                      rw [e] at h1
                      omega
                    have HN4 := Lib.hid (HN5.out.trans (HO3.out (by omega) (by rw [HT2.out.1]; exact hqk) hne))
                    have hvm : vq = -1 := by omega
                    have hvl : vq < 0 := by omega
                    obtain ⟨s0, s1, s2', s3, -⟩ := HR7.out.mem.bS.four
                    have t1 : w9.cell? ⟨T, q, none⟩ = some (.int .i16 (s2.tb.getD q 0)) := by
                      rw [HR7.out.mem.bT.cell]; exact ncells_get _ _ _ (by rw [HT2.out.1]; assumption)
                    have t3 : w9.cell? ⟨T, a, none⟩ = some (.int .i16 (s2.tb.getD a 0)) := by
                      rw [HR7.out.mem.bT.cell]; exact ncells_get _ _ _ (by rw [HT2.out.1]; assumption)
                    rw [HVQ.out] at t1
                    rw [HVA.out] at t3
                    go_upto_region 23 with fail
                    go_still_tail 14, (by kernel_rfl)
                    change wpList _ _ _ _ _ w9.drew
                    have HR8 := Lib.hid (HR7.out.next (Below.refl _ _).drew)
                    clear t1 t3 s0 s1 s2' s3 HR7
                    generalize w9.drew = wa at *
                    have t1 : wa.cell? ⟨T, q, none⟩ = some (.int .i16 (s2.tb.getD q 0)) := by
                      rw [HR8.out.mem.bT.cell]; exact ncells_get _ _ _ (by rw [HT2.out.1]; exact hqk)
                    have t2 := HR8.out.mem.bT.free q
                    have HR9 := Lib.hid (HR8.out.setT (i := q) (by rw [HT2.out.1]; exact hqk) (va + 1))
                    go_upto_region 24 with fail
                    clear t1 t2 HR8
                    generalize wa.setCell ⟨T, q, none⟩ (.int .i16 (va + 1)) = wb at *
                    obtain ⟨s0, s1, s2', s3, -⟩ := HR9.out.mem.bS.four
                    have t1 : wb.cell? ⟨Z, q, none⟩ = some (.int .i64 (s2.fr.getD q 0)) := by
                      rw [HR9.out.mem.bZ.cell]; exact ncells_get _ _ _ (by rw [HT2.out.2.2.1]; exact hqk)
                    have t2 := HR9.out.mem.bZ.free q
                    have HRa := Lib.hid (HR9.out.setZ (i := q) (show q < s2.fr.length by rw [HT2.out.2.2.1]; exact hqk) (a : Int))
                    go_upto_region 25 with fail
                    clear t1 t2 s0 s1 s2' s3 HR9
                    generalize wb.setCell ⟨Z, q, none⟩ (.int .i64 (a : Int)) = wc at *
                    obtain ⟨s0, s1, s2', s3, -⟩ := HRa.out.mem.bS.four
                    have hxc := HXC.out wc HRa.out.at1
                    go_still_tail 10, (by kernel_rfl)
                    change wpList _ _ _ _ _ wc.drew
                    have HRb := Lib.hid (HRa.out.next (Below.refl _ _).drew)
                    clear s0 s1 s2' s3 hxc HRa
                    generalize wc.drew = wd at *
                    have t1 : wd.cell? ⟨U, q, none⟩ = some (.int .u16 (s2.by'.getD q 0)) := by
                      rw [HRb.out.mem.bU.cell]; exact ncells_get _ _ _ (by rw [HT2.out.2.2.2]; exact hqk)
                    have t2 := HRb.out.mem.bU.free q
                    have HRc := Lib.hid (HRb.out.setU (i := q) (show q < s2.by'.length by rw [HT2.out.2.2.2]; exact hqk) x)
                    go_upto_region 26 with fail
                    clear t1 t2 HRb
                    generalize wd.setCell ⟨U, q, none⟩ (.int .u16 x) = we at *
                    obtain ⟨i0, hi0, hz0, hz1, hz2⟩ := info_parts info_s64
                    have hsz := HRc.out.mem.below.size
                    go_wp2_with (at_builtin; refine wpList_append_lies _ rfl _ _ 50 rfl w.heap.size 2 i0 (.int .i64 0) 1 8 Try.underlying50 hi0 hz0 hz1 hz2 rfl (by decide) _ _ _ rfl (HRc.out.own.alloc _) ⟨we.heap.size, 0, none⟩ 1 1 [.int .i64 (q : Int)] rfl rfl (World.news_of_block (cs := #[.int .i64 (q : Int)]) (t := 2) (fr := (0, 0)) (heap_alloc_new we _)) (by simp [Value.oneCell']) (by decide) (by show s2.q.length + 1 ≤ maxLen; unfold maxLen; omega) (by show (s2.q.length + 1) * 8 ≤ 140737488355328; omega) (by simp; omega) (we.heap.size + 1) (by simp) ?_)
                    intro g2 cap2 wf hown5 hgrow5 hat5 hlt5
                    have HRg := Lib.hid (LMem.push HRc.out hown5 hgrow5 hat5 (by omega))
                    clear HRc hsz hown5 hgrow5 hat5 hlt5 hi0 hz0 hz1 hz2
                    obtain ⟨s0, s1, s2', s3, -⟩ := HRg.out.mem.bS.four
                    have t1 : wf.cell? ⟨T, q, none⟩ = some (.int .i16 (va + 1)) := by
                      rw [HRg.out.mem.bT.cell, ncells_get _ _ _ (by show q < (s2.tb.set q (va + 1)).length; rw [List.length_set, HT2.out.1]; exact hqk)]
                      show some (Value.int .i16 ((s2.tb.set q (va + 1)).getD q 0)) = _
                      rw [getD_set _ _ _ _ (by rw [HT2.out.1]; exact hqk), if_pos rfl]
                    have t3 : wf.cell? ⟨T, a, none⟩ = some (.int .i16 va) := by
                      rw [HRg.out.mem.bT.cell, ncells_get _ _ _ (by show a < (s2.tb.set q (va + 1)).length; rw [List.length_set, HT2.out.1]; exact hak)]
                      show some (Value.int .i16 ((s2.tb.set q (va + 1)).getD a 0)) = _
                      rw [getD_set _ _ _ _ (by rw [HT2.out.1]; exact hqk), if_neg hne, HVA.out]
                    have hqe : (va + 1 == va + 1) = true := by rw [beq_iff_eq]
                    go_upto_region 27 with fail
                    go_still_tail 15, (by kernel_rfl)
                    change wpList _ _ _ _ _ wf.drew
                    have HRd := Lib.hid (HRg.out.next (Below.refl _ _).drew)
                    clear s0 s1 s2' s3 t1 t3 HRg
                    generalize wf.drew = wd at *
                    obtain ⟨s0, s1, s2', s3, -⟩ := HRd.out.mem.bS.four
                    have y1 : wd.cell? ⟨Y, q, none⟩ = some (.int .i64 (s2.wy.getD q 0)) := by
                      rw [HRd.out.mem.bY.cell]; exact ncells_get _ _ _ (by rw [HT2.out.2.1]; assumption)
                    have y3 : wd.cell? ⟨Y, a, none⟩ = some (.int .i64 (s2.wy.getD a 0)) := by
                      rw [HRd.out.mem.bY.cell]; exact ncells_get _ _ _ (by rw [HT2.out.2.1]; assumption)
                    rw [HUQ.out] at y1
                    rw [HUA.out] at y3
                    go_upto_region 28 with fail
                    go_still_tail 16, (by kernel_rfl)
                    change wpList _ _ _ _ _ wd.drew
                    have HRe := Lib.hid (HRd.out.next (Below.refl _ _).drew)
                    clear s0 s1 s2' s3 y1 y3 HRd
                    generalize wd.drew = we at *
                    obtain ⟨s0, s1, s2', s3, -⟩ := HRe.out.mem.bS.four
                    have y1 : we.cell? ⟨Y, q, none⟩ = some (.int .i64 (s2.wy.getD q 0)) := by
                      rw [HRe.out.mem.bY.cell]; exact ncells_get _ _ _ (by rw [HT2.out.2.1]; assumption)
                    have yf := HRe.out.mem.bY.free q
                    have HRf := Lib.hid (HRe.out.setY (i := q) (by show q < s2.wy.length; rw [HT2.out.2.1]; exact hqk) (IntKind.i64.wrap (uq + ua)))
                    clear HRe
                    go_wp2
                    go_roundw
                    case rel =>
                      refine ⟨p + 1, g2, cap2, by go_num, ?_, by omega, ?_⟩
                      · rw [HN4.out]; show _ = Value.slice _ (s2.q ++ [(q : Int)]).length _; rw [List.length_append]; rfl
                      · rw [HN4.out, ← HVA.out]; show LMem _ _ _ _ _ _ _ _ (Value.slice (some ⟨g2, 0, none⟩) (s2.q ++ [(q : Int)]).length cap2) _ _; rw [List.length_append, HVA.out]; have h := HRf.out; rw [IntWalk.i64_left] at h ⊢; exact h
                    case measure => simp [intOf]; omega
              · obtain rfl : p = ln := by omega
                have HR := Lib.hid hQ
                have hpre := HPRE.out
                have hfull := HFULL.out rfl
                have HFU := Lib.hid hfull
                clear hQ hfull
                have hnl : ¬ (p : Int) < (p : Int) := by omega
                go_wp2
                go_roundw
                case rel => exact ⟨i + 1, g', cap', by go_num, by rw [← HFU.out], by rw [← HFU.out]; omega, by rw [← HFU.out]; exact HR.out.sub (by simp)⟩
                case measure => simp [intOf]; omega
          · have he := HALLI.out (by omega)
            have HE := Lib.hid (show Mem w S T Y Z U k' (stA l k xs k') wr from he ▸ hR.mem)
            have hnl : ¬ (i : Int) < (s.q.length : Int) := by omega
            clear he hR
            go_wp2
            go_ret
            first | exact ⟨S, rfl, T, Y, Z, U, HE.out⟩ | exact ⟨S, T, Y, Z, U, rfl, HE.out⟩
end Go.Proofs.Ytoeoilhbekhnbaa
