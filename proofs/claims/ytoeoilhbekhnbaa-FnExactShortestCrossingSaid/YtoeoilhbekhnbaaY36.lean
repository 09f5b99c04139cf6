/-
  The program's search of ferries: its walk.
-/
import Derived.Test.YtoeoilhbekhnbaaY35
namespace Go.Proofs.Ytoeoilhbekhnbaa
open Go.RowKit Go.Shelf Go.Maps Go.MapKept Go.ChangeMaps
set_option maxRecDepth 100000
set_option linter.unusedVariables false

attribute [local go_sem] Oper.semAt_some

theorem PM.setOther {l : Int} {N B : Nat} {L : List (Nat × Obj)} {w0 w : World} {O X mb : Nat} {v : Value} {s : St} (h : PM l N B L w0 O X mb v s w) {c : Nat} (hc : O ≠ c ∧ X ≠ c ∧ mb ≠ c) (hv : v.ownBlock ≠ some c) (hL : ∀ p ∈ L, c ≠ p.1) (h0 : w0.heap.size ≤ c) (i : Nat) (u : Value) : PM l N B L w0 O X mb v s (w.setCell ⟨c, i, none⟩ u) := by
  obtain ⟨G, n, hn, hM, hS⟩ := h.map
  exact ⟨h.below.setCell h0 _, h.ne, h.lo, h.bO.setOther hc.1 _ _, h.bX.setOther hc.2.1 _ _, ⟨G, n, hn, hM.setCell hc.2.2 _, hS⟩, ownsRow_set h.own _ _ hv, h.ob, fun p hp => ⟨bG_set (h.bL p hp).1 (hL p hp) _ _, (h.bL p hp).2⟩⟩
theorem Blk.five {w : World} {b : Nat} {a0 a1 a2 a3 a4 : Value} {t : TypeId} (h : Blk w b #[a0, a1, a2, a3, a4] t) : w.cell? ⟨b, 0, none⟩ = some a0 ∧ w.cell? ⟨b, 1, none⟩ = some a1 ∧ w.cell? ⟨b, 2, none⟩ = some a2 ∧ w.cell? ⟨b, 3, none⟩ = some a3 ∧ w.cell? ⟨b, 4, none⟩ = some a4 ∧ ∀ i, w.frozen? ⟨b, i, none⟩ = false := ⟨h.cell 0, h.cell 1, h.cell 2, h.cell 3, h.cell 4, h.free⟩
theorem Blk.ofO {w : World} {b g g' n n' c c' : Nat} {t : TypeId} (h : Blk w b #[.slice (some ⟨g, 0, none⟩) n c] t) (h' : Blk w b #[.slice (some ⟨g', 0, none⟩) n' c'] t) : g = g' := by
  have e := h.symm.trans h'
  simp at e
  exact e.1
theorem info_bk : (Try.prog.info? 64).map (fun i => (i.zero, i.size, i.bytes)) = some (some (.agg #[.int .u16 0, .bool false]), 2, 4) := by kernel_rfl
set_option maxHeartbeats 8000000 in
theorem landings_in (l k : Int) (a : Option Addr) (c : Nat) (xs : List Int) (N : Nat) (w : World) (hs : Sl .u16 w.heap.size w a xs) (hn : xs.length ≤ 1048576) (hw : U16 xs) (hl : 1 ≤ l ∧ l ≤ 8) (hk : 0 ≤ k ∧ k ≤ 8) (hN : (N : Int) = 2 * (allI l + 1)) :
    CallsIn Fence.wide 9 Try.prog 39 #[ferV l k a xs.length c] w fun e w' => ∃ O X mb g cap, e = .returned (.map (some mb)) ∧ PM l N 200000 [] w O X mb (.slice (some ⟨g, 0, none⟩) (stA l k xs N).q.length cap) (stA l k xs N) w' := by
  have hal := allI_le hl
  obtain ⟨al, hal2⟩ : ∃ al : Nat, allI l = al := ⟨(allI l).toNat, by omega⟩
  have haT : (allI l).toNat = al := by omega
  have HFB := Lib.hid (fun W => firstBank2_any l k a xs.length c W hl)
  rw [hal2] at HFB
  have HINV := Lib.hid (fun i => ((Inv.first (N := N) (f := (allI l).toNat) (by omega)).run (k := k) (xs := xs) hl hN i).1)
  have HINV2 := Lib.hid (fun i => Inv2.run (k := k) (xs := xs) (Inv.first (N := N) (f := (allI l).toNat) (by omega)) (Inv2.first (l := l) (by omega)) hl hN i)
  have HPI := Lib.hid (fun (s : St) (h : Inv N s) (h2 : Inv2 l N s) (a : Nat) (ha : (a : Int) ∈ s.q) (L : List Int) (hL : ∀ x ∈ L, x ∈ ldA l k xs (bkN l a) (bkF l a)) => And.intro (Inv.fold L s h ha (fun x hx => ldA_nx hl hN x (hL x hx))) (And.intro (Inv2.fold L s h h2 ha (fun x hx => ldA_16 hl hN x (hL x hx))) (fold_same (k := k) (xs := xs) (N := N) (s := s) hl L s hL)))
  have HALL := Lib.hid (fun i h => stA_of (k := k) (xs := xs) (N := N) (i := i) hl hN h)
  have HNEXT := Lib.hid (fun i h => run_next (l := l) (k := k) (xs := xs) (s := St.first N (allI l).toNat) (i := i) h)
  have HLN := Lib.hid (fun (i : Nat) => (show (ldA l k xs (bkN l i) (bkF l i)).length ≤ 256 by have h1 := ldT_len l k xs (bkN l i) (bkF l i) ((allI l).toNat + 1); unfold ldA; omega))
  rw [haT] at HINV HINV2 HALL HNEXT
  have hNN : N ≤ 512 := by omega
  have halN : al < N := by omega
  have HS := Lib.hid (And.intro hs (And.intro hw (And.intro hl (And.intro hk hN))))
  have HBN := Lib.hid (fun (i : Nat) (hi : i < N) => (show 0 ≤ bkN l i ∧ bkN l i ≤ 65535 by have h1 := bk_num (l := l) (i := (i : Int)) hl ⟨by omega, by omega⟩; omega))
  have F0 := (FR.start w).box #[.int .i8 l, .int .i8 k, .slice a xs.length c] 30
  obtain ⟨c0, c1, c2, -⟩ := (F0.blk _ List.mem_cons_self).three
  obtain ⟨kl0, hkl0⟩ := keyB_mk (al : Int) false (by omega)
  have HK0 := Lib.hid hkl0
  have HMD := Lib.hid (fun L O X mb g n W h1 h2 h3 h4 h5 h6 h7 h8 h9 => PM.made (l := l) (k' := k) (xs' := xs) (N := N) hl hN hal2 (w := w) (W := W) (O := O) (X := X) (mb := mb) (g := g) (n := n) (L := L) h1 h2 h3 h4 h5 h6 h7 h8 h9)
  clear hs hw hl hk hN haT hkl0 hal2
  refine callsIn_of_wp_marks Try.func39 rfl trivial ?_ rfl
  simp only [Try.ntmps39, List.size_toArray, List.length_cons, List.length_nil, Nat.reduceAdd, Nat.reduceSub, Array.replicate_succ, Array.replicate_zero, List.push_toArray, List.append_toArray, List.nil_append, List.cons_append]
  gi_upto_region 2 with (first
    | (refine ⟨trivial, ?_⟩; gi_at_call 60; refine (callsIn_wide.2 (HFB.out _)).mono ?_; rintro e w2 ⟨rfl, hb2⟩; have F1 := F0.next hb2; clear hb2 F0 c0 c1 c2))
  have F2 := F1.box #[.int .u16 (al : Int), .bool false] 64
  obtain ⟨d0, d1, -⟩ := (F2.blk _ List.mem_cons_self).two
  have F3 := (F2.box #[.int .u16 (al : Int), .bool false] 64).box #[.slice (some ⟨w2.heap.size + 1, 0, none⟩) 1 1] 89
  simp only [World.size_alloc] at F2 F3
  have hsz2 := F1.below.size
  have hfl : w.heap.size < w2.heap.size := (F1.blk _ List.mem_cons_self).lt
  clear F1
  gi_upto_region 3 with fail
  obtain ⟨W3, hW3⟩ : ∃ W3, ((w2.alloc (.cells #[.int .u16 (al : Int), .bool false] 64)).alloc (.cells #[.int .u16 (al : Int), .bool false] 64)).alloc (.cells #[.slice (some ⟨w2.heap.size + 1, 0, none⟩) 1 1] 89) = W3 := ⟨_, rfl⟩
  have hsz3 : W3.heap.size = w2.heap.size + 3 := by rw [← hW3]; simp
  rw [hW3] at F3 ⊢
  clear hW3 d0 d1 F2
  generalize w2.heap.size = B3 at *
  have g3 := F3.blk (B3, #[.int .u16 (al : Int), .bool false], 64) (by simp)
  have gO := F3.blk (B3 + 1 + 1, #[.slice (some ⟨B3 + 1, 0, none⟩) 1 1], 89) (by simp)
  have gG := F3.blk (B3 + 1, #[.int .u16 (al : Int), .bool false], 64) (by simp)
  have gF := F3.blk (w.heap.size, #[.int .i8 l, .int .i8 k, .slice a xs.length c], 30) (by simp)
  dsimp only at g3 gO gG gF
  have hB3 := F3.below
  obtain ⟨d0, d1, -⟩ := g3.two
  have hM0 := MapAt.made W3 Try.prog 64
  rw [hsz3] at hM0
  have HM0 := Lib.hid hM0
  clear hM0
  have HB := Lib.hid (And.intro gO (And.intro gG (And.intro gF hB3)))
  clear g3 gO gG gF hB3 F3
  have hmm := @run_makeMap Try.prog
  gi_wp2_with (first
    | (refine wpListIn_insH rfl _ _ _ 60 rfl 66 keyB Try.underlying60 rfl HM0.out (by decide) (bankV (al : Int) false) (.agg #[.int .u16 0, .bool false, .int .u16 0, .int .i16 0, .int .i64 1]) kl0 rfl rfl HK0.out ?_; intro w5 hM5 hT5)
    | fail)
  clear hmm d0 d1 HFB HM0 HK0
  have hgr := hT5.grown
  have hz5 : B3 + 4 ≤ w5.heap.size := by have h1 := hgr.size; simp at h1; omega
  have KQ : ∀ {b : Nat} {o : Obj}, W3.heap[b]? = some o → w5.heap[b]? = some o := fun {b o} hb => by
    have hlt := blk_lt hb
    exact (hgr.block b (by simp; omega) (fun e => by have e2 : b = B3 + 3 := Option.some.inj e; omega)).trans ((Below.heap_alloc W3 _ b hlt).trans hb)
  have hB5 : Below w.heap.size w w5 := (HB.out.2.2.2.alloc HB.out.2.2.2.size (.map #[] 0)).grown hgr (by have := HB.out.2.2.2.size; simp; omega) (fun j e => by have e2 : B3 + 3 = j := Option.some.inj e; omega)
  have hP0 := HMD.out [(w.heap.size, Obj.cells #[.int .i8 l, .int .i8 k, .slice a xs.length c] 30 (0, 0))] (B3 + 1 + 1) w5.heap.size (B3 + 3) (B3 + 1) (0 + 1) (w5.alloc (.cells #[.map (some (B3 + 3))] 60)) (Blk.alloc (KQ HB.out.1) _) (blk_new w5 _ _) (Blk.alloc (KQ HB.out.2.1) _) (hM5.alloc _) (by omega) (hB5.alloc hB5.size _) ⟨by omega, by omega, by omega, by omega⟩ ⟨by omega, by omega, by omega, by omega, by omega, by omega⟩ (fun p hp => by
    rcases List.mem_singleton.1 hp with rfl
    exact ⟨Blk.alloc (KQ HB.out.2.2.1) _, ⟨by dsimp only; omega, by dsimp only; omega, by dsimp only; omega⟩, by dsimp only; omega⟩)
  have HP0 := Lib.hid hP0
  clear hP0 KQ hB5 hgr hT5 hM5 HB HMD
  generalize w5.alloc (.cells #[.map (some (B3 + 3))] 60) = w6 at *
  generalize w5.heap.size = X at *
  generalize B3 + 1 + 1 = O at *
  generalize B3 + 3 = mb at *
  generalize B3 + 1 = gg at *
  clear hz5 hsz3 hsz2 hfl
  refine wpIn_loop (fun a' w' => ∃ (i g cap : Nat) (bs : List Nat), (i ≤ (St.run l k xs (St.first N al) i).q.length ∧ bs.Nodup ∧ (∀ b ∈ bs, w.heap.size ≤ b) ∧ PM l N (i * 300 + 1) ((w.heap.size, Obj.cells #[.int .i8 l, .int .i8 k, .slice a xs.length c] 30 (0, 0)) :: bs.map (fun b => (b, Obj.deferred (some [])))) w O X mb (.slice (some ⟨g, 0, none⟩) (St.run l k xs (St.first N al) i).q.length cap) (St.run l k xs (St.first N al) i) w') ∧ (a'.tmps.size = 73 ∧ a'.tmps.getD 0 undef = ferV l k a xs.length c ∧ a'.tmps.getD 1 undef = .pointer (some ⟨w.heap.size, 0, none⟩) ∧ a'.tmps.getD 2 undef = .map none ∧ a'.tmps.getD 4 undef = .pointer (some ⟨O, 0, none⟩) ∧ a'.tmps.getD 5 undef = .pointer (some ⟨X, 0, none⟩) ∧ a'.tmps.getD 6 undef = .int .i64 (i : Int)) ∧ a'.defers = bs.map (fun b => { target := .collected b, args := #[] })) (fun a' _ => N - (intOf (a'.tmps.getD 6 undef)).toNat) ?start ?round
  case start => exact ⟨0, gg, 1, [], ⟨Nat.zero_le _, List.nodup_nil, (fun b h => nomatch h), HP0.out⟩, ⟨rfl, rfl, rfl, rfl, rfl, rfl, rfl⟩, rfl⟩
  case round =>
    clear HP0
    rintro ⟨T, D⟩ wr ⟨i, g, cap, bs, ⟨hi, hnd, hblo, hP⟩, ⟨hT, q0, q1, q2, q4, q5, q6⟩, hD⟩
    obtain ⟨u, rfl⟩ := frame73 T hT
    have p0 : u 0 = ferV l k a xs.length c := q0
    have p1 : u 1 = .pointer (some ⟨w.heap.size, 0, none⟩) := q1
    have p2 : u 2 = .map none := q2
    have p4 : u 4 = .pointer (some ⟨O, 0, none⟩) := q4
    have p5 : u 5 = .pointer (some ⟨X, 0, none⟩) := q5
    have p6 : u 6 = .int .i64 (i : Int) := q6
    have hD' : D = _ := hD
    rw [p0, p1, p2, p4, p5, p6, hD']
    clear q0 q1 q2 q4 q5 q6 p0 p1 p2 p4 p5 p6 hD hD' hT
    have HI := Lib.hid (HINV.out i)
    have HI2 := Lib.hid (HINV2.out i)
    have HNX1 := Lib.hid (HNEXT.out i)
    have HALLI := Lib.hid (HALL.out i)
    generalize hs : (St.run l k xs (St.first N al) i) = s at *
    have HSS := Lib.hid hs
    clear hs
    have hshort := HI.out.short
    have hO1 := hP.bO.cell 0
    have hX1 := hP.bX.cell 0
    have hO0 : wr.cell? ⟨O, 0, none⟩ = some (.slice (some ⟨g, 0, none⟩) s.q.length cap) := hO1
    have hX0 : wr.cell? ⟨X, 0, none⟩ = some (.map (some mb)) := hX1
    clear hO1 hX1
    have HBS := Lib.hid (And.intro hnd hblo)
    clear hnd hblo
    by_cases hlt : i < s.q.length
    case neg =>
      have hnl : ¬ (i : Int) < (s.q.length : Int) := by omega
      have he := HALLI.out (by omega)
      have HE := Lib.hid (show PM l N (i * 300 + 1) (bs.map (fun b => (b, Obj.deferred (some [])))) w O X mb (.slice (some ⟨g, 0, none⟩) (stA l k xs N).q.length cap) (stA l k xs N) wr from by rw [← he]; exact hP.sub (fun p hp => List.mem_cons_of_mem _ hp))
      clear he hP
      have hi512 : i ≤ 512 := by omega
      gi_wp2
      refine leaves_marks bs _ HBS.out.1 HBS.out.2 HE.out (fun W' hP' => ?_)
      exact ⟨.map (some mb), by simp [results, Try.results39, go_sem], O, X, mb, rfl, g, cap, hP'.mono (by omega)⟩
    have hm := st_mem hlt
    have hh := HI.out.here _ hm
    obtain ⟨a0, ha⟩ : ∃ a0 : Nat, s.q.getD i 0 = a0 := ⟨(s.q.getD i 0).toNat, by omega⟩
    have hga := bvals_get l s.q i hlt
    rw [ha] at hga
    have e9 : ∀ o, (⟨g, 0, none⟩ : Addr).add o = ⟨g, o, none⟩ := fun o => by unfold Addr.add; split <;> simp_all
    have o0 := hP.own.cells (g := g) rfl _ _ hga.1
    have o1 := hP.own.cells (g := g) rfl _ _ hga.2
    rw [e9] at o0 o1
    have hak : a0 < N := by omega
    rw [ha] at hm hh
    rw [Int.toNat_natCast] at hh
    have HA := Lib.hid ha
    have HM := Lib.hid hm
    have hat2 := hh.2.2
    have hfa := (HI.out.far a0 hak).2
    have hrng := HBN.out a0 hak
    clear hga e9 hh hm ha
    have hli : (i : Int) < (s.q.length : Int) := by omega
    obtain ⟨kl7, hkl7⟩ := keyB_mk (bkN l a0) (bkF l a0) hrng
    have HK7 := Lib.hid hkl7
    obtain ⟨G, n, hnB, hM, hS⟩ := hP.map
    obtain ⟨va, hva⟩ : ∃ va, s.tb.getD a0 0 = va := ⟨_, rfl⟩
    obtain ⟨ua, hua⟩ : ∃ ua, s.wy.getD a0 0 = ua := ⟨_, rfl⟩
    obtain ⟨h1, hh1⟩ : ∃ h1, bkN l (s.fr.getD a0 0) = h1 := ⟨_, rfl⟩
    obtain ⟨h2, hh2⟩ : ∃ h2, bkF l (s.fr.getD a0 0) = h2 := ⟨_, rfl⟩
    obtain ⟨h3, hh3⟩ : ∃ h3, s.by'.getD a0 0 = h3 := ⟨_, rfl⟩
    have HV7 := Lib.hid (show (G (bankV (bkN l a0) (bkF l a0))).getD (.agg #[.int .u16 0, .bool false, .int .u16 0, .int .i16 0, .int .i64 0]) = .agg #[.int .u16 h1, .bool h2, .int .u16 h3, .int .i16 va, .int .i64 ua] by
      rw [show G (bankV (bkN l a0) (bkF l a0)) = lgO l s a0 from hS.1 a0 hak]; unfold lgO; rw [if_pos hat2]; unfold lgV; rw [hva, hua, hh1, hh2, hh3]; rfl)
    rw [hva] at hat2 hfa
    have HVA := Lib.hid hva
    have HUA := Lib.hid hua
    have HMa := Lib.hid (hM.alloc (.cells #[.int .u16 (bkN l a0), .bool (bkF l a0)] 64))
    have hP8 := (hP.far ((Below.refl _ _).alloc (Nat.le_refl _) (.cells #[.int .u16 (bkN l a0), .bool (bkF l a0)] 64)) (heap_alloc_new wr (.cells #[.int .u16 (bkN l a0), .bool (bkF l a0)] 64)) (Nat.le_refl _)).far ((Below.refl _ _).alloc (Nat.le_refl _) (.cells #[.int .u16 h1, .bool h2, .int .u16 h3, .int .i16 va, .int .i64 ua] 66)) (heap_alloc_new (wr.alloc (.cells #[.int .u16 (bkN l a0), .bool (bkF l a0)] 64)) (.cells #[.int .u16 h1, .bool h2, .int .u16 h3, .int .i16 va, .int .i64 ua] 66)) (Nat.le_refl _)
    have hPf : Blk wr w.heap.size #[.int .i8 l, .int .i8 k, .slice a xs.length c] 30 := hP.mem List.mem_cons_self
    simp only [World.size_alloc] at hP8
    have HP8 := Lib.hid hP8
    have hXl := hP.bX.lt
    have hOl := hP.bO.lt
    have hfl := hPf.lt
    clear hva hua hh1 hh2 hh3 hS hM hkl7 hP hP8 hnB hPf
    gi_upto_region 9 with (first
      | (gi_at_lookup; refine wpListIn_lookH rfl _ _ 60 rfl 66 keyB Try.underlying60 (zeroLg _) rfl HMa.out (bankV (bkN l a0) (bkF l a0)) kl7 rfl HK7.out _ HV7.out ?_)
      | fail)
    clear o0 o1 hO0 hX0 HMa HV7 hXl hOl hfl
    generalize (wr.alloc (.cells #[.int .u16 (bkN l a0), .bool (bkF l a0)] 64)).alloc (.cells #[.int .u16 h1, .bool h2, .int .u16 h3, .int .i16 va, .int .i64 ua] 66) = W8 at *
    generalize wr.heap.size = B7 at *
    have hf8 : Blk W8 w.heap.size #[.int .i8 l, .int .i8 k, .slice a xs.length c] 30 := HP8.out.mem (by simp)
    have hb8 : Blk W8 B7 #[.int .u16 (bkN l a0), .bool (bkF l a0)] 64 := HP8.out.mem (by simp)
    obtain ⟨c0, c1, c2, -⟩ := hf8.three
    obtain ⟨d0, d1, -⟩ := hb8.two
    have hfl := hf8.lt
    have hbl := hb8.lt
    clear hf8 hb8
    gi_wp2_with (first
      | (refine ⟨trivial, ?_⟩; gi_at_call 61; refine (crossings_in Fence.wide 8 trivial rfl _ _ _ _ _ _ _ _).mono ?_; rintro e w4 ⟨rfl, rfl⟩))
    clear c0 c1 c2 d0 d1 hfl hbl
    have bF := (blk_new W8 #[.int .i8 l, .int .i8 k, .slice a xs.length c] 30).alloc (.cells #[.int .u16 (bkN l a0), .bool (bkF l a0)] 64)
    have bB := blk_new (W8.alloc (.cells #[.int .i8 l, .int .i8 k, .slice a xs.length c] 30)) #[.int .u16 (bkN l a0), .bool (bkF l a0)] 64
    simp only [World.size_alloc] at bB
    have hP9 := (HP8.out.far ((Below.refl _ _).alloc (Nat.le_refl _) (.cells #[.int .i8 l, .int .i8 k, .slice a xs.length c] 30)) (heap_alloc_new W8 (.cells #[.int .i8 l, .int .i8 k, .slice a xs.length c] 30)) (Nat.le_refl _)).far ((Below.refl _ _).alloc (Nat.le_refl _) (.cells #[.int .u16 (bkN l a0), .bool (bkF l a0)] 64)) (heap_alloc_new (W8.alloc (.cells #[.int .i8 l, .int .i8 k, .slice a xs.length c] 30)) (.cells #[.int .u16 (bkN l a0), .bool (bkF l a0)] 64)) (Nat.le_refl _)
    simp only [World.size_alloc] at hP9
    have hsz : ((W8.alloc (.cells #[.int .i8 l, .int .i8 k, .slice a xs.length c] 30)).alloc (.cells #[.int .u16 (bkN l a0), .bool (bkF l a0)] 64)).heap.size = W8.heap.size + 2 := by simp
    have l1 := HP8.out.bO.lt
    have l2 := HP8.out.bX.lt
    have l3 := HP8.out.mlt
    have hLlt : ∀ p ∈ (W8.heap.size + 1, Obj.cells #[.int .u16 (bkN l a0), .bool (bkF l a0)] 64 (0, 0)) :: (W8.heap.size, Obj.cells #[.int .i8 l, .int .i8 k, .slice a xs.length c] 30 (0, 0)) :: (B7 + 1, Obj.cells #[.int .u16 h1, .bool h2, .int .u16 h3, .int .i16 va, .int .i64 ua] 66 (0, 0)) :: (B7, Obj.cells #[.int .u16 (bkN l a0), .bool (bkF l a0)] 64 (0, 0)) :: (w.heap.size, Obj.cells #[.int .i8 l, .int .i8 k, .slice a xs.length c] 30 (0, 0)) :: bs.map (fun b => (b, Obj.deferred (some []))), p.1 < W8.heap.size + 2 := fun p hp => by have := blk_lt (hP9.bL p hp).1; omega
    have hws := HP8.out.below.size
    obtain ⟨W0, hW0⟩ : ∃ W0, ((W8.alloc (.cells #[.int .i8 l, .int .i8 k, .slice a xs.length c] 30)).alloc (.cells #[.int .u16 (bkN l a0), .bool (bkF l a0)] 64)) = W0 := ⟨_, rfl⟩
    rw [hW0] at bF bB hP9 hsz ⊢
    clear hW0 HP8
    generalize W8.heap.size = s2 at *
    have HBK := Lib.hid (And.intro bF (And.intro bB hP9.below))
    have HLL := Lib.hid hLlt
    have HLO := Lib.hid hP9.lo
    have hln := HLN.out a0
    have HPR := Lib.hid (fun L hL => HPI.out s HI.out HI2.out a0 HM.out L hL)
    have HNX3 := Lib.hid (show St.run l k xs (St.first N al) (i + 1) = (ldA l k xs (bkN l a0) (bkF l a0)).foldl (St.one l a0) s from by rw [HNX1.out hlt, HA.out, Int.toNat_natCast]; rfl)
    clear bF bB
    refine loop_gives rfl (by decide) (gf := 70) (lb := #[.pointer (some ⟨s2, 0, none⟩), .pointer (some ⟨s2 + 1, 0, none⟩)]) rfl trivial (enters_of Try.func70 (by kernel_rfl) rfl)
      (encs := fun x : Int => #[.int .u16 x, bankV (xorI (bkN l a0) x) (!(bkF l a0))]) (n₀ := w.heap.size) (S := fun q => q = s2 ∨ q = s2 + 1) (L := ldA l k xs (bkN l a0) (bkF l a0)) (by omega)
      (fun W1 h1 h2 => crossings_gives s2 (s2 + 1) w.heap.size _ (.inl rfl) (.inr rfl) (by omega) (fun q hq => by omega) (by omega) l k a c xs (bkN l a0) (bkF l a0) hn HS.out.2.1 HS.out.2.2.1 HS.out.2.2.2.1 W1 (HS.out.1.below (HBK.out.2.2.trans (h2.mono HBK.out.2.2.size))) (HBK.out.1.below h2 HBK.out.1.lt) (HBK.out.2.1.below h2 HBK.out.2.1.lt)) (fun _ => rfl)
      (fun pre W => ∃ g cap, PM l N (i * 300 + 1 + pre.length) ((s2 + 1, Obj.cells #[.int .u16 (bkN l a0), .bool (bkF l a0)] 64 (0, 0)) :: (s2, Obj.cells #[.int .i8 l, .int .i8 k, .slice a xs.length c] 30 (0, 0)) :: (B7 + 1, Obj.cells #[.int .u16 h1, .bool h2, .int .u16 h3, .int .i16 va, .int .i64 ua] 66 (0, 0)) :: (B7, Obj.cells #[.int .u16 (bkN l a0), .bool (bkF l a0)] 64 (0, 0)) :: (w.heap.size, Obj.cells #[.int .i8 l, .int .i8 k, .slice a xs.length c] 30 (0, 0)) :: bs.map (fun b => (b, Obj.deferred (some [])))) w O X mb (.slice (some ⟨g, 0, none⟩) (pre.foldl (St.one l a0) s).q.length cap) (pre.foldl (St.one l a0) s) W)
      (fun pre W => False)
      (PM.ownFrom (fun pre : List Int => i * 300 + 1 + pre.length) (fun pre => pre.foldl (St.one l a0) s) (by omega) (by omega) (by omega) (fun p hp => by have := hLlt p hp; omega) (by omega))
      (fun _ _ _ _ hs _ _ => hs)
      ⟨g, cap, hP9⟩
      (fun x a' W => ∃ nb g3 cap3 n3, Blk W nb #[.int .u16 (xorI (bkN l a0) x), .bool (!(bkF l a0))] 64 ∧ W0.heap.size ≤ nb ∧ Blk W O #[.slice (some ⟨g3, 0, none⟩) n3 cap3] 89 ∧ g3 ≠ nb ∧ (a'.tmps.size = 73 ∧ a'.tmps.getD 4 undef = .pointer (some ⟨O, 0, none⟩) ∧ a'.tmps.getD 5 undef = .pointer (some ⟨X, 0, none⟩) ∧ a'.tmps.getD 7 undef = .pointer (some ⟨B7, 0, none⟩) ∧ a'.tmps.getD 8 undef = .pointer (some ⟨B7 + 1, 0, none⟩) ∧ a'.tmps.getD 9 undef = .int .u16 x ∧ a'.tmps.getD 10 undef = .pointer (some ⟨nb, 0, none⟩)) ∧ a'.defers = [])
      (fun x a' _ Z Y row hs hg hr => by obtain ⟨nb, g3, cap3, n3, q1, q2, q3, q4, q5⟩ := hs; exact ⟨nb, g3, cap3, n3, blk_own _ _ (fun (_ : Unit) => _) () Z Y row q1 hg (fun r e => (hr r e).2), q2, blk_own _ _ (fun (_ : Unit) => _) () Z Y row q3 hg (fun r e => (hr r e).2), q4, q5⟩)
      ?assign ?body ?done ?stop
    case assign =>
      rintro l2 pre x W K ⟨g2, cap2, hP2⟩ hbn hK
      have hz := hbn (s2 + 1) (.inr rfl)
      have hgl := (hP2.own.lt g2 rfl).2
      have hlw := hP2.below.size
      have HP2 := Lib.hid hP2
      clear hP2
      gi_wp2
      exact hK _ _ ((KeepsOthers.alloc _ _).from _) (KpS.alloc hlw _) ⟨g2, cap2, HP2.out.next ((Below.refl _ _).alloc (Nat.le_refl _) _)⟩ ⟨W.heap.size, g2, cap2, _, blk_new W _ _, by omega, HP2.out.bO.alloc _, by omega, ⟨rfl, rfl, rfl, rfl, rfl, rfl, rfl⟩, rfl⟩
    case stop =>
      rintro pre W hpre h
      exact h.elim
    case done =>
      rintro W ⟨g2, cap2, hP2⟩ hK
      have HP2 := Lib.hid hP2
      have HKK := Lib.hid hK
      clear hP2 hK hP9 hLlt
      gi_wp2
      refine ⟨⟨i + 1, g2, cap2, W0.heap.size :: bs, ⟨?_, ?_, ?_, ?_⟩, ⟨rfl, rfl, rfl, rfl, rfl, rfl, by go_num⟩, rfl⟩, ?_⟩
      · rw [HNX3.out]
        have h5 := (HPR.out _ (fun x hx => hx)).1.2.length_le
        omega
      · refine List.nodup_cons.2 ⟨fun hmem => ?_, HBS.out.1⟩
        have := HLL.out (W0.heap.size, .deferred (some [])) (by simp only [List.mem_cons, List.mem_map]; exact .inr (.inr (.inr (.inr (.inr ⟨W0.heap.size, hmem, rfl⟩)))))
        dsimp only at this
        omega
      · intro b hb
        rcases List.mem_cons.1 hb with rfl | hb
        · omega
        · exact HBS.out.2 b hb
      · rw [HNX3.out]
        have h6 := (HP2.out.add HKK.out ⟨by omega, by omega, by omega⟩ (fun e => by
          have e2 : g2 = W0.heap.size := Option.some.inj e
          rcases HP2.out.own.2 with h1 | ⟨g4, cap4, cur, e3, _, hgb, _⟩
          · exact absurd h1.1 (by intro e4; cases e4)
          · obtain rfl : g2 = g4 := by injection e3 with e4; injection e4 with e5; injection e5
            rw [e2, HKK.out] at hgb
            cases hgb)).mono (B' := (i + 1) * 300 + 1) (by omega)
        refine h6.sub (fun p hp => ?_)
        simp only [List.mem_cons, List.map_cons] at hp ⊢
        rcases hp with h7 | h7 | h7
        · exact .inr (.inr (.inr (.inr (.inr (.inl h7)))))
        · exact .inl h7
        · exact .inr (.inr (.inr (.inr (.inr (.inr h7)))))
      · simp [intOf]; omega
    case body =>
      rintro l2 pre x ⟨T', D'⟩ W ⟨g2, cap2, hP2⟩ ⟨nb, g3, cap3, n3, bX, hnb, bO3, hg3, ⟨hT, q4, q5, q7, q8, q9, q10⟩, hD⟩ hpre hbn
      clear hP9 hLlt
      obtain ⟨r, rfl⟩ := frame73 T' hT
      have p4 : r 4 = .pointer (some ⟨O, 0, none⟩) := q4
      have p5 : r 5 = .pointer (some ⟨X, 0, none⟩) := q5
      have p7 : r 7 = .pointer (some ⟨B7, 0, none⟩) := q7
      have p8 : r 8 = .pointer (some ⟨B7 + 1, 0, none⟩) := q8
      have p9 : r 9 = .int .u16 x := q9
      have p10 : r 10 = .pointer (some ⟨nb, 0, none⟩) := q10
      have hD' : D' = [] := hD
      rw [p4, p5, p7, p8, p9, p10, hD']
      clear q4 q5 q7 q8 q9 q10 p4 p5 p7 p8 p9 p10 hD hD' hT
      have hmem : x ∈ ldA l k xs (bkN l a0) (bkF l a0) := hpre.subset (by simp)
      have hpl : pre.length < 256 := by have h1 := hpre.length_le; rw [List.length_append] at h1; simp at h1; omega
      obtain ⟨⟨hI3, hq3⟩, hI4, hsm1, hsm2⟩ := HPR.out pre (fun y hy => hpre.subset (List.mem_append_left _ hy))
      have HF := Lib.hid (show (pre ++ [x]).foldl (St.one l a0) s = St.one l a0 (pre.foldl (St.one l a0) s) x by rw [List.foldl_append]; rfl)
      obtain rfl : g2 = g3 := hP2.bO.ofO bO3
      have hs2 := hbn s2 (.inl rfl)
      have hs3 := hbn (s2 + 1) (.inr rfl)
      have hnxb := (nx_bk HS.out.2.2.1 hmem).1
      have hnxl := ldA_16 HS.out.2.2.1 HS.out.2.2.2.2 x hmem
      obtain ⟨t, ht⟩ : ∃ t : Nat, nxI l (bkN l a0) (bkF l a0) x = t := ⟨(nxI l (bkN l a0) (bkF l a0) x).toNat, by omega⟩
      have htT : (nxI l (bkN l a0) (bkF l a0) x).toNat = t := by omega
      have htN : t < N := by omega
      generalize hsp : pre.foldl (St.one l a0) s = s' at *
      have HO1 := Lib.hid (fun h1 h2 => one_same (l := l) (a := a0) (s := s') (x := x) h1 h2)
      have HO2 := Lib.hid (fun h1 h2 => one_more (l := l) (a := a0) (s := s') (x := x) h1 h2)
      have HO3 := Lib.hid (fun h1 h2 h3 => one_new (l := l) (a := a0) (s := s') (x := x) h1 h2 h3)
      have HOF := Lib.hid (fun i (h : i ≠ t) => one_off (l := l) (a := a0) (s := s') (x := x) (i := i) (by rw [htT]; exact h))
      rw [htT] at HO1 HO2 HO3
      rw [hsm1, HVA.out] at HO1 HO2 HO3
      rw [hsm2, HUA.out] at HO2 HO3
      have hnea : a0 ≠ t ∨ 0 ≤ s'.tb.getD t 0 := by
        by_cases e : a0 = t
        · right; rw [← e, hsm1, HVA.out]; exact hat2
        · exact .inl e
      have hxr := xor_16 (bkN l a0) x
      obtain ⟨kl10, hkl10⟩ := keyB_mk (xorI (bkN l a0) x) (!(bkF l a0)) hxr
      rw [ht] at hnxb
      generalize xorI (bkN l a0) x = xn at *
      generalize (!(bkF l a0)) = xf at *
      have HK10 := Lib.hid hkl10
      have HKB := Lib.hid hnxb
      have HXN := Lib.hid (bankV_inj hnxb)
      have hfar := hI3.far t htN
      have hsh := hI3.short
      have HI5 := Lib.hid (And.intro hI3 hI4)
      have HPRE := Lib.hid (And.intro hpre hsp)
      have HMEM := Lib.hid hmem
      obtain ⟨vt, hvt⟩ : ∃ vt, s'.tb.getD t 0 = vt := ⟨_, rfl⟩
      obtain ⟨ut, hut⟩ : ∃ ut, s'.wy.getD t 0 = ut := ⟨_, rfl⟩
      rw [hvt] at HO1 HO2 HO3 hfar hnea
      rw [hut] at HO2 HO3
      have HVT := Lib.hid hvt
      have HUT := Lib.hid hut
      have hQ := hP2.add bX ⟨by omega, by omega, by omega⟩ (fun e => hg3 (Option.some.inj e))
      have hLlt : ∀ p ∈ (nb, Obj.cells #[.int .u16 xn, .bool xf] 64 (0, 0)) :: (s2 + 1, Obj.cells #[.int .u16 (bkN l a0), .bool (bkF l a0)] 64 (0, 0)) :: (s2, Obj.cells #[.int .i8 l, .int .i8 k, .slice a xs.length c] 30 (0, 0)) :: (B7 + 1, Obj.cells #[.int .u16 h1, .bool h2, .int .u16 h3, .int .i16 va, .int .i64 ua] 66 (0, 0)) :: (B7, Obj.cells #[.int .u16 (bkN l a0), .bool (bkF l a0)] 64 (0, 0)) :: (w.heap.size, Obj.cells #[.int .i8 l, .int .i8 k, .slice a xs.length c] 30 (0, 0)) :: bs.map (fun b => (b, Obj.deferred (some []))), p.1 < W.heap.size := fun p hp => blk_lt (hQ.bL p hp).1
      have HLW := Lib.hid hLlt
      have hgS : g2 ≠ s2 ∧ g2 ≠ s2 + 1 := ⟨fun e => (hP2.bL (s2, Obj.cells #[.int .i8 l, .int .i8 k, .slice a xs.length c] 30 (0, 0)) (by simp)).2.2 (by rw [e]; rfl), fun e => (hP2.bL (s2 + 1, Obj.cells #[.int .u16 (bkN l a0), .bool (bkF l a0)] 64 (0, 0)) (by simp)).2.2 (by rw [e]; rfl)⟩
      obtain ⟨G, n, hnB, hM, hS⟩ := hP2.map
      have HM2 := Lib.hid hM
      have HSB := Lib.hid hS
      have hX0 := hQ.bX
      have X0 : W.cell? ⟨X, 0, none⟩ = some (.map (some mb)) := hX0.cell 0
      obtain ⟨x0, x1, -⟩ := bX.two
      have hXl := hX0.lt
      have hnl := bX.lt
      have hml := hM.lt
      have hzW := hQ.below.size
      have hmx : n + 1 < maxLen := by unfold maxLen; omega
      clear hkl10 hnxb hI3 hI4 hq3 hpre hsp hmem hvt hut hP2 bX bO3 hM hS hX0 hLlt hnxl hsm1 hsm2 htT hxr hg3
      have hwr : IntKind.i16.wrap (va + 1) = va + 1 := IntWalk.i16_in _ (by omega)
      by_cases hkn : 0 ≤ vt
      · obtain ⟨t1, ht1⟩ : ∃ t1, bkN l (s'.fr.getD t 0) = t1 := ⟨_, rfl⟩
        obtain ⟨t2, ht2⟩ : ∃ t2, bkF l (s'.fr.getD t 0) = t2 := ⟨_, rfl⟩
        obtain ⟨t3, ht3⟩ : ∃ t3, s'.by'.getD t 0 = t3 := ⟨_, rfl⟩
        have hGK : G (bankV xn xf) = some (lgV l s' t) := by rw [HKB.out, HSB.out.1 t htN]; unfold lgO; rw [HVT.out, if_pos hkn]
        have HLG := Lib.hid (show lgV l s' t = .agg #[.int .u16 t1, .bool t2, .int .u16 t3, .int .i16 vt, .int .i64 ut] by unfold lgV; rw [HVT.out, HUT.out, ht1, ht2, ht3])
        have HV := Lib.hid (show (G (bankV xn xf)).getD (.agg #[.int .u16 0, .bool false, .int .u16 0, .int .i16 0, .int .i64 0]) = .agg #[.int .u16 t1, .bool t2, .int .u16 t3, .int .i16 vt, .int .i64 ut] by rw [hGK, HLG.out]; rfl)
        have HSM := Lib.hid (show (G (bankV xn xf)).isSome = true by rw [hGK]; rfl)
        have HT3 := Lib.hid (And.intro ht1 (And.intro ht2 ht3))
        have hbT := blk_new W #[.int .u16 t1, .bool t2, .int .u16 t3, .int .i16 vt, .int .i64 ut] 66
        have hB1 := (Below.refl W.heap.size W).alloc (Nat.le_refl _) (.cells #[.int .u16 t1, .bool t2, .int .u16 t3, .int .i16 vt, .int .i64 ut] 66)
        have HQ1 := Lib.hid (hQ.next hB1)
        have HKK1 := Lib.hid (show KK W0.heap.size w.heap.size (fun q => q = s2 ∨ q = s2 + 1) W (W.alloc (.cells #[.int .u16 t1, .bool t2, .int .u16 t3, .int .i16 vt, .int .i64 ut] 66)) from KK.alloc hzW _)
        have HM3 := Lib.hid (HM2.out.alloc (.cells #[.int .u16 t1, .bool t2, .int .u16 t3, .int .i16 vt, .int .i64 ut] 66))
        have HB1 := Lib.hid hB1
        have HBT := Lib.hid hbT
        have HQ := Lib.hid hQ
        clear hGK ht1 ht2 ht3 hQ hB1 hbT
        gi_upto_region 16 with (first
          | (gi_at_lookup; refine wpListIn_lookH_ok rfl _ _ 60 rfl 66 keyB Try.underlying60 (zeroLg _) rfl HM2.out (bankV xn xf) kl10 rfl HK10.out _ HV.out true HSM.out ?_)
          | fail)
        clear X0 x0 x1 HV HSM
        have hx0 : Blk (W.alloc (.cells #[.int .u16 t1, .bool t2, .int .u16 t3, .int .i16 vt, .int .i64 ut] 66)) X #[.map (some mb)] 60 := HQ1.out.bX
        have X0 : (W.alloc (.cells #[.int .u16 t1, .bool t2, .int .u16 t3, .int .i16 vt, .int .i64 ut] 66)).cell? ⟨X, 0, none⟩ = some (.map (some mb)) := hx0.cell 0
        have hn0 : Blk (W.alloc (.cells #[.int .u16 t1, .bool t2, .int .u16 t3, .int .i16 vt, .int .i64 ut] 66)) nb #[.int .u16 xn, .bool xf] 64 := HQ1.out.mem (by simp)
        obtain ⟨x0, x1, -⟩ := hn0.two
        have hb8 : Blk (W.alloc (.cells #[.int .u16 t1, .bool t2, .int .u16 t3, .int .i16 vt, .int .i64 ut] 66)) (B7 + 1) #[.int .u16 h1, .bool h2, .int .u16 h3, .int .i16 va, .int .i64 ua] 66 := HQ1.out.mem (by simp)
        obtain ⟨k0, k1, k2, k3, k4, -⟩ := hb8.five
        obtain ⟨e0, e1, e2, e3, e4, ef⟩ := HBT.out.five
        have ef4 := ef 4
        by_cases heq : vt = va + 1
        · subst heq
          obtain ⟨sm, hsm⟩ : ∃ sm, wrap64 (ut + ua) = sm := ⟨_, rfl⟩
          have HN := Lib.hid (HO2.out hkn rfl)
          have HQ2 := Lib.hid (HQ.out.next ((Below.refl W.heap.size W).alloc (Nat.le_refl _) (.cells #[.int .u16 t1, .bool t2, .int .u16 t3, .int .i16 (va + 1), .int .i64 sm] 66)))
          have HBT2 := Lib.hid (blk_new W #[.int .u16 t1, .bool t2, .int .u16 t3, .int .i16 (va + 1), .int .i64 sm] 66)
          have HKK2 := Lib.hid (show KK W0.heap.size w.heap.size (fun q => q = s2 ∨ q = s2 + 1) W (W.alloc (.cells #[.int .u16 t1, .bool t2, .int .u16 t3, .int .i16 (va + 1), .int .i64 sm] 66)) from KK.alloc hzW _)
          have HM4 := Lib.hid (HM2.out.alloc (.cells #[.int .u16 t1, .bool t2, .int .u16 t3, .int .i16 (va + 1), .int .i64 sm] 66))
          have HSMW := Lib.hid hsm
          gi_upto_region 18 with fail
          clear hsm hx0 X0 hn0 x0 x1 hb8 k0 k1 k2 k3 k4 e0 e1 e2 e3 e4 ef ef4 HKK1 HM3 HBT HQ1 HB1
          generalize W.alloc (.cells #[.int .u16 t1, .bool t2, .int .u16 t3, .int .i16 (va + 1), .int .i64 sm] 66) = W2 at *
          have hx0 : Blk W2 X #[.map (some mb)] 60 := HQ2.out.bX
          have X0 : W2.cell? ⟨X, 0, none⟩ = some (.map (some mb)) := hx0.cell 0
          have hn0 : Blk W2 nb #[.int .u16 xn, .bool xf] 64 := HQ2.out.mem (by simp)
          obtain ⟨x0, x1, -⟩ := hn0.two
          have hb8 : Blk W2 (B7 + 1) #[.int .u16 h1, .bool h2, .int .u16 h3, .int .i16 va, .int .i64 ua] 66 := HQ2.out.mem (by simp)
          obtain ⟨k0, k1, k2, k3, k4, -⟩ := hb8.five
          obtain ⟨e0, e1, e2, e3, e4, ef⟩ := HBT2.out.five
          have ef4 := ef 4
          gi_wp2_with (first
            | (gi_at_mapUpdate; refine wpListIn_storeH rfl _ _ _ 60 rfl 66 keyB Try.underlying60 rfl HM4.out (by omega) (bankV xn xf) (.agg #[.int .u16 t1, .bool t2, .int .u16 t3, .int .i16 (va + 1), .int .i64 sm]) kl10 rfl rfl HK10.out ?_; intro w7 hM7 hT7)
            | fail)
          have hKK := HKK2.out.t (KK.turned hT7 (by omega) HLO.out.2.2 (HQ2.out.below.size) (fun e => by omega))
          refine ⟨(by first | exact hKK.1 | (rw [← hsz]; exact hKK.1)), hKK.2, g2, cap2, ?_⟩
          rw [HKB.out] at hM7
          first | rw [HF.out] | rw [HPRE.out.2]
          rw [HN.out]
          have hlg : lgV l { s' with wy := s'.wy.set t (IntKind.i64.wrap (ut + ua)) } t = .agg #[.int .u16 t1, .bool t2, .int .u16 t3, .int .i16 (va + 1), .int .i64 sm] := by
            show Value.agg #[.int .u16 (bkN l (s'.fr.getD t 0)), .bool (bkF l (s'.fr.getD t 0)), .int .u16 (s'.by'.getD t 0), .int .i16 (s'.tb.getD t 0), .int .i64 ((s'.wy.set t (IntKind.i64.wrap (ut + ua))).getD t 0)] = _
            rw [getD_set _ _ _ _ (by rw [HI5.out.1.wy]; exact htN), if_pos rfl, IntWalk.i64_left, HSMW.out, HVT.out, HT3.out.1, HT3.out.2.1, HT3.out.2.2]
          have hfs : FSb l N { s' with wy := s'.wy.set t (IntKind.i64.wrap (ut + ua)) } (updF G (bkV l t) (.agg #[.int .u16 t1, .bool t2, .int .u16 t3, .int .i16 (va + 1), .int .i64 sm])) := by
            rw [← hlg]
            exact FSb.upd HS.out.2.2.1 HS.out.2.2.2.2 HSB.out htN (by show 0 ≤ s'.tb.getD t 0; rw [HVT.out]; exact hkn) (fun j hj => ⟨rfl, getD_set_ne _ _ hj, rfl, rfl⟩)
          exact ((HQ2.out.stored (s' := { s' with wy := s'.wy.set t (IntKind.i64.wrap (ut + ua)) }) hM7 (by omega) rfl hfs hT7).sub (fun p hp => List.mem_cons_of_mem _ hp)).mono (by first | omega | (simp; omega))
        · have hqe : (vt == va + 1) = false := by rw [beq_eq_false_iff_ne]; exact heq
          have HN := Lib.hid (HO1.out hkn heq)
          gi_upto_region 18 with fail
          gi_wp2_with (first
            | (gi_at_mapUpdate; refine wpListIn_storeH rfl _ _ _ 60 rfl 66 keyB Try.underlying60 rfl HM3.out (by omega) (bankV xn xf) (.agg #[.int .u16 t1, .bool t2, .int .u16 t3, .int .i16 vt, .int .i64 ut]) kl10 rfl rfl HK10.out ?_; intro w7 hM7 hT7)
            | fail)
          have hKK := HKK1.out.t (KK.turned hT7 (by omega) HLO.out.2.2 (HQ1.out.below.size) (fun e => by omega))
          refine ⟨(by first | exact hKK.1 | (rw [← hsz]; exact hKK.1)), hKK.2, g2, cap2, ?_⟩
          rw [HKB.out] at hM7
          first | rw [HF.out] | rw [HPRE.out.2]
          rw [HN.out]
          have hfs : FSb l N s' (updF G (bkV l t) (.agg #[.int .u16 t1, .bool t2, .int .u16 t3, .int .i16 vt, .int .i64 ut])) := by
            rw [← HLG.out]
            exact FSb.upd HS.out.2.2.1 HS.out.2.2.2.2 HSB.out htN (by rw [HVT.out]; exact hkn) (fun j hj => ⟨rfl, rfl, rfl, rfl⟩)
          exact ((HQ1.out.stored (s' := s') hM7 (by omega) rfl hfs hT7).sub (fun p hp => List.mem_cons_of_mem _ hp)).mono (by first | omega | (simp; omega))
      · have hne : a0 ≠ t := hnea.resolve_right hkn
        have hu0 : ut = 0 := by rw [← HUT.out]; exact HI5.out.2.no t htN (by rw [HVT.out]; omega)
        have HN := Lib.hid (HO3.out (by omega) (by rw [HI5.out.1.tb]; exact htN) hne)
        subst hu0
        have hGK : G (bankV xn xf) = none := by rw [HKB.out, HSB.out.1 t htN]; unfold lgO; rw [HVT.out, if_neg hkn]
        have HV := Lib.hid (show (G (bankV xn xf)).getD (.agg #[.int .u16 0, .bool false, .int .u16 0, .int .i16 0, .int .i64 0]) = .agg #[.int .u16 0, .bool false, .int .u16 0, .int .i16 0, .int .i64 0] by rw [hGK]; rfl)
        have HSM := Lib.hid (show (G (bankV xn xf)).isSome = false by rw [hGK]; rfl)
        have hbZ := blk_new W #[.int .u16 0, .bool false, .int .u16 0, .int .i16 0, .int .i64 0] 66
        have hB1 := (Below.refl W.heap.size W).alloc (Nat.le_refl _) (.cells #[.int .u16 0, .bool false, .int .u16 0, .int .i16 0, .int .i64 0] 66)
        have hQ1 := hQ.next hB1
        have hb7 : Blk (W.alloc (.cells #[.int .u16 0, .bool false, .int .u16 0, .int .i16 0, .int .i64 0] 66)) B7 #[.int .u16 (bkN l a0), .bool (bkF l a0)] 64 := hQ1.mem (by simp)
        have hb8 : Blk (W.alloc (.cells #[.int .u16 0, .bool false, .int .u16 0, .int .i16 0, .int .i64 0] 66)) (B7 + 1) #[.int .u16 h1, .bool h2, .int .u16 h3, .int .i16 va, .int .i64 ua] 66 := hQ1.mem (by simp)
        obtain ⟨d0, d1, -⟩ := hb7.two
        obtain ⟨k0, k1, k2, k3, k4, -⟩ := hb8.five
        obtain ⟨e0, e1, e2, e3, e4, ef⟩ := hbZ.five
        have ef0 := ef 0
        have ef1 := ef 1
        have ef2 := ef 2
        have ef3 := ef 3
        have ef4 := ef 4
        have HKK1 := Lib.hid (show KK W0.heap.size w.heap.size (fun q => q = s2 ∨ q = s2 + 1) W (W.alloc (.cells #[.int .u16 (bkN l a0), .bool (bkF l a0), .int .u16 x, .int .i16 (va + 1), .int .i64 0] 66)) from (KK.alloc hzW _))
        have HBT := Lib.hid (show Blk (W.alloc (.cells #[.int .u16 (bkN l a0), .bool (bkF l a0), .int .u16 x, .int .i16 (va + 1), .int .i64 0] 66)) W.heap.size #[.int .u16 (bkN l a0), .bool (bkF l a0), .int .u16 x, .int .i16 (va + 1), .int .i64 0] 66 from (blk_new W #[.int .u16 (bkN l a0), .bool (bkF l a0), .int .u16 x, .int .i16 (va + 1), .int .i64 0] 66))
        have HQ1 := Lib.hid (hQ.far (show Below W.heap.size W (W.alloc (.cells #[.int .u16 (bkN l a0), .bool (bkF l a0), .int .u16 x, .int .i16 (va + 1), .int .i64 0] 66)) from ((Below.refl W.heap.size W).alloc (Nat.le_refl _) (.cells #[.int .u16 (bkN l a0), .bool (bkF l a0), .int .u16 x, .int .i16 (va + 1), .int .i64 0] 66))) HBT.out (Nat.le_refl _))
        clear hGK hbZ hB1 hQ1 hb7 hb8 ef
        gi_upto_region 15 with (first
          | (gi_at_lookup; refine wpListIn_lookH_ok rfl _ _ 60 rfl 66 keyB Try.underlying60 (zeroLg _) rfl HM2.out (bankV xn xf) kl10 rfl HK10.out _ HV.out false HSM.out ?_)
          | fail)
        clear X0 x0 x1 HV HSM d0 d1 k0 k1 k2 k3 k4 e0 e1 e2 e3 e4 ef0 ef1 ef2 ef3 ef4 HM2
        generalize (W.alloc (.cells #[.int .u16 (bkN l a0), .bool (bkF l a0), .int .u16 x, .int .i16 (va + 1), .int .i64 0] 66)) = W2 at *
        have hO2 := HQ1.out.bO
        have O0 : W2.cell? ⟨O, 0, none⟩ = some (.slice (some ⟨g2, 0, none⟩) s'.q.length cap2) := hO2.cell 0
        have hn0 : Blk W2 nb #[.int .u16 xn, .bool xf] 64 := HQ1.out.mem (by simp)
        obtain ⟨x0, x1, -⟩ := hn0.two
        have hOl2 := hO2.lt
        have hz2 := HQ1.out.below.size
        have HOW := Lib.hid (HQ1.out.own.alloc (.cells #[.int .u16 xn, .bool xf] 64))
        have HOB := Lib.hid HQ1.out.ob.1
        have HO2B := Lib.hid hO2
        obtain ⟨i0, hi0, hz0, hz1, hz2'⟩ := info_parts info_bk
        clear hn0 hO2
        gi_upto_region 16 with (first
          | (gi_at_builtin; refine wpListIn_append_own_at _ rfl _ _ 89 rfl w.heap.size 64 i0 (.agg #[.int .u16 0, .bool false]) 2 4 Try.underlying89 hi0 hz0 hz1 hz2' rfl (by decide) _ _ _ rfl HOW.out ⟨W2.heap.size, 0, none⟩ 1 1 [.int .u16 xn, .bool xf] rfl rfl (World.news_of_block (cs := #[.int .u16 xn, .bool xf]) (t := 64) (fr := (0, 0)) (heap_alloc_new W2 _)) (by simp [Value.oneCell']) (by unfold maxLen; omega) (by omega) (by first | omega | (simp; omega)) ?_; intro v' w7 hown' hgrow' hnil' hat'; obtain ⟨g4, cap4, rfl⟩ := ownsRow_succ hown'; have hO7 : Blk w7 O #[.slice (some ⟨g2, 0, none⟩) s'.q.length cap2] 89 := (hgrow'.block O (by simp; omega) (fun e => HOB.out e.symm)).trans (HO2B.out.alloc _); obtain ⟨p0, pf⟩ := hO7.one)
          | fail)
        rw [HXN.out.1, HXN.out.2] at hown'
        have hHS : (W2.alloc (.cells #[.int .u16 xn, .bool xf] 64)).heap.size = W2.heap.size + 1 := by simp
        have hPu := PM.push HQ1.out (a := (t : Int)) (s' := { s' with q := s'.q ++ [(t : Int)] }) hown' hgrow' (hat'.imp (fun e => e.symm) (fun e => Option.some.inj e)) (by omega) rfl (fun G h => ⟨h.1, h.2⟩)
        have HKK2 := Lib.hid ((HKK1.out.t (KK.alloc hz2 (.cells #[.int .u16 xn, .bool xf] 64))).t ((KK.grown hgrow' (by omega) (fun j e => by
          have e2 : g2 = j := Option.some.inj e
          subst e2
          refine ⟨(HOW.out.lt g2 rfl).1, fun h => by omega, fun o ho => ?_⟩
          rcases HOW.out.2 with h1 | ⟨g5, cap5, cur, e3, _, hgb, _⟩
          · exact absurd h1.1 (by intro e4; cases e4)
          · obtain rfl : g2 = g5 := by injection e3 with e4; injection e4 with e5; injection e5
            rw [hgb] at ho
            cases ho
            rfl)).t (KK.set (b := O) HLO.out.1 (fun e => by omega) 0 (.slice (some ⟨g4, 0, none⟩) (s'.q.length + 1) cap4))))
        have HQ3 := Lib.hid hPu
        clear hPu hown' hgrow' hnil' hat' hO7 p0 pf O0 x0 x1 HOW HOB HO2B HQ1 HKK1 hHS HBT hQ
        generalize w7.setCell ⟨O, 0, none⟩ (.slice (some ⟨g4, 0, none⟩) (s'.q.length + 1) cap4) = W4 at *
        have hbT4 : Blk W4 W.heap.size #[.int .u16 (bkN l a0), .bool (bkF l a0), .int .u16 x, .int .i16 (va + 1), .int .i64 0] 66 := HQ3.out.mem (by simp)
        have HBT4 := Lib.hid hbT4
        clear hbT4
        have hx0 : Blk W4 X #[.map (some mb)] 60 := HQ3.out.bX
        have X0 : W4.cell? ⟨X, 0, none⟩ = some (.map (some mb)) := hx0.cell 0
        have hn0 : Blk W4 nb #[.int .u16 xn, .bool xf] 64 := HQ3.out.mem (by simp)
        obtain ⟨x0, x1, -⟩ := hn0.two
        have hb8 : Blk W4 (B7 + 1) #[.int .u16 h1, .bool h2, .int .u16 h3, .int .i16 va, .int .i64 ua] 66 := HQ3.out.mem (by simp)
        obtain ⟨k0, k1, k2, k3, k4, -⟩ := hb8.five
        obtain ⟨e0, e1, e2, e3, e4, ef⟩ := HBT4.out.five
        have ef4 := ef 4
        obtain ⟨sm, hsm⟩ : ∃ sm, wrap64 ua = sm := ⟨_, rfl⟩
        have hsm0 : wrap64 (0 + ua) = sm := by rw [Int.zero_add]; exact hsm
        have hown3 := (HQ3.out.bL (W.heap.size, Obj.cells #[.int .u16 (bkN l a0), .bool (bkF l a0), .int .u16 x, .int .i16 (va + 1), .int .i64 0] 66 (0, 0)) List.mem_cons_self).2
        have HQ4 := Lib.hid ((HQ3.out.sub (L' := (nb, Obj.cells #[.int .u16 xn, .bool xf] 64 (0, 0)) :: (s2 + 1, Obj.cells #[.int .u16 (bkN l a0), .bool (bkF l a0)] 64 (0, 0)) :: (s2, Obj.cells #[.int .i8 l, .int .i8 k, .slice a xs.length c] 30 (0, 0)) :: (B7 + 1, Obj.cells #[.int .u16 h1, .bool h2, .int .u16 h3, .int .i16 va, .int .i64 ua] 66 (0, 0)) :: (B7, Obj.cells #[.int .u16 (bkN l a0), .bool (bkF l a0)] 64 (0, 0)) :: (w.heap.size, Obj.cells #[.int .i8 l, .int .i8 k, .slice a xs.length c] 30 (0, 0)) :: bs.map (fun b => (b, Obj.deferred (some [])))) (fun p hp => List.mem_cons_of_mem _ hp)).setOther (c := W.heap.size) hown3.1 hown3.2 (fun p hp => by have := HLW.out p hp; omega) hzW 4 (.int .i64 sm))
        have HBT5 := Lib.hid (show Blk _ W.heap.size #[.int .u16 (bkN l a0), .bool (bkF l a0), .int .u16 x, .int .i16 (va + 1), .int .i64 sm] 66 from HBT4.out.set 4 (.int .i64 sm))
        have HKK3 := Lib.hid (HKK2.out.t (KK.set (b := W.heap.size) hzW (fun e => by omega) 4 (.int .i64 sm)))
        have HSMW := Lib.hid hsm
        clear hown3
        gi_upto_region 18 with fail
        clear hsm hsm0 hx0 X0 hn0 x0 x1 hb8 k0 k1 k2 k3 k4 e0 e1 e2 e3 e4 ef ef4 HKK2 HBT4 HQ3
        generalize W4.setCell ⟨W.heap.size, 4, none⟩ (.int .i64 sm) = W5 at *
        obtain ⟨G4, n4, hnB4, hM4, hS4⟩ := HQ4.out.map
        have HM4 := Lib.hid hM4
        have HS4 := Lib.hid hS4
        have hm4 := hM4.lt
        clear hM4 hS4
        have hx0 : Blk W5 X #[.map (some mb)] 60 := HQ4.out.bX
        have X0 : W5.cell? ⟨X, 0, none⟩ = some (.map (some mb)) := hx0.cell 0
        have hn0 : Blk W5 nb #[.int .u16 xn, .bool xf] 64 := HQ4.out.mem (by simp)
        obtain ⟨x0, x1, -⟩ := hn0.two
        have hb8 : Blk W5 (B7 + 1) #[.int .u16 h1, .bool h2, .int .u16 h3, .int .i16 va, .int .i64 ua] 66 := HQ4.out.mem (by simp)
        obtain ⟨k0, k1, k2, k3, k4, -⟩ := hb8.five
        obtain ⟨e0, e1, e2, e3, e4, ef⟩ := HBT5.out.five
        have ef4 := ef 4
        gi_wp2_with (first
          | (gi_at_mapUpdate; refine wpListIn_storeH rfl _ _ _ 60 rfl 66 keyB Try.underlying60 rfl HM4.out (by unfold maxLen; omega) (bankV xn xf) (.agg #[.int .u16 (bkN l a0), .bool (bkF l a0), .int .u16 x, .int .i16 (va + 1), .int .i64 sm]) kl10 rfl rfl HK10.out ?_; intro w8 hM8 hT8)
          | fail)
        have hKK := HKK3.out.t (KK.turned hT8 (by omega) HLO.out.2.2 (HQ4.out.below.size) (fun e => by omega))
        refine ⟨(by first | exact hKK.1 | (rw [← hsz]; exact hKK.1)), hKK.2, g4, cap4, ?_⟩
        rw [HKB.out] at hM8
        first | rw [HF.out] | rw [HPRE.out.2]
        rw [HN.out]
        have hlg : lgV l (St.mk (s'.tb.set t (va + 1)) (s'.wy.set t (IntKind.i64.wrap (0 + ua))) (s'.fr.set t (a0 : Int)) (s'.by'.set t x) (s'.q ++ [(t : Int)])) t = .agg #[.int .u16 (bkN l a0), .bool (bkF l a0), .int .u16 x, .int .i16 (va + 1), .int .i64 sm] := by
          unfold lgV
          dsimp only
          rw [getD_set _ _ _ _ (by rw [HI5.out.1.fr]; exact htN), getD_set _ _ _ _ (by rw [HI5.out.1.by']; exact htN), getD_set _ _ _ _ (by rw [HI5.out.1.tb]; exact htN), getD_set _ _ _ _ (by rw [HI5.out.1.wy]; exact htN), if_pos rfl, if_pos rfl, if_pos rfl, if_pos rfl, IntWalk.i64_left, Int.zero_add, HSMW.out]
        have hfs : FSb l N (St.mk (s'.tb.set t (va + 1)) (s'.wy.set t (IntKind.i64.wrap (0 + ua))) (s'.fr.set t (a0 : Int)) (s'.by'.set t x) (s'.q ++ [(t : Int)])) (updF G4 (bkV l t) (.agg #[.int .u16 (bkN l a0), .bool (bkF l a0), .int .u16 x, .int .i16 (va + 1), .int .i64 sm])) := by
          rw [← hlg]
          exact FSb.upd HS.out.2.2.1 HS.out.2.2.2.2 HS4.out htN (by dsimp only; rw [getD_set _ _ _ _ (by rw [HI5.out.1.tb]; exact htN), if_pos rfl]; omega) (fun j hj => ⟨getD_set_ne _ _ hj, getD_set_ne _ _ hj, getD_set_ne _ _ hj, getD_set_ne _ _ hj⟩)
        have hfin := ((HQ4.out.stored (s' := St.mk (s'.tb.set t (va + 1)) (s'.wy.set t (IntKind.i64.wrap (0 + ua))) (s'.fr.set t (a0 : Int)) (s'.by'.set t x) (s'.q ++ [(t : Int)])) hM8 (by omega) rfl hfs hT8).sub (fun p hp => List.mem_cons_of_mem _ hp)).mono (B' := i * 300 + 1 + (pre.length + 1)) (by omega)
        show PM _ _ _ _ _ _ _ _ (.slice (some ⟨g4, 0, none⟩) (s'.q ++ [(t : Int)]).length cap4) _ _
        rw [List.length_append]
        exact hfin
end Go.Proofs.Ytoeoilhbekhnbaa
