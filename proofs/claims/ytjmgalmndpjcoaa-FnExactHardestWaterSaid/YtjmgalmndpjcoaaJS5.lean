/-
  The program's search: its walk.
-/
import Derived.Test.YtjmgalmndpjcoaaJS4
import Derived.Test.YtjmgalmndpjcoaaMoved
import Derived.Scope
import Derived.WalkMore
namespace Go.Proofs.Ytjmgalmndpjcoaa
open Go.RowKit Go.Maps Go.MapKept Go.ChangeMaps
set_option maxRecDepth 100000
set_option linter.unusedVariables false

theorem MapAt.empty {P : Program} {k : TypeId} {W : World} {b : Nat} (h : W.heap[b]? = some (.map #[] 0)) : MapAt P k W b 0 (fun _ => none) :=
  ⟨.map [], ⟨#[], 0, h, ⟨by simp, stamped_empty 0, by simp⟩, Nat.le_refl _, rfl⟩, fun key kl _ => ⟨rfl, fun z => rfl⟩⟩
theorem MapAt.one {P : Program} {k e t : TypeId} (K : Keyed P k) (ht : P.underlying t = some (.map k e)) {key : Value} {kl : Lit} (hkey : keyOf P k key = some kl) {val : Value} {W : World} {b : Nat} (h : W.heap[b]? = some (.map #[⟨key, val, 0⟩] 1)) :
    MapAt P k W b 1 (updF (fun _ => none) key val) := by
  have hb : b < W.heap.size := blk_lt h
  have h1 : (setBlock W b (.map #[] 0)).heap[b]? = some (.map #[] 0) := heap_setBlock_same h _
  obtain ⟨w', hrun, hM, _⟩ := (MapAt.empty (P := P) (k := k) h1).store K ht (by decide) hkey val
  rw [run_ins1 K ht hkey val _ b h1] at hrun
  obtain rfl : ins1 key val (setBlock W b (.map #[] 0)) b = w' := by injection hrun
  refine hM.block ?_
  rw [h, ins1_of h1]
  exact (heap_setBlock_same h1 _).symm
theorem ins1_same {k x : Value} {W : World} {b : Nat} {es : Array MapEntry} {c : Nat} (h : W.heap[b]? = some (.map es c)) : (ins1 k x W b).heap[b]? = some (.map #[⟨k, x, 0⟩] 1) := by
  rw [ins1_of h]; exact heap_setBlock_same h _
theorem Blk.ins {k x : Value} {W : World} {b g : Nat} {cs : Array Value} {t : TypeId} (h : Blk W g cs t) (hne : g ≠ b) : Blk (ins1 k x W b) g cs t := (ins1_other k x W hne).trans h
theorem map_at {W : World} {b : Nat} (h : W.heap.size = b) (o : Obj) : (W.alloc o).heap[b]? = some o := by subst h; exact heap_alloc_new W o
theorem map_alloc {W : World} {b : Nat} {o : Obj} (h : W.heap[b]? = some o) (o' : Obj) : (W.alloc o').heap[b]? = some o := (Below.heap_alloc W o' b (blk_lt h)).trans h
theorem map_drew {W : World} {b : Nat} {o : Obj} (h : W.heap[b]? = some o) : W.drew.heap[b]? = some o := h
theorem Below.ins {k x : Value} {B b : Nat} {w W : World} (h : Below B w W) (hb : B ≤ b) : Below B w (ins1 k x W b) := by
  unfold ins1
  split
  · rename_i es c hh
    exact h.grown (show W.grownBy (setBlock W b _) (some b) from ⟨rfl, rfl, rfl, by simp [setBlock], fun i _ hi => heap_setBlock_other hh _ (fun e => hi (by rw [e]))⟩) (by have := blk_lt hh; omega) (fun j hj => by have e : b = j := Option.some.inj hj; omega)
  · exact h
theorem PMem.made {J : List Int} (hJ : OkJ J) {f : Nat} (hf : f < nW J) {y : Nat → Int} (hy : ∀ i, i < 4 → y i = atV J f i) {L : List (Nat × Obj)} {w W : World} {R mb g : Nat} (hR : Blk W R #[.slice (some ⟨g, 0, none⟩) 1 1, .map (some mb)] 74)
    (hg : Blk W g #[.int .i16 (y 0), .int .i16 (y 1), .int .i16 (y 2), .int .i16 (y 3)] 30)
    (hm : W.heap[mb]? = some (.map #[⟨watV y, arrV (fun _ => 0) (0, 0, 0) 0, 0⟩] 1)) (hb : Below w.heap.size w W) (lo : w.heap.size ≤ R ∧ w.heap.size ≤ mb ∧ w.heap.size ≤ g)
    (hL : ∀ p ∈ L, W.heap[p.1]? = some p.2 ∧ R ≠ p.1 ∧ mb ≠ p.1 ∧ g ≠ p.1) (hne : R ≠ mb ∧ R ≠ g ∧ mb ≠ g) :
    PMem J L w R mb (.slice (some ⟨g, 0, none⟩) 1 1) (GS.first (nW J) f) [(f : Int)] W := by
  rw [wat_congr hy] at hm
  rw [hy 0 (by omega), hy 1 (by omega), hy 2 (by omega), hy 3 (by omega)] at hg
  obtain ⟨kl, hkl⟩ := keyW_mk (atV J f) (fun i hi => by have := atV_bd (i := i) hJ.2.1 (f : Int); omega)
  refine ⟨hb, hne.1, ⟨lo.1, lo.2.1⟩, hR, ⟨_, MapAt.one keyW Try.underlying72 hkl hm, FSp.first hJ hf⟩, ?_, ⟨fun e => hne.2.1 (Option.some.inj e).symm, fun e => hne.2.2 (Option.some.inj e).symm⟩, fun p hp => ⟨(hL p hp).1, ⟨(hL p hp).2.1, (hL p hp).2.2.1⟩, fun e => (hL p hp).2.2.2 (Option.some.inj e)⟩⟩
  refine ⟨rfl, .inr ⟨g, 1, _, rfl, lo.2.2, hg, Nat.le_refl _, by decide, rfl, rfl⟩⟩
theorem PMem.madeE {J : List Int} (hJ : OkJ J) {f : Nat} (hf : f < nW J) {y : Nat → Int} (hy : ∀ i, i < 4 → y i = atV J f i) {L : List (Nat × Obj)} {w W : World} {v : Value} {R mb g : Nat} (hv : v = .pointer (some ⟨R, 0, none⟩)) (hR : Blk W R #[.slice (some ⟨g, 0, none⟩) 1 1, .map (some mb)] 74)
    (hg : Blk W g #[.int .i16 (y 0), .int .i16 (y 1), .int .i16 (y 2), .int .i16 (y 3)] 30)
    (hm : W.heap[mb]? = some (.map #[⟨watV y, arrV (fun _ => 0) (0, 0, 0) 0, 0⟩] 1)) (hb : Below w.heap.size w W) (lo : w.heap.size ≤ R ∧ w.heap.size ≤ mb ∧ w.heap.size ≤ g)
    (hL : ∀ p ∈ L, W.heap[p.1]? = some p.2 ∧ R ≠ p.1 ∧ mb ≠ p.1 ∧ g ≠ p.1) (hne : R ≠ mb ∧ R ≠ g ∧ mb ≠ g) :
    ∃ R mb g, v = .pointer (some ⟨R, 0, none⟩) ∧ PMem J L w R mb (.slice (some ⟨g, 0, none⟩) 1 1) (GS.first (nW J) f) [(f : Int)] W :=
  ⟨R, mb, g, hv, PMem.made hJ hf hy hR hg hm hb lo hL hne⟩
theorem map_ins {k x : Value} {W : World} {b g : Nat} {o : Obj} (h : W.heap[g]? = some o) (hne : g ≠ b) : (ins1 k x W b).heap[g]? = some o := (ins1_other k x W hne).trans h
theorem map_set {W : World} {b g : Nat} {o : Obj} (h : W.heap[g]? = some o) (hne : b ≠ g) (i : Nat) (u : Value) : (W.setCell ⟨b, i, none⟩ u).heap[g]? = some o := bG_set h hne i u
theorem Blk.set2 {W : World} {b : Nat} {c0 c1 : Value} {t : TypeId} (h : Blk W b #[c0, c1] t) (v0 v1 : Value) : Blk ((W.setCell ⟨b, 0, none⟩ v0).setCell ⟨b, 1, none⟩ v1) b #[v0, v1] t := (h.set 0 v0).set 1 v1
theorem zeroArr (w : World) : (zeroValue 80).run Try.prog w = .ok (arrV (fun _ => 0) (0, 0, 0) 0) w := by kernel_rfl
theorem info_wat : (Try.prog.info? 30).map (fun i => (i.zero, i.size, i.bytes)) = some (some (.agg #[.int .i16 0, .int .i16 0, .int .i16 0, .int .i16 0]), 4, 8) := by kernel_rfl
theorem field_arr2 (a b c d : Int) (e f g h : Int) (w : World) : (Instr.field 80 (.agg #[.int .i16 a, .int .i16 b, .int .i16 c, .int .i16 d, .int .i8 e, .int .i8 f, .int .i8 g, .int .i16 h]) 2).run Try.prog w = .ok (.int .i16 h) w := by kernel_rfl
theorem pours_kind {n m j : Nat} (h : j < (pours n m).length) : (mvI (pours n m) j).1 = 0 := by
  have hm : ∀ x ∈ pours n m, x.1 = 0 := fun x hx => by
    unfold pours at hx
    simp only [List.mem_flatMap, List.mem_map, List.mem_range] at hx
    obtain ⟨i, _, q, _, rfl⟩ := hx
    rfl
  unfold mvI
  rw [List.getD_eq_getElem?_getD, List.getElem?_eq_getElem h]
  exact hm _ (List.getElem_mem h)
theorem tap_kind {n j : Nat} (hj : (pours n n).length ≤ j) (h : j < (allM n).length) : (mvI (allM n) j).1 ≠ 0 := by
  have e : allM n = pours n n ++ ((List.range 2).flatMap (fun (q : Nat) => (List.range n).map (fun (i : Nat) => ((q : Int) + 1, (i : Int), (0 : Int)))) ++ (List.range 0).map (fun (i : Nat) => ((2 : Int) + 1, (i : Int), (0 : Int)))) := rfl
  have hm : ∀ x ∈ ((List.range 2).flatMap (fun (q : Nat) => (List.range n).map (fun (i : Nat) => ((q : Int) + 1, (i : Int), (0 : Int)))) ++ (List.range 0).map (fun (i : Nat) => ((2 : Int) + 1, (i : Int), (0 : Int)))), x.1 ≠ 0 := fun x hx => by
    simp only [List.mem_append, List.mem_flatMap, List.mem_map, List.mem_range] at hx
    rcases hx with ⟨q, _, i, _, rfl⟩ | ⟨i, hi, rfl⟩
    · dsimp only; omega
    · omega
  rw [e] at h ⊢
  unfold mvI
  rw [List.getD_eq_getElem?_getD, List.getElem?_append_right hj]
  have h2 : j - (pours n n).length < ((List.range 2).flatMap (fun (q : Nat) => (List.range n).map (fun (i : Nat) => ((q : Int) + 1, (i : Int), (0 : Int)))) ++ (List.range 0).map (fun (i : Nat) => ((2 : Int) + 1, (i : Int), (0 : Int)))).length := by
    rw [List.length_append] at h; omega
  rw [List.getElem?_eq_getElem h2]
  exact hm _ (List.getElem_mem h2)
/-- Behind a move that wants the tap there are only such. -/
theorem tap_tail {n j : Nat} (h : j < (allM n).length) (hk : (mvI (allM n) j).1 ≠ 0) {d : Nat} (hd : j + d < (allM n).length) : (mvI (allM n) (j + d)).1 ≠ 0 := by
  refine tap_kind ?_ hd
  rcases Nat.lt_or_ge j (pours n n).length with h1 | h1
  · exfalso
    apply hk
    have e : mvI (allM n) j = mvI (pours n n) j := by
      unfold mvI allM part2
      rw [List.getD_eq_getElem?_getD, List.getD_eq_getElem?_getD, List.getElem?_append_left h1]
    rw [e]
    exact pours_kind h1
  · omega
theorem nxJ_tap {J : List Int} {a j : Nat} (hk : (mvI (allM J.length) j).1 ≠ 0) : nxJ J false a j = none := by
  unfold nxJ
  rw [if_neg]
  by_cases hm : OkM J.length (mvI (allM J.length) j).1 (mvI (allM J.length) j).2.1 (mvI (allM J.length) j).2.2
  · rw [movC_tap hm ⟨hk, rfl⟩]; decide
  · rw [movC_bad hm]; decide
theorem part_tap {J : List Int} {a j : Nat} {s : GS} (h : j < (allM J.length).length) (hk : (mvI (allM J.length) j).1 ≠ 0) : ∀ d, j + d ≤ (allM J.length).length → GS.part (nxJ J false) a s (j + d) = GS.part (nxJ J false) a s j
  | 0, _ => rfl
  | d + 1, hd => by
    show GS.one _ _ (GS.part (nxJ J false) a s (j + d)) (j + d) = _
    unfold GS.one
    rw [nxJ_tap (tap_tail h hk (by omega)), part_tap h hk d (by omega)]
theorem PMem.setOther {J : List Int} {w0 w : World} {R mb : Nat} {v : Value} {s : GS} {q : List Int} (h : PMem J [] w0 R mb v s q w) {c : Nat} (h1 : R ≠ c) (h2 : mb ≠ c) (h3 : v.ownBlock ≠ some c) (i : Nat) (u : Value) (hc : w0.heap.size ≤ c) : PMem J [] w0 R mb v s q (w.setCell ⟨c, i, none⟩ u) := by
  obtain ⟨F, hF, hS⟩ := h.map
  exact ⟨h.below.setCell hc _, h.ne, h.lo, h.bR.setOther h1 _ _, ⟨F, hF.setCell h2 _, hS⟩, ownsRow_set h.own _ _ h3, h.ob, fun p hp => by cases hp⟩
def IsM0 (W : World) (m : Nat) : Prop := W.heap[m]? = some (.map #[] 0)
set_option maxHeartbeats 8000000 in
theorem search_any (b off c : Nat) (J : List Int) (x : Nat → Int) (t : Bool) (w : World) (hJ : OkJ J) (hx : OkX J x) (hb : b < w.heap.size) (hc : At .i16 w b off J) :
    Calls Try.prog 46 #[puzV (some ⟨b, off, none⟩) J.length c x t] w fun e w' => ∃ R mb g cap, e = .returned (.agg #[.slice (some ⟨g, 0, none⟩) (GS.all (nxJ J t) (allM J.length).length (nW J) (ixN J x)).q.length cap, .map (some mb)]) ∧ PMem J [] w R mb (.slice (some ⟨g, 0, none⟩) (GS.all (nxJ J t) (allM J.length).length (nW J) (ixN J x)).q.length cap) (GS.all (nxJ J t) (allM J.length).length (nW J) (ixN J x)) (GS.all (nxJ J t) (allM J.length).length (nW J) (ixN J x)).q w' := by
  have hnw := nW_eq hJ
  have hN1 : 1 ≤ nW J := hnw.2.1
  have hN2 : nW J ≤ 5000 := hnw.2.2
  have hxa := wat_at hJ hx
  have hxc : ∀ i, i < 4 → x i = atV J (ixN J x) i := fun i hi => wat_inj hxa i hi
  have hfx := (ixN_eq hJ hx).2
  have KP : ∀ W, Below w.heap.size w W → b < W.heap.size ∧ At .i16 W b off J := fun W h => ⟨Nat.lt_of_lt_of_le hb h.size, hc.below h hb⟩
  have HEV := Lib.hid (fun W => everyMove_any J.length W hJ.1)
  have HMV := Lib.hid (fun W (h : Below w.heap.size w W) (y : Nat → Int) (hy : OkX J y) (k f g : Int) (hm : M8 k f g) => (moved_any b off c J x y t k f g W hJ hy hm.2.1 hm.2.2 (KP W h).1 (KP W h).2))
  obtain ⟨kl, hkl⟩ := keyW_mk x (fun i hi => by have h1 := hx i hi; have := hJ.2.1; by_cases hl : i < J.length; (have := hJ.2.1 i hl; omega); (rw [getD_ge (by omega)] at h1; omega))
  have HJ := Lib.hid hJ
  have HX := Lib.hid hx
  have HXA := Lib.hid hxa
  have HXC := Lib.hid hxc
  have hmm := @run_makeMap Try.prog
  have hins := fun (W : World) (m : Nat) (h : IsM0 W m) => run_ins1 keyW Try.underlying72 hkl (arrV (fun _ => 0) (0, 0, 0) 0) W m h
  unfold arrV at hins
  clear hnw hJ hx KP hxa hxc
  go_enter Try.func46, Try.ntmps46
  go_upto_region 1 with fail
  refine wp_scope_straight ?_
  go_upto_region 1 with fail
  go_cut [3] (fun s3 wx => ∃ R mb g, s3 = .pointer (some ⟨R, 0, none⟩) ∧ PMem J [(w.heap.size + 1, .cells #[.slice none 0 0, .map none] 74 (0, 0)), (w.heap.size, .cells #[.slice (some ⟨b, off, none⟩) J.length c, .int .i16 (x 0), .int .i16 (x 1), .int .i16 (x 2), .int .i16 (x 3), .bool t] 32 (0, 0))] w R mb (.slice (some ⟨g, 0, none⟩) 1 1) (GS.first (nW J) (ixN J x)) [((ixN J x : Nat) : Int)] wx)
  case first =>
    have i1 := ins1_size (watV x) (.agg #[.int .i16 0, .int .i16 0, .int .i16 0, .int .i16 0, .int .i8 0, .int .i8 0, .int .i8 0, .int .i16 0])
    have i2 := ins1_cell (watV x) (.agg #[.int .i16 0, .int .i16 0, .int .i16 0, .int .i16 0, .int .i8 0, .int .i8 0, .int .i8 0, .int .i16 0])
    have i3 := ins1_frozen (watV x) (.agg #[.int .i16 0, .int .i16 0, .int .i16 0, .int .i16 0, .int .i8 0, .int .i8 0, .int .i8 0, .int .i16 0])
    have i4 : ∀ (W : World) (m : Nat), m = W.heap.size → IsM0 (W.alloc (.map #[] 0)) m := fun W m h => by subst h; exact heap_alloc_new W _
    have i5 : ∀ (W : World) (o : Obj) (m : Nat), m = W.heap.size → IsM0 ((W.alloc (.map #[] 0)).alloc o) m := fun W o m h => map_alloc (i4 W m h) o
    have i7 : ∀ (W : World) (o o' : Obj) (m : Nat), m = W.heap.size → IsM0 (((W.alloc (.map #[] 0)).alloc o).alloc o') m := fun W o o' m h => map_alloc (i5 W o m h) o'
    have i6 : ∀ (W : World) (m : Nat), IsM0 W.drew m = IsM0 W m := fun W m => rfl
    go_region
    all_goals
      go_wp2_with fail
      go_meet
      apply PMem.madeE HJ.out hfx HXC.out rfl
      case hR => repeat (with_reducible first | (refine blk_at ?_; simp [ins1_size]; done) | refine blk_dw ?_ | refine Blk.alloc ?_ _ | refine Blk.set2 (c0 := .slice none 0 0) (c1 := .map none) ?_ _ _ | refine Blk.ins ?_ (by omega))
      case hg => repeat (with_reducible first | (refine blk_at ?_; simp [ins1_size]; done) | refine blk_dw ?_ | refine Blk.alloc ?_ _ | refine Blk.setOther ?_ (by omega) _ _ | refine Blk.ins ?_ (by omega))
      case hm =>
        unfold arrV
        dsimp only
        repeat (with_reducible first | (refine map_at ?_ _; simp; done) | refine map_drew ?_ | (refine ins1_same (es := #[]) (c := 0) ?_) | refine map_alloc ?_ _ | refine map_set ?_ (by omega) _ _)
      case hb => repeat (with_reducible first | exact Below.refl _ _ | refine Below.drew ?_ | refine Below.alloc ?_ (by simp [ins1_size] <;> omega) _ | refine Below.ins ?_ (by omega) | refine Below.setCell ?_ (by simp <;> omega) _)
      case lo => omega
      case hne => omega
      case hL =>
        intro p hp
        simp only [List.mem_cons, List.not_mem_nil, or_false] at hp
        rcases hp with rfl | rfl
        all_goals (refine ⟨?_, by dsimp only; omega, by dsimp only; omega, by dsimp only; omega⟩; dsimp only; repeat (with_reducible first | (refine map_at ?_ _; simp; done) | refine map_drew ?_ | refine map_ins ?_ (by omega) | refine map_alloc ?_ _ | refine map_set ?_ (by omega) _ _))
  case rest =>
    obtain ⟨R, mb, g, rfl, hP⟩ := hcut
    have HP := Lib.hid hP
    have hpb : Blk wc w.heap.size #[.slice (some ⟨b, off, none⟩) J.length c, .int .i16 (x 0), .int .i16 (x 1), .int .i16 (x 2), .int .i16 (x 3), .bool t] 32 := hP.at2
    obtain ⟨c0, -, -, -, -, -, -⟩ := hpb.six
    clear hP hmm hins hkl hpb kl hb hc
    have hJ4 : J.length ≤ 4 := HJ.out.1.2
    go_wp2_with fail
    refine (HEV.out _).mono ?_
    rintro e w7 ⟨vm, rfl, ⟨gl, cm, rfl, hcm, hgl, hglt, hMA, hfz⟩, hb7⟩
    obtain ⟨G, hG⟩ : ∃ G, w7.heap[gl]? = some G := ⟨_, Array.getElem?_eq_getElem hglt⟩
    have HP7 := Lib.hid (HP.out.far hb7 hG hgl)
    have HMA := Lib.hid (fun (W : World) (h : W.heap[gl]? = some G) (j : Nat) (hj : j < (allM J.length).length) => (show _ ∧ _ ∧ _ by
      have h0 := hMA j hj
      rw [Nat.zero_add] at h0
      have e : W.heap[gl]? = w7.heap[gl]? := h.trans hG.symm
      exact ⟨(World.cell?_of_block (w := w7) (a := ⟨gl, j * 3, none⟩) e).trans h0.1, (World.cell?_of_block (w := w7) (a := ⟨gl, j * 3 + 1, none⟩) e).trans h0.2.1, (World.cell?_of_block (w := w7) (a := ⟨gl, j * 3 + 2, none⟩) e).trans h0.2.2⟩))
    clear hMA hfz hb7 HP hcm hgl hglt hG HEV c0
    have hM28 := allM_len J.length hJ4
    have HNX := Lib.hid (nxJ_lt (t := t) HJ.out)
    have HI0 := Lib.hid (GInv.first (N := nW J) (M := (allM J.length).length) hfx)
    have HALL := Lib.hid (fun i h => GS.all_of (nx := nxJ J t) (M := (allM J.length).length) (i := i) hfx HNX.out h)
    have HTAP := Lib.hid (fun (a j : Nat) (s : GS) (ht : t = false) (h : j < (allM J.length).length) (hk : (mvI (allM J.length) j).1 ≠ 0) => (show GS.part (nxJ J t) a s (allM J.length).length = GS.part (nxJ J t) a s j by
      subst ht
      have := part_tap (a := a) (s := s) h hk ((allM J.length).length - j) (by omega)
      rwa [show j + ((allM J.length).length - j) = (allM J.length).length by omega] at this))
    generalize hMM : (allM J.length).length = M at *
    generalize hff : ixN J x = f at *
    have HMM := Lib.hid hMM
    have HFF := Lib.hid hff
    clear hMM HXA HXC HX hff
    generalize hL0 : [(gl, G), (w.heap.size + 1, Obj.cells #[.slice none 0 0, .map none] 74 (0, 0)), (w.heap.size, .cells #[.slice (some ⟨b, off, none⟩) J.length c, .int .i16 (x 0), .int .i16 (x 1), .int .i16 (x 2), .int .i16 (x 3), .bool t] 32 (0, 0))] = L0 at *
    have HL0 := Lib.hid hL0
    have HIN := Lib.hid (show (gl, G) ∈ L0 ∧ (w.heap.size + 1, Obj.cells #[.slice none 0 0, .map none] 74 (0, 0)) ∈ L0 ∧ (w.heap.size, Obj.cells #[.slice (some ⟨b, off, none⟩) J.length c, .int .i16 (x 0), .int .i16 (x 1), .int .i16 (x 2), .int .i16 (x 3), .bool t] 32 (0, 0)) ∈ L0 by rw [← hL0]; simp)
    clear hL0
    go_wp2_with fail
    go_step3
    go_wp2_with fail
    go_loopw [5] (fun kv wr => ∃ (i g cap : Nat), kv = .int .i64 i ∧ i ≤ (GS.run (nxJ J t) M (GS.first (nW J) f) i).q.length ∧ PMem J L0 w R mb (.slice (some ⟨g, 0, none⟩) (GS.run (nxJ J t) M (GS.first (nW J) f) i).q.length cap) (GS.run (nxJ J t) M (GS.first (nW J) f) i) (GS.run (nxJ J t) M (GS.first (nW J) f) i).q wr) (fun kv _ => nW J - (intOf kv).toNat)
    case atStart => exact ⟨0, g, 1, rfl, Nat.zero_le _, HP7.out⟩
    case round =>
      clear HP7
      obtain ⟨i, g, cap, rfl, hi, hR⟩ := hrel
      have HI := Lib.hid (HI0.out.run HNX.out i).1
      have HNEXT := Lib.hid (GS.run_next (nx := nxJ J t) (M := M) (s := GS.first (nW J) f) (i := i))
      have HALLI := Lib.hid (HALL.out i)
      generalize hs : GS.run (nxJ J t) M (GS.first (nW J) f) i = s at *
      have HS := Lib.hid hs
      clear hs
      have hshort := HI.out.short
      obtain ⟨s0, s1, -⟩ := hR.bR.pair
      by_cases hlt : i < s.q.length
      · have hm := gs_mem hlt
        have hh := HI.out.here _ hm
        obtain ⟨a, ha⟩ : ∃ a : Nat, s.q.getD i 0 = a := ⟨(s.q.getD i 0).toNat, by omega⟩
        have hga := wvals_get J s.q i hlt
        rw [ha] at hga
        have e : ∀ o, (⟨g, 0, none⟩ : Addr).add o = ⟨g, o, none⟩ := fun o => by unfold Addr.add; split <;> simp_all
        have o0 := hR.own.cells (g := g) rfl _ _ hga.1
        have o1 := hR.own.cells (g := g) rfl _ _ hga.2.1
        have o2 := hR.own.cells (g := g) rfl _ _ hga.2.2.1
        have o3 := hR.own.cells (g := g) rfl _ _ hga.2.2.2
        rw [e] at o0 o1 o2 o3
        have hak : a < nW J := by omega
        rw [ha] at hm
        have HA := Lib.hid ha
        have HM := Lib.hid hm
        clear hga e hh hm ha
        have hli : (i : Int) < (s.q.length : Int) := by omega
        have HR9 := Lib.hid (hR.far ((Below.refl _ _).alloc (Nat.le_refl _) (.cells #[.int .i16 (atV J a 0), .int .i16 (atV J a 1), .int .i16 (atV J a 2), .int .i16 (atV J a 3)] 30)) (heap_alloc_new wr (.cells #[.int .i16 (atV J a 0), .int .i16 (atV J a 1), .int .i16 (atV J a 2), .int .i16 (atV J a 3)] 30)) (Nat.le_refl _))
        clear hR
        go_upto_region 7 with fail
        clear o0 o1 o2 o3 s0 s1
        generalize wr.alloc (.cells #[.int .i16 (atV J a 0), .int .i16 (atV J a 1), .int .i16 (atV J a 2), .int .i16 (atV J a 3)] 30) = w9 at *
        generalize wr.heap.size = bw at *
        go_wp2_with fail
        go_loopw [40] (fun jv wq => ∃ (j g cap : Nat), jv = .int .i64 j ∧ j ≤ M ∧ PMem J ((bw, .cells #[.int .i16 (atV J a 0), .int .i16 (atV J a 1), .int .i16 (atV J a 2), .int .i16 (atV J a 3)] 30 (0, 0)) :: L0) w R mb (.slice (some ⟨g, 0, none⟩) (GS.part (nxJ J t) a s j).q.length cap) (GS.part (nxJ J t) a s j) (GS.part (nxJ J t) a s j).q wq) (fun jv _ => M - (intOf jv).toNat)
        case atStart => exact ⟨0, g, cap, rfl, Nat.zero_le _, HR9.out⟩
        case round =>
          clear HR9
          obtain ⟨j, g', cap', rfl, hj, hQ⟩ := hrel
          have HI2 := Lib.hid (HI.out.part (nx := nxJ J t) HM.out (fun j c => HNX.out a j c hak) j hj)
          have HN3 := Lib.hid (show GS.part (nxJ J t) a s (j + 1) = GS.one (nxJ J t) a (GS.part (nxJ J t) a s j) j from rfl)
          have hM2 := HI2.out.2.subset HM.out
          have HFULL := Lib.hid (fun (e : j = M) => (show GS.part (nxJ J t) a s j = GS.run (nxJ J t) M (GS.first (nW J) f) (i + 1) by rw [HNEXT.out hlt, HA.out, Int.toNat_natCast, e]))
          have HSKIP := Lib.hid (fun (ht : t = false) (h : j < M) (hk : (mvI (allM J.length) j).1 ≠ 0) => (show GS.part (nxJ J t) a s j = GS.run (nxJ J t) M (GS.first (nW J) f) (i + 1) by rw [HNEXT.out hlt, HA.out, Int.toNat_natCast, HTAP.out a j s ht h hk]))
          have HPRE := Lib.hid (show s.q.length ≤ (GS.part (nxJ J t) a s j).q.length from HI2.out.2.length_le)
          generalize hs2 : GS.part (nxJ J t) a s j = s2 at *
          have HS2 := Lib.hid hs2
          clear hs2
          by_cases hjM : j < M
          · have hli : (j : Int) < (M : Int) := by omega
            have hbmm : True := trivial
            have hma := HMA.out wr (hQ.bL _ (List.mem_cons_of_mem _ HIN.out.1)).1 j hjM
            have hpz : Blk wr w.heap.size #[.slice (some ⟨b, off, none⟩) J.length c, .int .i16 (x 0), .int .i16 (x 1), .int .i16 (x 2), .int .i16 (x 3), .bool t] 32 := (hQ.bL _ (List.mem_cons_of_mem _ HIN.out.2.2)).1
            have hbw : Blk wr bw #[.int .i16 (atV J a 0), .int .i16 (atV J a 1), .int .i16 (atV J a 2), .int .i16 (atV J a 3)] 30 := hQ.at1
            have HM8 := Lib.hid (allM_M8 J.length hJ4 j)
            have HNJ := Lib.hid (show nxJ J t a j = if movC J t (atV J a) (mvI (allM J.length) j).1 (mvI (allM J.length) j).2.1 (mvI (allM J.length) j).2.2 = 0 then some (ixN J (movX J t (atV J a) (mvI (allM J.length) j).1 (mvI (allM J.length) j).2.1 (mvI (allM J.length) j).2.2)) else none from rfl)
            have HOK := Lib.hid (fun (h : movC J t (atV J a) (mvI (allM J.length) j).1 (mvI (allM J.length) j).2.1 (mvI (allM J.length) j).2.2 = 0) => (show OkX J _ from movX_okJ HJ.out (at_ok HJ.out a) h))
            generalize hM3 : mvI (allM J.length) j = m3 at *
            obtain ⟨v0, v1, v2⟩ := m3
            have HM3 := Lib.hid hM3
            clear hM3
            simp only at hma HNJ HOK HM8 HSKIP
            obtain ⟨q0, q1, q2⟩ := hma
            obtain ⟨p0, p1, p2, p3, p4, p5, -⟩ := hpz.six
            obtain ⟨b0, b1, b2, b3, -⟩ := hbw.four
            have HRa := Lib.hid (hQ.far ((Below.refl _ _).alloc (Nat.le_refl _) (.cells #[.int .i8 v0, .int .i8 v1, .int .i8 v2] 78)) (heap_alloc_new wr (.cells #[.int .i8 v0, .int .i8 v1, .int .i8 v2] 78)) (Nat.le_refl _))
            have hbl := hbw.lt
            have hpl := hpz.lt
            clear hQ hpz hbw
            by_cases htap : v0 ≠ 0 ∧ t = false
            · have hfull := Lib.hid (HSKIP.out htap.2 hjM htap.1)
              have hpre := HPRE.out
              obtain ⟨ht0, rfl⟩ := htap
              have hk0 : (v0 == 0) = false := by simpa using ht0
              go_wp2
              go_roundw
              case rel => exact ⟨i + 1, g', cap', by go_num, by rw [← hfull.out]; omega, by rw [← hfull.out]; exact HRa.out.sub (fun p hp => List.mem_cons_of_mem _ (List.mem_cons_of_mem _ hp))⟩
              case measure => simp [intOf]; omega
            · go_upto_region 10 with fail
              clear q0 q1 q2 HSKIP
              generalize hwa : wr.alloc (.cells #[.int .i8 v0, .int .i8 v1, .int .i8 v2] 78) = wa at *
              generalize hbm : wr.heap.size = bm at *
              go_cut [51] (fun s51 wx => s51 = .bool false ∧ wa = wx)
              case first =>
                have hma : Blk wa bm #[.int .i8 v0, .int .i8 v1, .int .i8 v2] 78 := HRa.out.at1
                have hpz : Blk wa w.heap.size #[.slice (some ⟨b, off, none⟩) J.length c, .int .i16 (x 0), .int .i16 (x 1), .int .i16 (x 2), .int .i16 (x 3), .bool t] 32 := (HRa.out.bL _ (List.mem_cons_of_mem _ (List.mem_cons_of_mem _ HIN.out.2.2))).1
                obtain ⟨q0, q1, q2, -⟩ := hma.three
                obtain ⟨p0', -, -, -, -, p5', -⟩ := hpz.six
                clear p0 p1 p2 p3 p4 p5 b0 b1 b2 b3 hwa hma hpz
                by_cases hz : v0 = 0
                · have hk0 : (v0 == 0) = true := by simpa using hz
                  go_wp2
                  go_meet
                  exact ⟨rfl, rfl⟩
                · have hk0 : (v0 == 0) = false := by simpa using hz
                  obtain rfl : t = true := by
                    cases t
                    · exact absurd ⟨hz, rfl⟩ htap
                    · rfl
                  go_wp2
                  go_meet
                  exact ⟨rfl, rfl⟩
              case rest =>
                obtain ⟨rfl, rfl⟩ := hcut
                clear p0 p1 p2 p3 p4 p5 b0 b1 b2 b3 hwa htap
                have hma : Blk wa bm #[.int .i8 v0, .int .i8 v1, .int .i8 v2] 78 := HRa.out.at1
                have hpz : Blk wa w.heap.size #[.slice (some ⟨b, off, none⟩) J.length c, .int .i16 (x 0), .int .i16 (x 1), .int .i16 (x 2), .int .i16 (x 3), .bool t] 32 := (HRa.out.bL _ (List.mem_cons_of_mem _ (List.mem_cons_of_mem _ HIN.out.2.2))).1
                have hbw : Blk wa bw #[.int .i16 (atV J a 0), .int .i16 (atV J a 1), .int .i16 (atV J a 2), .int .i16 (atV J a 3)] 30 := HRa.out.at2
                obtain ⟨q0, q1, q2, -⟩ := hma.three
                obtain ⟨p0, p1, p2, p3, p4, p5, -⟩ := hpz.six
                obtain ⟨b0, b1, b2, b3, -⟩ := hbw.four
                have HK := Lib.hid (HMV.out wa HRa.out.below (atV J a) (at_ok HJ.out a) _ _ _ HM8.out)
                have HCC := Lib.hid (movC_bdJ J t (atV J a) v0 v1 v2)
                clear hma hpz hbw HM8
                generalize movC J t (atV J a) v0 v1 v2 = C at *
                generalize movX J t (atV J a) v0 v1 v2 = E at *
                go_wp2_with fail
                refine HK.out.mono ?_
                rintro e wb ⟨rfl, hb⟩
                have HRb := Lib.hid (HRa.out.next hb)
                clear HK HRa hb p0 p1 p2 p3 p4 p5 b0 b1 b2 b3 q0 q1 q2
                by_cases hC0 : C = 0
                · have HNJ2 := Lib.hid (show nxJ J t a j = some (ixN J E) by rw [HNJ.out, if_pos hC0])
                  have htk : ixN J E < nW J := HNX.out a j _ hak HNJ2.out
                  have HWE := Lib.hid (wat_at HJ.out (HOK.out hC0))
                  obtain ⟨kE, hkE⟩ := keyW_mk E (fun i hi => by have h1 := HOK.out hC0 i hi; by_cases hl : i < J.length; (have := HJ.out.2.1 i hl; omega); (rw [getD_ge (by omega)] at h1; omega))
                  have HKE := Lib.hid hkE
                  generalize ixN J E = te at *
                  clear HNJ HOK HCC hkE
                  subst hC0
                  have HRc := Lib.hid (HRb.out.far ((Below.refl _ _).alloc (Nat.le_refl _) (.cells #[.int .i16 (E 0), .int .i16 (E 1), .int .i16 (E 2), .int .i16 (E 3)] 30)) (heap_alloc_new wb (.cells #[.int .i16 (E 0), .int .i16 (E 1), .int .i16 (E 2), .int .i16 (E 3)] 30)) (Nat.le_refl _))
                  clear HRb
                  go_upto_region 13 with fail
                  generalize wb.alloc (.cells #[.int .i16 (E 0), .int .i16 (E 1), .int .i16 (E 2), .int .i16 (E 3)] 30) = wd at *
                  generalize wb.heap.size = bq at *
                  obtain ⟨F, hF, hS⟩ := HRc.out.map
                  have hbq : Blk wd bq #[.int .i16 (E 0), .int .i16 (E 1), .int .i16 (E 2), .int .i16 (E 3)] 30 := HRc.out.at1
                  obtain ⟨e0, e1, e2, e3, -⟩ := hbq.four
                  obtain ⟨r0, r1, -⟩ := HRc.out.bR.pair
                  have hfar := HI2.out.1.far te htk
                  clear hbq
                  by_cases hkn : 0 ≤ s2.tb.getD te 0
                  · have HN4 := Lib.hid (show GS.part (nxJ J t) a s (j + 1) = s2 by rw [HN3.out]; unfold GS.one; rw [HNJ2.out]; show GS.find _ _ _ _ = _; unfold GS.find; rw [if_neg (by omega)])
                    have hFE : F (watV E) = some (arrV (atV J (s2.fr.getD te 0).toNat) (mvI (allM J.length) (s2.mv.getD te 0).toNat) (s2.tb.getD te 0)) := by rw [HWE.out, hS.1 te htk]; unfold arO; rw [if_pos hkn]
                    have HV := Lib.hid (show (F (watV E)).getD (arrV (fun _ => 0) (0, 0, 0) 0) = .agg #[.int .i16 (atV J (s2.fr.getD te 0).toNat 0), .int .i16 (atV J (s2.fr.getD te 0).toNat 1), .int .i16 (atV J (s2.fr.getD te 0).toNat 2), .int .i16 (atV J (s2.fr.getD te 0).toNat 3), .int .i8 (mvI (allM J.length) (s2.mv.getD te 0).toNat).1, .int .i8 (mvI (allM J.length) (s2.mv.getD te 0).toNat).2.1, .int .i8 (mvI (allM J.length) (s2.mv.getD te 0).toNat).2.2, .int .i16 (s2.tb.getD te 0)] by rw [hFE]; rfl)
                    have HSM := Lib.hid (show (F (watV E)).isSome = true by rw [hFE]; rfl)
                    clear hFE
                    have HFF2 := Lib.hid hF
                    clear hF hS
                    generalize atV J (s2.fr.getD te 0).toNat = A at *
                    generalize mvI (allM J.length) (s2.mv.getD te 0).toNat = m' at *
                    generalize s2.tb.getD te 0 = tt at *
                    go_wp2_with (first | (at_lookup; refine wpList_lookH_ok rfl _ _ 72 rfl 80 keyW Try.underlying72 (zeroArr _) rfl HFF2.out (watV E) kE rfl HKE.out _ HV.out true HSM.out ?_) | fail)
                    refine ⟨⟨j + 1, g', cap', by go_num, by omega, ?_⟩, by simp [intOf]; omega⟩
                    rw [HN4.out]
                    exact (HRc.out.next ((Below.refl _ _).alloc (Nat.le_refl _) _)).sub (fun p hp => List.mem_cons_of_mem _ (List.mem_cons_of_mem _ hp))
                  · have hneg : s2.tb.getD te 0 = -1 := by omega
                    have HN4 := Lib.hid (show GS.part (nxJ J t) a s (j + 1) = s2.find a te j by rw [HN3.out]; unfold GS.one; rw [HNJ2.out])
                    have hat := HI2.out.1.here _ hM2
                    rw [Int.toNat_natCast] at hat
                    have hat2 := hat.2.2
                    have hfa := (HI2.out.1.far a hak).2
                    have hsh := HI2.out.1.short
                    have hFE : F (watV E) = none := by rw [HWE.out, hS.1 te htk]; unfold arO; rw [if_neg hkn]
                    have HV := Lib.hid (show (F (watV E)).getD (arrV (fun _ => 0) (0, 0, 0) 0) = .agg #[.int .i16 0, .int .i16 0, .int .i16 0, .int .i16 0, .int .i8 0, .int .i8 0, .int .i8 0, .int .i16 0] by rw [hFE]; rfl)
                    have HSM := Lib.hid (show (F (watV E)).isSome = false by rw [hFE]; rfl)
                    have hFA : F (watV (atV J a)) = some (arrV (atV J (s2.fr.getD a 0).toNat) (mvI (allM J.length) (s2.mv.getD a 0).toNat) (s2.tb.getD a 0)) := by rw [hS.1 a hak]; unfold arO; rw [if_pos hat2]
                    have HVA := Lib.hid (show (F (watV (atV J a))).getD (arrV (fun _ => 0) (0, 0, 0) 0) = .agg #[.int .i16 (atV J (s2.fr.getD a 0).toNat 0), .int .i16 (atV J (s2.fr.getD a 0).toNat 1), .int .i16 (atV J (s2.fr.getD a 0).toNat 2), .int .i16 (atV J (s2.fr.getD a 0).toNat 3), .int .i8 (mvI (allM J.length) (s2.mv.getD a 0).toNat).1, .int .i8 (mvI (allM J.length) (s2.mv.getD a 0).toNat).2.1, .int .i8 (mvI (allM J.length) (s2.mv.getD a 0).toNat).2.2, .int .i16 (s2.tb.getD a 0)] by rw [hFA]; rfl)
                    have HFS := Lib.hid (show FSp J (s2.find a te j) (updF F (watV (atV J te)) (arrV (atV J a) (mvI (allM J.length) j) (s2.tb.getD a 0 + 1))) from FSp.find HJ.out hS HI2.out.1 htk (by omega) hat2)
                    have HFD := Lib.hid (show (s2.find a te j).q = s2.q ++ [(te : Int)] by unfold GS.find; rw [if_pos (by omega)])
                    obtain ⟨kA, hkA⟩ := keyW_mk (atV J a) (fun i hi => by have := atV_bd (i := i) HJ.out.2.1 (a : Int); omega)
                    have HKA := Lib.hid hkA
                    have HFF2 := Lib.hid hF
                    clear hF hS hFE hFA hat hneg hkn hfar hkA
                    generalize atV J (s2.fr.getD a 0).toNat = A at *
                    generalize mvI (allM J.length) (s2.mv.getD a 0).toNat = m' at *
                    generalize hta : s2.tb.getD a 0 = ta at *
                    have HTA := Lib.hid hta
                    clear hta
                    have HRd := Lib.hid (HRc.out.next ((Below.refl _ _).alloc (Nat.le_refl _) (.cells #[.int .i16 0, .int .i16 0, .int .i16 0, .int .i16 0, .int .i8 0, .int .i8 0, .int .i8 0, .int .i16 0] 80)))
                    have HFd := Lib.hid (HFF2.out.alloc (.cells #[.int .i16 0, .int .i16 0, .int .i16 0, .int .i16 0, .int .i8 0, .int .i8 0, .int .i8 0, .int .i16 0] 80))
                    go_wp2_with (first | (at_lookup; refine wpList_lookH_ok rfl _ _ 72 rfl 80 keyW Try.underlying72 (zeroArr _) rfl HFF2.out (watV E) kE rfl HKE.out _ HV.out false HSM.out ?_) | fail)
                    clear e0 e1 e2 e3 r0 r1 HRc HV HSM
                    generalize wd.alloc (.cells #[.int .i16 0, .int .i16 0, .int .i16 0, .int .i16 0, .int .i8 0, .int .i8 0, .int .i8 0, .int .i16 0] 80) = we at *
                    generalize wd.heap.size = bx at *
                    have hbq : Blk we bq #[.int .i16 (E 0), .int .i16 (E 1), .int .i16 (E 2), .int .i16 (E 3)] 30 := HRd.out.at1
                    have hma : Blk we bm #[.int .i8 v0, .int .i8 v1, .int .i8 v2] 78 := HRd.out.at2
                    have hbw : Blk we bw #[.int .i16 (atV J a 0), .int .i16 (atV J a 1), .int .i16 (atV J a 2), .int .i16 (atV J a 3)] 30 := HRd.out.at3
                    obtain ⟨e0, e1, e2, e3, -⟩ := hbq.four
                    obtain ⟨q0, q1, q2, -⟩ := hma.three
                    obtain ⟨b0, b1, b2, b3, -⟩ := hbw.four
                    obtain ⟨r0, r1, -⟩ := HRd.out.bR.pair
                    have hlook := MapAt.look (w := we.drew) (HFd.out.block rfl) keyW Try.underlying72 (zeroArr _) HKA.out
                    rw [HVA.out] at hlook
                    have hwr : IntKind.i16.wrap (ta + 1) = ta + 1 := IntWalk.i16_in _ (by omega)
                    have hfld := field_arr2
                    clear hbq hma hbw HFF2
                    go_still_tail 12, (by kernel_rfl)
                    change wpList _ _ _ _ _ we.drew
                    have HRe := Lib.hid (HRd.out.next (Below.refl _ _).drew)
                    have HFe := Lib.hid (show MapAt _ _ we.drew mb s2.q.length F from HFd.out.block rfl)
                    clear e0 e1 e2 e3 q0 q1 q2 b0 b1 b2 b3 r0 r1 hlook hfld HRd HFd HVA
                    generalize we.drew = wf at *
                    have hq2 : s2.q.length < maxLen := by unfold maxLen; omega
                    go_wp2_with (first | (at_mapUpdate; refine wpList_storeH rfl _ _ _ 72 rfl 80 keyW Try.underlying72 rfl HFe.out hq2 (watV E) _ kE rfl rfl HKE.out ?_) | fail)
                    intro wg hMg hTg
                    have HRg := Lib.hid (HRe.out.stored (s' := s2.find a te j) (show MapAt Try.prog 30 wg mb (s2.q.length + 1) (updF F (watV (atV J te)) (arrV (atV J a) (mvI (allM J.length) j) (ta + 1))) from by rw [← HWE.out, HM3.out]; exact hMg) (by rw [HFD.out]; simp) HFS.out hTg)
                    clear hMg hTg HRe HFe HFS
                    obtain ⟨i0, hi0, hz0, hz1, hz2⟩ := info_parts info_wat
                    have hbq : Blk wg bq #[.int .i16 (E 0), .int .i16 (E 1), .int .i16 (E 2), .int .i16 (E 3)] 30 := HRg.out.at1
                    obtain ⟨e0, e1, e2, e3, -⟩ := hbq.four
                    obtain ⟨r0, r1, -⟩ := HRg.out.bR.pair
                    have hsz := HRg.out.below.size
                    have HEV4 := Lib.hid (wat_inj HWE.out)
                    clear hbq
                    go_wp2_with (at_builtin; refine wpList_append_lies _ rfl _ _ 71 rfl w.heap.size 30 i0 (.agg #[.int .i16 0, .int .i16 0, .int .i16 0, .int .i16 0]) 4 8 Try.underlying71 hi0 hz0 hz1 hz2 rfl (by decide) _ _ _ rfl (HRg.out.own.alloc _) ⟨wg.heap.size, 0, none⟩ 1 1 [.int .i16 (E 0), .int .i16 (E 1), .int .i16 (E 2), .int .i16 (E 3)] rfl rfl (World.news_of_block (cs := #[.int .i16 (E 0), .int .i16 (E 1), .int .i16 (E 2), .int .i16 (E 3)]) (t := 30) (fr := (0, 0)) (heap_alloc_new wg _)) (by simp [Value.oneCell']) (by decide) (by unfold maxLen; omega) (by omega) (by simp; omega) (wg.heap.size + 1) (by simp) ?_)
                    intro g2 cap2 wh hown5 hgrow5 hat5 hlt5
                    rw [HEV4.out 0 (by omega), HEV4.out 1 (by omega), HEV4.out 2 (by omega), HEV4.out 3 (by omega)] at hown5
                    have HRh := Lib.hid ((PMem.push HRg.out hown5 hgrow5 hat5 (by omega)).sub (L' := (bw, .cells #[.int .i16 (atV J a 0), .int .i16 (atV J a 1), .int .i16 (atV J a 2), .int .i16 (atV J a 3)] 30 (0, 0)) :: L0) (fun p hp => List.mem_cons_of_mem _ (List.mem_cons_of_mem _ hp)))
                    have hR5 := PMem.pushR HRg.out hgrow5
                    obtain ⟨u0, u1, u2⟩ := hR5.pair
                    have u5 := u2 0
                    clear HRg e0 e1 e2 e3 r0 r1 hsz hown5 hgrow5 hat5 hR5 u1 u2
                    go_wp2
                    go_roundw
                    case rel => exact ⟨j + 1, g2, cap2, by go_num, by omega, by rw [HN4.out, HFD.out, List.length_append]; exact HRh.out⟩
                    case measure => simp [intOf]; omega
                · have HN4 := Lib.hid (show GS.part (nxJ J t) a s (j + 1) = s2 by rw [HN3.out]; unfold GS.one; rw [HNJ.out, if_neg hC0])
                  have HRc := Lib.hid ((HRb.out.next ((Below.refl _ _).alloc (Nat.le_refl _) (.cells #[.int .i16 (E 0), .int .i16 (E 1), .int .i16 (E 2), .int .i16 (E 3)] 30))).sub (L' := (bw, .cells #[.int .i16 (atV J a 0), .int .i16 (atV J a 1), .int .i16 (atV J a 2), .int .i16 (atV J a 3)] 30 (0, 0)) :: L0) (fun p hp => List.mem_cons_of_mem _ hp))
                  have hC := HCC.out
                  have hCb : ((C == 0) = false) := by simpa using hC0
                  go_wp2
                  go_roundw
                  case rel => exact ⟨j + 1, g', cap', by go_num, by omega, by rw [HN4.out]; exact HRc.out⟩
                  case measure => simp [intOf]; omega
          · obtain rfl : j = M := by omega
            have HR := Lib.hid hQ
            have hpre := HPRE.out
            have hfull := Lib.hid (HFULL.out rfl)
            clear hQ
            go_wp2
            go_roundw
            case rel => exact ⟨i + 1, g', cap', by go_num, by rw [← hfull.out]; omega, by rw [← hfull.out]; exact HR.out.sub (fun p hp => List.mem_cons_of_mem _ hp)⟩
            case measure => simp [intOf]; omega
      · have he := HALLI.out (by omega)
        have HE := Lib.hid (show PMem J [] w R mb (.slice (some ⟨g, 0, none⟩) s.q.length cap) s s.q wr from hR.sub (by simp))
        have HEE := Lib.hid (show s = GS.all (nxJ J t) (allM J.length).length (nW J) (ixN J x) by rw [HMM.out, HFF.out]; exact he)
        have hret : Blk wr (w.heap.size + 1) #[.slice none 0 0, .map none] 74 := (hR.bL _ HIN.out.2.1).1
        obtain ⟨r0, r1, r2⟩ := hret.pair
        have hr2 := r2 0
        have hr3 := r2 1
        have HRT := Lib.hid (hR.bL _ HIN.out.2.1).2
        clear he hR hret r2
        go_wp2
        refine bodyPost_ret (v := .agg #[.slice (some ⟨g, 0, none⟩) s.q.length cap, .map (some mb)]) (by simp [results, Try.results46, go_sem, r0, r1]) rfl ⟨R, mb, g, cap, by rw [← HEE.out], ?_⟩
        rw [← HEE.out]
        exact (HE.out.setOther HRT.out.1.1 HRT.out.1.2 HRT.out.2 _ _ (Nat.le_add_right _ _)).setOther HRT.out.1.1 HRT.out.1.2 HRT.out.2 _ _ (Nat.le_add_right _ _)
end Go.Proofs.Ytjmgalmndpjcoaa
