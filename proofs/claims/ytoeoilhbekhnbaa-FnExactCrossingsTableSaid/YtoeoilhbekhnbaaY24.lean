/-
  What a table says of the banks behind a bank.
-/
import Derived.Test.YtoeoilhbekhnbaaY23
import Derived.Shelf.RegionOpen
namespace Go.Proofs.Ytoeoilhbekhnbaa
open Go.RowKit Go.Shelf
set_option maxRecDepth 100000
set_option linter.unusedVariables false

attribute [local go_sem] Oper.semAt_some

theorem le_of_andNot {n a : Int} (hn : 0 ≤ n ∧ n ≤ 65535) (ha : 0 ≤ a ∧ a ≤ 65535) (h : bits .andNot .u16 n a = 0) : n ≤ a := by
  rw [bits_andNot, toNat_eq_zero] at h
  have e : bv n &&& bv a = bv n := by
    apply BitVec.eq_of_getLsbD_eq
    intro i hi
    have e1 := congrArg (fun b => b.getLsbD i) h
    simp [hi] at e1 ⊢
    cases h1 : (bv n).getLsbD i <;> cases h2 : (bv a).getLsbD i <;> simp_all
  have e2 := congrArg BitVec.toNat e
  rw [BitVec.toNat_and] at e2
  have e3 : (bv n).toNat &&& (bv a).toNat ≤ (bv a).toNat := Nat.and_le_right
  have h1 := bv_num hn
  have h2 := bv_num ha
  omega
theorem xor_16 (n x : Int) : 0 ≤ xorI n x ∧ xorI n x ≤ 65535 := by
  unfold xorI
  rw [bits_xor]
  have := (bv n ^^^ bv x).isLt
  omega
theorem cdL_bk {l k : Int} {xs : List Int} {n : Int} {f : Bool} {x : Int} (h : cdL l k xs n f x = 0) : bkX l xs (xorI n x) (!f) = true := by
  unfold cdL at h
  by_cases h1 : offL l n f x = true
  · rw [if_pos h1] at h; omega
  · rw [if_neg h1] at h
    by_cases h2 : k < (sz x.toNat : Int)
    · rw [if_pos h2] at h; omega
    · rw [if_neg h2] at h
      by_cases h3 : bkX l xs (xorI n x) (!f) = true
      · exact h3
      · rw [if_neg h3] at h; omega
theorem bkX_far {l : Int} {xs : List Int} {n : Int} {f : Bool} (h : bkX l xs n f = true) : bits .andNot .u16 n (allI l) = 0 := by
  unfold bkX at h
  simp only [Bool.and_eq_true, beq_iff_eq] at h
  exact h.1
theorem ldT_mem {l k : Int} {xs : List Int} {n : Int} {f : Bool} {x : Int} {m : Nat} (h : x ∈ ldT l k xs n f m) : cdL l k xs n f x = 0 ∧ 0 ≤ x ∧ x < m := by
  induction m with
  | zero => cases h
  | succ m ih =>
    by_cases h0 : cdL l k xs n f (m : Int) = 0
    · rw [ldT_t h0, List.mem_append] at h
      rcases h with h | h
      · have := ih h; exact ⟨this.1, this.2.1, by omega⟩
      · rw [List.mem_singleton] at h
        subst h
        exact ⟨h0, by omega, by omega⟩
    · rw [ldT_f h0] at h
      have := ih h; exact ⟨this.1, this.2.1, by omega⟩
/-- The number of the bank behind a load. -/
def nxI (l n : Int) (f : Bool) (x : Int) : Int := nmI l (xorI n x) (!f)
theorem nx_lt {l k : Int} {xs : List Int} {n : Int} {f : Bool} {x : Int} (hl : 1 ≤ l ∧ l ≤ 8) (h : x ∈ ldA l k xs n f) : 0 ≤ nxI l n f x ∧ nxI l n f x < 2 * (allI l + 1) ∧ cdL l k xs n f x = 0 ∧ 0 ≤ x ∧ x ≤ 65535 := by
  have hm := ldT_mem h
  have ha := allI_le hl
  have h1 := le_of_andNot (xor_16 n x) (by omega) (bkX_far (cdL_bk hm.1))
  have h2 := xor_16 n x
  refine ⟨?_, ?_, hm.1, hm.2.1, by omega⟩
  · unfold nxI nmI; split <;> omega
  · unfold nxI nmI; split <;> omega
/-- A number that a table may say of a bank behind one of which it says told. -/
def okT (told v : Int) : Bool := !((v == -1) || decide (told + 1 < v))
def folX (l k : Int) (xs : List Int) (n : Int) (f : Bool) (told : Int) (tbl : List Int) : Bool := !(bkX l xs n f) || (ldA l k xs n f).all (fun x => okT told (tbl.getD (nxI l n f x).toNat 0))
theorem res_flag {W : World} {b : Nat} {v : Value} {t : TypeId} (F : Func) (hF : F.results = #[.cell 8 4]) (K : Blk W b #[v] t) (tmps : Array Value) (h6 : tmps.getD 8 undef = .pointer (some ⟨b, 0, none⟩)) : (results F tmps).run Try.prog W = .ok v W := by
  have h6' : tmps[8]?.getD undef = .pointer (some ⟨b, 0, none⟩) := by simpa using h6
  have e0 := K.cell 0
  simp at e0
  simp [results, hF, go_sem, e0, h6']
def allO (l n : Int) (f : Bool) (told : Int) (tbl pre : List Int) : Prop := ∀ x ∈ pre, okT told (tbl.getD (nxI l n f x).toNat 0) = true
def badO (l n : Int) (f : Bool) (told : Int) (tbl pre : List Int) : Prop := ∃ x ∈ pre, okT told (tbl.getD (nxI l n f x).toNat 0) = false
theorem badO_snoc {l n : Int} {f : Bool} {told : Int} {tbl pre : List Int} {x : Int} (h : okT told (tbl.getD (nxI l n f x).toNat 0) = false) : badO l n f told tbl (pre ++ [x]) := ⟨x, by simp, h⟩
theorem allO_snoc {l n : Int} {f : Bool} {told : Int} {tbl pre : List Int} {x : Int} (h0 : allO l n f told tbl pre) (h : okT told (tbl.getD (nxI l n f x).toNat 0) = true) : allO l n f told tbl (pre ++ [x]) := fun y hy => by
  rcases List.mem_append.1 hy with h1 | h1
  · exact h0 y h1
  · rw [List.mem_singleton] at h1; rw [h1]; exact h
theorem blk_put {W : World} {b l : Nat} {cs : Array Value} {t : TypeId} {o : Obj} (h : Blk W b cs t) (hne : l ≠ b) : Blk (W.putObj l o) b cs t := (World.putObj_heap_other (Ne.symm hne)).trans h
theorem folX_t {l k : Int} {xs : List Int} {n : Int} {f : Bool} {told : Int} {tbl : List Int} (h : ∀ x ∈ ldA l k xs n f, okT told (tbl.getD (nxI l n f x).toNat 0) = true) : folX l k xs n f told tbl = true := by
  unfold folX
  rw [Bool.or_eq_true]
  exact .inr (List.all_eq_true.2 h)
theorem folX_f {l k : Int} {xs : List Int} {n : Int} {f : Bool} {told : Int} {tbl : List Int} (hb : bkX l xs n f = true) (h : ∃ x ∈ ldA l k xs n f, okT told (tbl.getD (nxI l n f x).toNat 0) = false) : folX l k xs n f told tbl = false := by
  unfold folX
  rw [hb, Bool.not_true, Bool.false_or, Bool.eq_false_iff]
  intro he
  obtain ⟨x, hx, h0⟩ := h
  rw [List.all_eq_true.1 he x hx] at h0
  cases h0
set_option maxHeartbeats 4000000 in
theorem followsFrom_in (l k : Int) (a : Option Addr) (c : Nat) (xs : List Int) (n : Int) (f : Bool) (told : Int) (ta : Option Addr) (tc : Nat) (tbl : List Int) (w : World) (hs : Sl .u16 w.heap.size w a xs) (ht : Sl .i16 w.heap.size w ta tbl) (hn : xs.length ≤ 1048576) (hw : U16 xs) (hl : 1 ≤ l ∧ l ≤ 8) (hk : 0 ≤ k ∧ k ≤ 8) (hT : (tbl.length : Int) = 2 * (allI l + 1)) (h16 : I16 tbl) (htd : -32768 ≤ told ∧ told ≤ 32767) :
    CallsIn Fence.wide 9 Try.prog 63 #[ferV l k a xs.length c, bankV n f, .int .i16 told, .slice ta tbl.length tc] w fun e w' => e = .returned (.bool (folX l k xs n f told tbl)) ∧ Below w.heap.size w w' := by
  have F0 := ((((FR.start w).box #[.int .i8 l, .int .i8 k, .slice a xs.length c] 30).box #[.int .u16 n, .bool f] 64).box #[.int .i16 told] 58).box #[.slice ta tbl.length tc] 27
  have F0 := F0.box #[.bool false] 4
  simp only [World.size_alloc] at F0
  obtain ⟨c0, c1, c2, -⟩ := (F0.blk _ (List.mem_cons_of_mem _ (List.mem_cons_of_mem _ (List.mem_cons_of_mem _ (List.mem_cons_of_mem _ List.mem_cons_self))))).three
  obtain ⟨d0, d1, -⟩ := (F0.blk _ (List.mem_cons_of_mem _ (List.mem_cons_of_mem _ (List.mem_cons_of_mem _ List.mem_cons_self)))).two
  have HV := Lib.hid (allows_any l k a c xs n f _ (hs.up F0.below (Nat.le_refl _)) hn hw hl)
  refine callsIn_of_wp_marks Try.func63 rfl trivial ?_ rfl
  simp only [Try.ntmps63, List.size_toArray, List.length_cons, List.length_nil, Nat.reduceAdd, Nat.reduceSub, Array.replicate_succ, Array.replicate_zero, List.push_toArray, List.append_toArray, List.nil_append, List.cons_append]
  cases hbk : bkX l xs n f
  · rw [hbk] at HV
    have HR := Lib.hid (show folX l k xs n f told tbl = true by unfold folX; rw [hbk]; rfl)
    clear hbk hs ht hw hl hk hT h16
    gi_wp2_with (first
      | (refine ⟨trivial, ?_⟩; gi_at_call 74; refine (callsIn_wide.2 HV.out).mono ?_; rintro e w2 ⟨rfl, hb2⟩; have F1 := F0.next hb2; have F2 := F1.setTop 0 (.bool true); obtain ⟨r0, rf⟩ := (F1.blk _ List.mem_cons_self).one; clear F1 F0 c0 c1 c2 d0 d1))
    exact ⟨_, res_flag _ Try.results63 (F2.blk _ List.mem_cons_self) _ rfl, by rw [HR.out], F2.below⟩
  rw [hbk] at HV
  have HS := Lib.hid (And.intro hs (And.intro ht (And.intro hw (And.intro hl (And.intro hk (And.intro hT (And.intro h16 htd)))))))
  have HRT := Lib.hid (fun h => folX_t (l := l) (k := k) (xs := xs) (n := n) (f := f) (told := told) (tbl := tbl) h)
  have HRF := Lib.hid (fun h => folX_f (l := l) (k := k) (xs := xs) (n := n) (f := f) (told := told) (tbl := tbl) hbk h)
  have HNX := Lib.hid (fun x h => nx_lt (l := l) (k := k) (xs := xs) (n := n) (f := f) (x := x) hl h)
  clear hbk hs ht hw hl hk hT h16
  gi_wp2_with (first
    | (refine ⟨trivial, ?_⟩; gi_at_call 74; refine (callsIn_wide.2 HV.out).mono ?_; rintro e w2 ⟨rfl, hb2⟩; have F1 := F0.next hb2; obtain ⟨p0, p1, p2, -⟩ := (F1.blk _ (List.mem_cons_of_mem _ (List.mem_cons_of_mem _ (List.mem_cons_of_mem _ (List.mem_cons_of_mem _ List.mem_cons_self))))).three; obtain ⟨q0, q1, -⟩ := (F1.blk _ (List.mem_cons_of_mem _ (List.mem_cons_of_mem _ (List.mem_cons_of_mem _ List.mem_cons_self)))).two; clear c0 c1 c2 d0 d1 hb2)
    | (refine ⟨trivial, ?_⟩; gi_at_call 61; refine (crossings_in Fence.wide 8 trivial rfl _ _ _ _ _ _ _ _).mono ?_; rintro e w4 ⟨rfl, rfl⟩))
  clear p0 p1 p2 q0 q1
  have hz2 : w.heap.size + 1 + 1 + 1 + 1 < w2.heap.size := (F1.blk _ List.mem_cons_self).lt
  have F2 := (F1.box #[.int .i8 l, .int .i8 k, .slice a xs.length c] 30).box #[.int .u16 n, .bool f] 64
  simp only [World.size_alloc] at F2
  have hsz : ((w2.alloc (.cells #[.int .i8 l, .int .i8 k, .slice a xs.length c] 30)).alloc (.cells #[.int .u16 n, .bool f] 64)).heap.size = w2.heap.size + 2 := by simp
  have bF := F2.blk _ (List.mem_cons_of_mem _ List.mem_cons_self)
  have bB := F2.blk _ List.mem_cons_self
  have bR := F2.blk _ (List.mem_cons_of_mem _ (List.mem_cons_of_mem _ List.mem_cons_self))
  have bT := F2.blk _ (List.mem_cons_of_mem _ (List.mem_cons_of_mem _ (List.mem_cons_of_mem _ List.mem_cons_self)))
  have bD := F2.blk _ (List.mem_cons_of_mem _ (List.mem_cons_of_mem _ (List.mem_cons_of_mem _ (List.mem_cons_of_mem _ List.mem_cons_self))))
  have bE := F2.blk _ (List.mem_cons_of_mem _ (List.mem_cons_of_mem _ (List.mem_cons_of_mem _ (List.mem_cons_of_mem _ (List.mem_cons_of_mem _ (List.mem_cons_of_mem _ List.mem_cons_self))))))
  have hB0 := F2.below
  dsimp only at bF bB bR bT bD bE
  clear F1 F2 F0
  obtain ⟨W0, hW0⟩ : ∃ W0, ((w2.alloc (.cells #[.int .i8 l, .int .i8 k, .slice a xs.length c] 30)).alloc (.cells #[.int .u16 n, .bool f] 64)) = W0 := ⟨_, rfl⟩
  rw [hW0] at bF bB bR bT bD bE hB0 hsz ⊢
  clear hW0
  generalize w2.heap.size = s2 at *
  have HBK := Lib.hid (And.intro bF bB)
  clear bF bB
  refine loop_gives rfl (by decide) (gf := 70) (lb := #[.pointer (some ⟨s2, 0, none⟩), .pointer (some ⟨s2 + 1, 0, none⟩)]) rfl trivial (enters_of Try.func70 (by kernel_rfl) rfl)
    (encs := fun x : Int => #[.int .u16 x, bankV (xorI n x) (!f)]) (n₀ := w.heap.size) (S := fun q => q = s2 ∨ q = s2 + 1) (L := ldA l k xs n f) (by omega)
    (fun W1 h1 h2 => crossings_gives s2 (s2 + 1) w.heap.size _ (.inl rfl) (.inr rfl) (by omega) (fun q hq => by omega) (by omega) l k a c xs n f hn HS.out.2.2.1 HS.out.2.2.2.1 HS.out.2.2.2.2.1 W1 (HS.out.1.below (hB0.trans (h2.mono hB0.size))) (HBK.out.1.below h2 HBK.out.1.lt) (HBK.out.2.below h2 HBK.out.2.lt)) (fun _ => rfl)
    (fun pre W => ((Blk W w.heap.size #[.int .i8 l, .int .i8 k, .slice a xs.length c] 30 ∧ Blk W (w.heap.size + 1 + 1) #[.int .i16 told] 58) ∧ Blk W (w.heap.size + 1 + 1 + 1) #[.slice ta tbl.length tc] 27 ∧ Blk W (w.heap.size + 1 + 1 + 1 + 1) #[.bool false] 4) ∧ Below w.heap.size w W ∧ allO l n f told tbl pre)
    (fun pre W => Blk W (w.heap.size + 1 + 1 + 1 + 1) #[.bool false] 4 ∧ Below w.heap.size w W ∧ badO l n f told tbl pre)
    (OwnFrom.and (OwnFrom.and (OwnFrom.and (Own.from (blk_own _ _ (fun _ => _)) _) (Own.from (blk_own _ _ (fun _ => _)) _)) (OwnFrom.and (Own.from (blk_own _ _ (fun _ => _)) _) (Own.from (blk_own _ _ (fun _ => _)) _))) (OwnFrom.and (ownFrom_below (Nat.le_refl _) (by omega)) (pure_own _ _)))
    (OwnFrom.and (Own.from (blk_own _ _ (fun _ => _)) _) (OwnFrom.and (ownFrom_below (Nat.le_refl _) (by omega)) (pure_own _ _)))
    ⟨⟨⟨bE, bD⟩, bT, bR⟩, hB0, fun x h => by cases h⟩
    (fun x a' W => ∃ Bx, Blk W Bx #[.int .u16 (xorI n x), .bool (!f)] 64 ∧ a' = { tmps := #[ferV l k a xs.length c, bankV n f, .int .i16 told, .slice ta tbl.length tc, .pointer (some ⟨w.heap.size, 0, none⟩), .pointer (some ⟨w.heap.size + 1, 0, none⟩), .pointer (some ⟨w.heap.size + 1 + 1, 0, none⟩), .pointer (some ⟨w.heap.size + 1 + 1 + 1, 0, none⟩), .pointer (some ⟨w.heap.size + 1 + 1 + 1 + 1, 0, none⟩), undef, .pointer (some ⟨Bx, 0, none⟩), undef, ferV l k a xs.length c, bankV n f, .bool true, .bool false, ferV l k a xs.length c, bankV n f, .func (.func 70) #[] #[.pointer (some ⟨s2, 0, none⟩), .pointer (some ⟨s2 + 1, 0, none⟩)], .int .u16 x, bankV (xorI n x) (!f), undef, undef, undef, undef, undef, undef, undef, undef, undef, undef, undef, undef, undef, undef, undef, undef], defers := [] })
    (fun x a' _ X Y row hs hg hr => by obtain ⟨Bx, h2, h4⟩ := hs; exact ⟨Bx, blk_own _ _ (fun (_ : Unit) => _) () X Y row h2 hg (fun r e => (hr r e).2), h4⟩)
    ?assign ?body ?done ?stop
  case assign =>
    rintro l2 pre x W K ⟨⟨⟨b1, b2⟩, b3, b4⟩, hB1, hok⟩ hbn hK
    gi_wp2
    exact hK _ _ ((KeepsOthers.alloc _ _).from _) (KpS.alloc hB1.size _) ⟨⟨⟨b1.alloc _, b2.alloc _⟩, b3.alloc _, b4.alloc _⟩, hB1.alloc hB1.size _, hok⟩ ⟨W.heap.size, blk_new W _ _, rfl⟩
  case body =>
    have HZ := Lib.hid (And.intro hsz hz2)
    clear hsz hz2
    rintro l2 pre x a' W ⟨⟨⟨b1, b2⟩, b3, b4⟩, hB1, hok⟩ ⟨Bx, bX, rfl⟩ hpre hbn
    have hmem : x ∈ ldA l k xs n f := hpre.subset (by simp)
    have hnx := HNX.out x hmem
    have HNM := Lib.hid (fun W => number_any l k a xs.length c (xorI n x) (!f) W HS.out.2.2.2.1 (xor_16 n x))
    have hxr := xor_16 n x
    obtain ⟨j, hj⟩ : ∃ j : Nat, nxI l n f x = j := ⟨(nxI l n f x).toNat, by omega⟩
    have HOK := Lib.hid (show okT told (tbl.getD (nxI l n f x).toNat 0) = okT told (tbl.getD j 0) by rw [hj, Int.toNat_natCast])
    have HTB := Lib.hid (show ∀ W', Below w.heap.size w W' → ∃ b off, ta = some ⟨b, off, none⟩ ∧ W'.cell? ⟨b, off + j, none⟩ = some (.int .i16 (tbl.getD j 0)) from fun W' hW' => by
      have hjt : j < tbl.length := by have := HS.out.2.2.2.2.2.1; omega
      rcases HS.out.2.1.below hW' with h | ⟨b, off, e, _, h⟩
      · rw [h] at hjt; exact absurd hjt (by simp)
      · exact ⟨b, off, e, h j hjt⟩)
    have hjt : (j : Int) < (tbl.length : Int) := by have := HS.out.2.2.2.2.2.1; omega
    have hv16 := HS.out.2.2.2.2.2.2.1 j
    have HJ := Lib.hid (show nmI l (xorI n x) (!f) = (j : Int) from hj)
    rw [HJ.out] at HNM
    obtain ⟨tb, toff, rfl, htc⟩ := HTB.out W hB1
    have HTC := Lib.hid (fun W' h => by
      obtain ⟨b', o', e, hc⟩ := HTB.out W' h
      obtain ⟨rfl, rfl⟩ : tb = b' ∧ toff = o' := by injection e with e; injection e with e1 e2; exact ⟨e1, e2⟩
      exact hc)
    clear hnx hj HTB
    generalize tbl.getD j 0 = v at *
    obtain ⟨c0, c1, c2, -⟩ := b1.three
    obtain ⟨x0, x1, -⟩ := bX.two
    have t0 := b3.cell 0
    have HK := Lib.hid (And.intro b1 (And.intro b2 (And.intro b3 (And.intro b4 (And.intro bX hB1)))))
    clear b1 b2 b3 b4 bX hB1
    simp at t0
    have hmx : Try.prog.follows .mixedOrders = true := by kernel_rfl
    gi_wp2
    gi_region_with_o (refine ⟨trivial, ?_⟩; gi_at_call 40; refine (CallsIn.inRound l2 (callsIn_wide.2 (HNM.out _))).mono ?_; rintro e w3 ⟨rfl, hb3⟩; have g3 := Blk.below (w := W.drew) HK.out.2.2.1 hb3 HK.out.2.2.1.lt; have t3 := g3.cell 0; simp at t3; have hb4 : Below W.heap.size W w3 := ⟨hb3.os, hb3.tape, hb3.output, hb3.size, hb3.block⟩; have htc3 := HTC.out w3 (HK.out.2.2.2.2.2.trans (hb4.mono HK.out.2.2.2.2.2.size)); have HG := Lib.hid hb4; clear hb3 hb4 g3)
    all_goals
      have hb := HG.out
      have m1 := HK.out.1.below hb HK.out.1.lt
      have m2 := HK.out.2.1.below hb HK.out.2.1.lt
      have m3 := HK.out.2.2.1.below hb HK.out.2.2.1.lt
      have m4 := HK.out.2.2.2.1.below hb HK.out.2.2.2.1.lt
      have mB := HK.out.2.2.2.2.2.trans (hb.mono HK.out.2.2.2.2.2.size)
      have hks := kps_call (S := fun q => q = s2 ∨ q = s2 + 1) HK.out.2.2.2.2.2.size hb
      have hkf := (KeepsBut.from (B := w.heap.size) (l := 0) (C := W0.heap.size) (kb_call hb) (by have := HZ.out; omega) (by have := HZ.out; omega))
      have o0 := m2.cell 0
      simp at o0
      clear c0 c1 c2 x0 x1 t0 t3 htc htc3 hb
      by_cases hv : v = -1
      · subst hv
        have hno : okT told (tbl.getD (nxI l n f x).toNat 0) = false := by rw [HOK.out]; rfl
        have r5 := m4.set 0 (.bool false)
        have hB5 := mB.setCell (p := ⟨w.heap.size + 1 + 1 + 1 + 1, 0, none⟩) (show w.heap.size ≤ w.heap.size + 1 + 1 + 1 + 1 by omega) (.bool false)
        have hk5 := hkf.trans ((KeepsOthers.setCell w3 ⟨w.heap.size + 1 + 1 + 1 + 1, 0, none⟩ (.bool false)).from W0.heap.size)
        obtain ⟨z0, zf⟩ := m4.one
        have HH := Lib.hid (And.intro hk5 (And.intro r5 (And.intro hB5 hno)))
        clear r5 hB5 hk5 m1 m2 m3 m4 mB hks hkf hno
        gi_wp2
        exact ⟨HH.out.1, HH.out.2.1, HH.out.2.2.1, badO_snoc HH.out.2.2.2⟩
      have e0 : (v == -1) = false := by rw [beq_eq_false_iff_ne]; exact hv
      by_cases hv2 : told + 1 < v
      · have hno : okT told (tbl.getD (nxI l n f x).toNat 0) = false := by rw [HOK.out]; unfold okT; rw [e0, decide_eq_true hv2]; rfl
        have r5 := m4.set 0 (.bool false)
        have hB5 := mB.setCell (p := ⟨w.heap.size + 1 + 1 + 1 + 1, 0, none⟩) (show w.heap.size ≤ w.heap.size + 1 + 1 + 1 + 1 by omega) (.bool false)
        have hk5 := hkf.trans ((KeepsOthers.setCell w3 ⟨w.heap.size + 1 + 1 + 1 + 1, 0, none⟩ (.bool false)).from W0.heap.size)
        obtain ⟨z0, zf⟩ := m4.one
        have HH := Lib.hid (And.intro hk5 (And.intro r5 (And.intro hB5 hno)))
        clear r5 hB5 hk5 m1 m2 m3 m4 mB hks hkf hno
        gi_wp2
        exact ⟨HH.out.1, HH.out.2.1, HH.out.2.2.1, badO_snoc HH.out.2.2.2⟩
      have hyes : okT told (tbl.getD (nxI l n f x).toNat 0) = true := by rw [HOK.out]; unfold okT; rw [e0, decide_eq_false hv2]; rfl
      have hok2 := allO_snoc hok hyes
      have HH := Lib.hid (And.intro hkf (And.intro hks (And.intro (And.intro (And.intro m1 m2) (And.intro m3 m4)) (And.intro mB hok2))))
      clear m1 m2 m3 m4 mB hks hkf hok2 hyes hok
      gi_wp2
      exact HH.out
  case done =>
    rintro W ⟨⟨⟨b1, b2⟩, b3, b4⟩, hB1, hok⟩ hK
    have h0 : w.heap.size ≤ W.heap.size := hB1.size
    have b5 := b4.set 0 (.bool true)
    have hB5 := hB1.setCell (p := ⟨w.heap.size + 1 + 1 + 1 + 1, 0, none⟩) (show w.heap.size ≤ w.heap.size + 1 + 1 + 1 + 1 by omega) (.bool true)
    have hK5 := ((KeepsOthers.setCell W ⟨w.heap.size + 1 + 1 + 1 + 1, 0, none⟩ (.bool true)).from 0).same _ _ (Nat.zero_le _) hK rfl
    have HH := Lib.hid (And.intro b5 (And.intro hB5 (And.intro hK5 (HRT.out hok))))
    have HZ := Lib.hid (And.intro hsz hz2)
    obtain ⟨r0, rf⟩ := b4.one
    clear b1 b2 b3 b4 b5 hB1 hB5 hK hK5 hok hsz hz2 hB0
    gi_wp2
    refine ⟨by simp, .inl ⟨_, _, rfl, run_takeDeferred HH.out.2.2.1, ?_⟩⟩
    exact ⟨_, res_flag _ Try.results63 (blk_put HH.out.1 (by have := HZ.out; omega)) _ rfl, by rw [HH.out.2.2.2], HH.out.2.1.trans (belowK_b (w := w) (Nat.le_refl _) _ _ _ _ (by have := HZ.out; omega) HH.out.2.2.1 rfl rfl)⟩
  case stop =>
    rintro pre W hpre ⟨b4, hB1, hbad⟩ hK
    have HH := Lib.hid (And.intro b4 (And.intro hB1 (And.intro hK (HRF.out (by obtain ⟨x, hx, hno⟩ := hbad; exact ⟨x, hpre.subset hx, hno⟩)))))
    have HZ := Lib.hid (And.intro hsz hz2)
    clear b4 hB1 hK hbad hsz hz2
    gi_wp2
    refine ⟨by simp, .inl ⟨_, _, rfl, run_takeDeferred HH.out.2.2.1, ?_⟩⟩
    exact ⟨_, res_flag _ Try.results63 (blk_put HH.out.1 (by have := HZ.out; omega)) _ rfl, by rw [HH.out.2.2.2], HH.out.2.1.trans (belowK_b (w := w) (Nat.le_refl _) _ _ _ _ (by have := HZ.out; omega) HH.out.2.2.1 rfl rfl)⟩
end Go.Proofs.Ytoeoilhbekhnbaa
