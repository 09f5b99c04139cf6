/-
  The walk of LoadsFrom.
-/
import Derived.Test.YtlpmojjmnkiflaaY20
import Derived.Test.YtlpmojjmnkiflaaY11
namespace Go.Proofs.Ytlpmojjmnkiflaa
open Go.RowKit Go.Shelf
set_option maxRecDepth 100000
set_option linter.unusedVariables false

attribute [local go_sem] Oper.semAt_some

theorem vbX_tt {l k : Int} {xs : List Int} {n : Int} {f : Bool} (h : vbX l k xs n f = true) : okY l k xs = true ∧ bkX l xs n f = true := by
  unfold vbX at h; simpa using h
theorem row_next {w w' : World} {base : Nat} {e : TypeId} {size : Nat} {v : Value} {n : Nat} {xs : List Value} (h : w.ownsRow base e size v n xs) (hb : Below w.heap.size w w') : w'.ownsRow base e size v n xs :=
  h.kept (row := none) ⟨hb.os, hb.tape, hb.output, hb.size, fun k hk _ => hb.block k hk⟩ (by cases h : v.ownBlock <;> simp)
/-- An append to a row that lies past nb, behind a box: what the walk owes. -/
theorem appended_far {W w1 : World} {n₀ nb B : Nat} {t e : TypeId} {size : Nat} {v v' : Value} {k m : Nat} {xs ys : List Value} {tmp : Obj}
    (hv : Boxed W B t v) (hte : t ≠ e) (hrow : W.ownsRow nb e size v k xs) (hn₀ : n₀ ≤ W.heap.size) (hB : n₀ ≤ B) (hnb : n₀ ≤ nb)
    (hown' : w1.ownsRow nb e size v' m ys) (hgrow : (W.alloc tmp).grownBy w1 v.ownBlock) :
    Boxed w1 B t v ∧ Boxed (w1.setCell ⟨B, 0, none⟩ v') B t v' ∧ (w1.setCell ⟨B, 0, none⟩ v').ownsRow nb e size v' m ys ∧ KeepsOthers W (w1.setCell ⟨B, 0, none⟩ v') ∧ Below n₀ W (w1.setCell ⟨B, 0, none⟩ v')
      ∧ ∀ q cs u, Blk W q cs u → q < nb → q ≠ B → Blk (w1.setCell ⟨B, 0, none⟩ v') q cs u := by
  have hv1 : Boxed w1 B t v := (hv.alloc tmp).kept hgrow (hv.not_row hte hrow)
  have hrw : ∀ j, v.ownBlock = some j → nb ≤ j ∧ ∀ o, (W.alloc tmp).heap[j]? = some o → o.isCells = true := fun j ej => by
    rcases (hrow.alloc tmp).2 with ⟨rfl, _⟩ | ⟨g, cap, cur, rfl, hb, hgb, _⟩
    · simp [Value.ownBlock] at ej
    · obtain rfl : g = j := by simpa [Value.ownBlock] using ej
      exact ⟨hb, fun o ho => by rw [hgb] at ho; cases ho; rfl⟩
  refine ⟨hv1, hv1.set v', hown'.kept (grownBy_setCell' w1 B v') (.inr (hv1.not_row hte hown').symm), ?_, ?_, ?_⟩
  · exact ((KeepsOthers.alloc W tmp).trans (KeepsOthers.of_grownBy hgrow fun j o ej hj => (hrw j ej).2 o hj)).trans (KeepsOthers.setCell _ _ _)
  · exact (((Below.refl n₀ W).alloc hn₀ tmp).grown hgrow (by simp; omega) fun j ej => by have := (hrw j ej).1; omega).setCell (p := ⟨B, 0, none⟩) hB v'
  · intro q cs u hq hlt hne
    have h1 := hq.alloc tmp
    have h2 : Blk w1 q cs u := (hgrow.block q h1.lt (fun e' => by have := (hrw q e'.symm).1; omega)).trans h1
    exact h2.setOther hne _ _
theorem Try.info_u16 : (Try.prog.info? 26).map (fun i => (i.zero, i.size, i.bytes)) = some (some (.int .u16 0), 1, 2) := by kernel_rfl
abbrev uvals (L : List Int) : List Value := L.map (Value.int .u16)
set_option maxHeartbeats 4000000 in
theorem loadsFrom_in (l k : Int) (a : Option Addr) (c : Nat) (xs : List Int) (n : Int) (f : Bool) (w : World) (hs : Sl .u16 w.heap.size w a xs) (hl : B8 l) (hk : B8 k) (hn : xs.length ≤ 1048576) (hw : U16 xs) (hok : vbX l k xs n f = true) :
    CallsIn Fence.wide 9 Try.prog 17 #[ferV l k a xs.length c, bankV n f] w fun e w' => ∃ v g, e = .returned (.tuple #[v, .int .i64 0]) ∧ w.heap.size ≤ g ∧ w'.ownsRow g 26 1 v (ldA l k xs n f).length (uvals (ldA l k xs n f)) ∧ Below w.heap.size w w' := by
  have F0 := ((FR.start w).box #[.int .i8 l, .int .i8 k, .slice a xs.length c] 33).box #[.int .u16 n, .bool f] 30
  simp only [World.size_alloc] at F0
  obtain ⟨c0, c1, c2, -⟩ := (F0.blk _ (List.mem_cons_of_mem _ List.mem_cons_self)).three
  obtain ⟨d0, d1, -⟩ := (F0.blk _ List.mem_cons_self).two
  have HV := Lib.hid (validBank_any l k a c xs n f _ (hs.up F0.below (Nat.le_refl _)) hl hk hn hw)
  rw [hok] at HV
  have hy := okY_t (vbX_tt hok).1
  have HS := Lib.hid (And.intro hs (And.intro hw (And.intro hy.1 (show 0 ≤ k ∧ k ≤ 8 by have := hy.1; have := hy.2.1; omega))))
  clear hok hy hl hk hs hw
  refine callsIn_of_wp_marks Try.func17 rfl trivial ?_ rfl
  simp only [Try.ntmps17, List.size_toArray, List.length_cons, List.length_nil, Nat.reduceAdd, Nat.reduceSub, Array.replicate_succ, Array.replicate_zero, List.push_toArray, List.append_toArray, List.nil_append, List.cons_append]
  gi_wp2_with (first
    | (refine ⟨trivial, ?_⟩; gi_at_call 36; refine (callsIn_wide.2 HV.out).mono ?_; rintro e w2 ⟨rfl, hb2⟩; have F1 := F0.next hb2; obtain ⟨p0, p1, p2, -⟩ := (F1.blk _ (List.mem_cons_of_mem _ List.mem_cons_self)).three; obtain ⟨q0, q1, -⟩ := (F1.blk _ List.mem_cons_self).two; have l0 := (F1.blk _ (List.mem_cons_of_mem _ List.mem_cons_self)).lt; have l1 := (F1.blk _ List.mem_cons_self).lt; dsimp only at l0 l1)
    | (refine ⟨trivial, ?_⟩; gi_at_call 39; refine (crossings_in Fence.wide 8 trivial rfl _ _ _ _ _ _ _ _).mono ?_; rintro e w4 ⟨rfl, rfl⟩))
  have bO := Boxed.new w2 23 (.slice none 0 0)
  have bF := blk_new (w2.alloc (.cells #[.slice none 0 0] 23)) #[.int .i8 l, .int .i8 k, .slice a xs.length c] 33
  have bB := blk_new ((w2.alloc (.cells #[.slice none 0 0] 23)).alloc (.cells #[.int .i8 l, .int .i8 k, .slice a xs.length c] 33)) #[.int .u16 n, .bool f] 30
  have bF := bF.alloc (.cells #[.int .u16 n, .bool f] 30)
  have bO := (bO.alloc (.cells #[.int .i8 l, .int .i8 k, .slice a xs.length c] 33)).alloc (.cells #[.int .u16 n, .bool f] 30)
  simp only [World.size_alloc] at bF bB
  have hB0 : Below w.heap.size w (((w2.alloc (.cells #[.slice none 0 0] 23)).alloc (.cells #[.int .i8 l, .int .i8 k, .slice a xs.length c] 33)).alloc (.cells #[.int .u16 n, .bool f] 30)) := ((F1.below.alloc F1.size _).alloc (by have := F1.size; simp; omega) _).alloc (by have := F1.size; simp; omega) _
  have hsz : (((w2.alloc (.cells #[.slice none 0 0] 23)).alloc (.cells #[.int .i8 l, .int .i8 k, .slice a xs.length c] 33)).alloc (.cells #[.int .u16 n, .bool f] 30)).heap.size = w2.heap.size + 3 := by simp
  clear p0 p1 p2 q0 q1 F1 c0 c1 c2 d0 d1 F0 HV
  obtain ⟨W0, hW0⟩ : ∃ W0, (((w2.alloc (.cells #[.slice none 0 0] 23)).alloc (.cells #[.int .i8 l, .int .i8 k, .slice a xs.length c] 33)).alloc (.cells #[.int .u16 n, .bool f] 30)) = W0 := ⟨_, rfl⟩
  rw [hW0] at bF bB bO hB0 hsz ⊢
  clear hW0
  generalize w2.heap.size = s2 at *
  have HBK := Lib.hid (And.intro bF bB)
  have hlen : (ldA l k xs n f).length ≤ 256 := by have h1 := ldT_len l k xs n f ((allI l).toNat + 1); have h2 := allI_le HS.out.2.2.1; unfold ldA; omega
  clear bF bB
  obtain ⟨i0, hi, hz0, hz1, hz2⟩ := info_parts Try.info_u16
  refine loop_gives rfl (by decide) (gf := 57) (lb := #[.pointer (some ⟨s2 + 1, 0, none⟩), .pointer (some ⟨s2 + 1 + 1, 0, none⟩)]) rfl trivial (enters_of Try.func57 (by kernel_rfl) rfl)
    (encs := fun x : Int => #[.int .u16 x, bankV (xorI n x) (!f)]) (n₀ := w.heap.size) (S := fun q => q = s2 + 1 ∨ q = s2 + 1 + 1) (L := ldA l k xs n f) (by omega)
    (fun W1 h1 h2 => crossings_gives (s2 + 1) (s2 + 1 + 1) w.heap.size _ (.inl rfl) (.inr rfl) (by omega) (fun q hq => by omega) (by omega) l k a c xs n f hn HS.out.2.1 HS.out.2.2.1 HS.out.2.2.2 W1 (HS.out.1.below (hB0.trans (h2.mono hB0.size))) (HBK.out.1.below h2 HBK.out.1.lt) (HBK.out.2.below h2 HBK.out.2.lt)) (fun _ => rfl)
    (fun pre W => (∃ v, Boxed W s2 23 v ∧ W.ownsRow (s2 + 3) 26 1 v pre.length (uvals pre) ∧ True) ∧ Below w.heap.size w W)
    (fun pre W => False)
    (OwnFrom.and (Own.from (holdsRow_own (s2 + 3) s2 23 26 1 (fun pre => pre.length) (fun pre => uvals pre) (fun _ _ => True)) _) (ownFrom_below (Nat.le_refl _) (by omega)))
    (fun _ _ _ _ hs _ _ => hs)
    ⟨⟨_, bO, World.ownsRow_nil _ _ _ _, trivial⟩, hB0⟩
    (fun x a' W => a' = { tmps := #[ferV l k a xs.length c, bankV n f, .pointer (some ⟨w.heap.size, 0, none⟩), .pointer (some ⟨w.heap.size + 1, 0, none⟩), .slice none 0 0, .int .i64 0, .pointer (some ⟨s2, 0, none⟩), .int .u16 x, ferV l k a xs.length c, bankV n f, .bool true, .bool false, ferV l k a xs.length c, bankV n f, .func (.func 57) #[] #[.pointer (some ⟨s2 + 1, 0, none⟩), .pointer (some ⟨s2 + 1 + 1, 0, none⟩)], .int .u16 x, bankV (xorI n x) (!f), undef, undef, undef, undef, undef], defers := [] })
    (fun x a' _ X Y row hs hg hr => hs)
    ?assign ?body ?done ?stop
  case assign =>
    rintro l2 pre x W K hI hbn hK
    gi_wp2
    exact hK _ _ ⟨Nat.le_refl _, fun _ _ _ h _ => h⟩ ⟨Below.refl _ _, fun _ _ _ _ h => h⟩ hI rfl
  case body =>
    have HZ := Lib.hid (And.intro hsz (And.intro l0 l1))
    clear hsz l0 l1
    rintro l2 pre x a' W ⟨⟨v, hv, hrow, -⟩, hB1⟩ rfl hpre hbn
    have hc := hv.cell
    have hpl : pre.length ≤ 256 := by
      have h1 := hpre.length_le
      rw [List.length_append] at h1
      simp at h1
      omega
    have hz : s2 + 3 ≤ W.heap.size := by have h1 := hbn (s2 + 1 + 1) (.inr rfl); omega
    have hzz := hB1.size
    clear hpre
    gi_wp2_with (gi_at_builtin; refine wpListIn_append_own _ rfl _ _ 23 rfl (s2 + 3) 26 i0 (.int .u16 0) 1 2 Try.underlying23 hi hz0 hz1 hz2 rfl (by decide) _ _ _ rfl (hrow.alloc _) ⟨W.heap.size, 0, none⟩ 1 1 [.int .u16 x] rfl rfl (cell_one_new _ _ _) (by simp [Value.oneCell']) (by unfold maxLen; omega) (by omega) (by simp; omega) ?_; intro v' w1 hown' hgrow _; obtain ⟨g', cap', rfl⟩ := ownsRow_succ hown'; obtain ⟨hv1, hv2, hr2, hk2, hb2, hf2⟩ := appended_far (n₀ := w.heap.size) hv (by decide) hrow hB1.size (by have := HZ.out; omega) (by have := HZ.out; omega) hown' hgrow; have hc1 := hv1.cell; have hf1 := hv1.frozen)
    have z1 := HZ.out
    refine ⟨hk2.from _, ⟨hb2, fun B cs t hS hB => hf2 B cs t hB (by omega) (by omega)⟩, ⟨_, hv2, ?_⟩, hB1.trans hb2⟩
    simpa [uvals] using hr2
  case done =>
    rintro W ⟨⟨v, hv, hrow, -⟩, hB1⟩ hK
    have hc := hv.cell
    have hg : w.heap.size ≤ s2 + 3 := by omega
    have HR := Lib.hid (And.intro hrow (And.intro hB1 (And.intro hg (show w.heap.size ≤ W0.heap.size by omega))))
    clear hrow hB1 hsz l0 l1 hg
    gi_wp2
    refine ⟨by simp, .inl ⟨_, _, rfl, run_takeDeferred hK, ?_⟩⟩
    exact ⟨_, results_tmp2 rfl _ _ _, v, s2 + 3, rfl, HR.out.2.2.1, ownsRow_putObj HR.out.1 _ hK rfl, HR.out.2.1.trans (belowK_b (w := w) (Nat.le_refl _) W _ _ _ HR.out.2.2.2 hK rfl rfl)⟩
  case stop =>
    rintro pre W _ h _
    exact h.elim
end Go.Proofs.Ytlpmojjmnkiflaa
