/-
  Frames for laws whose answer is a ferry.
-/
import Derived.Test.YtlpmojjmnkiflaaFQy
import Derived.Test.YtlpmojjmnkiflaaWT4
namespace Go.Proofs.Ytlpmojjmnkiflaa
open Go.RowKit
set_option maxRecDepth 100000
set_option linter.unusedVariables false

theorem wtX_len (l k : Int) (xs : List Int) (t : Int) : (wtX l k xs t).length ≤ xs.length := by
  unfold wtX
  split
  · exact wtL_len _ _ _
  · simp
section
variable {w0 W : World} {L : List (Nat × Array Value × TypeId)} {R : List (Nat × List Int)} {Q : World → Prop}
/-- A call whose answer is a ferry of its own. -/
theorem Calls.frF {P : Program} {f : FuncId} {args : Array Value} {A B C : Int} {xs : List Int} {g : Nat} {ws : List Int} {p : Nat × Array Value × TypeId} (h : FQ w0 L R Q W) (hp : p ∈ L) (hm : (g, ws) ∈ R)
    (hc : Sl .u16 W.heap.size W (some ⟨g, 0, none⟩) ws → Calls P f args W fun e w' => ∃ v, e = .returned (.tuple #[.agg #[.int .i8 A, .int .i8 B, v], .int .i64 C]) ∧ OwnV .u16 W.heap.size w' v xs ∧ Below W.heap.size W w') :
    Calls P f args W fun e w' => ∃ a c, e = .returned (.tuple #[ferV A B a xs.length c, .int .i64 C]) ∧ IX .u16 (p.1 + 1) w'.heap.size w' a xs ∧ FQ w0 L R Q w' := by
  refine (hc (Sl.own (h.fr.row _ hm))).mono ?_
  rintro e w' ⟨v, rfl, ho, hb⟩
  have hlt := (h.fr.blk _ hp).lt
  rcases ho with ⟨rfl, a, c, rfl⟩ | ⟨q, c, rfl, h1, h2, h3, h4⟩
  · exact ⟨a, c, rfl, .inl rfl, h.next hb⟩
  · exact ⟨_, c, rfl, .inr ⟨q, rfl, by omega, h2, Nat.le_refl _, h3, h4⟩, h.next hb⟩
theorem eqFerX_fq {lo hi lo2 hi2 : Nat} {a a2 : Option Addr} {xs : List Int} (h : FQ w0 L R Q W) (h1 : IX .u16 lo hi W a xs) (h2 : IX .u16 lo2 hi2 W a2 xs) (A B : Int) (c c2 : Nat) (hn : xs.length ≤ 1048576) :
    Calls Try.prog 15 #[ferV A B a xs.length c, ferV A B a2 xs.length c2] W fun e w' => e = .returned (.bool true) ∧ FQ w0 L R Q w' := by
  refine (eqFerry_any A B a a2 c c2 xs W hn ?_).mono ?_
  · rcases h1 with h1 | ⟨g, rfl, _, p1, p2, p3, _⟩
    · exact .inl h1
    rcases h2 with h2 | ⟨g2, rfl, _, q1, q2, q3, _⟩
    · exact .inl h2
    exact .inr ⟨g, 0, g2, 0, rfl, rfl, by omega, by omega, p3, q3⟩
  · rintro e w' ⟨rfl, hb⟩
    exact ⟨rfl, h.next hb⟩
theorem markRow_fq {lo hi lo2 hi2 : Nat} {a a2 : Option Addr} {xs : List Int} (h : FQ w0 L R (fun W => IX .u16 lo2 hi2 W a2 xs ∧ IX .u16 lo hi W a xs) W) (c : Nat) (hn : xs.length ≤ 1048576) (h0 : w0.heap.size ≤ lo) (h1 : hi2 ≤ lo) (hL : ∀ p ∈ L, p.1 < lo ∨ hi ≤ p.1) :
    Calls Try.prog 20 #[.slice a xs.length c, .int .i64 1] W fun e w' => e = .returned (.int .i64 (xs.length + 1)) ∧ FQ w0 L [] (fun W => IX .u16 lo2 hi2 W a2 xs ∧ HX .u16 W a xs) w' := by
  obtain ⟨hm2, hm⟩ := h.q
  rcases hm with he | ⟨g, rfl, p0, p1, p2, p3, p4⟩
  · subst he
    refine (markUint16S_nil a c W).mono ?_
    rintro e w' ⟨rfl, rfl⟩
    exact ⟨rfl, h.re (fun p hp => by cases hp) ⟨hm2, .inl rfl⟩ ((stab_ix _ _ _ _ _).and (stab_hx _ _ _))⟩
  · refine (markUint16S_own g c xs W hn p3 p4).mono ?_
    rintro e w' ⟨rfl, hk, ho⟩
    refine ⟨rfl, h.only ho (by omega) (fun p hp => by have := hL p hp; omega) ⟨hm2.only ho (.inr (by omega)), .inr ⟨g, rfl, by rw [ho.size]; omega, hk⟩⟩ ((stab_ix _ _ _ _ _).and (stab_hx _ _ _))⟩
theorem markFerX_fq {lo hi lo2 hi2 : Nat} {a a2 : Option Addr} {xs : List Int} (h : FQ w0 L R (fun W => IX .u16 lo2 hi2 W a2 xs ∧ IX .u16 lo hi W a xs) W) (A B : Int) (c : Nat) (hn : xs.length ≤ 1048576) (h0 : w0.heap.size ≤ lo) (h1 : hi2 ≤ lo) (hL : ∀ p ∈ L, p.1 < lo ∨ hi ≤ p.1) :
    Calls Try.prog 19 #[ferV A B a xs.length c, .int .i64 1] W fun e w' => e = .returned (.int .i64 (xs.length + 1)) ∧ FQ w0 L [] (fun W => IX .u16 lo2 hi2 W a2 xs ∧ HX .u16 W a xs) w' := by
  have HM := Lib.hid (markRow_fq (h.next ((Below.refl _ _).alloc (Nat.le_refl _) (.cells #[.int .i8 A, .int .i8 B, .slice a xs.length c] 33))) c hn h0 h1 hL)
  obtain ⟨c0, c1, c2, -⟩ := (blk_new W #[.int .i8 A, .int .i8 B, .slice a xs.length c] 33).three
  clear h
  generalize xs.length = n at *
  go_enter Try.func19, Try.ntmps19
  go_wp2_with fail
  refine HM.out.mono ?_
  rintro e w2 ⟨rfl, hq⟩
  have HQ := Lib.hid hq
  clear hq
  go_wp2
  go_ret
  exact ⟨rfl, HQ.out⟩
theorem heldFerX_fq {a : Option Addr} {xs : List Int} (h : FQ w0 L R Q W) (hx : HX .u16 W a xs) (A B : Int) (c : Nat) (hn : xs.length ≤ 1048576) :
    Calls Try.prog 31 #[ferV A B a xs.length c, .int .i64 1] W fun e w' => e = .returned (.int .i64 (xs.length + 1)) ∧ FQ w0 L R Q w' := by
  have hb := (Below.refl W.heap.size W).alloc (Nat.le_refl _) (.cells #[.int .i8 A, .int .i8 B, .slice a xs.length c] 33)
  have HM := Lib.hid (heldUint16S_fq (h.next hb) (hx.below hb) c hn)
  obtain ⟨c0, c1, c2, -⟩ := (blk_new W #[.int .i8 A, .int .i8 B, .slice a xs.length c] 33).three
  clear h hx hb
  generalize xs.length = n at *
  go_enter Try.func31, Try.ntmps31
  go_wp2_with fail
  refine HM.out.mono ?_
  rintro e w2 ⟨rfl, hq⟩
  have HQ := Lib.hid hq
  clear hq
  go_wp2
  go_ret
  exact ⟨rfl, HQ.out⟩
end
end Go.Proofs.Ytlpmojjmnkiflaa
