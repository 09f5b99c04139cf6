/-
  Long lists of moves that calls have made, kept beside a frame.
-/
import Derived.Test.YtjmgalmndpjcoaaMvFq
import Derived.Test.YtjmgalmndpjcoaaWMk
import Derived.Test.YtjmgalmndpjcoaaWW4
namespace Go.Proofs.Ytjmgalmndpjcoaa
open Go.RowKit
set_option linter.unusedVariables false

theorem wtL_len (J : List Int) (x y : Nat → Int) (t : Bool) : (wtL J x y t).length ≤ 5000 := by
  unfold wtL
  by_cases h : okW2 J x y = true
  · rw [if_pos h]
    have hx : OkX J x := okZ_X (by unfold okW2 at h; exact (of_cb2 h).1)
    obtain ⟨hJ, hy⟩ := okW2_ofd h
    split
    · exact Nat.zero_le _
    · have hI := gsJ_inv (t := t) hJ hx
      have h1 := hI.far _ (ixN_eq hJ hy).2
      have h2 := hI.short
      have h3 := (nW_eq hJ).2.2
      unfold wayV
      rw [wayD_len]
      omega
  · rw [if_neg h]; exact Nat.zero_le _
/-- A list of moves that was marked. -/
def HXb (w : World) (a : Option Addr) (ms : List Mv) : Prop := ms = [] ∨ ∃ g, a = some ⟨g, 0, none⟩ ∧ g < w.heap.size ∧ Mkb w g (ms.length * 3)
theorem HXb.below {w w' : World} {a : Option Addr} {ms : List Mv} (h : HXb w a ms) (hb : Below w.heap.size w w') : HXb w' a ms := by
  rcases h with h | ⟨g, rfl, h1, h2⟩
  · exact .inl h
  · exact .inr ⟨g, rfl, Nat.lt_of_lt_of_le h1 hb.size, h2.below hb h1⟩
theorem stab_hxb (a : Option Addr) (ms : List Mv) : Stab (fun W => HXb W a ms) := fun _ _ h hb => h.below hb
section
variable {w0 w W : World} {L : List (Nat × Array Value × TypeId)} {R : List (Nat × List Int)} {Q : World → Prop}
theorem eqMoveB_fq {lo hi lo2 hi2 : Nat} {a a2 : Option Addr} {ms : List Mv} (h : FQ w0 L R Q W) (h1 : MX lo hi W a ms) (h2 : MX lo2 hi2 W a2 ms) (c c2 : Nat) (hn : ms.length ≤ 5000) :
    Calls Try.prog 21 #[.slice a ms.length c, .slice a2 ms.length c2] W fun e w' => e = .returned (.bool true) ∧ FQ w0 L R Q w' := by
  by_cases he : ms = []
  · subst he
    refine (eqMoveS_nil a a2 c c2 W).mono ?_
    rintro e w' ⟨rfl, rfl⟩
    exact ⟨rfl, h⟩
  · rcases h1 with h1 | ⟨g, rfl, _, p1, p2, p3, _⟩
    · exact absurd h1 he
    rcases h2 with h2 | ⟨g2, rfl, _, q1, q2, q3, _⟩
    · exact absurd h2 he
    refine (eqMoveS_same g c g2 c2 ms W (by omega) (by omega) (by omega) p3 q3).mono ?_
    rintro e w' ⟨rfl, hb⟩
    exact ⟨rfl, h.next hb⟩
theorem heldMoveB_fq {a : Option Addr} {ms : List Mv} (h : FQ w0 L R Q W) (hx : HXb W a ms) (c : Nat) (hn : ms.length ≤ 5000) :
    Calls Try.prog 23 #[.slice a ms.length c, .int .i64 1] W fun e w' => e = .returned (.int .i64 (ms.length * 3 + 1)) ∧ FQ w0 L R Q w' := by
  rcases hx with rfl | ⟨g, rfl, h1, h2⟩
  · refine (heldMoveS_nil a c W).mono ?_
    rintro e w' ⟨rfl, rfl⟩
    exact ⟨rfl, h⟩
  · refine (heldMoveB_any g c ms.length W hn h2).mono ?_
    rintro e w' ⟨rfl, rfl⟩
    exact ⟨rfl, h⟩
theorem markMoveB_fq {lo hi lo2 hi2 : Nat} {a a2 : Option Addr} {ms : List Mv} (h : FQ w0 L R (fun W => MX lo2 hi2 W a2 ms ∧ MX lo hi W a ms) W) (c : Nat) (hn : ms.length ≤ 5000) (h0 : w0.heap.size ≤ lo) (h1 : hi2 ≤ lo) (hL : ∀ p ∈ L, p.1 < lo) :
    Calls Try.prog 22 #[.slice a ms.length c, .int .i64 1] W fun e w' => e = .returned (.int .i64 (ms.length * 3 + 1)) ∧ FQ w0 L [] (fun W => MX lo2 hi2 W a2 ms ∧ HXb W a ms) w' := by
  obtain ⟨hm2, hm⟩ := h.q
  rcases hm with he | ⟨g, rfl, p0, p1, p2, p3, p4⟩
  · subst he
    refine (markMoveS_nil a c W).mono ?_
    rintro e w' ⟨rfl, rfl⟩
    exact ⟨rfl, h.re (fun p hp => by cases hp) ⟨hm2, .inl rfl⟩ ((stab_mx _ _ _ _).and (stab_hxb _ _))⟩
  · refine (markMoveB_any g c ms.length W hn (mat_some p3) p4).mono ?_
    rintro e w' ⟨rfl, hk, ho⟩
    refine ⟨rfl, h.only ho (by omega) (fun p hp => by have := hL p hp; omega) ⟨hm2.only ho (.inr (by omega)), .inr ⟨g, rfl, by rw [ho.size]; omega, hk⟩⟩ ((stab_mx _ _ _ _).and (stab_hxb _ _))⟩
end
end Go.Proofs.Ytjmgalmndpjcoaa
