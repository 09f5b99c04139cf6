/-
  FixedText and its model.
-/
import Derived.Test.YtghhmhkpkpcbjaaT6
namespace Go.Proofs.Ytghhmhkpkpcbjaa
open Go.RowKit
set_option maxRecDepth 100000
set_option linter.unusedVariables false

theorem slw_box {w : World} {a : Option Addr} {ws : List Wf} (h : Slw w.heap.size w a ws) (o : Obj) : Slw (w.alloc o).heap.size (w.alloc o) a ws := by
  rcases h with h | ⟨b, off, e, h1, h2⟩
  · exact .inl h
  · exact .inr ⟨b, off, e, by simp; omega, h2.below ((Below.refl w.heap.size w).alloc (Nat.le_refl _) o) h1⟩
theorem fixedText_any (l k : Int) (a : Option Addr) (c : Nat) (ws : List Wf) (w : World) (hs : Slw w.heap.size w a ws) (hl : B8 l) (hk : B8 k) (hn : ws.length ≤ 1048576) (hw : Wall ws) :
    Calls Try.prog 13 #[fixV l k a ws.length c] w fun e w' => e = .returned (.string (fxT l k ws)) ∧ Below w.heap.size w w' := by
  unfold fxT
  cases hok : okX l k ws
  · simp only [Bool.false_eq_true, if_false]
    have F0 := (FR.start w).box #[.int .i8 l, .int .i8 k, .slice a ws.length c] 25
    have HV := Lib.hid (validFixed_any l k a c ws _ (slw_box hs (.cells #[.int .i8 l, .int .i8 k, .slice a ws.length c] 25)) hl hk hn hw)
    rw [hok] at HV
    clear hok hs hl hk hn hw
    generalize ws.length = n at *
    obtain ⟨c0, c1, c2, -⟩ := (F0.blk _ List.mem_cons_self).three
    go_enter Try.func13, Try.ntmps13
    go_wp2_with fail
    refine HV.out.mono ?_
    rintro e w2 ⟨rfl, hb⟩
    have HB := Lib.hid (F0.next hb).below
    clear hb F0 c0 c1 c2 HV
    go_wp2
    go_ret
    exact ⟨rfl, HB.out⟩
  · simp only [if_true]
    rcases hs with rfl | ⟨b, off, rfl, hb, hc⟩
    · have := (okX_t' hok).2.2.1.1
      simp at this
    · exact fixedText_ok l k b off c ws w hb hc hl hk hw hok
theorem specFixedText_any (l k : Int) (a : Option Addr) (c : Nat) (ws : List Wf) (w : World) (hs : Slw w.heap.size w a ws) (hl : B8 l) (hk : B8 k) (hn : ws.length ≤ 1048576) (hw : Wall ws) :
    Calls Try.prog 11 #[fixV l k a ws.length c] w fun e w' => e = .returned (.string (fxT l k ws)) ∧ Below w.heap.size w w' := by
  have F0 := (FR.start w).box #[.int .i8 l, .int .i8 k, .slice a ws.length c] 25
  have HO := Lib.hid (l04Ok_any w.heap.size l k a c ws _ (F0.blk _ List.mem_cons_self) (slw_box hs (.cells #[.int .i8 l, .int .i8 k, .slice a ws.length c] 25)) hl hk hn hw)
  unfold fxT
  cases hok : okX l k ws
  · rw [hok] at HO
    clear hok hs hw hl hk
    simp only [Bool.false_eq_true, if_false]
    go_enter Try.func11, Try.ntmps11
    go_wp2_with fail
    refine HO.out.mono ?_
    rintro e w2 ⟨rfl, hb⟩
    have HB := Lib.hid (F0.next hb).below
    clear hb F0 HO
    go_wp2
    go_ret
    exact ⟨rfl, HB.out⟩
  · rw [hok] at HO
    have hx := okX_t' hok
    rcases hs with rfl | ⟨b, off, rfl, hb, hc⟩
    · have := hx.2.2.1.1
      simp at this
    have HT := Lib.hid (fun W (h : Below w.heap.size w W) (K) => l04Text_any w.heap.size b off c l k ws W K hx (Nat.lt_of_lt_of_le hb h.size) (hc.below h hb))
    clear hok hw hl hk hx hc hb
    simp only [if_true]
    generalize accF l.toNat k ws ws.length = A at *
    go_enter Try.func11, Try.ntmps11
    go_wp2_with fail
    refine HO.out.mono ?_
    rintro e w2 ⟨rfl, hb⟩
    have F1 := F0.next hb
    clear hb F0 HO
    go_wp2_with fail
    refine (HT.out _ F1.below (F1.blk _ List.mem_cons_self)).mono ?_
    rintro e w3 ⟨rfl, hb⟩
    have HB := Lib.hid (F1.next hb).below
    clear F1 HT hb
    go_wp2
    go_ret
    exact ⟨rfl, HB.out⟩
end Go.Proofs.Ytghhmhkpkpcbjaa
