/-
  IsClear: the program's and the model's.
-/
import Derived.Test.YtnleblnikcoaiaaB15
import Derived.Test.YtnleblnikcoaiaaB16
import Derived.Test.YtnleblnikcoaiaaK0
namespace Go.Proofs.Ytnleblnikcoaiaa
open Go.RowKit
set_option maxRecDepth 100000
set_option linter.unusedVariables false

theorem eqCase_fr {w0 W : World} {L : List (Nat × Array Value × TypeId)} (h : FR w0 L W) (c : Int) (g : Bool) :
    Calls Try.prog 19 #[caseV c g, caseV c g] W fun e w' => e = .returned (.bool true) ∧ FR w0 L w' := Calls.fr h (eqCase_same c g W)
/-- What IsClear hands back. -/
noncomputable def icV (l k : Int) (ws : List Wf) : Bool := decide (cnC l k ws = 6)
noncomputable def icC (l k : Int) (ws : List Wf) : Int := if okX l k ws = true then 0 else 1
theorem ic_cases (l k : Int) (ws : List Wf) : (okX l k ws = false ∧ cnC l k ws = 1 ∧ icV l k ws = false ∧ icC l k ws = 1) ∨ (okX l k ws = true ∧ cnC l k ws = 6 ∧ icV l k ws = true ∧ icC l k ws = 0 ∧ (cfR ws (upC k true ws.length)).isSome = false) ∨ (okX l k ws = true ∧ cnC l k ws = 0 ∧ icV l k ws = false ∧ icC l k ws = 0 ∧ (cfR ws (upC k true ws.length)).isSome = true) := by
  unfold icV icC
  cases hok : okX l k ws
  · exact .inl ⟨rfl, (cn_no hok).2.2, by rw [(cn_no hok).2.2]; rfl, rfl⟩
  cases hq : cfR ws (upC k true ws.length) with
  | none => exact .inr (.inl ⟨rfl, (cn_none hok hq).2.2, by rw [(cn_none hok hq).2.2]; rfl, rfl, rfl⟩)
  | some q => exact .inr (.inr ⟨rfl, (cn_some hok hq).2.2, by rw [(cn_some hok hq).2.2]; rfl, rfl, rfl⟩)
set_option maxHeartbeats 4000000 in
theorem isClear_any (l k : Int) (a : Option Addr) (c : Nat) (ws : List Wf) (w : World) (hs : Slw w.heap.size w a ws) (hl : B8 l) (hk : B8 k) (hn : ws.length ≤ 1048576) (hw : Wall ws) :
    Calls Try.prog 21 #[fixV l k a ws.length c] w fun e w' => e = .returned (.tuple #[.bool (icV l k ws), .int .i64 (icC l k ws)]) ∧ Below w.heap.size w w' := by
  have F0 := ((FR.start w).box #[.int .i8 l, .int .i8 k, .slice a ws.length c] 35)
  have HO := Lib.hid (confused_any l k a c ws _ (slw_up hs F0.below) hl hk hn hw)
  have hcs := ic_cases l k ws
  obtain ⟨c0, c1, c2, c3⟩ := (F0.blk _ List.mem_cons_self).three
  generalize cnA l k ws = ca at *
  generalize cnB l k ws = cb at *
  generalize cnC l k ws = cc at *
  generalize icV l k ws = rv at *
  generalize icC l k ws = rc at *
  have HCS := Lib.hid hcs
  clear hcs hw hs hl hk
  rcases HCS.out with ⟨-, rfl, rfl, rfl⟩ | ⟨-, rfl, rfl, rfl, -⟩ | ⟨-, rfl, rfl, rfl, -⟩
  all_goals
    clear HCS
    generalize ws.length = n at *
    go_enter Try.func21, Try.ntmps21
    go_wp2_with fail
    refine HO.out.mono ?_
    rintro e w2 ⟨rfl, hb⟩
    have F1 := F0.next hb
    clear hb c0 c1 c2 c3 HO F0
    have HB := Lib.hid (((F1.box #[.int .i8 ca.1, .bool ca.2] 37).box #[.int .i8 cb.1, .bool cb.2] 37).below)
    clear F1
    go_wp2
    go_ret2
    exact ⟨rfl, HB.out⟩
set_option maxHeartbeats 4000000 in
theorem specIsClear_any (l k : Int) (a : Option Addr) (c : Nat) (ws : List Wf) (w : World) (hs : Slw w.heap.size w a ws) (hl : B8 l) (hk : B8 k) (hn : ws.length ≤ 1048576) (hw : Wall ws) :
    Calls Try.prog 20 #[fixV l k a ws.length c] w fun e w' => e = .returned (.tuple #[.bool (icV l k ws), .int .i64 (icC l k ws)]) ∧ Below w.heap.size w w' := by
  have F0 := ((FR.start w).box #[.int .i8 l, .int .i8 k, .slice a ws.length c] 35)
  have HO := Lib.hid (l04Ok_any w.heap.size l k a c ws _ (F0.blk _ List.mem_cons_self) (slw_up hs F0.below) hl hk hn hw)
  rcases ic_cases l k ws with ⟨hok, -, h1, h2⟩ | ⟨hok, -, h1, h2, h3⟩ | ⟨hok, -, h1, h2, h3⟩
  · rw [hok] at HO
    rw [h1, h2]
    clear hok hw hs hn hl hk h1 h2
    go_enter Try.func20, Try.ntmps20
    go_wp2_with fail
    refine HO.out.mono ?_
    rintro e w2 ⟨rfl, hb⟩
    have HB := Lib.hid (F0.next hb).below
    clear hb F0 HO
    go_wp2
    go_ret2
    exact ⟨rfl, HB.out⟩
  all_goals
    obtain ⟨b, off, rfl, hb1, hc1⟩ := own_of hs (Below.refl _ _) (okX_t hok).2.2.1.1
    have HD := Lib.hid (fun W (h : Below w.heap.size w W) K => l04Confused_any w.heap.size b off c l k ws W K (Nat.lt_of_lt_of_le hb1 h.size) (hc1.below h hb1) (by have := (okX_t hok).2.2.1.2; omega) hw (okX_t hok).2.1)
    rw [h3] at HD
    rw [hok] at HO
    rw [h1, h2]
    clear hok hw hs hn hl hk h1 h2 h3 hc1
    generalize lcA ws (upC k true ws.length) = ca at *
    generalize lcB ws (upC k true ws.length) = cb at *
    go_enter Try.func20, Try.ntmps20
    go_wp2_with fail
    refine HO.out.mono ?_
    rintro e w2 ⟨rfl, hb⟩
    have F1 := F0.next hb
    clear hb F0 HO
    go_wp2_with fail
    refine (HD.out _ F1.below (F1.blk _ List.mem_cons_self)).mono ?_
    rintro e w4 ⟨rfl, hb4⟩
    have F3 := F1.next hb4
    have HB := Lib.hid (((F3.box #[.int .i8 ca.1, .bool ca.2] 37).box #[.int .i8 cb.1, .bool cb.2] 37).below)
    clear hb4 F1 HD F3
    go_wp2
    go_ret2
    exact ⟨rfl, HB.out⟩
end Go.Proofs.Ytnleblnikcoaiaa
