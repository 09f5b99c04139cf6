/-
  The walks of the functions that reckon with a placing: masses, how many weights are used, what a scale shows.
-/
import Derived.Test.YtmngeloenchpdaaFns1
import Derived.Laws.EntriesVeiled
namespace Go.Proofs.Ytmngeloenchpdaa
open Go.RowKit

theorem loadAt_any (b off c b' off' c' : Nat) (ws ps : List Int) (q : Int) (w : World) (hn : ws.length ≤ 1048576) (hl : ps.length = ws.length) (hc : At .i16 w b off ws) (hc' : At .i8 w b' off' ps) (hwf : I16 ws) :
    Calls Try.prog 72 #[.slice (some ⟨b', off', none⟩) ps.length c', .slice (some ⟨b, off, none⟩) ws.length c, .int .i8 q] w fun e w' => e = .returned (.int .i64 (loadTo q ws ps ws.length)) ∧ w = w' := by
  have HL := Lib.hid hl
  have hl' : (ps.length : Nat) ≤ ws.length := by omega
  have hl2 : (ws.length : Nat) ≤ ps.length := by omega
  clear hl
  go_enter Try.func72, Try.ntmps72
  go_wp2
  go_loop [7, 12] (fun s i => ∃ k : Nat, k ≤ ps.length ∧ i = .int .i64 k ∧ s = .int .i64 (loadTo q ws ps k)) (fun _ i => ps.length - (intOf i).toNat)
  case atStart => exact ⟨0, Nat.zero_le _, rfl, rfl⟩
  case round =>
    obtain ⟨k, hk, rfl, rfl⟩ := hrel
    by_cases hlt : k < ps.length
    · have h1 := hc k (by omega)
      have h2 := hc' k hlt
      have hlt' : k < ws.length := by omega
      have H := Lib.hid (show loadTo q ws ps (k + 1) = loadTo q ws ps k + if ps.getD k 0 = q then ws.getD k 0 else 0 from rfl)
      have B := loadTo_bd q ws ps hwf k
      have hx := hwf k
      generalize ws.getD k 0 = x at *
      generalize ps.getD k 0 = y at *
      generalize loadTo q ws ps k = M at *
      by_cases he : y = q
      · have hb : (y == q) = true := by simpa using he
        have HE := Lib.hid he
        clear he
        go_wp2
        go_round
        case rel => exact ⟨k + 1, by omega, by go_num, by rw [H.out, if_pos HE.out]⟩
        case measure => simp [intOf]; omega
      · have hb : (y == q) = false := by simpa using he
        have HE := Lib.hid he
        clear he
        go_wp2
        go_round
        case rel => exact ⟨k + 1, by omega, by go_num, by rw [H.out, if_neg HE.out, Int.add_zero]⟩
        case measure => simp [intOf]; omega
    · have hke : k = ws.length := by omega
      have HK := Lib.hid hke
      clear hke
      go_wp2
      go_ret
      exact ⟨reti (by rw [HK.out]), rfl⟩
theorem leftLoad_any (b off c b' off' c' : Nat) (ws ps : List Int) (w : World) (hn : ws.length ≤ 1048576) (hl : ps.length = ws.length) (hc : At .i16 w b off ws) (hc' : At .i8 w b' off' ps) (hwf : I16 ws) :
    Calls Try.prog 54 #[.slice (some ⟨b', off', none⟩) ps.length c', .slice (some ⟨b, off, none⟩) ws.length c] w fun e w' => e = .returned (.int .i64 (loadTo (-1) ws ps ws.length)) ∧ w = w' := by
  have hC := loadAt_any b off c b' off' c' ws ps (-1) w hn hl hc hc' hwf
  clear hl
  go_enter Try.func54, Try.ntmps54
  go_wp2_with fail
  refine hC.mono ?_
  rintro e w' ⟨rfl, rfl⟩
  go_wp2
  go_ret
  exact ⟨rfl, rfl⟩
theorem rightLoad_any (b off c b' off' c' : Nat) (ws ps : List Int) (w : World) (hn : ws.length ≤ 1048576) (hl : ps.length = ws.length) (hc : At .i16 w b off ws) (hc' : At .i8 w b' off' ps) (hwf : I16 ws) :
    Calls Try.prog 55 #[.slice (some ⟨b', off', none⟩) ps.length c', .slice (some ⟨b, off, none⟩) ws.length c] w fun e w' => e = .returned (.int .i64 (loadTo 1 ws ps ws.length)) ∧ w = w' := by
  have hC := loadAt_any b off c b' off' c' ws ps 1 w hn hl hc hc' hwf
  clear hl
  go_enter Try.func55, Try.ntmps55
  go_wp2_with fail
  refine hC.mono ?_
  rintro e w' ⟨rfl, rfl⟩
  go_wp2
  go_ret
  exact ⟨rfl, rfl⟩

theorem panLoads_any (w : World) : Calls Try.prog 42 #[] w fun e w' => e = .returned (.agg #[.func (.func 54) #[] #[], .func (.func 55) #[] #[]]) ∧ Below w.heap.size w w' := by
  go_enter Try.func42, Try.ntmps42
  go_wp2
  exact bodyPost_ret (v := .agg #[.func (.func 54) #[] #[], .func (.func 55) #[] #[]]) (by simp [results, Try.results42, go_sem]) rfl ⟨rfl, (Below.refl _ _).alloc (Nat.le_refl _) _⟩

noncomputable def massV (ws ps : List Int) : Int := if okF ws ps = true then massTo ws ps ws.length else 0
noncomputable def codeF (ws ps : List Int) : Int := if okF ws ps = true then 0 else 1
/-! ### how many weights are used -/
noncomputable def usedV (ws ps : List Int) : Int := if okF ws ps = true then usedTo ps ps.length else 0
end Go.Proofs.Ytmngeloenchpdaa
