/-
  The model's decimal texts.
-/
import Derived.Test.YtgadcggeoonihaaDoorJT
import Derived.Deep.RegionHeld3
import Derived.RegionCalls
namespace Go.Proofs.YtgadcggeoonihaaDoor
open Go.RowKit
set_option maxRecDepth 100000
set_option linter.unusedVariables false

theorem conv_blk (w : World) (g : Nat) (u : UInt8) (h : w.heap[g]? = some (.cells #[.int .u8 u.toNat] 5 (0, 0))) : (convert 68 9 (.slice (some ⟨g, 0, none⟩) 1 1)).run Tryd.prog w = .ok (.string ⟨#[u]⟩) w := by
  have hby : Lib.Bytes w g 0 ⟨#[u]⟩ := fun i hi => by
    have : i = 0 := by have h1 : i < 1 := hi; omega
    subst this
    simp [World.cell?, h]
    rfl
  exact Lib.run_convert_whole (P := Tryd.prog) _ 68 5 9 Tryd.underlying68 Tryd.underlying5 Tryd.underlying9 g 0 ⟨#[u]⟩ hby 1
theorem conv_next {w w2 : World} {u : UInt8} {z : Int} (hz : (u.toNat : Int) = z) (hb : Below (w.alloc (.cells #[.int .u8 z] 5)).drew.heap.size (w.alloc (.cells #[.int .u8 z] 5)).drew w2) : (convert 68 9 (.slice (some ⟨w.heap.size, 0, none⟩) 1 1)).run Tryd.prog w2 = .ok (.string ⟨#[u]⟩) w2 := by
  subst hz
  have h1 : w.heap.size < (w.alloc (.cells #[.int .u8 u.toNat] 5)).drew.heap.size := by
    show w.heap.size < (w.alloc (.cells #[.int .u8 u.toNat] 5)).heap.size
    simp
  exact conv_blk w2 _ u ((hb.block _ h1).trans (heap_alloc_new w _))
theorem dig_u (n : Nat) : ∃ u : UInt8, (u.toNat : Int) = 48 + ((n % 10 : Nat) : Int) ∧ UInt8.ofNat (48 + n % 10) = u := by
  refine ⟨UInt8.ofNat (48 + n % 10), ?_, rfl⟩
  have h : n % 10 < 10 := Nat.mod_lt _ (by decide)
  have : (UInt8.ofNat (48 + n % 10)).toNat = 48 + n % 10 := by simp; omega
  rw [this]; omega
set_option maxHeartbeats 2000000 in
theorem decimal_any : ∀ (n : Nat) (w : World), n ≤ 1000000 → Calls Tryd.prog 34 #[.int .i64 (n : Int)] w fun e w' => e = .returned (.string (dcV n)) ∧ Below w.heap.size w w' := by
  intro n
  induction n using Nat.strongRecOn with
  | ind n ih =>
  intro w hn
  obtain ⟨u, hu, hu2⟩ := dig_u n
  have hu8 : u.toNat < 256 := u.toNat_lt
  have hmod : (n : Int).tmod 10 = ((n % 10 : Nat) : Int) := rfl
  have hdiv : (n : Int).tdiv 10 = ((n / 10 : Nat) : Int) := rfl
  have hm10 : n % 10 < 10 := Nat.mod_lt _ (by decide)
  have hconv := fun W => conv_one W u
  have hconvd := fun W : World => conv_blk (W.alloc (.cells #[.int .u8 u.toNat] 5)).drew W.heap.size u (heap_alloc_new W _)
  by_cases h10 : n < 10
  · have HD := Lib.hid (dcV_one h10)
    have e : n % 10 = n := Nat.mod_eq_of_lt h10
    rw [e] at hu hu2 hmod
    rw [hu2] at HD
    simp only [hu] at hconv hconvd
    clear ih hdiv hm10 e hu2
    have hi10 : (n : Int) < 10 := by omega
    go_enter Tryd.func34, Tryd.ntmps34
    go_wp2
    go_ret
    exact ⟨rets HD.out.symm, (Below.refl _ _).alloc (Nat.le_refl _) _⟩
  · have HD := Lib.hid (dcV_more h10)
    rw [hu2] at HD
    have HI := Lib.hid (fun W => ih (n / 10) (by omega) W (by omega))
    have hsz := dcV_size (n / 10)
    have hi10 : ¬ (n : Int) < 10 := by omega
    have hn2 : n / 10 ≤ 1000000 := by omega
    have hq2 := fun W => run_string_add_sum (P := Tryd.prog) W (dcV (n / 10)) ⟨#[u]⟩ (by rw [show (⟨#[u]⟩ : ByteArray).size = 1 from rfl]; omega)
    simp only [hu] at hconv hconvd
    clear ih hu2
    generalize dcV (n / 10) = T at *
    generalize n / 10 = n2 at *
    generalize n % 10 = r at *
    have hw1 : IntKind.i64.wrap (n2 : Int) = n2 := IntWalk.i64_in _ (by omega)
    have hw2 : IntKind.i64.wrap (48 + (r : Int)) = 48 + r := IntWalk.i64_in _ (by omega)
    have hw3 : IntKind.u8.wrap (48 + (r : Int)) = 48 + r := IntWalk.u8_in _ (by omega)
    go_enter Tryd.func34, Tryd.ntmps34
    go_wp2
    go_region_with (go_at_call 34; with_reducible refine (HI.out _).mono ?_; rintro e w2 ⟨rfl, hb⟩; try have hc2 := conv_next hu hb)
    all_goals
      go_wp2
      go_ret
      refine ⟨rets HD.out.symm, ?_⟩
      first
        | exact ((Below.refl _ _).drew.trans (hb.mono (Nat.le_refl _))).alloc hb.size _
        | exact ((Below.refl w.heap.size w).alloc (Nat.le_refl _) (.cells #[.int .u8 (48 + (r : Int))] 5)).drew.trans (hb.mono (by show _ ≤ (w.alloc _).heap.size; simp))
end Go.Proofs.YtgadcggeoonihaaDoor
