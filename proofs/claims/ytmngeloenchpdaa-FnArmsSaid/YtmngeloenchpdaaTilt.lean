/-
  The walks of Tilt and TiltOfArms, in the program and in its model.
-/
import Derived.Test.YtmngeloenchpdaaFns2
namespace Go.Proofs.Ytmngeloenchpdaa
open Go.RowKit

def signI (n : Int) : Int := if n < 0 then -1 else if 0 < n then 1 else 0
theorem isNaN64_any (x : Int) (w : World) : Calls Try.prog 57 #[.int .i64 x] w fun e w' => e = .returned (.bool false) ∧ w = w' := by
  go_enter Try.func57, Try.ntmps57
  go_wp2
  go_ret
  exact ⟨rfl, rfl⟩
theorem compare64_any (x y : Int) (w : World) : Calls Try.prog 44 #[.int .i64 x, .int .i64 y] w fun e w' => e = .returned (.int .i64 (signI (x - y))) ∧ w = w' := by
  unfold signI
  by_cases h : x < y
  · rw [if_pos (by omega)]
    go_enter Try.func44, Try.ntmps44
    go_wp2_with fail
    refine (isNaN64_any _ _).mono ?_
    rintro e w' ⟨rfl, rfl⟩
    go_wp2_with fail
    refine (isNaN64_any _ _).mono ?_
    rintro e w' ⟨rfl, rfl⟩
    go_wp2
    go_ret
    exact ⟨rfl, rfl⟩
  · rw [if_neg (by omega)]
    by_cases h2 : y < x
    · rw [if_pos (by omega)]
      go_enter Try.func44, Try.ntmps44
      go_wp2_with fail
      refine (isNaN64_any _ _).mono ?_
      rintro e w' ⟨rfl, rfl⟩
      go_wp2_with fail
      refine (isNaN64_any _ _).mono ?_
      rintro e w' ⟨rfl, rfl⟩
      go_wp2
      go_ret
      exact ⟨rfl, rfl⟩
    · rw [if_neg (by omega)]
      go_enter Try.func44, Try.ntmps44
      go_wp2_with fail
      refine (isNaN64_any _ _).mono ?_
      rintro e w' ⟨rfl, rfl⟩
      go_wp2_with fail
      refine (isNaN64_any _ _).mono ?_
      rintro e w' ⟨rfl, rfl⟩
      go_wp2
      go_ret
      exact ⟨rfl, rfl⟩
/-! ### what a scale shows -/
def Arms (m l r : Int) : Prop := (0 ≤ m ∧ m ≤ 1000000) ∧ (1 ≤ l ∧ l ≤ 100) ∧ (1 ≤ r ∧ r ≤ 100)
noncomputable def codeT (ws ps : List Int) (m l r : Int) : Int := if okF ws ps = true then (if cb (Arms m l r) = true then 0 else 2) else 1
noncomputable def tiltV (ws ps : List Int) (m l r : Int) : Int :=
  if okF ws ps = true then (if cb (Arms m l r) = true then signI (loadTo 1 ws ps ws.length * r - (m + loadTo (-1) ws ps ws.length) * l) else 0) else 0
theorem prod_bd {x y a b : Int} (hx : -a ≤ x ∧ x ≤ a) (hy : 0 ≤ y ∧ y ≤ b) : -(a * b) ≤ x * y ∧ x * y ≤ a * b := by
  have h1 : x * y ≤ a * y := Int.mul_le_mul_of_nonneg_right hx.2 hy.1
  have h2 : -a * y ≤ x * y := Int.mul_le_mul_of_nonneg_right hx.1 hy.1
  have h3 : a * y ≤ a * b := Int.mul_le_mul_of_nonneg_left hy.2 (by omega)
  rw [Int.neg_mul] at h2
  omega

theorem arm_any (n : Int) (w : World) : Calls Try.prog 43 #[.int .i64 n] w fun e w' => e = .returned (.func (.func 56) #[] #[.pointer (some ⟨w.heap.size, 0, none⟩)]) ∧ w.alloc (.cells #[.int .i64 n] 2) = w' := by
  have hmf : ∀ (fn : Fn) (first cap : Array Value) (w : World), (Instr.makeFunc fn first cap).run Try.prog w = .ok (.func fn first cap) w := fun _ _ _ _ => rfl
  go_enter Try.func43, Try.ntmps43
  go_wp2
  go_ret
  exact ⟨rfl, rfl⟩
theorem armOf_any (x n : Int) (B : Nat) (w : World) (hx : -9223372036854775808 ≤ x * n ∧ x * n ≤ 9223372036854775807) (hc : w.cell? ⟨B, 0, none⟩ = some (.int .i64 n)) :
    Calls Try.prog 56 #[.int .i64 x, .pointer (some ⟨B, 0, none⟩)] w fun e w' => e = .returned (.int .i64 (x * n)) ∧ w = w' := by
  have H := Lib.hid (IntWalk.wrap64_in _ hx)
  have H2 := Lib.hid (IntWalk.i64_in _ hx)
  clear hx
  go_enter Try.func56, Try.ntmps56
  go_wp2
  go_ret
  exact ⟨reti (by first | exact H.out | exact H2.out | rfl), rfl⟩
theorem tiltOfArms_any (b off c b' off' c' : Nat) (ws ps : List Int) (m l r : Int) (w : World) (hn : ws.length ≤ 1048576) (hn' : ps.length ≤ 1048576) (hb : b < w.heap.size) (hb' : b' < w.heap.size) (hc : At .i16 w b off ws) (hc' : At .i8 w b' off' ps) (hwf : I16 ws) :
    Calls Try.prog 25 #[.slice (some ⟨b, off, none⟩) ws.length c, .slice (some ⟨b', off', none⟩) ps.length c', .int .i64 m, .int .i64 l, .int .i64 r] w fun e w' => e = .returned (.tuple #[.int .i64 (tiltV ws ps m l r), .int .i64 (codeT ws ps m l r)]) ∧ Below w.heap.size w w' := by
  have hO := validPlacing_any b off c b' off' c' ws ps w hn hn' hc hc' hwf
  unfold tiltV codeT
  cases hok : okF ws ps
  · rw [hok] at hO
    clear hok
    simp only [Bool.false_eq_true, if_false]
    go_enter Try.func25, Try.ntmps25
    go_wp2_with fail
    refine hO.mono ?_
    rintro e w' ⟨rfl, hdr⟩
    go_wp2
    go_ret2
    exact ⟨rfl, hdr.below⟩
  rw [hok] at hO
  have HF := Lib.hid (show OkF ws ps from of_cb hok)
  clear hok
  simp only [if_true]
  by_cases k1 : 0 ≤ m ∧ m ≤ 1000000
  case neg =>
    rw [show cb (Arms m l r) = false from cb_f (fun h => k1 h.1)]
    simp only [Bool.false_eq_true, if_false]
    have h1 := Lib.hid k1
    clear k1
    go_enter Try.func25, Try.ntmps25
    go_wp2_with fail
    refine hO.mono ?_
    rintro e w' ⟨rfl, hdr⟩
    go_wp2_with fail
    refine (within_f _ _ _ _ h1.out).mono ?_
    rintro e w3 ⟨rfl, rfl⟩
    go_wp2
    go_ret2
    exact ⟨rfl, hdr.below⟩
  have h1 := Lib.hid k1
  by_cases k2 : 1 ≤ l ∧ l ≤ 100
  case neg =>
    rw [show cb (Arms m l r) = false from cb_f (fun h => k2 h.2.1)]
    simp only [Bool.false_eq_true, if_false]
    have h2 := Lib.hid k2
    clear k2
    go_enter Try.func25, Try.ntmps25
    go_wp2_with fail
    refine hO.mono ?_
    rintro e w' ⟨rfl, hdr⟩
    go_wp2_with fail
    refine (within_t _ _ _ _ h1.out).mono ?_
    rintro e w3 ⟨rfl, rfl⟩
    go_wp2_with fail
    refine (within_f _ _ _ _ h2.out).mono ?_
    rintro e w3 ⟨rfl, rfl⟩
    go_wp2
    go_ret2
    exact ⟨rfl, hdr.below⟩
  have h2 := Lib.hid k2
  by_cases k3 : 1 ≤ r ∧ r ≤ 100
  case neg =>
    rw [show cb (Arms m l r) = false from cb_f (fun h => k3 h.2.2)]
    simp only [Bool.false_eq_true, if_false]
    have h3 := Lib.hid k3
    clear k3
    go_enter Try.func25, Try.ntmps25
    go_wp2_with fail
    refine hO.mono ?_
    rintro e w' ⟨rfl, hdr⟩
    go_wp2_with fail
    refine (within_t _ _ _ _ h1.out).mono ?_
    rintro e w3 ⟨rfl, rfl⟩
    go_wp2_with fail
    refine (within_t _ _ _ _ h2.out).mono ?_
    rintro e w3 ⟨rfl, rfl⟩
    go_wp2_with fail
    refine (within_f _ _ _ _ h3.out).mono ?_
    rintro e w3 ⟨rfl, rfl⟩
    go_wp2
    go_ret2
    exact ⟨rfl, hdr.below⟩
  have h3 := Lib.hid k3
  rw [show cb (Arms m l r) = true from cb_t ⟨k1, k2, k3⟩]
  simp only [if_true]
  have hlen := HF.out.1.2.1
  have B1 := loadTo_bd 1 ws ps hwf ws.length
  have B2 := loadTo_bd (-1) ws ps hwf ws.length
  generalize hR : loadTo 1 ws ps ws.length = R at *
  generalize hL : loadTo (-1) ws ps ws.length = L at *
  have P1 := prod_bd (x := R) (y := r) (a := 1000000) (b := 100) (by omega) (by omega)
  have P2 := prod_bd (x := m + L) (y := l) (a := 2000000) (b := 100) (by omega) (by omega)
  have hRt : ∀ W, At .i16 W b off ws → At .i8 W b' off' ps → Calls Try.prog 55 #[.slice (some ⟨b', off', none⟩) ps.length c', .slice (some ⟨b, off, none⟩) ws.length c] W fun e w' => e = .returned (.int .i64 R) ∧ W = w' := fun W h1 h2 => by
    rw [← hR]; exact rightLoad_any b off c b' off' c' ws ps W hn HF.out.2.1 h1 h2 hwf
  have hLt : ∀ W, At .i16 W b off ws → At .i8 W b' off' ps → Calls Try.prog 54 #[.slice (some ⟨b', off', none⟩) ps.length c', .slice (some ⟨b, off, none⟩) ws.length c] W fun e w' => e = .returned (.int .i64 L) ∧ W = w' := fun W h1 h2 => by
    rw [← hL]; exact leftLoad_any b off c b' off' c' ws ps W hn HF.out.2.1 h1 h2 hwf
  have HRt := Lib.hid hRt
  have HLt := Lib.hid hLt
  have A1 : ∀ (B : Nat) (W : World), W.cell? ⟨B, 0, none⟩ = some (.int .i64 r) → Calls Try.prog 56 #[.int .i64 R, .pointer (some ⟨B, 0, none⟩)] W fun e w' => e = .returned (.int .i64 (R * r)) ∧ W = w' := fun B W h => armOf_any R r B W (by omega) h
  have A2 : ∀ (B : Nat) (W : World), W.cell? ⟨B, 0, none⟩ = some (.int .i64 l) → Calls Try.prog 56 #[.int .i64 (m + L), .pointer (some ⟨B, 0, none⟩)] W fun e w' => e = .returned (.int .i64 ((m + L) * l)) ∧ W = w' := fun B W h => armOf_any (m + L) l B W (by omega) h
  have HA1 := Lib.hid A1
  have HA2 := Lib.hid A2
  clear hR hL hRt hLt A1 A2
  go_enter Try.func25, Try.ntmps25
  go_wp2_with fail
  refine hO.mono ?_
  rintro e w' ⟨rfl, hdr⟩
  go_wp2_with fail
  refine (within_t _ _ _ _ h1.out).mono ?_
  rintro e w3 ⟨rfl, rfl⟩
  go_wp2_with fail
  refine (within_t _ _ _ _ h2.out).mono ?_
  rintro e w3 ⟨rfl, rfl⟩
  go_wp2_with fail
  refine (within_t _ _ _ _ h3.out).mono ?_
  rintro e w3 ⟨rfl, rfl⟩
  go_wp2_with fail
  refine (panLoads_any w').mono ?_
  rintro e w2 ⟨rfl, hb2⟩
  have hB : Below w.heap.size w w2 := hdr.below.trans (hb2.mono hdr.below.size)
  have c1 := hc.below hB hb
  have c2 := hc'.below hB hb'
  have hsz := hB.size
  have al : ∀ o1 o2 o3 : Obj, Below w2.heap.size w2 (((w2.alloc o1).alloc o2).alloc o3) := fun o1 o2 o3 => (((Below.refl w2.heap.size w2).alloc (Nat.le_refl _) o1).alloc (by simp) o2).alloc (by simp; omega) o3
  have hcr : ∀ o1 o2 : Obj, (((w2.alloc o1).alloc o2).alloc (.cells #[.int .i64 r] 2)).cell? ⟨w2.heap.size + 1 + 1, 0, none⟩ = some (.int .i64 r) := fun o1 o2 => by
    rw [World.cell?_alloc_at _ _ _ _ (by simp)]; rfl
  have hcl : ∀ o1 o3 : Obj, (((w2.alloc o1).alloc (.cells #[.int .i64 l] 2)).alloc o3).cell? ⟨w2.heap.size + 1, 0, none⟩ = some (.int .i64 l) := fun o1 o3 => by
    rw [World.cell?_alloc_past _ _ _ (by simp), World.cell?_alloc_at _ _ _ _ (by simp)]; rfl
  have a1 : ∀ o1 o2 o3 : Obj, At .i16 (((w2.alloc o1).alloc o2).alloc o3) b off ws := fun o1 o2 o3 => c1.below (al o1 o2 o3) (by omega)
  have a2 : ∀ o1 o2 o3 : Obj, At .i8 (((w2.alloc o1).alloc o2).alloc o3) b' off' ps := fun o1 o2 o3 => c2.below (al o1 o2 o3) (by omega)
  go_wp2_with fail
  refine (arm_any l _).mono ?_
  rintro e w4 ⟨rfl, rfl⟩
  go_wp2_with fail
  refine (arm_any r _).mono ?_
  rintro e w5 ⟨rfl, rfl⟩
  go_wp2_with fail
  go_quiet ((first | (go_at_call 55; exact Calls.quiet_same (HRt.out _ (a1 _ _ _) (a2 _ _ _))) | (go_at_call 54; exact Calls.quiet_same (HLt.out _ (a1 _ _ _) (a2 _ _ _))) | (go_at_call 56; (with_reducible refine Calls.quiet_same (HA1.out _ _ ?_)); exact hcr _ _) | (go_at_call 56; (with_reducible refine Calls.quiet_same (HA2.out _ _ ?_)); exact hcl _ _) | (go_at_call 44; exact Calls.quiet_same (compare64_any _ _ _))))
  go_wp2
  go_ret2
  exact ⟨rfl, below_drewN (hB.trans ((al _ _ _).mono hsz)) _⟩
theorem tilt_any (b off c b' off' c' : Nat) (ws ps : List Int) (m : Int) (w : World) (hn : ws.length ≤ 1048576) (hn' : ps.length ≤ 1048576) (hb : b < w.heap.size) (hb' : b' < w.heap.size) (hc : At .i16 w b off ws) (hc' : At .i8 w b' off' ps) (hwf : I16 ws) :
    Calls Try.prog 24 #[.slice (some ⟨b, off, none⟩) ws.length c, .slice (some ⟨b', off', none⟩) ps.length c', .int .i64 m] w fun e w' => e = .returned (.tuple #[.int .i64 (tiltV ws ps m 1 1), .int .i64 (codeT ws ps m 1 1)]) ∧ Below w.heap.size w w' := by
  have hT := Lib.hid (tiltOfArms_any b off c b' off' c' ws ps m 1 1 w hn hn' hb hb' hc hc' hwf)
  go_enter Try.func24, Try.ntmps24
  go_wp2_with fail
  refine hT.out.mono ?_
  rintro e w' ⟨rfl, hB⟩
  go_wp2
  go_ret2
  exact ⟨rfl, hB⟩
end Go.Proofs.Ytmngeloenchpdaa
