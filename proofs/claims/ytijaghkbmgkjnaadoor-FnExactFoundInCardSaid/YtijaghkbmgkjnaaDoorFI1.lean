/-
  FoundIn: what it hands back; the model.
-/
import Derived.Test.YtijaghkbmgkjnaaDoorZ31
namespace Go.Proofs.YtijaghkbmgkjnaaDoor
open Go.RowKit
set_option maxRecDepth 100000
set_option linter.unusedVariables false

/-- The only candidate, of a list. -/
def oneV (L : List Int) : Int := if L.length = 1 then L.headD 0 else 0
def oneC (L : List Int) : Int := if L.length = 0 then 8 else if L.length = 1 then 0 else 4
/-- What FoundIn hands back. -/
def fdV (l kk : Int) (qs : List Ak) : Int := if okG l kk qs = true then oneV (candL kk qs l.toNat) else 0
def fdC (l kk : Int) (qs : List Ak) : Int := if okG l kk qs = true then oneC (candL kk qs l.toNat) else 1
theorem fd_bad {l kk : Int} {qs : List Ak} (h : okG l kk qs = false) : fdV l kk qs = 0 ∧ fdC l kk qs = 1 := by
  unfold fdV fdC; rw [h]; exact ⟨rfl, rfl⟩
theorem fd_good {l kk : Int} {qs : List Ak} (h : okG l kk qs = true) : fdV l kk qs = oneV (candL kk qs l.toNat) ∧ fdC l kk qs = oneC (candL kk qs l.toNat) := by
  unfold fdV fdC; rw [h]; exact ⟨rfl, rfl⟩
/-- A list of numbers that a call has made. -/
theorem owns_list {t : TypeId} {B : Nat} {w : World} {v : Value} {xs : List Int} (h : w.ownsRow B t 1 v xs.length (xs.map (Value.int .i64))) :
    ∃ a c, v = .slice a xs.length c ∧ ((xs = [] ∧ a = none) ∨ ∃ g, a = some ⟨g, 0, none⟩ ∧ ∀ j, j < xs.length → w.cell? ⟨g, j, none⟩ = some (.int .i64 (xs.getD j 0))) := by
  rcases h.2 with ⟨hv, h0⟩ | ⟨g, cap, cur, hv, hB, hg, hnc, _, hs, htake⟩
  · have hx : xs = [] := by cases xs with | nil => rfl | cons y ys => simp at h0
    subst hx
    exact ⟨none, 0, hv, .inl ⟨rfl, rfl⟩⟩
  · refine ⟨_, cap, hv, .inr ⟨g, rfl, fun j hj => ?_⟩⟩
    have hl : j < (xs.map (Value.int .i64)).length := by simpa using hj
    have hu : (xs.map (Value.int .i64))[j]? = some (.int .i64 (xs.getD j 0)) := by
      rw [List.getElem?_map, List.getElem?_eq_getElem hj]; simp [List.getD_eq_getElem?_getD, List.getElem?_eq_getElem hj]
    rw [← htake, List.getElem?_take_of_lt (by simpa using hj)] at hu
    have h2 : cur[j]? = some (.int .i64 (xs.getD j 0)) := by simpa using hu
    simp [World.cell?, hg, h2]
set_option maxHeartbeats 2000000 in
theorem l06Found_any (fb : Nat) (l : Nat) (kk : Int) (a : Option Addr) (c : Nat) (xs : List Ak) (w : World) (K : Blk w fb #[.int .i8 l, .int .i8 kk, .slice a xs.length c] 31) (hs : Sla w.heap.size w a xs) (hn : xs.length ≤ 60) (hw : Aall xs) (hl : l ≤ 60) (hk : 0 ≤ kk ∧ kk ≤ 3) :
    Calls Tryd.prog 11 #[.pointer (some ⟨fb, 0, none⟩)] w fun e w' => e = .returned (.tuple #[.int .i64 (oneV (candL kk xs l)), .int .i64 (oneC (candL kk xs l))]) ∧ Below w.heap.size w w' := by
  have HC := Lib.hid (l06Candidates_any fb l kk a c xs w K hs hn hw hl hk)
  have hlen := candL_len kk xs l
  clear K hs hw
  generalize candL kk xs l = L at *
  by_cases h0 : L.length = 0
  · rw [show oneV L = 0 from by unfold oneV; rw [if_neg (by omega)], show oneC L = 8 from by unfold oneC; rw [if_pos h0]]
    go_enter Tryd.func11, Tryd.ntmps11
    go_wp2_with fail
    refine HC.out.mono ?_
    rintro e w2 ⟨u, rfl, hown, hb⟩
    obtain ⟨a2, c2, rfl, ho⟩ := owns_list hown
    have HB := Lib.hid hb
    clear hb hown
    rw [h0]
    clear ho h0 hlen
    go_wp2
    go_ret2
    exact ⟨rfl, HB.out⟩
  by_cases h1 : L.length = 1
  · obtain ⟨x, rfl⟩ := List.length_eq_one_iff.1 h1
    rw [show oneV [x] = x from rfl, show oneC [x] = 0 from rfl]
    go_enter Tryd.func11, Tryd.ntmps11
    go_wp2_with fail
    refine HC.out.mono ?_
    rintro e w2 ⟨u, rfl, hown, hb⟩
    obtain ⟨a2, c2, rfl, ho⟩ := owns_list hown
    have HB := Lib.hid hb
    clear hb hown
    rcases ho with ⟨h, _⟩ | ⟨g, rfl, hc⟩
    · cases h
    have c0 := hc 0 (by simp)
    simp only [List.getD_cons_zero, List.length_cons, List.length_nil] at c0 ⊢
    clear hc h0 h1 hlen
    go_wp2
    go_ret2
    exact ⟨rfl, HB.out⟩
  · rw [show oneV L = 0 from by unfold oneV; rw [if_neg h1], show oneC L = 4 from by unfold oneC; rw [if_neg h0, if_neg h1]]
    have h0' : ¬ (L.length : Int) = 0 := by omega
    have h1' : ¬ (L.length : Int) = 1 := by omega
    go_enter Tryd.func11, Tryd.ntmps11
    go_wp2_with fail
    refine HC.out.mono ?_
    rintro e w2 ⟨u, rfl, hown, hb⟩
    obtain ⟨a2, c2, rfl, ho⟩ := owns_list hown
    have HB := Lib.hid hb
    clear hb hown
    clear ho h0 h1 hlen
    generalize L.length = n at *
    go_wp2
    go_ret2
    exact ⟨rfl, HB.out⟩
set_option maxHeartbeats 2000000 in
theorem specFoundIn_any (l kk : Int) (a : Option Addr) (c : Nat) (xs : List Ak) (w : World) (hs : Sla w.heap.size w a xs) (hl : B8 l) (hk : B8 kk) (hn : xs.length ≤ 1048576) (hw : Aall xs) :
    Calls Tryd.prog 5 #[gamV l kk a xs.length c] w fun e w' => e = .returned (.tuple #[.int .i64 (fdV l kk xs), .int .i64 (fdC l kk xs)]) ∧ Below w.heap.size w w' := by
  have F0 := (FR.start w).box #[.int .i8 l, .int .i8 kk, .slice a xs.length c] 31
  have HV := Lib.hid (l06Ok_any w.heap.size l kk a c xs _ (F0.blk _ List.mem_cons_self) (hs.up F0.below (Nat.le_refl _)) hl hk hn hw)
  cases h : okG l kk xs
  · obtain ⟨e1, e2⟩ := fd_bad h
    rw [h] at HV
    rw [e1, e2]
    clear e1 e2 h hs hw
    generalize xs.length = n at *
    go_enter Tryd.func5, Tryd.ntmps5
    go_wp2_with fail
    refine HV.out.mono ?_
    rintro e w2 ⟨rfl, hd⟩
    have F1 := F0.next hd.below
    have HB := Lib.hid F1.below
    clear hd F0 F1
    go_wp2
    go_ret2
    exact ⟨rfl, HB.out⟩
  rw [h] at HV
  have hg := okG_t h
  obtain ⟨e1, e2⟩ := fd_good h
  rw [e1, e2]
  obtain ⟨ln, rfl⟩ := Int.eq_ofNat_of_zero_le (show 0 ≤ l by omega)
  rw [show ((ln : Int).toNat) = ln from rfl]
  have HC := Lib.hid (fun W (hK : Blk W w.heap.size #[.int .i8 (ln : Int), .int .i8 kk, .slice a xs.length c] 31) hs => l06Found_any w.heap.size ln kk a c xs W hK hs hg.2.2.1 hw (by omega) hg.2.1)
  have HS := Lib.hid hs
  clear e1 e2 h hs hw hg hl hk
  generalize oneV (candL kk xs ln) = V at *
  generalize oneC (candL kk xs ln) = C at *
  go_enter Tryd.func5, Tryd.ntmps5
  go_wp2_with fail
  refine HV.out.mono ?_
  rintro e w2 ⟨rfl, hd⟩
  have F1 := F0.next hd.below
  clear hd F0
  go_wp2_with fail
  refine (HC.out _ (F1.blk _ List.mem_cons_self) (HS.out.up F1.below (Nat.le_refl _))).mono ?_
  rintro e w3 ⟨rfl, hb⟩
  have HB := Lib.hid (F1.next hb).below
  clear hb F1
  go_wp2
  go_ret2
  exact ⟨rfl, HB.out⟩
end Go.Proofs.YtijaghkbmgkjnaaDoor
