/-
  The text of a plan of turns: the numbers and the model.
-/
import Derived.Test.YtlmmfcbdhmhekaaTB3
import Derived.Test.YtlmmfcbdhmhekaaTI2
import Derived.Lib.Join
namespace Go.Proofs.Ytlmmfcbdhmhekaa
open Go.RowKit
set_option maxRecDepth 100000
set_option linter.unusedVariables false

/-- The text of the first k sets. -/
def acT (P : List Int) : Nat → ByteArray
  | 0 => ⟨#[]⟩
  | k + 1 => (if k = 0 then acT P k else acT P k ++ ⟨#[32]⟩) ++ txV (P.getD k 0).toNat
noncomputable def ttP (P : List Int) : ByteArray := if plC P = 0 then acT P P.length else ⟨#[]⟩
theorem txV_size (x : Nat) : (txV x).size ≤ 8 := by
  unfold txV
  by_cases h : x = 0
  · rw [if_pos h]; show 1 ≤ 8; omega
  · rw [if_neg h]; exact txB_size x 8
theorem acT_size (P : List Int) (k : Nat) : (acT P k).size ≤ 9 * k := by
  induction k with
  | zero => show 0 ≤ 0; omega
  | succ k ih =>
    unfold acT
    have h1 := txV_size (P.getD k 0).toNat
    by_cases h : k = 0
    · rw [if_pos h, ByteArray.size_append]; omega
    · rw [if_neg h, ByteArray.size_append, ByteArray.size_append, show (⟨#[32]⟩ : ByteArray).size = 1 from rfl]; omega
def pwT (P : List Int) (k : Nat) : List ByteArray := (List.range k).map (fun j => txV (P.getD j 0).toNat)
theorem pwT_len (P : List Int) (k : Nat) : (pwT P k).length = k := by unfold pwT; simp
theorem pwT_snoc (P : List Int) (k : Nat) : pwT P (k + 1) = pwT P k ++ [txV (P.getD k 0).toNat] := by
  unfold pwT; rw [List.range_succ, List.map_append]; rfl
theorem join_snoc (sep a : List UInt8) : ∀ (l : List (List UInt8)), l ≠ [] → Lib.join (l ++ [a]) sep = Lib.join l sep ++ (sep ++ a) := by
  intro l
  induction l with
  | nil => exact fun h => absurd rfl h
  | cons x l ih =>
    intro _
    cases l with
    | nil => simp [Lib.join, List.intercalate, List.intersperse]
    | cons y l =>
      have h := ih (by simp)
      simp only [Lib.join, List.intercalate, List.intersperse, List.cons_append, List.flatten_cons] at h ⊢
      simp only [List.append_assoc] at h ⊢
      rw [h]
theorem pwT_join (P : List Int) (k : Nat) : Lib.join ((pwT P k).map (·.data.toList)) [32] = (acT P k).data.toList := by
  induction k with
  | zero => simp [pwT, acT, Lib.join, List.intercalate]
  | succ k ih =>
    rw [pwT_snoc, List.map_append]
    by_cases h : k = 0
    · subst h
      simp [pwT, acT, Lib.join, List.intercalate, ByteArray.data_append]
    · unfold acT
      rw [if_neg h, List.map_cons, List.map_nil, join_snoc _ _ _ (by
        intro h0
        have h2 := congrArg List.length h0
        rw [List.length_map, pwT_len] at h2
        simp at h2; omega), ih]
      rw [ByteArray.data_append, ByteArray.data_append, Array.toList_append, Array.toList_append]
      simp [List.append_assoc]
theorem pwT_text (P : List Int) (k : Nat) : (⟨(Lib.join ((pwT P k).map (·.data.toList)) [32]).toArray⟩ : ByteArray) = acT P k := by
  apply ByteArray.ext
  apply Array.toList_inj.1
  rw [pwT_join]
theorem l07PlanText_any (b off c : Nat) (P : List Int) (w : World) (hn : P.length ≤ 60) (hb : b < w.heap.size) (hc : At .u8 w b off P) (hu : U8L P) :
    Calls Try.prog 9 #[.slice (some ⟨b, off, none⟩) P.length c] w fun e w' => e = .returned (.string (acT P P.length)) ∧ Below w.heap.size w w' := by
  have HC := Lib.hid hc
  have HU := Lib.hid hu
  have HZ := Lib.hid (acT_size P)
  have HS0 := Lib.hid (show acT P 0 = ⟨#[]⟩ from rfl)
  have HSS := Lib.hid (show ∀ k, acT P (k + 1) = (if k = 0 then acT P k else acT P k ++ ⟨#[32]⟩) ++ txV (P.getD k 0).toNat from fun k => rfl)
  generalize acT P = A at *
  clear hc hu
  go_enter Try.func9, Try.ntmps9
  go_wp2
  go_loopw [3, 4] (fun s iv wr => ∃ k : Nat, iv = .int .i64 k ∧ k ≤ P.length ∧ s = .string (A k) ∧ Below w.heap.size w wr) (fun _ iv _ => P.length - (intOf iv).toNat)
  case atStart => exact ⟨0, rfl, Nat.zero_le _, sv HS0.out.symm, Below.refl _ _⟩
  case round =>
    obtain ⟨k, rfl, hk, rfl, hB⟩ := hrel
    have HB := Lib.hid hB
    by_cases hlt : k < P.length
    · have hcell := (HC.out.below hB hb) k hlt
      have hkl : (k : Int) < (P.length : Int) := by omega
      have hsz := HZ.out k
      have hux := HU.out k
      have hvs := txV_size (P.getD k 0).toNat
      have HT := Lib.hid (fun W => l05Text_any (P.getD k 0).toNat W (by omega))
      rw [Int.toNat_of_nonneg hux.1] at HT
      have hsp : (⟨#[32]⟩ : ByteArray).size = 1 := rfl
      clear hB
      by_cases h0 : k = 0
      · have HS1 := Lib.hid (show A (k + 1) = A k ++ txV (P.getD k 0).toNat by rw [HSS.out, if_pos h0])
        have hz : ¬ (0 : Int) < (k : Int) := by omega
        generalize txV (P.getD k 0).toNat = tx at *
        generalize P.getD k 0 = x at *
        generalize hAk : A k = Ak at *
        have HAK := Lib.hid hAk
        clear hAk h0
        go_wp2_with fail
        refine (HT.out _).mono ?_
        rintro e w2 ⟨rfl, hb2⟩
        have HB2 := Lib.hid (HB.out.trans (hb2.mono HB.out.size))
        clear hb2
        go_wp2
        go_roundw
        case rel => exact ⟨k + 1, by go_num, by omega, sv (by rw [HS1.out]), HB2.out⟩
        case measure => simp [intOf]; omega
      · have HS1 := Lib.hid (show A (k + 1) = (A k ++ ⟨#[32]⟩) ++ txV (P.getD k 0).toNat by rw [HSS.out, if_neg h0])
        have hz : (0 : Int) < (k : Int) := by omega
        generalize txV (P.getD k 0).toNat = tx at *
        generalize P.getD k 0 = x at *
        generalize hAk : A k = Ak at *
        have HAK := Lib.hid hAk
        clear hAk h0
        go_wp2_with fail
        refine (HT.out _).mono ?_
        rintro e w2 ⟨rfl, hb2⟩
        have HB2 := Lib.hid (HB.out.trans (hb2.mono HB.out.size))
        have hbs : (Ak ++ (⟨#[32]⟩ : ByteArray)).size ≤ 541 := by rw [ByteArray.size_append, hsp]; omega
        clear hb2
        go_wp2
        go_roundw
        case rel => exact ⟨k + 1, by go_num, by omega, sv (by rw [HS1.out]), HB2.out⟩
        case measure => simp [intOf]; omega
    · obtain rfl : k = P.length := by omega
      clear hB
      go_wp2
      go_ret
      exact ⟨rfl, HB.out⟩
theorem specTurnsText_any (b off c : Nat) (P : List Int) (w : World) (hn : P.length ≤ 1048576) (hb : b < w.heap.size) (hc : At .u8 w b off P) (hu : U8L P) :
    Calls Try.prog 4 #[.slice (some ⟨b, off, none⟩) P.length c] w fun e w' => e = .returned (.string (ttP P)) ∧ Below w.heap.size w w' := by
  have HV := Lib.hid (l07Planned_any (some ⟨b, off, none⟩) c P w hn (.inr ⟨b, off, rfl, hb, hc⟩))
  by_cases h0 : plC P = 0
  · have hl60 : P.length ≤ 60 := by
      by_cases h6 : 60 < P.length
      · exfalso
        by_cases hg : bigTo P P.length
        · rw [plC_big hg] at h0; omega
        · rw [plC_long hg h6] at h0; omega
      · omega
    have HR := Lib.hid (show ttP P = acT P P.length from if_pos h0)
    have HT := Lib.hid (l07PlanText_any b off c P w hl60 hb hc hu)
    rw [h0] at HV
    clear hc hu h0
    generalize acT P P.length = T at *
    go_enter Try.func4, Try.ntmps4
    go_wp2_with fail
    refine HV.out.mono ?_
    rintro e w2 ⟨rfl, rfl⟩
    go_wp2_with fail
    refine HT.out.mono ?_
    rintro e w3 ⟨rfl, hb3⟩
    have HB3 := Lib.hid hb3
    clear hb3
    go_wp2
    go_ret
    exact ⟨rets HR.out.symm, HB3.out⟩
  · have HR := Lib.hid (show ttP P = ⟨#[]⟩ from if_neg h0)
    have hpc := plC_cases P
    generalize plC P = q at *
    have hd : (q == 0) = false := by simpa using h0
    clear hc hu
    go_enter Try.func4, Try.ntmps4
    go_wp2_with fail
    refine HV.out.mono ?_
    rintro e w2 ⟨rfl, rfl⟩
    go_wp2
    go_ret
    exact ⟨rets HR.out.symm, Below.refl _ _⟩
end Go.Proofs.Ytlmmfcbdhmhekaa
