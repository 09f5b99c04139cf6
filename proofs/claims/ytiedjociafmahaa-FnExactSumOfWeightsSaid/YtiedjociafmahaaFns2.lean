/-
  The walks of the functions that reckon with a placing: masses, how many weights are used, what a scale shows.
-/
import Derived.Test.YtiedjociafmahaaFns1
import Derived.Laws.EntriesVeiled
namespace Go.Proofs.Ytiedjociafmahaa
open Go.RowKit

theorem loadAt_any (b off c b' off' c' : Nat) (ws ps : List Int) (q : Int) (w : World) (hn : ws.length ≤ 1048576) (hl : ps.length = ws.length) (hc : At .i16 w b off ws) (hc' : At .i8 w b' off' ps) (hwf : I16 ws) :
    Calls Try.prog 40 #[.slice (some ⟨b', off', none⟩) ps.length c', .slice (some ⟨b, off, none⟩) ws.length c, .int .i8 q] w fun e w' => e = .returned (.int .i64 (loadTo q ws ps ws.length)) ∧ w = w' := by
  have HL := Lib.hid hl
  have hl' : (ps.length : Nat) ≤ ws.length := by omega
  have hl2 : (ws.length : Nat) ≤ ps.length := by omega
  clear hl
  go_enter Try.func40, Try.ntmps40
  go_wp2
  go_loop [7, 12] (fun s i => ∃ k : Nat, k ≤ ps.length ∧ i = .int .i64 k ∧ s = .int .i64 (loadTo q ws ps k)) (fun _ i => ps.length - (intOf i).toNat)
  case atStart => exact ⟨0, Nat.zero_le _, rfl, rfl⟩
  case round =>
    obtain ⟨k, hk, rfl, rfl⟩ := hrel
    by_cases hlt : k < ps.length
    · have h1 := hc k (by omega)
      have h2 := hc' k hlt
      have hlt' : k < ws.length := by omega
      have H := Lib.hid (show loadTo q ws ps (k + 1) = loadTo q ws ps k + if ps.getD k 0 = q then ws.getD k 0 else 0 from rfl)
      have B := loadTo_bd q ws ps hwf k
      have hx := hwf k
      generalize ws.getD k 0 = x at *
      generalize ps.getD k 0 = y at *
      generalize loadTo q ws ps k = M at *
      by_cases he : y = q
      · have hb : (y == q) = true := by simpa using he
        have HE := Lib.hid he
        clear he
        go_wp2
        go_round
        case rel => exact ⟨k + 1, by omega, by go_num, by rw [H.out, if_pos HE.out]⟩
        case measure => simp [intOf]; omega
      · have hb : (y == q) = false := by simpa using he
        have HE := Lib.hid he
        clear he
        go_wp2
        go_round
        case rel => exact ⟨k + 1, by omega, by go_num, by rw [H.out, if_neg HE.out, Int.add_zero]⟩
        case measure => simp [intOf]; omega
    · have hke : k = ws.length := by omega
      have HK := Lib.hid hke
      clear hke
      go_wp2
      go_ret
      exact ⟨reti (by rw [HK.out]), rfl⟩
theorem leftLoad_any (b off c b' off' c' : Nat) (ws ps : List Int) (w : World) (hn : ws.length ≤ 1048576) (hl : ps.length = ws.length) (hc : At .i16 w b off ws) (hc' : At .i8 w b' off' ps) (hwf : I16 ws) :
    Calls Try.prog 37 #[.slice (some ⟨b', off', none⟩) ps.length c', .slice (some ⟨b, off, none⟩) ws.length c] w fun e w' => e = .returned (.int .i64 (loadTo (-1) ws ps ws.length)) ∧ w = w' := by
  have hC := loadAt_any b off c b' off' c' ws ps (-1) w hn hl hc hc' hwf
  clear hl
  go_enter Try.func37, Try.ntmps37
  go_wp2_with fail
  refine hC.mono ?_
  rintro e w' ⟨rfl, rfl⟩
  go_wp2
  go_ret
  exact ⟨rfl, rfl⟩
theorem rightLoad_any (b off c b' off' c' : Nat) (ws ps : List Int) (w : World) (hn : ws.length ≤ 1048576) (hl : ps.length = ws.length) (hc : At .i16 w b off ws) (hc' : At .i8 w b' off' ps) (hwf : I16 ws) :
    Calls Try.prog 38 #[.slice (some ⟨b', off', none⟩) ps.length c', .slice (some ⟨b, off, none⟩) ws.length c] w fun e w' => e = .returned (.int .i64 (loadTo 1 ws ps ws.length)) ∧ w = w' := by
  have hC := loadAt_any b off c b' off' c' ws ps 1 w hn hl hc hc' hwf
  clear hl
  go_enter Try.func38, Try.ntmps38
  go_wp2_with fail
  refine hC.mono ?_
  rintro e w' ⟨rfl, rfl⟩
  go_wp2
  go_ret
  exact ⟨rfl, rfl⟩

theorem panLoads_any (w : World) : Calls Try.prog 32 #[] w fun e w' => e = .returned (.agg #[.func (.func 37) #[] #[], .func (.func 38) #[] #[]]) ∧ Below w.heap.size w w' := by
  go_enter Try.func32, Try.ntmps32
  go_wp2
  exact bodyPost_ret (v := .agg #[.func (.func 37) #[] #[], .func (.func 38) #[] #[]]) (by simp [results, Try.results32, go_sem]) rfl ⟨rfl, (Below.refl _ _).alloc (Nat.le_refl _) _⟩

noncomputable def massV (ws ps : List Int) : Int := if okF ws ps = true then massTo ws ps ws.length else 0
noncomputable def codeF (ws ps : List Int) : Int := if okF ws ps = true then 0 else 1
theorem specMassOf_any (b off c b' off' c' : Nat) (ws ps : List Int) (w : World) (hn : ws.length ≤ 1048576) (hn' : ps.length ≤ 1048576) (hc : At .i16 w b off ws) (hc' : At .i8 w b' off' ps) (hwf : I16 ws) (hwf' : I8 ps) :
    Calls Try.prog 19 #[.slice (some ⟨b, off, none⟩) ws.length c, .slice (some ⟨b', off', none⟩) ps.length c'] w fun e w' => e = .returned (.tuple #[.int .i64 (massV ws ps), .int .i64 (codeF ws ps)]) ∧ Dr w w' := by
  have hO := l01Fits_any b off c b' off' c' ws ps w hn hn' hc hc' hwf
  unfold massV codeF
  cases hok : okF ws ps
  · rw [hok] at hO
    clear hok
    simp only [Bool.false_eq_true, if_false]
    go_enter Try.func19, Try.ntmps19
    go_wp2_with fail
    refine hO.mono ?_
    rintro e w' ⟨rfl, hdr⟩
    go_wp2
    go_ret2
    exact ⟨rfl, hdr⟩
  · rw [hok] at hO
    have hF : OkF ws ps := of_cb hok
    have HF := Lib.hid hF
    clear hok hF
    simp only [if_true]
    go_enter Try.func19, Try.ntmps19
    go_wp2_with fail
    refine hO.mono ?_
    rintro e w' ⟨rfl, hdr⟩
    go_wp2_with fail
    refine (l01Mass_any b off c b' off' c' ws ps w' hn HF.out.2.1 (hdr.at hc) (hdr.at hc') hwf hwf').mono ?_
    rintro e w2 ⟨rfl, hdr2⟩
    go_wp2
    go_ret2
    exact ⟨rfl, hdr.trans hdr2⟩
theorem massOf_any (b off c b' off' c' : Nat) (ws ps : List Int) (w : World) (hn : ws.length ≤ 1048576) (hn' : ps.length ≤ 1048576) (hb : b < w.heap.size) (hb' : b' < w.heap.size) (hc : At .i16 w b off ws) (hc' : At .i8 w b' off' ps) (hwf : I16 ws) :
    Calls Try.prog 20 #[.slice (some ⟨b, off, none⟩) ws.length c, .slice (some ⟨b', off', none⟩) ps.length c'] w fun e w' => e = .returned (.tuple #[.int .i64 (massV ws ps), .int .i64 (codeF ws ps)]) ∧ Below w.heap.size w w' := by
  have hO := validPlacing_any b off c b' off' c' ws ps w hn hn' hc hc' hwf
  unfold massV codeF
  cases hok : okF ws ps
  · rw [hok] at hO
    clear hok
    simp only [Bool.false_eq_true, if_false]
    go_enter Try.func20, Try.ntmps20
    go_wp2_with fail
    refine hO.mono ?_
    rintro e w' ⟨rfl, hdr⟩
    go_wp2
    go_ret2
    exact ⟨rfl, hdr.below⟩
  · rw [hok] at hO
    have hF : OkF ws ps := of_cb hok
    have HF := Lib.hid hF
    clear hok hF
    simp only [if_true]
    go_enter Try.func20, Try.ntmps20
    go_wp2_with fail
    refine hO.mono ?_
    rintro e w' ⟨rfl, hdr⟩
    go_wp2_with fail
    refine (panLoads_any w').mono ?_
    rintro e w2 ⟨rfl, hb2⟩
    have hB : Below w.heap.size w w2 := hdr.below.trans (hb2.mono hdr.below.size)
    have c1 := hc.below hB hb
    have c2 := hc'.below hB hb'
    have hsz := hB.size
    have a1 : ∀ o : Obj, At .i16 (w2.alloc o) b off ws := fun o => c1.below ((Below.refl w2.heap.size w2).alloc (Nat.le_refl _) o) (by omega)
    have a2 : ∀ o : Obj, At .i8 (w2.alloc o) b' off' ps := fun o => c2.below ((Below.refl w2.heap.size w2).alloc (Nat.le_refl _) o) (by omega)
    have hlen := HF.out.1.2.1
    have B1 := loadTo_bd 1 ws ps hwf ws.length
    have B2 := loadTo_bd (-1) ws ps hwf ws.length
    have HM := Lib.hid (massTo_load ws ps HF.out.2.2 ws.length (by have := HF.out.2.1; omega))
    generalize hR : loadTo 1 ws ps ws.length = R at *
    generalize hL : loadTo (-1) ws ps ws.length = L at *
    have hRt : ∀ W, At .i16 W b off ws → At .i8 W b' off' ps → Calls Try.prog 38 #[.slice (some ⟨b', off', none⟩) ps.length c', .slice (some ⟨b, off, none⟩) ws.length c] W fun e w' => e = .returned (.int .i64 R) ∧ W = w' := fun W h1 h2 => by
      rw [← hR]; exact rightLoad_any b off c b' off' c' ws ps W hn HF.out.2.1 h1 h2 hwf
    have hLt : ∀ W, At .i16 W b off ws → At .i8 W b' off' ps → Calls Try.prog 37 #[.slice (some ⟨b', off', none⟩) ps.length c', .slice (some ⟨b, off, none⟩) ws.length c] W fun e w' => e = .returned (.int .i64 L) ∧ W = w' := fun W h1 h2 => by
      rw [← hL]; exact leftLoad_any b off c b' off' c' ws ps W hn HF.out.2.1 h1 h2 hwf
    have HRt := Lib.hid hRt
    have HLt := Lib.hid hLt
    clear hR hL hRt hLt
    go_wp2
    go_quiet ((first | (go_at_call 38; exact Calls.quiet_same (HRt.out _ (a1 _) (a2 _))) | (go_at_call 37; exact Calls.quiet_same (HLt.out _ (a1 _) (a2 _)))))
    go_wp2
    go_ret2
    exact ⟨ret2 HM.out.symm rfl, below_drewN (hB.alloc hsz _) _⟩

/-! ### how many weights are used -/
noncomputable def usedV (ws ps : List Int) : Int := if okF ws ps = true then usedTo ps ps.length else 0
theorem usedAt_any (x : Int) (w : World) : Calls Try.prog 33 #[.int .i8 x] w fun e w' => e = .returned (.int .i64 (if x = 0 then 0 else 1)) ∧ w = w' := by
  by_cases h : x = 0
  · subst h
    go_enter Try.func33, Try.ntmps33
    go_wp2
    go_ret
    exact ⟨rfl, rfl⟩
  · have hb : (x == 0) = false := by simpa using h
    rw [if_neg h]
    clear h
    go_enter Try.func33, Try.ntmps33
    go_wp2
    go_ret
    exact ⟨rfl, rfl⟩
theorem specUsedIn_any (b off c b' off' c' : Nat) (ws ps : List Int) (w : World) (hn : ws.length ≤ 1048576) (hn' : ps.length ≤ 1048576) (hc : At .i16 w b off ws) (hc' : At .i8 w b' off' ps) (hwf : I16 ws) :
    Calls Try.prog 21 #[.slice (some ⟨b, off, none⟩) ws.length c, .slice (some ⟨b', off', none⟩) ps.length c'] w fun e w' => e = .returned (.tuple #[.int .i64 (usedV ws ps), .int .i64 (codeF ws ps)]) ∧ Dr w w' := by
  have hO := l01Fits_any b off c b' off' c' ws ps w hn hn' hc hc' hwf
  unfold usedV codeF
  cases hok : okF ws ps
  · rw [hok] at hO
    clear hok
    simp only [Bool.false_eq_true, if_false]
    go_enter Try.func21, Try.ntmps21
    go_wp2_with fail
    refine hO.mono ?_
    rintro e w' ⟨rfl, hdr⟩
    go_wp2
    go_ret2
    exact ⟨rfl, hdr⟩
  · rw [hok] at hO
    clear hok
    simp only [if_true]
    go_enter Try.func21, Try.ntmps21
    go_wp2_with fail
    refine hO.mono ?_
    rintro e w' ⟨rfl, hdr⟩
    replace hc' := hdr.at hc'
    go_wp2_with fail
    go_loop [6, 7] (fun s i => ∃ k : Nat, k ≤ ps.length ∧ i = .int .i64 k ∧ s = .int .i64 (usedTo ps k)) (fun _ i => ps.length - (intOf i).toNat)
    case atStart => exact ⟨0, Nat.zero_le _, rfl, rfl⟩
    case round =>
      obtain ⟨k, hk, rfl, rfl⟩ := hrel
      by_cases hlt : k < ps.length
      · have h2 := hc' k hlt
        have H := Lib.hid (show usedTo ps (k + 1) = usedTo ps k + if ps.getD k 0 = 0 then 0 else 1 from rfl)
        have B := usedTo_bd ps k
        generalize ps.getD k 0 = y at *
        generalize usedTo ps k = M at *
        by_cases he : y = 0
        · subst he
          go_wp2
          go_round
          case rel => exact ⟨k + 1, by omega, by go_num, by rw [H.out, if_pos rfl, Int.add_zero]⟩
          case measure => simp [intOf]; omega
        · have hb : (y == 0) = false := by simpa using he
          have HE := Lib.hid he
          clear he
          go_wp2
          go_round
          case rel => exact ⟨k + 1, by omega, by go_num, by rw [H.out, if_neg HE.out]⟩
          case measure => simp [intOf]; omega
      · have HK := Lib.hid (show k = ps.length by omega)
        go_wp2
        go_ret2
        exact ⟨ret2 (by rw [HK.out]) rfl, hdr⟩
theorem usedIn_any (b off c b' off' c' : Nat) (ws ps : List Int) (w : World) (hn : ws.length ≤ 1048576) (hn' : ps.length ≤ 1048576) (hc : At .i16 w b off ws) (hc' : At .i8 w b' off' ps) (hwf : I16 ws) :
    Calls Try.prog 22 #[.slice (some ⟨b, off, none⟩) ws.length c, .slice (some ⟨b', off', none⟩) ps.length c'] w fun e w' => e = .returned (.tuple #[.int .i64 (usedV ws ps), .int .i64 (codeF ws ps)]) ∧ Dr w w' := by
  have hO := validPlacing_any b off c b' off' c' ws ps w hn hn' hc hc' hwf
  unfold usedV codeF
  cases hok : okF ws ps
  · rw [hok] at hO
    clear hok
    simp only [Bool.false_eq_true, if_false]
    go_enter Try.func22, Try.ntmps22
    go_wp2_with fail
    refine hO.mono ?_
    rintro e w' ⟨rfl, hdr⟩
    go_wp2
    go_ret2
    exact ⟨rfl, hdr⟩
  · rw [hok] at hO
    clear hok
    simp only [if_true]
    go_enter Try.func22, Try.ntmps22
    go_wp2_with fail
    refine hO.mono ?_
    rintro e w' ⟨rfl, hdr⟩
    replace hc' := hdr.at hc'
    go_wp2_with fail
    go_loop [6, 15] (fun s i => ∃ k : Nat, k ≤ ps.length ∧ i = .int .i64 k ∧ s = .int .i64 (usedTo ps k)) (fun _ i => ps.length - (intOf i).toNat)
    case atStart => exact ⟨0, Nat.zero_le _, rfl, rfl⟩
    case round =>
      obtain ⟨k, hk, rfl, rfl⟩ := hrel
      by_cases hlt : k < ps.length
      · have h2 := hc' k hlt
        have H := Lib.hid (show usedTo ps (k + 1) = usedTo ps k + if ps.getD k 0 = 0 then 0 else 1 from rfl)
        have B := usedTo_bd ps k
        have B2 := usedTo_bd ps (k + 1)
        rw [H.out] at B2
        generalize ps.getD k 0 = y at *
        generalize usedTo ps k = M at *
        have hU := usedAt_any y w'
        generalize (if y = 0 then (0 : Int) else 1) = u at *
        go_wp2_with fail
        refine hU.mono ?_
        rintro e w2 ⟨rfl, rfl⟩
        go_wp2_with fail
        go_round
        case rel => exact ⟨k + 1, by omega, by go_num, by rw [H.out]⟩
        case measure => simp [intOf]; omega
      · have HK := Lib.hid (show k = ps.length by omega)
        go_wp2
        go_ret2
        exact ⟨ret2 (by rw [HK.out]) rfl, hdr⟩
end Go.Proofs.Ytiedjociafmahaa
