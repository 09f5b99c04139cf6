/-
  The model's walk through a table.
-/
import Derived.Test.YtoeoilhbekhnbaaY25
import Derived.Test.YtoeoilhbekhnbaaY22
import Derived.Deep.DeepCutAuto
import Derived.Deep.RegionHeld3
namespace Go.Proofs.Ytoeoilhbekhnbaa
open Go.RowKit
set_option maxRecDepth 100000
set_option linter.unusedVariables false

theorem OwnV.sl {k : IntKind} {B : Nat} {w : World} {v : Value} {xs : List Int} (h : OwnV k B w v xs) : ∃ sa c, v = .slice sa xs.length c ∧ (xs = [] ∨ ∃ b, sa = some ⟨b, 0, none⟩ ∧ b < w.heap.size ∧ At k w b 0 xs) := by
  rcases h with ⟨h1, a, c, h2⟩ | ⟨b, c, h1, h2, h3, h4, h5⟩
  · subst h1; exact ⟨a, c, h2, .inl rfl⟩
  · exact ⟨_, c, h1, .inr ⟨b, rfl, h3, h4⟩⟩
theorem folX_n {l k : Int} {xs : List Int} {n : Int} {f : Bool} {told : Int} {tbl : List Int} (h : bkX l xs n f = false) : folX l k xs n f told tbl = true := by
  unfold folX; rw [h]; rfl
theorem okT_f {told v : Int} (h : v = -1 ∨ told + 1 < v) : okT told v = false := by
  unfold okT
  rcases h with rfl | h
  · rfl
  · rw [decide_eq_true h]; simp
theorem okT_t {told v : Int} (h : 0 ≤ v) (h2 : v ≤ told + 1) : okT told v = true := by
  unfold okT
  rw [decide_eq_false (by omega), show (v == -1) = false by rw [beq_eq_false_iff_ne]; omega]
  rfl
/-- A load leads to a bank of which too little or too much is said: no proof. -/
theorem prf_to {l k : Int} {xs tbl : List Int} {j : Nat} {x : Int} (hl : 1 ≤ l ∧ l ≤ 8) (hT : (tbl.length : Int) = 2 * (allI l + 1)) (hj : j < tbl.length) (hv : 0 ≤ tbl.getD j 0) (hb : bkX l xs (bkN l j) (bkF l j) = true) (hx : x ∈ ldA l k xs (bkN l j) (bkF l j))
    (h : tbl.getD (nxI l (bkN l j) (bkF l j) x).toNat 0 < 0 ∨ tbl.getD j 0 + 1 < tbl.getD (nxI l (bkN l j) (bkF l j) x).toNat 0) : prfX l k xs tbl = false := by
  have hnx := nx_lt hl hx
  by_cases h1 : tbl.getD (nxI l (bkN l j) (bkF l j) x).toNat 0 < -1
  · exact prfX_f (i := (nxI l (bkN l j) (bkF l j) x).toNat) (by omega) (badP_lo h1)
  · refine prfX_f hj ?_
    rw [badP_n (by omega) (by omega), folX_f hb ⟨x, hx, okT_f (by omega)⟩]
    rfl
theorem bad_none {l k : Int} {xs tbl : List Int} {j : Nat} (hv : 0 ≤ tbl.getD j 0) (h : ∀ m, m < (ldA l k xs (bkN l j) (bkF l j)).length → 0 ≤ tbl.getD (nxI l (bkN l j) (bkF l j) ((ldA l k xs (bkN l j) (bkF l j)).getD m 0)).toNat 0 ∧ tbl.getD (nxI l (bkN l j) (bkF l j) ((ldA l k xs (bkN l j) (bkF l j)).getD m 0)).toNat 0 ≤ tbl.getD j 0 + 1) : badP l k xs tbl j = false := by
  rw [badP_n (by omega) (by omega), folX_t fun x hx => ?_]
  · rfl
  · obtain ⟨m, hm, e⟩ := List.mem_iff_getElem.1 hx
    have h1 := h m hm
    rw [show (ldA l k xs (bkN l j) (bkF l j)).getD m 0 = x by rw [List.getD_eq_getElem?_getD, List.getElem?_eq_getElem hm, e]; rfl] at h1
    exact okT_t h1.1 h1.2
/-- What a table says of the first p banks behind is neither too little nor too much. -/
def goodP (l n : Int) (f : Bool) (v : Int) (tbl LL : List Int) (p : Nat) : Prop := ∀ m, m < p → 0 ≤ tbl.getD (nxI l n f (LL.getD m 0)).toNat 0 ∧ tbl.getD (nxI l n f (LL.getD m 0)).toNat 0 ≤ v + 1
theorem goodP_next {l n : Int} {f : Bool} {v : Int} {tbl LL : List Int} {p : Nat} (h : goodP l n f v tbl LL p) (h0 : 0 ≤ tbl.getD (nxI l n f (LL.getD p 0)).toNat 0) (h1 : tbl.getD (nxI l n f (LL.getD p 0)).toNat 0 ≤ v + 1) : goodP l n f v tbl LL (p + 1) := fun m hm => by
  by_cases e : m = p
  · subst e; exact ⟨h0, h1⟩
  · exact h m (by omega)
set_option maxHeartbeats 8000000 in
theorem l05Proof_any (fb : Nat) (l k : Int) (a : Option Addr) (c : Nat) (xs : List Int) (ta : Option Addr) (tc : Nat) (tbl : List Int) (w : World) (K : Blk w fb #[.int .i8 l, .int .i8 k, .slice a xs.length c] 30) (hs : Sl .u16 w.heap.size w a xs) (ht : Sl .i16 w.heap.size w ta tbl) (hn : xs.length ≤ 1048576) (hl : 1 ≤ l ∧ l ≤ 8) (hk : 0 ≤ k ∧ k ≤ 8) (hT : (tbl.length : Int) = 2 * (allI l + 1)) (h16 : I16 tbl) :
    Calls Try.prog 45 #[.pointer (some ⟨fb, 0, none⟩), .slice ta tbl.length tc] w fun e w' => e = .returned (.bool (prfX l k xs tbl)) ∧ Below w.heap.size w w' := by
  have hal := allI_le hl
  have HK := Lib.hid (fun W (hW : Below w.heap.size w W) => And.intro (K.below hW K.lt) (hs.up hW (Nat.le_refl _)))
  have HA := Lib.hid (fun W (hW : Below w.heap.size w W) => l05All_any fb l _ _ W (HK.out W hW).1 hl)
  have HAt := Lib.hid (fun (W : World) (i : Int) (hW : Below w.heap.size w W) (hi : 0 ≤ i ∧ i < 2 * (allI l + 1)) => l05At_any fb l _ _ i W (HK.out W hW).1 hl hi)
  have HBa := Lib.hid (fun (W : World) (n : Int) (f : Bool) (hW : Below w.heap.size w W) => l05Bank_any fb l k a c xs n f W (HK.out W hW).1 (HK.out W hW).2 hn hl)
  have HLo := Lib.hid (fun (W : World) (n : Int) (f : Bool) (hW : Below w.heap.size w W) (hb : bkX l xs n f = true) => l05Loads_any fb l k a c xs n f W (HK.out W hW).1 (HK.out W hW).2 hn hl hk (bkX_far hb))
  have HCr := Lib.hid (fun (W : World) (n : Int) (f : Bool) (x : Int) (hW : Below w.heap.size w W) (hb : bkX l xs n f = true) (hx : x ∈ ldA l k xs n f) => by
    have h0 := nx_lt hl hx
    have h := l05Cross_any fb l k a c xs n f x W (HK.out W hW).1 (HK.out W hW).2 hn hl hk h0.2.2.2 (bkX_far hb)
    rw [(cr_0 h0.2.2.1).1, (cr_0 h0.2.2.1).2.1, h0.2.2.1] at h
    exact h)
  have HIn := Lib.hid (fun (W : World) (n : Int) (f : Bool) (x : Int) (hW : Below w.heap.size w W) => l05Index_any fb l _ _ (xorI n x) (!f) W (HK.out W hW).1 hl (xor_16 n x))
  have HNX := Lib.hid (fun (n : Int) (f : Bool) (x : Int) (h : x ∈ ldA l k xs n f) => nx_lt hl h)
  have HTB := Lib.hid (show ∃ b off, ta = some ⟨b, off, none⟩ ∧ ∀ j, j < tbl.length → ∀ W', Below w.heap.size w W' → W'.cell? ⟨b, off + j, none⟩ = some (.int .i16 (tbl.getD j 0)) from by
    rcases ht with h | ⟨b, off, e, hlt, h⟩
    · rw [h] at hT; simp at hT; omega
    · exact ⟨b, off, e, fun j hj W' hW' => (h.below hW' hlt) j hj⟩)
  have HPT := Lib.hid (fun (j : Nat) (x : Int) h1 h2 h3 h4 => prf_to (k := k) (xs := xs) (x := x) (j := j) hl hT h1 h2 h3 h4)
  clear hs ht K
  obtain ⟨tb, toff, rfl, hcell⟩ := HTB.out
  have HC := Lib.hid hcell
  clear hcell HTB
  obtain ⟨tn, htn⟩ : ∃ tn, tbl.length = tn := ⟨_, rfl⟩
  have HTN := Lib.hid htn
  have h2 : tn ≤ 512 := by omega
  rw [htn] at HC hT HPT
  have HP0 := Lib.hid (fun h => prfX_0 (l := l) (k := k) (xs := xs) (tbl := tbl) h)
  have HP1 := Lib.hid (fun h => prfX_y (l := l) (k := k) (xs := xs) (tbl := tbl) h)
  rw [htn] at HP1
  clear htn hk hl
  have hAL := HC.out (allI l).toNat (by omega) w (Below.refl _ _)
  have HLN := Lib.hid (fun (n : Int) (f : Bool) => (show (ldA l k xs n f).length ≤ 256 by have h1 := ldT_len l k xs n f ((allI l).toNat + 1); unfold ldA; omega))
  have hv016 := h16 (allI l).toNat
  obtain ⟨al, hal2⟩ : ∃ al : Nat, allI l = al := ⟨(allI l).toNat, by omega⟩
  rw [hal2] at HA HAt HNX hT hal hAL hv016 HP0 HP1
  simp only [Int.toNat_natCast] at hAL hv016 HP0 HP1
  clear hal2
  have halt : (al : Int) < (tn : Int) := by omega
  generalize tbl.getD al 0 = v0 at *
  go_enter Try.func45, Try.ntmps45
  rw [HTN.out]
  go_wp2_with fail
  refine (HA.out _ (Below.refl _ _)).mono ?_
  rintro e w2 ⟨rfl, rfl⟩
  by_cases h00 : v0 = 0
  case neg =>
    have e0 : (v0 == 0) = false := by rw [beq_eq_false_iff_ne]; exact h00
    have HR := Lib.hid (HP0.out e0)
    go_wp2
    go_ret
    exact ⟨retb HR.out.symm, Below.refl _ _⟩
  subst h00
  go_wp2
  clear hAL
  go_loopw [5] (fun i wr => ∃ j : Nat, i = .int .i64 j ∧ j ≤ tn ∧ (∀ m, m < j → badP l k xs tbl m = false) ∧ Below w.heap.size w wr) (fun i _ => tn - (intOf i).toNat)
  case atStart => exact ⟨0, rfl, Nat.zero_le _, fun m h => absurd h (by omega), Below.refl _ _⟩
  case round =>
    obtain ⟨j, rfl, hj, hall, hB⟩ := hrel
    by_cases hlt : j < tn
    case neg =>
      have hlz : ¬ (j : Int) < (tn : Int) := by omega
      have HR := Lib.hid (HP1.out (fun m hm => hall m (by omega)))
      have HBe := Lib.hid hB
      clear hall hB
      go_wp2
      go_ret
      exact ⟨retb (by rw [HR.out]; rfl), HBe.out⟩
    have hlz : (j : Int) < (tn : Int) := by omega
    have hjt : j < tbl.length := by have := HTN.out; omega
    have hc := HC.out j hlt wr hB
    have hv16 := h16 j
    have HB1 := Lib.hid (fun h => prfX_f (l := l) (k := k) (xs := xs) hjt (badP_lo h))
    have HBm := Lib.hid (fun h => badP_1 (l := l) (k := k) (xs := xs) (tbl := tbl) (i := j) h)
    have HBn := Lib.hid (fun h h1 (h2 : bkX l xs (bkN l j) (bkF l j) = false) => (show badP l k xs tbl j = false by rw [badP_n (l := l) (k := k) (xs := xs) (tbl := tbl) (i := j) h h1, folX_n h2]; rfl))
    have HBl := Lib.hid (fun h h1 => bad_none (l := l) (k := k) (xs := xs) (tbl := tbl) (j := j) h h1)
    have HPj := Lib.hid (fun x h => HPT.out j x hlt h)
    have HN := Lib.hid (fun (h : badP l k xs tbl j = false) => (show ∀ m, m < j + 1 → badP l k xs tbl m = false from fun m hm => by
      by_cases e : m = j
      · subst e; exact h
      · exact hall m (by omega)))
    have HAt2 := Lib.hid (fun W hW => HAt.out W (j : Int) hW (by omega))
    have HBa2 := Lib.hid (fun W hW => HBa.out W (bkN l j) (bkF l j) hW)
    have HLo2 := Lib.hid (fun W hW hb => HLo.out W (bkN l j) (bkF l j) hW hb)
    have HCr2 := Lib.hid (fun W x hW hb hx => HCr.out W (bkN l j) (bkF l j) x hW hb hx)
    have HIn2 := Lib.hid (fun W x hW => HIn.out W (bkN l j) (bkF l j) x hW)
    have HNX2 := Lib.hid (fun x h => HNX.out (bkN l j) (bkF l j) x h)
    have hln := HLN.out (bkN l j) (bkF l j)
    have HBe := Lib.hid hB
    clear hall HAt HBa HLo HCr HIn HNX HPT HLN hB hjt
    generalize bkN l j = bn at *
    generalize bkF l j = bf at *
    obtain ⟨LL, hLL⟩ : ∃ LL, ldA l k xs bn bf = LL := ⟨_, rfl⟩
    rw [hLL] at HBl HPj HLo2 HCr2 HNX2 hln
    clear hLL
    generalize tbl.getD j 0 = v at *
    by_cases hv : v < -1
    · have HR := Lib.hid (HB1.out hv)
      clear HBm HBn HBl HPj HN HAt2 HBa2 HLo2 HCr2 HIn2 HNX2
      go_wp2
      go_ret
      exact ⟨retb HR.out.symm, HBe.out⟩
    clear HB1
    by_cases hv1 : v = -1
    · have HR := Lib.hid (HN.out (HBm.out hv1))
      subst hv1
      clear HBm HBn HBl HPj HN HBa2 HLo2 HCr2 HIn2 HNX2
      go_wp2_with fail
      refine (HAt2.out _ HBe.out).mono ?_
      rintro e w3 ⟨rfl, hb3⟩
      have HB3 := Lib.hid (HBe.out.trans (hb3.mono HBe.out.size))
      clear hb3
      go_wp2
      go_roundw
      case rel => exact ⟨j + 1, by go_num, by omega, HR.out, HB3.out.alloc HB3.out.size _⟩
      case measure => simp [intOf]; omega
    have hv0 : 0 ≤ v := by omega
    have hn0 : ¬ v < 0 := by omega
    have HBn2 := Lib.hid (fun h => HN.out (HBn.out hv hv1 h))
    have HBl2 := Lib.hid (fun h => HN.out (HBl.out hv0 h))
    have HPj2 := Lib.hid (fun x hb hx h => HPj.out x hv0 hb hx h)
    clear HBm HBn HBl HN HPj
    have d0 : decide (v < 0) = false := decide_eq_false hn0
    generalize bkX l xs bn bf = r at *
    cases r
    · have HR := Lib.hid (HBn2.out rfl)
      clear HBn2 HBl2 HPj2 HLo2 HCr2 HIn2 HNX2
      go_wp2_with fail
      refine (HAt2.out _ HBe.out).mono ?_
      rintro e w3 ⟨rfl, hb3⟩
      have HB3 := Lib.hid (HBe.out.trans (hb3.mono HBe.out.size))
      have HB4 := Lib.hid (HB3.out.alloc HB3.out.size (.cells #[.int .u16 bn, .bool bf] 64))
      clear hb3
      go_wp2_with fail
      refine (HBa2.out _ HB4.out).mono ?_
      rintro e w4 ⟨rfl, hb4⟩
      have HB5 := Lib.hid (HB4.out.trans (hb4.mono HB4.out.size))
      clear hb4
      go_wp2
      go_roundw
      case rel => exact ⟨j + 1, by go_num, by omega, HR.out, HB5.out⟩
      case measure => simp [intOf]; omega
    have HL3 := Lib.hid (fun W hW => HLo2.out W hW rfl)
    have HC3 := Lib.hid (fun W x hW hx => HCr2.out W x hW rfl hx)
    have HP3 := Lib.hid (fun x hx h => HPj2.out x rfl hx h)
    clear HBn2 HLo2 HCr2 HPj2
    go_wp2_with fail
    refine (HAt2.out _ HBe.out).mono ?_
    rintro e w3 ⟨rfl, hb3⟩
    have HB3 := Lib.hid (HBe.out.trans (hb3.mono HBe.out.size))
    have HB4 := Lib.hid (HB3.out.alloc HB3.out.size (.cells #[.int .u16 bn, .bool bf] 64))
    have K3 := blk_new w3 #[.int .u16 bn, .bool bf] 64
    clear hb3
    go_wp2_with fail
    refine (HBa2.out _ HB4.out).mono ?_
    rintro e w4 ⟨rfl, hb4⟩
    have HB5 := Lib.hid (HB4.out.trans (hb4.mono HB4.out.size))
    have K4 := K3.below hb4 K3.lt
    have hnb : w.heap.size ≤ w3.heap.size := HB3.out.size
    generalize w3.heap.size = nb at *
    clear hb4 K3
    obtain ⟨g0, g1, -⟩ := K4.two
    go_wp2_with fail
    refine (HL3.out _ HB5.out).mono ?_
    rintro e w5 ⟨v8, rfl, hov, hb5⟩
    have HB6 := Lib.hid (HB5.out.trans (hb5.mono HB5.out.size))
    have K5 := K4.below hb5 K4.lt
    clear g0 g1 K4 hb5
    obtain ⟨sa, sc, rfl, hrow⟩ := hov.sl
    clear hov
    have HROW := Lib.hid hrow
    have HK5 := Lib.hid K5
    clear hrow K5
    obtain ⟨ln, hln2⟩ : ∃ ln, LL.length = ln := ⟨_, rfl⟩
    rw [hln2] at HBl2 hln ⊢
    have HLL := Lib.hid hln2
    clear hln2
    go_wp2
    go_loopw [9] (fun i wr2 => ∃ p : Nat, i = .int .i64 p ∧ p ≤ ln ∧ goodP l bn bf v tbl LL p ∧ Below w5.heap.size w5 wr2) (fun i _ => ln - (intOf i).toNat)
    case atStart => exact ⟨0, rfl, Nat.zero_le _, fun m h => absurd h (by omega), Below.refl _ _⟩
    case round =>
      obtain ⟨p, rfl, hp, hgood, hB7⟩ := hrel
      by_cases hplt : p < ln
      case neg =>
        have hplz : ¬ (p : Int) < (ln : Int) := by omega
        have HR := Lib.hid (HBl2.out (fun m hm => hgood m (by omega)))
        have HB8 := Lib.hid (HB6.out.trans (hB7.mono HB6.out.size))
        clear hgood hB7 HL3 HC3 HP3 HBl2
        go_wp2
        go_roundw
        case rel => exact ⟨j + 1, by go_num, by omega, HR.out, HB8.out⟩
        case measure => simp [intOf]; omega
      have hplz : (p : Int) < (ln : Int) := by omega
      obtain ⟨gb, rfl, hgb, hat⟩ : ∃ gb, sa = some ⟨gb, 0, none⟩ ∧ gb < w5.heap.size ∧ At .u16 w5 gb 0 LL := by
        rcases HROW.out with h | h
        · have := HLL.out; subst h; simp at this; omega
        · exact h
      have hpl : p < LL.length := by have := HLL.out; omega
      have HX := Lib.hid (fun (W : World) (h : Below w5.heap.size w5 W) => (show W.cell? ⟨gb, p, none⟩ = some (.int .u16 (LL.getD p 0)) from by
        have := (hat.below h hgb) p hpl
        rwa [Nat.zero_add] at this))
      have hxm : LL.getD p 0 ∈ LL := by
        rw [List.getD_eq_getElem?_getD, List.getElem?_eq_getElem hpl]
        exact List.getElem_mem hpl
      have hnx := HNX2.out _ hxm
      have HGN := Lib.hid (fun h0 h1 => goodP_next hgood h0 h1)
      have HPx := Lib.hid (fun h => HP3.out _ hxm h)
      have HCx := Lib.hid (fun W hW => HC3.out W _ hW hxm)
      have HIx := Lib.hid (fun W hW => HIn2.out W (LL.getD p 0) hW)
      clear hgood hat HC3 HP3 hxm hpl HNX2 HIn2
      generalize LL.getD p 0 = x at *
      obtain ⟨q, hq⟩ : ∃ q : Nat, nxI l bn bf x = q := ⟨(nxI l bn bf x).toNat, by omega⟩
      have HQ := Lib.hid (show nmI l (xorI bn x) (!bf) = (q : Int) from hq)
      rw [hq] at HGN HPx hnx
      simp only [Int.toNat_natCast] at HGN HPx
      rw [HQ.out] at HIx
      have hqt : q < tn := by omega
      have hqz : (q : Int) < (tn : Int) := by omega
      have HCq := Lib.hid (fun W hW => HC.out q hqt W hW)
      have hq16 := h16 q
      clear hnx hq
      generalize tbl.getD q 0 = y at *
      have F0 := (FR.start w5).next hB7
      have HWB := Lib.hid (fun (W : World) (h : Below w5.heap.size w5 W) => HB6.out.trans (h.mono HB6.out.size))
      have HC4 := Lib.hid (fun (L : List (Nat × Array Value × TypeId)) (W : World) (h : FR w5 L W) => Calls.fr h (HCx.out W (HWB.out W h.below)))
      have keepS : ∀ (L : List (Nat × Array Value × TypeId)) (W' : World), FR w5 L W' → (W'.cell? ⟨nb, 0, none⟩ = some (.int .u16 bn) ∧ W'.cell? ⟨nb, 1, none⟩ = some (.bool bf) ∧ W'.cell? ⟨gb, p, none⟩ = some (.int .u16 x)) :=
        fun L W' h => ⟨(HK5.out.below h.below HK5.out.lt).cell 0, (HK5.out.below h.below HK5.out.lt).cell 1, HX.out _ h.below⟩
      obtain ⟨g0, g1, g2⟩ := keepS _ _ F0
      clear hB7 HCx HBl2
      go_upto_region 15 with fail
      go_cut [10, 11] (fun s10 s11 wx => ∃ B, s10 = .pointer (some ⟨B, 0, none⟩) ∧ s11 = .int .i64 0 ∧ FR w5 [(B, #[.int .u16 (xorI bn x), .bool (!bf)], 64)] wx)
      case first =>
        go_region_held3 (fun w' => w'.cell? ⟨nb, 0, none⟩ = some (.int .u16 bn) ∧ w'.cell? ⟨nb, 1, none⟩ = some (.bool bf) ∧ w'.cell? ⟨gb, p, none⟩ = some (.int .u16 x))
          (exact keepS _ _ (by first | assumption | exact FR.drew (by assumption) | exact FR.drew (FR.box (by assumption) _ _) | exact FR.drew (FR.bank (by assumption)) | exact FR.box (by first | assumption | exact FR.drew (by assumption)) _ _ | exact FR.bank (by first | assumption | exact FR.box (by assumption) _ _)))
          (first
            | (go_at_call 52; with_reducible refine (HC4.out _ _ (by first | assumption | exact FR.drew (by assumption) | exact FR.drew (FR.box (by assumption) _ _) | exact FR.drew (FR.bank (by assumption)) | exact FR.box (by first | assumption | exact FR.drew (by assumption)) _ _ | exact FR.bank (by first | assumption | exact FR.box (by assumption) _ _))).mono ?_; rintro e w8 ⟨rfl, F5⟩; try (obtain ⟨zz0, zz1, zz2⟩ := (F5.blk _ List.mem_cons_self).two)))
        all_goals (go_wp2_with fail; go_meet; exact ⟨_, rfl, rfl, (by first | assumption | exact FR.drew (by assumption) | exact FR.drew (FR.box (by assumption) _ _) | exact FR.drew (FR.bank (by assumption)) | exact FR.box (by first | assumption | exact FR.drew (by assumption)) _ _ | exact FR.bank (by first | assumption | exact FR.box (by assumption) _ _))⟩)
      case rest =>
        obtain ⟨B, rfl, rfl, F6⟩ := hcut
        obtain ⟨e0, e1, -⟩ := (F6.blk _ List.mem_cons_self).two
        clear g0 g1 g2 keepS HC4 F0
        go_wp2_with fail
        refine (Calls.fr F6 (HIx.out _ (HWB.out _ F6.below))).mono ?_
        rintro e w9 ⟨rfl, F7⟩
        have hcq := HCq.out w9 (HWB.out _ F7.below)
        clear e0 e1 F6
        by_cases hy : y < 0
        · have HR := Lib.hid (HPx.out (.inl hy))
          have HB8 := Lib.hid (HWB.out _ F7.below)
          clear F7
          go_wp2
          go_ret
          exact ⟨retb HR.out.symm, HB8.out⟩
        by_cases hy2 : v + 1 < y
        · have HR := Lib.hid (HPx.out (.inr hy2))
          have HB8 := Lib.hid (HWB.out _ F7.below)
          clear F7
          go_wp2
          go_ret
          exact ⟨retb HR.out.symm, HB8.out⟩
        have HR := Lib.hid (HGN.out (by omega) (by omega))
        have HB8 := Lib.hid F7.below
        clear F7
        go_wp2
        go_roundw
        case rel => exact ⟨p + 1, by go_num, by omega, HR.out, HB8.out⟩
        case measure => simp [intOf]; omega
end Go.Proofs.Ytoeoilhbekhnbaa
