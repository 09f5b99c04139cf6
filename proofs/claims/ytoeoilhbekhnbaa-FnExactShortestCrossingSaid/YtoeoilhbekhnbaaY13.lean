/-
  The model's crossing.
-/
import Derived.Test.YtoeoilhbekhnbaaY12
namespace Go.Proofs.Ytoeoilhbekhnbaa
open Go.RowKit
set_option maxRecDepth 100000
set_option linter.unusedVariables false

/-- The bank behind a crossing, none where there is a code. -/
def crN (l k : Int) (xs : List Int) (n : Int) (f : Bool) (x : Int) : Int := if cdL l k xs n f x = 0 then xorI n x else 0
def crF (l k : Int) (xs : List Int) (n : Int) (f : Bool) (x : Int) : Bool := if cdL l k xs n f x = 0 then !f else false
theorem cr_n {l k : Int} {xs : List Int} {n : Int} {f : Bool} {x : Int} {c : Int} (h : cdL l k xs n f x = c) (hc : c ≠ 0) : crN l k xs n f x = 0 ∧ crF l k xs n f x = false ∧ cdL l k xs n f x = c := by
  unfold crN crF
  rw [if_neg (by rw [h]; exact hc), if_neg (by rw [h]; exact hc)]
  exact ⟨rfl, rfl, h⟩
theorem cr_0 {l k : Int} {xs : List Int} {n : Int} {f : Bool} {x : Int} (h : cdL l k xs n f x = 0) : crN l k xs n f x = xorI n x ∧ crF l k xs n f x = !f ∧ cdL l k xs n f x = 0 := by
  unfold crN crF
  rw [if_pos h, if_pos h]
  exact ⟨rfl, rfl, h⟩
theorem retk {n m : Int} {f g : Bool} {c d : Int} (h : n = m) (h2 : f = g) (h3 : c = d) : Ending.returned (.tuple #[bankV n f, .int .i64 c]) = .returned (.tuple #[bankV m g, .int .i64 d]) := by rw [h, h2, h3]
theorem FR.bank {w0 w : World} {b : Nat} {v0 v1 u0 u1 : Value} {t : TypeId} {L : List (Nat × Array Value × TypeId)} (h : FR w0 ((b, #[v0, v1], t) :: L) w) :
    FR w0 ((b, #[u0, u1], t) :: L) ((w.setCell ⟨b, 0, none⟩ u0).setCell ⟨b, 1, none⟩ u1) := (h.setTop 0 u0).setTop 1 u1
theorem res_cross {W : World} {b : Nat} {v0 v1 u : Value} {t : TypeId} (K : Blk W b #[v0, v1] t) (tmps : Array Value) (h6 : tmps.getD 6 undef = .pointer (some ⟨b, 0, none⟩)) (h7 : tmps.getD 7 undef = u) : (results Try.f52 tmps).run Try.prog W = .ok (.tuple #[.agg #[v0, v1], u]) W := by
  have h6' : tmps[6]?.getD undef = .pointer (some ⟨b, 0, none⟩) := by simpa using h6
  have h7' : tmps[7]?.getD undef = u := by simpa using h7
  have e0 := K.cell 0
  have e1 := K.cell 1
  simp at e0 e1
  simp [results, Try.results52, go_sem, e0, e1, h6', h7']
set_option maxHeartbeats 2000000 in
theorem l05Cross_any (fb : Nat) (l k : Int) (a : Option Addr) (c : Nat) (xs : List Int) (n : Int) (f : Bool) (x : Int) (w : World) (K : Blk w fb #[.int .i8 l, .int .i8 k, .slice a xs.length c] 30) (hs : Sl .u16 w.heap.size w a xs) (hn : xs.length ≤ 1048576) (hl : 1 ≤ l ∧ l ≤ 8) (hk : 0 ≤ k ∧ k ≤ 8) (hx : 0 ≤ x ∧ x ≤ 65535) (hb : bits .andNot .u16 n (allI l) = 0) :
    Calls Try.prog 52 #[.pointer (some ⟨fb, 0, none⟩), bankV n f, .int .u16 x] w fun e w' => e = .returned (.tuple #[bankV (crN l k xs n f x) (crF l k xs n f x), .int .i64 (cdL l k xs n f x)]) ∧ Below w.heap.size w w' := by
  have F0 := ((FR.start w).box #[.int .u16 n, .bool f] 64).box #[.int .u16 0, .bool false] 64
  simp only [World.size_alloc] at F0
  obtain ⟨d0, d1, -⟩ := (F0.blk _ (List.mem_cons_of_mem _ List.mem_cons_self)).two
  have HK := Lib.hid K
  have HE := Lib.hid (fun (W : World) (h : Blk W fb #[.int .i8 l, .int .i8 k, .slice a xs.length c] 30) => l05Here_any fb l _ _ n f W h hl)
  have HZ := Lib.hid (fun W => l05Size_any x W hx)
  have HL := Lib.hid (fun (W : World) (h : Blk W fb #[.int .i8 l, .int .i8 k, .slice a xs.length c] 30) (hb : Below w.heap.size w W) => l05Bank_any fb l k a c xs (xorI n x) (!f) W h (hs.up hb (Nat.le_refl _)) hn hl)
  have HF := Lib.hid (here_eq (f := f) x hb)
  have HD := Lib.hid (And.intro (fun h => cdL_2 (k := k) (xs := xs) (l := l) (n := n) (f := f) (x := x) h) (And.intro (fun h h2 => cdL_3 (k := k) (xs := xs) (l := l) (n := n) (f := f) (x := x) h h2) (And.intro (fun h h2 h3 => cdL_4 (k := k) (xs := xs) (l := l) (n := n) (f := f) (x := x) h h2 h3) (fun h h2 h3 => cdL_0 (k := k) (xs := xs) (l := l) (n := n) (f := f) (x := x) h h2 h3))))
  have hz := sz_le x.toNat
  have HG := Lib.hid hb
  clear hs hl hx K hb
  generalize hereI l n f = al at *
  generalize sz x.toNat = z at *
  generalize bkX l xs (xorI n x) (!f) = r at *
  by_cases h2 : bits .andNot .u16 x al = 0
  case neg =>
    have HR := Lib.hid (cr_n (HD.out.1 (by rw [← HF.out]; simpa using h2)) (by decide))
    clear HD HF HZ HL
    go_enter Try.func52, Try.ntmps52
    go_wp2_with fail
    refine (HE.out _ (HK.out.below F0.below HK.out.lt)).mono ?_
    rintro e w2 ⟨rfl, hb⟩
    have F1 := F0.next hb
    clear hb F0 d0 d1
    obtain ⟨e0, e1, ef⟩ := (F1.blk _ List.mem_cons_self).two
    have F9 := F1.bank (u0 := .int .u16 0) (u1 := .bool false)
    have HB := Lib.hid (And.intro (F9.blk _ List.mem_cons_self) F9.below)
    clear F1 F9
    go_wp2
    exact bodyPost_ret (res_cross HB.out.1 _ rfl rfl) rfl ⟨retk HR.out.1.symm HR.out.2.1.symm HR.out.2.2.symm, HB.out.2⟩
  have HF2 := Lib.hid (show offL l n f x = false by rw [← HF.out, h2]; rfl)
  clear HF
  by_cases h3 : k < (z : Int)
  case pos =>
    have HR := Lib.hid (cr_n (HD.out.2.1 HF2.out h3) (by decide))
    clear HD HF2 HL
    go_enter Try.func52, Try.ntmps52
    go_wp2_with fail
    refine (HE.out _ (HK.out.below F0.below HK.out.lt)).mono ?_
    rintro e w2 ⟨rfl, hb⟩
    have F1 := F0.next hb
    clear hb F0 d0 d1
    obtain ⟨d0, d1, -⟩ := (F1.blk _ (List.mem_cons_of_mem _ List.mem_cons_self)).two
    obtain ⟨e0, e1, ef⟩ := (F1.blk _ List.mem_cons_self).two
    have KW := HK.out.below F1.below HK.out.lt
    obtain ⟨c0, c1, c2, -⟩ := KW.three
    clear KW
    go_wp2
    go_quiet ((go_at_call 49; with_reducible exact Calls.quiet_same (HZ.out _)))
    have F2 := F1.drewN nq
    clear F1 c0 c1 c2 d0 d1 e0 e1 ef
    generalize w2.drewN nq = w3 at *
    obtain ⟨e0, e1, ef⟩ := (F2.blk _ List.mem_cons_self).two
    have F9 := F2.bank (u0 := .int .u16 0) (u1 := .bool false)
    have HB := Lib.hid (And.intro (F9.blk _ List.mem_cons_self) F9.below)
    clear F2 F9
    go_wp2
    exact bodyPost_ret (res_cross HB.out.1 _ rfl rfl) rfl ⟨retk HR.out.1.symm HR.out.2.1.symm HR.out.2.2.symm, HB.out.2⟩
  cases r
  · have HR := Lib.hid (cr_n (HD.out.2.2.1 HF2.out h3 rfl) (by decide))
    clear HD HF2
    go_enter Try.func52, Try.ntmps52
    go_wp2_with fail
    refine (HE.out _ (HK.out.below F0.below HK.out.lt)).mono ?_
    rintro e w2 ⟨rfl, hb⟩
    have F1 := F0.next hb
    clear hb F0 d0 d1
    obtain ⟨d0, d1, -⟩ := (F1.blk _ (List.mem_cons_of_mem _ List.mem_cons_self)).two
    obtain ⟨e0, e1, ef⟩ := (F1.blk _ List.mem_cons_self).two
    have KW := HK.out.below F1.below HK.out.lt
    obtain ⟨c0, c1, c2, -⟩ := KW.three
    clear KW
    go_wp2
    go_quiet ((go_at_call 49; with_reducible exact Calls.quiet_same (HZ.out _)))
    have F2 := F1.drewN nq
    clear F1 c0 c1 c2 d0 d1 e0 e1 ef
    generalize w2.drewN nq = w3 at *
    have F3 := F2.box #[.int .u16 (bits .xor .u16 n x), .bool !f] 64
    obtain ⟨d0, d1, -⟩ := (F2.blk _ (List.mem_cons_of_mem _ List.mem_cons_self)).two
    obtain ⟨e0, e1, ef⟩ := (F2.blk _ List.mem_cons_self).two
    go_wp2_with fail
    refine (HL.out _ (HK.out.below F3.below HK.out.lt) F3.below).mono ?_
    rintro e w4 ⟨rfl, hb⟩
    have F4 := F3.next hb
    clear F2 F3 hb d0 d1 e0 e1 ef
    have q0 := (F4.blk _ List.mem_cons_self).two
    have F5 := F4.tail (fun q L' e => by cases e; exact ⟨by simp, fun r hr => by simp at hr; subst hr; simp⟩)
    obtain ⟨d0, d1, -⟩ := q0
    clear F4
    obtain ⟨e0, e1, ef⟩ := (F5.blk _ List.mem_cons_self).two
    have F9 := F5.bank (u0 := .int .u16 0) (u1 := .bool false)
    have HB := Lib.hid (And.intro (F9.blk _ List.mem_cons_self) F9.below)
    clear F5 F9
    go_wp2
    exact bodyPost_ret (res_cross HB.out.1 _ rfl rfl) rfl ⟨retk HR.out.1.symm HR.out.2.1.symm HR.out.2.2.symm, HB.out.2⟩
  · have HR := Lib.hid (cr_0 (HD.out.2.2.2 HF2.out h3 rfl))
    clear HD HF2
    go_enter Try.func52, Try.ntmps52
    go_wp2_with fail
    refine (HE.out _ (HK.out.below F0.below HK.out.lt)).mono ?_
    rintro e w2 ⟨rfl, hb⟩
    have F1 := F0.next hb
    clear hb F0 d0 d1
    obtain ⟨d0, d1, -⟩ := (F1.blk _ (List.mem_cons_of_mem _ List.mem_cons_self)).two
    obtain ⟨e0, e1, ef⟩ := (F1.blk _ List.mem_cons_self).two
    have KW := HK.out.below F1.below HK.out.lt
    obtain ⟨c0, c1, c2, -⟩ := KW.three
    clear KW
    go_wp2
    go_quiet ((go_at_call 49; with_reducible exact Calls.quiet_same (HZ.out _)))
    have F2 := F1.drewN nq
    clear F1 c0 c1 c2 d0 d1 e0 e1 ef
    generalize w2.drewN nq = w3 at *
    have F3 := F2.box #[.int .u16 (bits .xor .u16 n x), .bool !f] 64
    obtain ⟨d0, d1, -⟩ := (F2.blk _ (List.mem_cons_of_mem _ List.mem_cons_self)).two
    obtain ⟨e0, e1, ef⟩ := (F2.blk _ List.mem_cons_self).two
    go_wp2_with fail
    refine (HL.out _ (HK.out.below F3.below HK.out.lt) F3.below).mono ?_
    rintro e w4 ⟨rfl, hb⟩
    have F4 := F3.next hb
    clear F2 F3 hb d0 d1 e0 e1 ef
    have q0 := (F4.blk _ List.mem_cons_self).two
    have F5 := F4.tail (fun q L' e => by cases e; exact ⟨by simp, fun r hr => by simp at hr; subst hr; simp⟩)
    obtain ⟨d0, d1, -⟩ := q0
    clear F4
    obtain ⟨e0, e1, ef⟩ := (F5.blk _ List.mem_cons_self).two
    have F9 := F5.bank (u0 := .int .u16 (bits .xor .u16 n x)) (u1 := .bool !f)
    have HB := Lib.hid (And.intro (F9.blk _ List.mem_cons_self) F9.below)
    clear F5 F9
    go_wp2
    exact bodyPost_ret (res_cross HB.out.1 _ rfl rfl) rfl ⟨retk HR.out.1.symm HR.out.2.1.symm HR.out.2.2.symm, HB.out.2⟩
end Go.Proofs.Ytoeoilhbekhnbaa
