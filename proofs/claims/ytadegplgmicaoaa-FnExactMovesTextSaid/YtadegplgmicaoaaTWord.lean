/-
  The words of moves.
-/
import Derived.Test.YtadegplgmicaoaaTAct
import Derived.BigRegion
import Derived.BigQuiet
import Derived.Laws.Concat
import Derived.Lib.SlBytesRow
namespace Go.Proofs.Ytadegplgmicaoaa
open Go.RowKit
set_option maxRecDepth 100000
set_option linter.unusedVariables false

def letB (j : Nat) : ByteArray := ⟨#[UInt8.ofNat (97 + j)]⟩
theorem letterOf_any (j : Nat) (hj : j < 4) (w : World) : Calls Try.prog 20 #[.int .i8 j] w fun e w' => e = .returned (.string (letB j)) ∧ w = w' := by
  match j, hj with
  | 0, _ | 1, _ | 2, _ | 3, _ =>
    go_enter Try.func20, Try.ntmps20
    go_wp2
    go_ret
    exact ⟨rfl, rfl⟩
theorem conv_one (w : World) (u : UInt8) : (convert 53 9 (.slice (some ⟨w.heap.size, 0, none⟩) 1 1)).run Try.prog (w.alloc (.cells #[.int .u8 u.toNat] 5)) = .ok (.string ⟨#[u]⟩) (w.alloc (.cells #[.int .u8 u.toNat] 5)) := by
  have hby : Lib.Bytes (w.alloc (.cells #[.int .u8 u.toNat] 5)) w.heap.size 0 ⟨#[u]⟩ := fun i hi => by
    have : i = 0 := by have h1 : i < 1 := hi; omega
    subst this
    simp
    rfl
  exact Lib.run_convert_whole (P := Try.prog) _ 53 5 9 Try.underlying53 Try.underlying5 Try.underlying9 w.heap.size 0 ⟨#[u]⟩ hby 1
theorem l02Letter_any (j : Nat) (hj : j < 4) (w : World) : Calls Try.prog 18 #[.int .i8 j] w fun e w' => e = .returned (.string (letB j)) ∧ Below w.heap.size w w' := by
  match j, hj with
  | 0, _ =>
    have hconv : (convert 53 9 (.slice (some ⟨w.heap.size, 0, none⟩) 1 1)).run Try.prog (w.alloc (.cells #[.int .u8 97] 5)) = .ok (.string ⟨#[97]⟩) (w.alloc (.cells #[.int .u8 97] 5)) := conv_one w 97
    go_enter Try.func18, Try.ntmps18
    go_wp2
    go_ret
    exact ⟨rfl, (Below.refl _ _).alloc (Nat.le_refl _) _⟩
  | 1, _ =>
    have hconv : (convert 53 9 (.slice (some ⟨w.heap.size, 0, none⟩) 1 1)).run Try.prog (w.alloc (.cells #[.int .u8 98] 5)) = .ok (.string ⟨#[98]⟩) (w.alloc (.cells #[.int .u8 98] 5)) := conv_one w 98
    go_enter Try.func18, Try.ntmps18
    go_wp2
    go_ret
    exact ⟨rfl, (Below.refl _ _).alloc (Nat.le_refl _) _⟩
  | 2, _ =>
    have hconv : (convert 53 9 (.slice (some ⟨w.heap.size, 0, none⟩) 1 1)).run Try.prog (w.alloc (.cells #[.int .u8 99] 5)) = .ok (.string ⟨#[99]⟩) (w.alloc (.cells #[.int .u8 99] 5)) := conv_one w 99
    go_enter Try.func18, Try.ntmps18
    go_wp2
    go_ret
    exact ⟨rfl, (Below.refl _ _).alloc (Nat.le_refl _) _⟩
  | 3, _ =>
    have hconv : (convert 53 9 (.slice (some ⟨w.heap.size, 0, none⟩) 1 1)).run Try.prog (w.alloc (.cells #[.int .u8 100] 5)) = .ok (.string ⟨#[100]⟩) (w.alloc (.cells #[.int .u8 100] 5)) := conv_one w 100
    go_enter Try.func18, Try.ntmps18
    go_wp2
    go_ret
    exact ⟨rfl, (Below.refl _ _).alloc (Nat.le_refl _) _⟩
/-- The word of a move. -/
def wordB (k f t : Int) : ByteArray := if k = 0 then letB f.toNat ++ ⟨#[62]⟩ ++ letB t.toNat else if k = 1 then ⟨#[43]⟩ ++ letB f.toNat else ⟨#[45]⟩ ++ letB f.toNat
theorem ta_pp (f g : Int) (w : World) : (Instr.typeAssert (.iface 48 (.agg #[.int .i8 f, .int .i8 g])) 37 48 true).run Try.prog w = .ok (.tuple #[.agg #[.int .i8 f, .int .i8 g], .bool true]) w := by kernel_rfl
theorem ta_pf (f g : Int) (w : World) : (Instr.typeAssert (.iface 48 (.agg #[.int .i8 f, .int .i8 g])) 37 50 true).run Try.prog w = .ok (.tuple #[.agg #[.int .i8 0], .bool false]) w := by kernel_rfl
theorem ta_pe (f g : Int) (w : World) : (Instr.typeAssert (.iface 48 (.agg #[.int .i8 f, .int .i8 g])) 37 51 true).run Try.prog w = .ok (.tuple #[.agg #[.int .i8 0], .bool false]) w := by kernel_rfl
theorem ta_fp (f : Int) (w : World) : (Instr.typeAssert (.iface 50 (.agg #[.int .i8 f])) 37 48 true).run Try.prog w = .ok (.tuple #[.agg #[.int .i8 0, .int .i8 0], .bool false]) w := by kernel_rfl
theorem ta_ff (f : Int) (w : World) : (Instr.typeAssert (.iface 50 (.agg #[.int .i8 f])) 37 50 true).run Try.prog w = .ok (.tuple #[.agg #[.int .i8 f], .bool true]) w := by kernel_rfl
theorem ta_fe (f : Int) (w : World) : (Instr.typeAssert (.iface 50 (.agg #[.int .i8 f])) 37 51 true).run Try.prog w = .ok (.tuple #[.agg #[.int .i8 0], .bool false]) w := by kernel_rfl
theorem ta_ep (f : Int) (w : World) : (Instr.typeAssert (.iface 51 (.agg #[.int .i8 f])) 37 48 true).run Try.prog w = .ok (.tuple #[.agg #[.int .i8 0, .int .i8 0], .bool false]) w := by kernel_rfl
theorem ta_ef (f : Int) (w : World) : (Instr.typeAssert (.iface 51 (.agg #[.int .i8 f])) 37 50 true).run Try.prog w = .ok (.tuple #[.agg #[.int .i8 0], .bool false]) w := by kernel_rfl
theorem ta_ee (f : Int) (w : World) : (Instr.typeAssert (.iface 51 (.agg #[.int .i8 f])) 37 51 true).run Try.prog w = .ok (.tuple #[.agg #[.int .i8 f], .bool true]) w := by kernel_rfl
theorem wordOf_any (k f t : Int) (w : World) (h : OkM 4 k f t) : Calls Try.prog 13 #[actV k f t] w fun e w' => e = .returned (.string (wordB k f t)) ∧ Below w.heap.size w w' := by
  obtain ⟨fn, rfl⟩ : ∃ fn : Nat, f = fn := ⟨f.toNat, by have := h.1; omega⟩
  have hf4 : fn < 4 := by have := h.1; omega
  have HL := Lib.hid (fun W => letterOf_any fn hf4 W)
  rcases h.2 with ⟨rfl, ht⟩ | ⟨rfl, rfl⟩ | ⟨rfl, rfl⟩
  · obtain ⟨tn, rfl⟩ : ∃ tn : Nat, t = tn := ⟨t.toNat, by omega⟩
    have ht4 : tn < 4 := by omega
    have HT := Lib.hid (fun W => letterOf_any tn ht4 W)
    have HB := Lib.hid ((Below.refl w.heap.size w).alloc (Nat.le_refl _) (.cells #[.int .i8 fn, .int .i8 tn] 48))
    rw [show actV 0 fn tn = .iface 48 (.agg #[.int .i8 fn, .int .i8 tn]) from rfl, show wordB 0 fn tn = letB fn ++ ⟨#[62]⟩ ++ letB tn from rfl]
    clear h
    have hsf : (letB fn).size = 1 := rfl
    have hst : (letB tn).size = 1 := rfl
    have hq1 := fun W => run_string_add_sum (P := Try.prog) W (letB fn) ⟨#[62]⟩ (by rw [hsf]; decide)
    have hq2 := fun W => run_string_add_sum (P := Try.prog) W (letB fn ++ ⟨#[62]⟩) (letB tn) (by rw [ByteArray.size_append, hsf, hst]; decide)
    clear hsf hst
    generalize letB fn = lf at *
    generalize letB tn = lt at *
    have ta := fun W => ta_pp fn tn W
    go_enter Try.func13, Try.ntmps13
    go_wp2
    go_quiet ((first | (go_at_call 20; exact Calls.quiet_same (HL.out _)) | (go_at_call 20; exact Calls.quiet_same (HT.out _))))
    go_wp2
    go_ret
    exact ⟨rfl, below_drewN HB.out _⟩
  · have HB := Lib.hid ((Below.refl w.heap.size w).alloc (Nat.le_refl _) (.cells #[.int .i8 fn] 50))
    rw [show actV 1 fn 0 = .iface 50 (.agg #[.int .i8 fn]) from rfl, show wordB 1 fn 0 = ⟨#[43]⟩ ++ letB fn from rfl]
    clear h
    have hq1 := fun W => run_string_add_sum (P := Try.prog) W ⟨#[43]⟩ (letB fn) (by rw [show (letB fn).size = 1 from rfl]; decide)
    generalize letB fn = lf at *
    have ta := fun W => ta_fp fn W
    have tb := fun W => ta_ff fn W
    go_enter Try.func13, Try.ntmps13
    go_wp2_with (go_at_call 20; refine (HL.out _).mono ?_; rintro e w' ⟨rfl, rfl⟩)
    go_ret
    exact ⟨rfl, HB.out⟩
  · have HB := Lib.hid ((Below.refl w.heap.size w).alloc (Nat.le_refl _) (.cells #[.int .i8 fn] 51))
    rw [show actV 2 fn 0 = .iface 51 (.agg #[.int .i8 fn]) from rfl, show wordB 2 fn 0 = ⟨#[45]⟩ ++ letB fn from rfl]
    clear h
    have hq1 := fun W => run_string_add_sum (P := Try.prog) W ⟨#[45]⟩ (letB fn) (by rw [show (letB fn).size = 1 from rfl]; decide)
    generalize letB fn = lf at *
    have ta := fun W => ta_ep fn W
    have tb := fun W => ta_ef fn W
    have tc := fun W => ta_ee fn W
    go_enter Try.func13, Try.ntmps13
    go_wp2_with (go_at_call 20; refine (HL.out _).mono ?_; rintro e w' ⟨rfl, rfl⟩)
    go_ret
    exact ⟨rfl, HB.out⟩
end Go.Proofs.Ytadegplgmicaoaa
