/-
  What == says of two waters.
-/
import Derived.Test.YtjmgalmndpjcoaaMvMath
import Derived.Laws.StructEq
import Derived.Laws.Small
import Derived.Laws.Pointers
namespace Go.Proofs.Ytjmgalmndpjcoaa
open Go.RowKit
set_option maxRecDepth 100000

theorem eqWat (a b c d a' b' c' d' : Int) (w : World) : (Op.equalIn 10000 30 (.agg #[.int .i16 a, .int .i16 b, .int .i16 c, .int .i16 d]) (.agg #[.int .i16 a', .int .i16 b', .int .i16 c', .int .i16 d'])).run Try.prog w = .ok (a == a' && b == b' && c == c' && d == d') w := by
  have u3 := Try.underlying23
  have a3 := Try.isAgg23
  have z3 := Try.sizeOf23
  rw [show (10000 : Nat) = 9999 + 1 from rfl, Op.equalIn]
  simp only [Sem.run_bind, run_underlying Try.underlying30, Result.andThen_ok]
  simp only [Std.Legacy.Range.forIn_eq_forIn_range', Std.Legacy.Range.size, Nat.sub_zero, Nat.add_sub_cancel, Nat.div_one, List.range'_succ, List.range'_zero, List.forIn_cons, List.forIn_nil]
  go_simp
  by_cases h1 : a = a' <;> by_cases h2 : b = b' <;> by_cases h3 : c = c' <;> by_cases h4 : d = d' <;> simp [h1, h2, h3, h4]
theorem eqWat_t {x y : Nat → Int} (h : Same4 x y) (w : World) : (Op.equalIn 10000 30 (watV x) (watV y)).run Try.prog w = .ok true w := by
  rw [eqWat, h.1, h.2.1, h.2.2.1, h.2.2.2]; simp
theorem eqWat_f {x y : Nat → Int} (h : ¬ Same4 x y) (w : World) : (Op.equalIn 10000 30 (watV x) (watV y)).run Try.prog w = .ok false w := by
  rw [eqWat]
  by_cases h1 : x 0 = y 0 <;> by_cases h2 : x 1 = y 1 <;> by_cases h3 : x 2 = y 2 <;> by_cases h4 : x 3 = y 3 <;> simp [h1, h2, h3, h4]
  exact h ⟨h1, h2, h3, h4⟩
end Go.Proofs.Ytjmgalmndpjcoaa
