/-
  The law FnExactFoundIn returns true for every input and leaves its arguments as they were; no condition.
-/
import Derived.Test.YtijaghkbmgkjnaaDoorRows
import Derived.Test.YtijaghkbmgkjnaaDoorLFI
import Derived.WalkKit
import Derived.ProofKit
import Derived.OpenShut
import Derived.ShutString
import Derived.ChangeOld
import Derived.Below
import Derived.Test.YtijaghkbmgkjnaaDoorTie
import Derived.Test.YtijaghkbmgkjnaaDoorCards
import Derived.ChangeSame
import Derived.ChangeVars
import Derived.JoinedOf
import Derived.RowKitTokens
import Derived.LaidLaws
import Derived.LaidHandle
import Derived.LaidSub
import Derived.MakeChecks
import Derived.Lib.LaidTab
import Derived.Stop.Joined
import Derived.Stop.LaidErr
import Derived.Stop.LaidTwo
import Derived.SevenTiedAt
namespace Go.Proofs.YtijaghkbmgkjnaaDoor.fnExactFoundIn
open Go.ChangeShapes Go.WideShapes Go.ChangeAt Go.RowKit
open Go.ChangeMaps (open_string shut_string)
set_option linter.unusedVariables false

theorem own : ownKnob Tryd.prog.godebug = none := by kernel_rfl
theorem laidOut : laidOutB Tryd.prog = true := by kernel_rfl

/-! ### The tables that the row lists -/
def intOf1 : DataW Unit → Value
  | .lit (.int k n) => .int k n
  | _ => .int .u8 0
def ints1 : DataW Unit → List Value
  | .agg ps => ps.map intOf1
  | _ => []
def ints2 : DataW Unit → List Value
  | .agg ps => ps.flatMap ints1
  | _ => []
/-- A world that meets the condition. -/
noncomputable def low : Nat := (World.holding Tryd.prog default ⟨#[], #[], []⟩).heap.size
noncomputable def laidWorld (os : Os) : World :=
  let w0 := World.holding Tryd.prog os ⟨#[.cells #[.string ⟨#[116, 104, 101, 114, 101, 32, 97, 114, 101, 32, 115, 101, 118, 101, 114, 97, 108, 32, 99, 97, 110, 100, 105, 100, 97, 116, 101, 115]⟩] 117, .cells #[.string ⟨#[116, 104, 101, 114, 101, 32, 105, 115, 32, 110, 111, 32, 99, 97, 110, 100, 105, 100, 97, 116, 101, 32, 108, 101, 102, 116]⟩] 117, .cells #[.string ⟨#[116, 104, 101, 114, 101, 32, 119, 111, 117, 108, 100, 32, 98, 101, 32, 116, 111, 111, 32, 109, 97, 110, 121, 32, 113, 117, 101, 115, 116, 105, 111, 110, 115]⟩] 117], #[], []⟩
  { w0 with heap := (((w0.heap).modify 0 fun
      | .cells _ t frozen => .cells #[.iface 90 (.pointer (some ⟨low + 0, 0, none⟩))] t frozen
      | o => o).modify 1 fun
      | .cells _ t frozen => .cells #[.iface 90 (.pointer (some ⟨low + 1, 0, none⟩))] t frozen
      | o => o).modify 2 fun
      | .cells _ t frozen => .cells #[.iface 90 (.pointer (some ⟨low + 2, 0, none⟩))] t frozen
      | o => o }
theorem plain : (Rows.fnExactFoundInRow.laid.all fun x => x.2.handleName?.isNone) = true := by kernel_rfl
theorem laidWorld_met (os : Os) (args : Array Value) : laidMetH Tryd.prog Rows.fnExactFoundInRow.laid ((laidWorld os).forCall (fun _ _ => 0) ⟨#[], args, []⟩).memory := by
  rw [MakeChecks.laidMetH_plain _ _ _ plain]
  exact laidMet_of_run' 8 (by kernel_rfl) (by kernel_rfl)
theorem row_ptr (u : TypeId) (h : Tryd.prog.typeName? 3 u = some "*errors.errorString") : u = 90 :=
  typeName_ptr_named (nm := "errors.errorString") (by rw [show "*" ++ "errors.errorString" = "*errors.errorString" by decide]; kernel_rfl) (by kernel_rfl) (by decide) u (by rw [show "*" ++ "errors.errorString" = "*errors.errorString" by decide]; exact h)
theorem errs_of {W : World} (h : laidMetH Tryd.prog Rows.fnExactFoundInRow.laid W) : ∃ s n q, Errs W s n ∧ W.var? Tryd.prog "loop.example/g01281/impl.errSeveral" = some #[.iface 90 (.pointer (some s))] ∧ W.var? Tryd.prog "loop.example/g01281/impl.errNone" = some #[.iface 90 (.pointer (some n))] ∧ W.var? Tryd.prog "loop.example/g01281/impl.errTooMany" = some #[.iface 90 (.pointer (some q))] := by
  rw [MakeChecks.laidMetH_plain _ _ _ plain] at h
  have h2 : laidMet Tryd.prog (("loop.example/g01281/impl.errSeveral", Rows.laid_loop_example_g01281_impl_errSeveral) :: ("loop.example/g01281/impl.errNone", Rows.laid_loop_example_g01281_impl_errNone) :: [("loop.example/g01281/impl.errTooMany", Rows.laid_loop_example_g01281_impl_errTooMany)]) W := h
  have h3 := laidMet.filter (fun x => x.1 == "loop.example/g01281/impl.errTooMany") h
  rw [show Rows.fnExactFoundInRow.laid.filter (fun x => x.1 == "loop.example/g01281/impl.errTooMany") = [("loop.example/g01281/impl.errTooMany", Rows.laid_loop_example_g01281_impl_errTooMany)] by kernel_rfl] at h3
  have g0 : Tryd.prog.globalNamed "loop.example/g01281/impl.errSeveral" = some 0 := by kernel_rfl
  have g1 : Tryd.prog.globalNamed "loop.example/g01281/impl.errNone" = some 1 := by kernel_rfl
  have g2 : Tryd.prog.globalNamed "loop.example/g01281/impl.errTooMany" = some 2 := by kernel_rfl
  obtain ⟨a0, a1, s0, s1, c0, c1, t0, t1, hv0, hv1, -, -, -, -, -, -, hne, hb0, hb1⟩ := laid_sentinels2 h2 g0 (by kernel_rfl) g1 (by kernel_rfl) Tryd.underlying42 row_ptr Tryd.underlying90 Tryd.underlying117 rfl rfl Tryd.underlying9 (by kernel_rfl) (by kernel_rfl)
  obtain ⟨a2, s2, hv2, -, -, -⟩ := laid_sentinel h3 g2 (by kernel_rfl) Tryd.underlying42 row_ptr Tryd.underlying90 Tryd.underlying117 rfl rfl Tryd.underlying9 (by kernel_rfl) (by kernel_rfl)
  exact ⟨a0, a1, a2, ⟨by have h0 := World.var?_cell g0 hv0 0; simpa using h0, by have h0 := World.var?_cell g1 hv1 0; simpa using h0, Ne.symm hne, ⟨_, _, hb0⟩, ⟨_, _, hb1⟩⟩, hv0, hv1, hv2⟩
theorem vars_read3 {H : Type} (enc : TypeId × Value → H) {W : World} {x0 x1 x2 : Value} (h0 : W.var? Tryd.prog "loop.example/g01281/impl.errSeveral" = some #[x0]) (h1 : W.var? Tryd.prog "loop.example/g01281/impl.errNone" = some #[x1]) (h2 : W.var? Tryd.prog "loop.example/g01281/impl.errTooMany" = some #[x2]) (i0 : IsIface x0) (i1 : IsIface x1) (i2 : IsIface x2) (sp : Nat → Bool) :
    DataW.TrodVars enc Tryd.prog W sp ["loop.example/g01281/impl.errSeveral", "loop.example/g01281/impl.errNone", "loop.example/g01281/impl.errTooMany"] [tok enc x0, tok enc x1, tok enc x2] [.cell 0 0, .cell 1 0, .cell 2 0] :=
  ⟨0, 42, #[x0], 1, [], [.cell 1 0, .cell 2 0], by kernel_rfl, by kernel_rfl, h0, trod_held Tryd.underlying42 i0 0, ⟨1, 42, #[x1], 1, [], [.cell 2 0], by kernel_rfl, by kernel_rfl, h1, trod_held Tryd.underlying42 i1 0, ⟨2, 42, #[x2], 1, [], [], by kernel_rfl, by kernel_rfl, h2, trod_held Tryd.underlying42 i2 0, rfl, rfl⟩, rfl⟩, rfl⟩
theorem var_below {n : String} {cs : Array Value} {W W' : World} (h : W.var? Tryd.prog n = some cs) (hb : Below W.heap.size W W') : W'.var? Tryd.prog n = some cs := by
  unfold World.var? at h ⊢
  cases hg : Tryd.prog.globalNamed n with
  | none => simp [hg] at h
  | some g =>
    simp only [hg, Option.bind_some] at h ⊢
    have hlt : g < W.heap.size := by
      rcases Nat.lt_or_ge g W.heap.size with h' | h'
      · exact h'
      · simp [Array.getElem?_eq_none h'] at h
    rw [hb.block g hlt]; exact h
theorem shaped_and {a : Assume} {C : Checked} {os : Os} {H : Type} {enc : TypeId × Value → H} {f : FuncId} {fn : Func} {s : ChangeSpec} {conds : List PathCond} {apart fresh handsOn again : Bool} {X : World → Array Value → Prop}
    (hX : ∀ (w w' : World) (args : Array Value), w.heap = w'.heap → X w args → X w' args)
    (own : ownKnob C.prog.godebug = none) (started : os.Started) (noInit : C.prog.inits.idxOf? f = none) (hfn : C.prog.funcs[f]? = some fn)
    (witness : ∃ (w : World) (tape : Tape) (i : Input), w.os = os ∧ (w.forCall tape i).Shaped C.prog ∧ i.vars = [] ∧ Input.okWide C.prog (w.forCall tape i) .any w.heap.size f i ∧
      ((s.pre enc C.prog fn conds apart (w.forCall tape i).memory i.args ∧ X (w.forCall tape i).memory i.args) ∧ sizedMet enc C.prog fn (OpenSpec.ofChange s) apart (w.forCall tape i).memory i.args) ∧ a.holds C.prog (lone (Frame.enter C.prog f i.args .normal) [] (w.forCall tape i)))
    (contract : ∀ (W : World) (base : Nat) (args : Array Value) (ds gs : List (DataW H)) (before : List MemPlace),
      (∀ (j : Nat) t v, fn.params[j]? = some t → args[j]? = some v → Value.okWide C.prog W .any base t v) →
      DataW.Whole enc C.prog fn.params.toList s.vars apart W args.toList ds gs before → W.ShapedOpen C.prog → X W args →
      Calls C.prog f args W fun e W' => ∃ v, e = .returned v ∧ s.post enc C.prog fn apart fresh handsOn again W args v W') :
    ReturnsInHanded a C os f .any (fun w args => (s.pre enc C.prog fn conds apart w args ∧ X w args) ∧ sizedMet enc C.prog fn (OpenSpec.ofChange s) apart w args) (s.post enc C.prog fn apart fresh handsOn again) := by
  refine returnsInHanded_of_calls own started noInit witness ?_
  intro w tape i _ hsh _ hok hpre hholds
  obtain ⟨_, _, _, fn', hfn', _, _, _, _, hval⟩ := hok
  obtain rfl := Option.some.inj (hfn'.symm.trans hfn)
  obtain ⟨⟨⟨ds, gs, before, hw, hc⟩, hx⟩, hz⟩ := hpre
  refine (contract (w.forCall tape i) w.heap.size i.args ds gs before hval (DataW.Whole.of_heap (w' := w.forCall tape i) (by rfl) hw) hsh (hX (w.forCall tape i).memory (w.forCall tape i) i.args rfl hx)).mono fun e W' h => ?_
  obtain ⟨v, he, hp⟩ := h
  subst he
  exact ChangeSpec.post_blind hp

/-! ### The row -/
set_option maxRecDepth 100000 in
theorem lifted (os : Os) (started : os.Started) (H : Type) (enc : TypeId × Value → H) :
    ReturnsInHanded {} Tryd.checked os 3 .any (fun w args => (Rows.fnExactFoundInSpec.pre enc Tryd.prog Tryd.f3 [] false w args ∧ laidMetH Tryd.prog Rows.fnExactFoundInRow.laid w) ∧ sizedMet enc Tryd.prog Tryd.f3 (OpenSpec.ofChange Rows.fnExactFoundInSpec) false w args)
      (Rows.fnExactFoundInSpec.post enc Tryd.prog Tryd.f3 false true false false) := by
  refine shaped_and (C := Tryd.checked) (X := fun w _ => laidMetH Tryd.prog Rows.fnExactFoundInRow.laid w) (fun _ _ _ hh h => h.of_heap hh) own started (by kernel_rfl) Tryd.func3
    (ChangeSpec.witness_at (enc := enc) (C := Tryd.checked) (os := os) (X := fun w _ => laidMetH Tryd.prog Rows.fnExactFoundInRow.laid w) false (laidWorld os) #[.agg #[.int .i8 0, .int .i8 0, .slice none 0 0]] 8 rfl (by kernel_rfl) (by kernel_rfl) (by kernel_rfl) (by kernel_rfl) (by kernel_rfl) (laidWorld_met os _)) ?_
  intro W base args ds gs before hval0 hW hsh hL
  have hval : ∀ (j : Nat) t v, Tryd.f3.params[j]? = some t → args[j]? = some v → Value.okWide Tryd.prog W .any base t v := hval0
  have hW' := hW
  obtain ⟨p, q, hA0, hV, rfl, hfz, hnd⟩ := hW
  have hA : DataW.TrodAll enc Tryd.prog W 0 (fun _ => true) true Tryd.f3.params.toList args.toList ds p := hA0
  rw [Tryd.params3] at hA hval
  obtain ⟨v0, vs0, d0, ds0, p0, q0, hargs, rfl, rfl, h0, r0⟩ := trodAll_cons hA
  obtain ⟨rfl, rfl, rfl⟩ := trodAll_nil r0
  obtain rfl : args = #[v0] := by cases args; simp_all
  have hV2 : DataW.TrodVars enc Tryd.prog W (fun _ => true) ["loop.example/g01281/impl.errSeveral", "loop.example/g01281/impl.errNone", "loop.example/g01281/impl.errTooMany"] gs q := hV
  obtain ⟨sE, nE, tE, hE, wv0, wv1, wv2⟩ := errs_of hL
  obtain ⟨rfl, rfl⟩ := hV2.unique (vars_read3 enc wv0 wv1 wv2 trivial trivial trivial _)
  have k0 := h0
  have lt0 : ∀ x ∈ p0, x.block < W.heap.size := by obtain ⟨m, hm⟩ := k0; exact DataW.trod_lt m _ _ _ hm
  obtain ⟨l0, k0', a0, cap0, ws0, rfl, e0, f0, s0, m0, g0⟩ := open_game (hval 0 25 v0 rfl rfl) h0
  clear hA0 hval0
  refine (walk_FnExactFoundIn l0 k0' a0 cap0 ws0 W e0 f0 m0 s0 g0 sE nE hE).mono fun e W' ⟨he, bel⟩ => ?_
  subst he
  exact ⟨_, rfl, _, _, _, [], _, [.cell 0 0, .cell 1 0, .cell 2 0], hW', trodAll_mk1 (shut_bool Tryd.underlying4 _), (trodAll_cons_mk (Below.trod laidOut (by kernel_rfl) (of_decide_eq_true (by kernel_rfl)) k0 bel lt0) trodAll_mk0), vars_read3 enc (var_below wv0 bel) (var_below wv1 bel) (var_below wv2 bel) trivial trivial trivial _, bel.frame _, fun h => by cases h⟩

theorem over : Rows.fnExactFoundInRow.holds Tryd.pinned (OpenSpec.ofChange Rows.fnExactFoundInSpec) :=
  OpenClaim.holds_of_wide 3 Tryd.f3 rfl rfl rfl rfl rfl rfl rfl ⟨rfl, rfl, rfl, rfl, rfl⟩ rfl rfl rfl rfl rfl (by kernel_rfl) Tryd.func3 (by kernel_rfl)
    (of_decide_eq_true (by kernel_rfl)) (by unfold Func.isWrapper; first | (rw [if_pos (by decide +kernel)]; kernel_rfl) | (rw [if_neg (by decide +kernel)]; exact ⟨rfl, rfl⟩))
    (fun os started H enc _ => lifted os started H enc)

/-- The card. -/
theorem proved : Rows.FnExactFoundInCardSaid :=
  Claim7.holds_tied_plain_at .later [] [.sentinel, .sentinel, .sentinel] true (true, "7e8d407d0a025f3c9c96446c1a00c65df0f41f74a36179cf9def43fb4123f191") true
    over (fun _ h => by cases h) (by kernel_rfl) (fun _ h => by cases h) fnExactFoundIn_row_tie rfl ⟨rfl, rfl⟩ (by kernel_rfl) rfl
    (fun f fn hf hfn => by
      obtain rfl : f = 3 := Option.some.inj ((show Tryd.prog.funcNamed "loop.example/g01281/laws.FnExactFoundIn" = some 3 by kernel_rfl).symm.trans hf) |>.symm
      obtain rfl : fn = Tryd.f3 := (Option.some.inj (Tryd.func3.symm.trans hfn)).symm
      exact ⟨by kernel_rfl, fun j t ht => by
        rw [Tryd.params3] at ht
        rcases j with _ | j
        · have h3 : t = 25 := by simpa using ht.symm
          subst h3
          exact (show Tryd.prog.wantsStandIn 25 = false by kernel_rfl)
        · simp at ht⟩)
    (by kernel_rfl)
#print axioms proved
end Go.Proofs.YtijaghkbmgkjnaaDoor.fnExactFoundIn
