/- The frame of a law's second form, where its row lists no table. -/
import Derived.Test.YthcdcjidoacalaaBulk
import Derived.Deep.CondSized
namespace Go.Proofs.Ythcdcjidoacalaa
set_option maxRecDepth 100000
open Go.ChangeShapes Go.WideShapes Go.ChangeAt Go.RowKit
set_option linter.unusedVariables false

theorem framedU {f : FuncId} {fn : Func} {s : ChangeSpec} {conds : List PathCond} (n : Nat) (hfn : Try.prog.funcs[f]? = some fn) (hn : fn.params.size = n) (hvars : s.vars = []) (hrt : fn.resultTypes = #[4])
    (noInit : Try.prog.inits.idxOf? f = none) (hread0 : fn.params.toList.all (fun t => Try.prog.readableRec t && decide (t < Try.prog.types.size)) = true)
    (hs : ∀ (H : Type) (ds : List (DataW H)), ds.length = n → (s.fn H ds).results = [.lit (.bool true)] ∧ (s.fn H ds).args = ds ∧ (s.fn H ds).vars = [])
    (walk : ∀ (W : World) (args : Array Value), args.size = n → (∀ (j : Nat) t v, fn.params[j]? = some t → args[j]? = some v → RdV W t v ∧ (true = true → RdU W t v.cells.toList)) → Calls Try.prog f args W fun e W' => e = .returned (.bool true) ∧ Q W W')
    (os : Os) (started : os.Started) (H : Type) (enc : TypeId × Value → H) (F : Stop.Interp)
    (witness : ∃ (w : World) (tape : Tape) (i : Input), w.os = os ∧ (w.forCall tape i).Shaped Try.prog ∧ i.vars = [] ∧ Input.okWide Try.prog (w.forCall tape i) .any w.heap.size f i ∧
      (Rows.OpenSpec.upto s).pre6 enc Try.prog fn conds false (w.forCall tape i).memory i.args ∧ ({} : Assume).holds Try.prog (lone (Frame.enter Try.prog f i.args .normal) [] (w.forCall tape i))) :
    ReturnsInHanded {} Try.checked os f .any ((Rows.OpenSpec.upto s).pre6 enc Try.prog fn conds false) (((Rows.OpenSpec.upto s).at F).post enc Try.prog fn false true false false) := by
  refine returnsInHanded_of_cond_sized (C := Try.checked) (s := Rows.OpenSpec.upto s) (k := Rows.uptoSmall) rfl ownKnob_ started noInit hfn witness ?_
  intro W base args ds gs before hval hW _ hk hsz _
  exact coreU (s := s) true n hn hvars hrt hread0 hs H enc W base args ds gs before hval hW (fun _ => of_decide_eq_true hk) hsz fun h1 h2 => walk W args h1 h2
end Go.Proofs.Ythcdcjidoacalaa
