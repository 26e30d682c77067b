/-
  One step of a region whose order is left open: a call whose contract is known, a conversion whose run is known; the first of a row's bytes.
-/
import Derived.Test.YtgilagmgepogbaaDoorRead
import Derived.BigQuiet
import Derived.Deep.RegionHeld3
namespace Go.Proofs.YtgilagmgepogbaaDoor
open Go.ChangeShapes Go.WideShapes Go.ChangeAt Go.RowKit
namespace Tg
open Qm
set_option maxRecDepth 100000 in
theorem enters {P : Program} {f : FuncId} {fn : Func} (hf : P.funcs[f]? = some fn) (hname : (fn.name == "runtime.NumGoroutine") = false) (hb : fn.body.isSome = true) (args : Array Value) (w : World) :
    (callFunc f args).run P w = .ok (.enter f args) w := by
  obtain ⟨c, hc⟩ := Option.isSome_iff_exists.1 hb
  simp [callFunc, go_sem, hf, hc]
  intro h; simp [h] at hname
set_option maxRecDepth 100000 in
theorem step_call_want {P : Program} {ops : Array Oper} {o : Oper} {a : Act} {w : World} {K : Act → World → Prop} {Q : Exit → Act → World → Prop} {E : Prop}
    (hw : Region.wanted o (yielded ops a.tmps) = true) (f : FuncId) (xs : Array Operand) (ts : Array TypeId) (hop : o.op = Op.call { callee := Callee.value (.func f), args := xs, argTypes := ts })
    {vs : Array Value} {R : Value → World → Prop} (hx : xs.map a.eval = vs) (he : ∀ args w, (callFunc f args).run P w = .ok (.enter f args) w) (hc : Calls P f vs w fun e w2 => ∃ v, e = .returned v ∧ R v w2)
    (hK : ∀ v w', R v w' → K (a.put o.dst v) w') : if Region.wanted o (yielded ops a.tmps) = true then Oper.wp P o a w K Q else E := by
  rw [if_pos hw]
  subst hx
  obtain ⟨dst, op, ty, pos, after, guard⟩ := o
  simp only at hop
  subst hop
  unfold Oper.wp
  rw [execOp_call_go, he, Oper.upon_enter]
  simp only [Array.empty_append, Array.append_empty]
  exact hc.mono (by rintro e w2 ⟨v, rfl, hr⟩; exact hK v w2 hr)
set_option maxRecDepth 100000 in
theorem step_conv_run {P : Program} {ops : Array Oper} {o : Oper} {a : Act} {w : World} {K : Act → World → Prop} {Q : Exit → Act → World → Prop} {E : Prop}
    (hw : Region.wanted o (yielded ops a.tmps) = true) (s t : TypeId) (x : Operand) (hop : o.op = Op.convert s t x) {v1 v' : Value} {w' : World} (hx : a.eval x = v1) (hrun : (convert s t v1).run P w = .ok v' w')
    (hK : K (a.put o.dst v') w') : if Region.wanted o (yielded ops a.tmps) = true then Oper.wp P o a w K Q else E := by
  rw [if_pos hw]
  unfold Oper.wp
  simp [execOp, hop, hx, hrun, Result.andThen]
  exact hK
set_option maxRecDepth 100000 in
theorem yields_conv {P : Program} {ops : Array Oper} {S : World → Prop} {o : Oper} {a : Act} {v v1 : Value} (hw : Region.wanted o (yielded ops a.tmps) = true) (s t : TypeId) (x : Operand) (hop : o.op = Op.convert s t x) (hx : a.eval x = v1) (h : ∀ w, S w → (convert s t v1).run P w = .ok v w) : YieldsIf P ops S o v a := by
  refine Or.inl ⟨hw, fun w hS => ?_⟩
  simp [execOp, hop, hx, h w hS]
set_option maxRecDepth 100000 in
theorem call10 (args : Array Value) (w : World) : (callFunc 48 args).run Tryd.prog w = .ok (.enter 48 args) w := enters Tryd.func48 (by kernel_rfl) (by kernel_rfl) args w
set_option maxRecDepth 100000 in
theorem call11 (args : Array Value) (w : World) : (callFunc 53 args).run Tryd.prog w = .ok (.enter 53 args) w := enters Tryd.func53 (by kernel_rfl) (by kernel_rfl) args w
set_option maxRecDepth 100000 in
theorem call13 (args : Array Value) (w : World) : (callFunc 27 args).run Tryd.prog w = .ok (.enter 27 args) w := enters Tryd.func27 (by kernel_rfl) (by kernel_rfl) args w
set_option maxRecDepth 100000 in
theorem call15 (args : Array Value) (w : World) : (callFunc 38 args).run Tryd.prog w = .ok (.enter 38 args) w := enters Tryd.func38 (by kernel_rfl) (by kernel_rfl) args w
set_option maxRecDepth 100000 in
theorem call24 (args : Array Value) (w : World) : (callFunc 39 args).run Tryd.prog w = .ok (.enter 39 args) w := enters Tryd.func39 (by kernel_rfl) (by kernel_rfl) args w
set_option maxRecDepth 100000 in
theorem call25 (args : Array Value) (w : World) : (callFunc 45 args).run Tryd.prog w = .ok (.enter 45 args) w := enters Tryd.func45 (by kernel_rfl) (by kernel_rfl) args w
set_option maxRecDepth 100000 in
theorem call26 (args : Array Value) (w : World) : (callFunc 44 args).run Tryd.prog w = .ok (.enter 44 args) w := enters Tryd.func44 (by kernel_rfl) (by kernel_rfl) args w
set_option maxRecDepth 100000 in
theorem call31 (args : Array Value) (w : World) : (callFunc 46 args).run Tryd.prog w = .ok (.enter 46 args) w := enters Tryd.func46 (by kernel_rfl) (by kernel_rfl) args w
set_option maxRecDepth 100000 in
theorem call32 (args : Array Value) (w : World) : (callFunc 49 args).run Tryd.prog w = .ok (.enter 49 args) w := enters Tryd.func49 (by kernel_rfl) (by kernel_rfl) args w
set_option maxRecDepth 100000 in
theorem call33 (args : Array Value) (w : World) : (callFunc 50 args).run Tryd.prog w = .ok (.enter 50 args) w := enters Tryd.func50 (by kernel_rfl) (by kernel_rfl) args w

set_option maxRecDepth 100000 in
/-- A call that answers one value and keeps what was there, as a step of a region. -/
theorem post_keep {f : FuncId} {vs : Array Value} {v : Value} {w0 w : World} (h : Calls Tryd.prog f vs w fun e w' => e = .returned v ∧ Keep (fun _ => False) w w') (hk : Keep (fun _ => False) w0 w) : Calls Tryd.prog f vs w fun e w2 => ∃ u, e = .returned u ∧ (fun u w2 => u = v ∧ Keep (fun _ => False) w0 w2) u w2 :=
  h.mono (by rintro e w' ⟨rfl, h2⟩; exact ⟨_, rfl, rfl, hk.trans h2⟩)
set_option maxRecDepth 100000 in
/-- A call that leaves the world, as a step of a region. -/
theorem post_same {f : FuncId} {vs : Array Value} {v : Value} {w0 w : World} (h : Calls Tryd.prog f vs w fun e w' => e = .returned v ∧ w' = w) (hk : Keep (fun _ => False) w0 w) : Calls Tryd.prog f vs w fun e w2 => ∃ u, e = .returned u ∧ (fun u w2 => u = v ∧ w2 = w) u w2 :=
  h.mono (by rintro e w' ⟨rfl, rfl⟩; exact ⟨_, rfl, rfl, rfl⟩)
end Tg
end Go.Proofs.YtgilagmgepogbaaDoor
