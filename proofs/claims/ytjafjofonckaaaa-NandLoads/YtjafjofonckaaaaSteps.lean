/-
  What the walks of whole plays want: one step of a region whose order is left open; a call laid into a variable; bytes that are made and programmed.
-/
import Derived.Test.YtjafjofonckaaaaPair
namespace Go.Proofs.Ytjafjofonckaaaa
open Go.ChangeShapes Go.WideShapes Go.ChangeAt Go.RowKit
namespace Nd

theorem step_call_want {P : Program} {ops : Array Oper} {o : Oper} {a : Act} {w : World} {K : Act → World → Prop} {Q : Exit → Act → World → Prop} {E : Prop}
    (hw : Region.wanted o (yielded ops a.tmps) = true) (f : FuncId) (xs : Array Operand) (ts : Array TypeId) (hop : o.op = Op.call { callee := Callee.value (.func f), args := xs, argTypes := ts })
    {vs : Array Value} {R : Value → World → Prop} (hx : xs.map a.eval = vs) (he : ∀ args w, (callFunc f args).run P w = .ok (.enter f args) w) (hc : Calls P f vs w fun e w2 => ∃ v, e = .returned v ∧ R v w2)
    (hK : ∀ v w', R v w' → K (a.put o.dst v) w') : if Region.wanted o (yielded ops a.tmps) = true then Oper.wp P o a w K Q else E := by
  rw [if_pos hw]
  subst hx
  obtain ⟨dst, op, ty, pos, after, guard⟩ := o
  simp only at hop
  subst hop
  unfold Oper.wp
  rw [execOp_call_go, he, Oper.upon_enter]
  simp only [Array.empty_append, Array.append_empty]
  exact hc.mono (by rintro e w2 ⟨v, rfl, hr⟩; exact hK v w2 hr)
theorem step_conv_run {P : Program} {ops : Array Oper} {o : Oper} {a : Act} {w : World} {K : Act → World → Prop} {Q : Exit → Act → World → Prop} {E : Prop}
    (hw : Region.wanted o (yielded ops a.tmps) = true) (s t : TypeId) (x : Operand) (hop : o.op = Op.convert s t x) {v1 v' : Value} {w' : World} (hx : a.eval x = v1) (hrun : (convert s t v1).run P w = .ok v' w')
    (hK : K (a.put o.dst v') w') : if Region.wanted o (yielded ops a.tmps) = true then Oper.wp P o a w K Q else E := by
  rw [if_pos hw]
  unfold Oper.wp
  simp [execOp, hop, hx, hrun, Result.andThen]
  exact hK
theorem yields_conv {P : Program} {ops : Array Oper} {S : World → Prop} {o : Oper} {a : Act} {v v1 : Value} (hw : Region.wanted o (yielded ops a.tmps) = true) (s t : TypeId) (x : Operand) (hop : o.op = Op.convert s t x) (hx : a.eval x = v1) (h : ∀ w, S w → (convert s t v1).run P w = .ok v w) : YieldsIf P ops S o v a := by
  refine Or.inl ⟨hw, fun w hS => ?_⟩
  simp [execOp, hop, hx, h w hS]
theorem yields_load {P : Program} {ops : Array Oper} {S : World → Prop} {o : Oper} {a : Act} {v v1 : Value} (hw : Region.wanted o (yielded ops a.tmps) = true) (t : TypeId) (x : Operand) (hop : o.op = Op.load t x) (hx : a.eval x = v1) (h : ∀ w, S w → (Instr.loadAt t v1).run P w = .ok v w) : YieldsIf P ops S o v a := by
  refine Or.inl ⟨hw, fun w hS => ?_⟩
  simp [execOp, hop, hx, h w hS]
theorem wpList_store_run {P : Program} {w : World} {ops : Array Oper} {rest : List Oper} {o : Oper} {a : Act} {Q : Exit → Act → World → Prop}
    (hg : o.guard = none) (t : TypeId) (x y : Operand) (hop : o.op = Op.store t x y) {v1 v2 : Value} {w' : World} (hx : a.eval x = v1) (hy : a.eval y = v2) (hrun : (Instr.storeAt t v1 v2).run P w = .ok () w')
    (hK : wpList P ops Q rest (a.put o.dst undef) w') : wpList P ops Q (o :: rest) a w := by
  refine BigFrame.wpList_want (by simp [Region.wanted, hg]) fun K hK' => ?_
  unfold Oper.wp
  simp [execOp, hop, hx, hy, hrun, Result.andThen]
  exact hK' _ _ hK

theorem size38 : (Try.prog.info? 38).map (·.size) = some 4 := by kernel_rfl
/-- A call, laid into a variable of its own. -/
theorem new_act (w : World) (op a sh f : Int) : ∃ w', (Instr.storeAt 38 (.pointer (some ⟨w.heap.size, 0, none⟩)) (.agg #[.int .i64 op, .int .i64 a, .int .i64 sh, .int .u8 f])).run Try.prog (w.alloc (.cells #[.int .i64 0, .int .i64 0, .int .i64 0, .int .u8 0] 38)) = .ok () w' ∧ Blk w' w.heap.size 4 (four op a sh f) ∧ Keep (fun _ => False) w w' := by
  have h := blk_four w 0 0 0 0 38
  have e : (List.range 4).map (four op a sh f) = [.int .i64 op, .int .i64 a, .int .i64 sh, .int .u8 f] := rfl
  refine ⟨_, run_storeAt_mid _ w.heap.size 0 38 #[.int .i64 op, .int .i64 a, .int .i64 sh, .int .u8 f] (fun j hj => ?_) size38 (by simp; exact ⟨rfl, rfl, rfl, rfl⟩), ?_, ?_⟩
  · rw [Nat.zero_add]
    exact ⟨by rw [(h j hj).1]; rfl, (h j hj).2⟩
  · have := h.setCells 0 4 (four op a sh f) (by omega)
    exact this.congr (fun i hi => by rw [if_pos (by omega), Nat.sub_zero])
  · have := (((Keep.refl (fun b => b = w.heap.size) w).alloc (.cells #[.int .i64 0, .int .i64 0, .int .i64 0, .int .u8 0] 38))).setCells (b := w.heap.size) (Or.inl rfl) 0 ((List.range 4).map (four op a sh f))
    exact this.mono (fun k hk e => by omega)

theorem call12 (args : Array Value) (w : World) : (callFunc 12 args).run Try.prog w = .ok (.enter 12 args) w := enters Try.func12 (by kernel_rfl) (by kernel_rfl) args w
theorem call13 (args : Array Value) (w : World) : (callFunc 13 args).run Try.prog w = .ok (.enter 13 args) w := enters Try.func13 (by kernel_rfl) (by kernel_rfl) args w
theorem call19 (args : Array Value) (w : World) : (callFunc 19 args).run Try.prog w = .ok (.enter 19 args) w := enters Try.func19 (by kernel_rfl) (by kernel_rfl) args w

/-- The bytes that are programmed are made. -/
def DataR (w0 : World) (sh f : Int) (u : Value) (w2 : World) : Prop := ∃ D, u = .slice (some ⟨D, 0, none⟩) (howMany sh) (howMany sh) ∧ w0.heap.size ≤ D ∧ Blk w2 D (howMany sh) (fun i => .int .u8 (rise f i)) ∧ Keep (fun _ => False) w0 w2
theorem data_post {w0 w : World} (hk : Keep (fun _ => False) w0 w) (op a sh f : Int) : Calls Try.prog 17 #[.agg #[.int .i64 op, .int .i64 a, .int .i64 sh, .int .u8 f]] w fun e w2 => ∃ u, e = .returned u ∧ DataR w0 sh f u w2 :=
  (data_any (w := w) op a sh f).mono (by rintro e w2 ⟨rfl, hb, hk2⟩; exact ⟨_, rfl, _, rfl, by have := hk.size; omega, hb, hk.trans hk2⟩)

/-- Program, of the program's flash. -/
def ProgR (p c k : Nat) (s : Fl) (a sh f : Int) (w : World) (u : Value) (w2 : World) : Prop := u = .int .i64 ((s.call0 a (howMany sh) (rise f)).1 : Nat) ∧ Mem w2 p c k (s.call0 a (howMany sh) (rise f)).2 ∧ Keep (Own p c k) w w2
theorem prog_post {w : World} {p c k N D : Nat} {s : Fl} (h : Mem w p c k s) (ok : s.Ok N) (hN : N ≤ 1000000) (a sh f : Int) (hr : Blk w D (howMany sh) (fun i => .int .u8 (rise f i))) (hD : ¬ Own p c k D) :
    Calls Try.prog 10 #[.pointer (some ⟨p, 0, none⟩), .int .i64 a, .slice (some ⟨D, 0, none⟩) (howMany sh) (howMany sh)] w fun e w2 => ∃ u, e = .returned u ∧ ProgR p c k s a sh f w u w2 :=
  (call0_any h ok hN a (rise_byte f) hr hD (Nat.le_refl _) (by have := howMany_bd sh; omega)).mono (by rintro e w2 ⟨rfl, hm, hk⟩; exact ⟨_, rfl, rfl, hm, hk⟩)
/-- .. of the document's own. -/
def RProgR (l : Pl) (s : Fl) (a sh f : Int) (w : World) (u : Value) (w2 : World) : Prop := u = .int .i64 ((s.call0 a (howMany sh) (rise f)).1 : Nat) ∧ ∃ y, RM w2 l (s.call0 a (howMany sh) (rise f)).2 y ∧ Cuts (s.call0 a (howMany sh) (rise f)).2 y ∧ Keep l.own w w2
theorem rprog_post {w : World} {l : Pl} {N D : Nat} {s : Fl} {x : Int} (h : RM w l s x) (hx : Cuts s x) (ok : s.Ok N) (hN : N ≤ 1000000) (a sh f : Int) (hr : Blk w D (howMany sh) (fun i => .int .u8 (rise f i))) (hD : ¬ l.own D) :
    Calls Try.prog 18 #[.pointer (some ⟨l.p, 0, none⟩), .int .i64 a, .slice (some ⟨D, 0, none⟩) (howMany sh) (howMany sh)] w fun e w2 => ∃ u, e = .returned u ∧ RProgR l s a sh f w u w2 :=
  (rcall0_any h hx ok hN a (rise_byte f) hr hD).mono (by rintro e w2 ⟨rfl, y, hm, hc, hk⟩; exact ⟨_, rfl, rfl, y, hm, hc, hk⟩)
end Nd
end Go.Proofs.Ytjafjofonckaaaa
