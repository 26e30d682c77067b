/-
  The switch of the statement TreePlays, out of the function's body; what each way leaves.
-/
import Derived.Test.YtnipckcpnbdhhaaActs
import Derived.Deep.CutBlock
namespace Go.Proofs.Ytnipckcpnbdhhaa
open Go.ChangeShapes Go.WideShapes Go.ChangeAt Go.RowKit
set_option linter.unusedVariables false
namespace Tg

/-- The block with that number. -/
def blockIn (n : Nat) : Code → Option Code
  | .block m c => if m = n then some (.block m c) else blockIn n c
  | .seq a b => match blockIn n a with
    | some c => some c
    | none => blockIn n b
  | .cond _ a b => match blockIn n a with
    | some c => some c
    | none => blockIn n b
  | .loop c => blockIn n c
  | .scope c => blockIn n c
  | _ => none
noncomputable def swCode : Code := match Try.f4.body with
  | some b => (blockIn 2 b).getD .skip
  | none => .skip

theorem cell_keep {S : Nat → Prop} {w w' : World} {B j : Nat} {v : Value} (h : w.cell? ⟨B, j, none⟩ = some v) (k : Keep S w w') (hs : ¬ S B) : w'.cell? ⟨B, j, none⟩ = some v := by
  rw [← h]
  exact World.cell?_of_block (w := w) (a := ⟨B, j, none⟩) (k.block B (World.block_lt_of_cell? w _ h) hs)
theorem Mt.ids1 {w wr : World} {b p k N : Nat} {l : List Nat} {t : Tr} (h : Mt w wr b p k N l t) : ∀ z ∈ t.ids, 1 ≤ z := by
  obtain ⟨s, hT, _⟩ := h.ex; exact hT.ids1
theorem Mt.order {w wr : World} {b p k N : Nat} {l : List Nat} {t : Tr} (h : Mt w wr b p k N l t) : t.Ord := by
  obtain ⟨s, hT, _⟩ := h.ex; exact hT.ord
/-- A row of one's own, said to be made since an earlier world. -/
theorem Rr.base {w0 w1 w : World} {a : Option Addr} {cap : Nat} {m : List Rn} (h : Rr w1 w a cap m) (hk : Keep (fun _ => False) w0 w) (hs : w0.heap.size ≤ w1.heap.size) : Rr w0 w a cap m :=
  ⟨⟨h.own.1, h.own.2.imp id (by rintro ⟨g, c, cur, e, hb, hr⟩; exact ⟨g, c, cur, e, Nat.le_trans hs hb, hr⟩)⟩, hk⟩
theorem Ps.parts {w0 wr : World} {b p k N : Nat} {a : Option Addr} {cap : Nat} {m : List Rn} (h : Ps w0 wr b p k N a cap m) (v : Int) :
    (∃ l t, Mt w0 wr b p k N l t ∧ t.runs = m ∧ t.idOf v = 0 ∧ atL v m = -1) ∨ (∃ l t A x B, Mt w0 wr b p k N l t ∧ t.runs = m ∧ t.idOf v ≠ 0 ∧ m = A ++ x :: B ∧ x.lba = v ∧ atL v m = (A.length : Int)) := by
  obtain ⟨l, t, h1, rfl⟩ := h.tr
  obtain ⟨s1, s2⟩ := at_split h1.order v
  by_cases e : t.idOf v = 0
  · exact Or.inl ⟨l, t, h1, rfl, e, s1 e h1.ids1⟩
  · obtain ⟨A, x, B, e1, e2, e3⟩ := s2 e h1.ids1
    exact Or.inr ⟨l, t, A, x, B, h1, rfl, e, e1, e2, e3⟩
theorem step_append_run {P : Program} {ops : Array Oper} {o : Oper} {a : Act} {w : World} {K : Act → World → Prop} {Q : Exit → Act → World → Prop} {E : Prop}
    (hw : Region.wanted o (yielded ops a.tmps) = true) (s x : Operand) (t : TypeId) (hop : o.op = Op.call { callee := Callee.builtin Builtin.append, args := #[s, x], argTypes := #[t, t] })
    {v1 v2 v' : Value} {w' : World} (hs : a.eval s = v1) (hx : a.eval x = v2) (hrun : (Builtin.append_ #[t, t] o.type #[v1, v2]).run P w = .ok v' w')
    (hK : K (a.put o.dst v') w') : if Region.wanted o (yielded ops a.tmps) = true then Oper.wp P o a w K Q else E := by
  rw [if_pos hw]
  unfold Oper.wp
  simp [execOp, hop, resolve, invoke, builtin, hs, hx, hrun, Result.andThen]
  exact hK
end Tg
end Go.Proofs.Ytnipckcpnbdhhaa
