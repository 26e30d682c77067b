/-
  Rows of one's own that grow, of any cells; rows that are read.
-/
import Derived.Test.YtjgnajopomadpaaGreatPe
import Derived.Laws.AppendOwn
import Derived.Laws.OwnMore
import Derived.Deep.MidRow
namespace Go.Proofs.YtjgnajopomadpaaGreat
open Go.ChangeShapes Go.WideShapes Go.ChangeAt Go.RowKit
namespace Tg
theorem wpList_append_text {P : Program} {w : World} {ops : Array Oper} {rest : List Oper} {o : Oper} {a : Act} {Q : Exit → Act → World → Prop}
    (hw : Region.wanted o (yielded ops a.tmps) = true) (s x : Operand) (t u : TypeId) (hop : o.op = Op.call { callee := Callee.builtin Builtin.append, args := #[s, x], argTypes := #[t, u] })
    {v1 v2 v' : Value} {w' : World} (hs : a.eval s = v1) (hx : a.eval x = v2) (hrun : (Builtin.append_ #[t, u] o.type #[v1, v2]).run P w = .ok v' w')
    (hK : wpList P ops Q rest (a.put o.dst v') w') : wpList P ops Q (o :: rest) a w := by
  refine BigFrame.wpList_want hw fun K hK' => ?_
  unfold Oper.wp
  simp [execOp, hop, resolve, invoke, builtin, hs, hx, hrun, Result.andThen]
  exact hK' _ _ hK
/-- A row made since w0. -/
structure Gw (e : TypeId) (sz : Nat) (w0 w : World) (a : Option Addr) (n cap : Nat) (xs : List Value) : Prop where
  own : w.ownsRow w0.heap.size e sz (.slice a n cap) n xs
  keep : Keep (fun _ => False) w0 w
theorem Gw.nil (e : TypeId) (sz : Nat) {w0 w : World} (k : Keep (fun _ => False) w0 w) : Gw e sz w0 w none 0 0 [] := ⟨World.ownsRow_nil _ _ _ _, k⟩
theorem Gw.more {e : TypeId} {sz : Nat} {w0 w w' : World} {a : Option Addr} {n cap : Nat} {xs : List Value} (h : Gw e sz w0 w a n cap xs) (k : Keep (fun _ => False) w w') : Gw e sz w0 w' a n cap xs := by
  refine ⟨⟨h.own.1, h.own.2.imp id ?_⟩, h.keep.trans k⟩
  rintro ⟨g, c, cur, e1, hb, hh, h1, h2, h3, h4⟩
  exact ⟨g, c, cur, e1, hb, by rw [k.block g (by by_cases hg : g < w.heap.size; exact hg; simp [Array.getElem?_eq_none (Nat.le_of_not_lt hg)] at hh) (fun e => e)]; exact hh, h1, h2, h3, h4⟩
theorem Gw.len {e : TypeId} {sz : Nat} {w0 w : World} {a : Option Addr} {n cap : Nat} {xs : List Value} (h : Gw e sz w0 w a n cap xs) : xs.length = n * sz := h.own.1

/-- A row that is read: its cells. -/
def Rd (w : World) (a : Option Addr) (xs : List Value) : Prop := xs = [] ∨ ∃ b o, a = some ⟨b, o, none⟩ ∧ ∀ j u, xs[j]? = some u → w.cell? ⟨b, o + j, none⟩ = some u
theorem Rd.keep {w w' : World} {a : Option Addr} {xs : List Value} (h : Rd w a xs) (k : Keep (fun _ => False) w w') : Rd w' a xs := by
  refine h.imp id ?_
  rintro ⟨b, o, rfl, hc⟩
  refine ⟨b, o, rfl, fun j u hu => ?_⟩
  have := hc j u hu
  rw [← this]
  exact World.cell?_of_block (w := w) (a := ⟨b, o + j, none⟩) (k.block b (World.block_lt_of_cell? w _ this) (fun e => e))
theorem Rd.nil (w : World) (a : Option Addr) : Rd w a [] := Or.inl rfl
theorem Gw.rd {e : TypeId} {sz : Nat} {w0 w : World} {a : Option Addr} {n cap : Nat} {xs : List Value} (h : Gw e sz w0 w a n cap xs) : Rd w a xs := by
  have hl := h.own.1
  rcases h.own.2 with ⟨_, hn⟩ | ⟨g, c, cur, e1, hb, hh, h1, h2, h3, h4⟩
  · left
    exact List.eq_nil_of_length_eq_zero (by rw [hl, hn]; simp)
  · injection e1 with e1 e2 e3
    subst e1
    refine Or.inr ⟨g, 0, rfl, fun j u hu => ?_⟩
    have hj : cur.toList[j]? = some u := by
      rw [← h4] at hu
      rw [List.getElem?_take] at hu
      split at hu
      · exact hu
      · cases hu
    simp only [World.cell?, hh, Nat.zero_add]
    simpa using hj
theorem grown_keep {w w' : World} {row : Option Nat} (h : w.grownBy w' row) : Keep (fun x => some x = row) w w' := ⟨h.os, h.tape, h.output, h.size, fun k hk hs => h.block k hk hs⟩
theorem new_cell (w : World) (xs : List Value) (t : TypeId) (j : Nat) (u : Value) (h : xs[j]? = some u) : (w.alloc (.cells xs.toArray t)).cell? ((⟨w.heap.size, 0, none⟩ : Addr).add j) = some u := by
  rw [Addr.add_lit, Nat.zero_add, World.cell?_alloc_mark, ← Array.getElem?_toList]
  exact h

theorem own_keep {S : Nat → Prop} {B : Nat} {e : TypeId} {sz : Nat} {w w' : World} {v : Value} {n : Nat} {xs : List Value} (h : w.ownsRow B e sz v n xs) (k : Keep S w w') (hS : ∀ b, B ≤ b → ¬ S b) : w'.ownsRow B e sz v n xs := by
  refine ⟨h.1, h.2.imp id ?_⟩
  rintro ⟨g, c, cur, e1, hb, hh, h1, h2, h3, h4⟩
  exact ⟨g, c, cur, e1, hb, by rw [k.block g (by by_cases hg : g < w.heap.size; exact hg; simp [Array.getElem?_eq_none (Nat.le_of_not_lt hg)] at hh) (hS g hb)]; exact hh, h1, h2, h3, h4⟩
theorem own_base {B B' : Nat} {e : TypeId} {sz : Nat} {w : World} {v : Value} {n : Nat} {xs : List Value} (h : w.ownsRow B e sz v n xs) (hB : B' ≤ B) : w.ownsRow B' e sz v n xs := by
  refine ⟨h.1, h.2.imp id ?_⟩
  rintro ⟨g, c, cur, e1, hb, hh⟩
  exact ⟨g, c, cur, e1, Nat.le_trans hB hb, hh⟩
set_option maxRecDepth 100000 in
/-- One thing more, on a row whose blocks lie at B or behind. -/
theorem own_app1 {t e : TypeId} {sz : Nat} {z : Value} {by' : Nat} (ht : Tryz.prog.underlying t = some (.slice e)) (hinf : (Tryz.prog.info? e).map (fun i => (i.zero, i.size, i.bytes)) = some (some z, sz, by'))
    (hz : z.cells.size = sz) (hsz : 0 < sz) (hby : by' ≤ 64)
    {B : Nat} {w : World} {a : Option Addr} {n cap : Nat} {xs : List Value} (h : w.ownsRow B e sz (.slice a n cap) n xs) (hB : B ≤ w.heap.size) (hn : n ≤ 20000000) (news : List Value) (hl : news.length = sz) (hone : ∀ u ∈ news, u.oneCell' = true) :
    ∃ a' cap' w', (Builtin.append_ #[t, t] t #[.slice a n cap, .slice (some ⟨w.heap.size, 0, none⟩) 1 1]).run Tryz.prog (w.alloc (.cells news.toArray e)) = .ok (.slice a' (n + 1) cap') w' ∧ w'.ownsRow B e sz (.slice a' (n + 1) cap') (n + 1) (xs ++ news) ∧ Keep (fun b => B ≤ b) w w' := by
  obtain ⟨i, hi, hz0, hz1, hz2⟩ := info_parts hinf
  have hA := (Keep.refl (fun _ => False) w).alloc (.cells news.toArray e)
  have h1 := own_keep h hA (fun _ _ e => e)
  have hs1 := hA.size
  obtain ⟨v', w', hrun, hown, hgrow, hnil⟩ := run_append_own (P := Tryz.prog) (w.alloc (.cells news.toArray e)) B t t e i z sz by' ht hi hz0 hz1 hz2 hz hsz (.slice a n cap) n xs h1
    ⟨w.heap.size, 0, none⟩ 1 1 news (by rw [hl]; omega) (fun j u hu => new_cell w news e j u hu) hone (by unfold maxLen; omega) (by
      have : (n + 1) * by' ≤ (n + 1) * 64 := Nat.mul_le_mul_left _ hby
      omega) (Nat.le_trans hB hs1)
  have hk : Keep (fun b => B ≤ b) (w.alloc (.cells news.toArray e)) w' := (grown_keep hgrow).mono (fun b _ e => by
    rcases h1.2 with ⟨e', -⟩ | ⟨g, c, cur, e', hb, -⟩
    · injection e' with e'; subst e'; cases e
    · injection e' with e'; subst e'; injection e with e; subst e; exact hb)
  have hshape : ∃ a' cap', v' = .slice a' (n + 1) cap' := by
    rcases hown.2 with ⟨e, hn⟩ | ⟨g, c', cur, e, -⟩
    · omega
    · exact ⟨_, _, e⟩
  obtain ⟨a', cap', rfl⟩ := hshape
  exact ⟨a', cap', w', hrun, hown, ⟨hk.os.trans hA.os, hk.tape.trans hA.tape, hk.output.trans hA.output, Nat.le_trans hs1 hk.size, fun j hj hs => by
    rw [hk.block j (by omega) hs]; exact hA.block j hj (fun e => e)⟩⟩
/-- One thing more. -/
theorem Gw.app1 {t e : TypeId} {sz : Nat} {z : Value} {by' : Nat} (ht : Tryz.prog.underlying t = some (.slice e)) (hinf : (Tryz.prog.info? e).map (fun i => (i.zero, i.size, i.bytes)) = some (some z, sz, by'))
    (hz : z.cells.size = sz) (hsz : 0 < sz) (hby : by' ≤ 64)
    {w0 w : World} {a : Option Addr} {n cap : Nat} {xs : List Value} (h : Gw e sz w0 w a n cap xs) (hn : n ≤ 20000000) (news : List Value) (hl : news.length = sz) (hone : ∀ u ∈ news, u.oneCell' = true) :
    ∃ a' cap' w', (Builtin.append_ #[t, t] t #[.slice a n cap, .slice (some ⟨w.heap.size, 0, none⟩) 1 1]).run Tryz.prog (w.alloc (.cells news.toArray e)) = .ok (.slice a' (n + 1) cap') w' ∧ Gw e sz w0 w' a' (n + 1) cap' (xs ++ news) := by
  obtain ⟨a', cap', w', h1, h2, h3⟩ := own_app1 ht hinf hz hsz hby h.own h.keep.size hn news hl hone
  have hs := h.keep.size
  exact ⟨a', cap', w', h1, h2, ⟨h3.os.trans h.keep.os, h3.tape.trans h.keep.tape, h3.output.trans h.keep.output, Nat.le_trans hs h3.size, fun j hj _ => by
    rw [h3.block j (by omega) (by omega)]; exact h.keep.block j hj (fun e => e)⟩⟩

/-- A step of a walk at an append whose run is known. -/
theorem wpList_app {w : World} {ops : Array Oper} {rest : List Oper} {o : Oper} {a : Act} {Q : Exit → Act → World → Prop}
    (hw : Region.wanted o (yielded ops a.tmps) = true) (s x : Operand) (t u : TypeId) (hop : o.op = Op.call { callee := Callee.builtin Builtin.append, args := #[s, x], argTypes := #[t, u] })
    {v1 v2 v' : Value} {w' : World} (hs : a.eval s = v1) (hx : a.eval x = v2) (hrun : (Builtin.append_ #[t, u] o.type #[v1, v2]).run Tryz.prog w = .ok v' w')
    (hK : wpList Tryz.prog ops Q rest (a.put o.dst v') w') : wpList Tryz.prog ops Q (o :: rest) a w :=
  wpList_append_text hw s x t u hop hs hx hrun hK
end Tg
end Go.Proofs.YtjgnajopomadpaaGreat
