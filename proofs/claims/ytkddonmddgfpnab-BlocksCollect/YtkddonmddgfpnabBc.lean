/-
  Rows of pieces of one's own.
-/
import Derived.Test.YtkddonmddgfpnabBw
import Derived.Test.YtkddonmddgfpnabBq
namespace Go.Proofs.Ytkddonmddgfpnab
open Go.ChangeShapes Go.WideShapes Go.ChangeAt Go.RowKit
namespace Tg
theorem Keep.drewB {S : Nat → Prop} {a w : World} (h : Keep S a w) : Keep S a w.drew := ⟨h.os, h.tape, h.output, h.size, h.block⟩
theorem info42p : (Try.prog.info? 42).map (fun i => (i.zero, i.size, i.bytes)) = some (some (.agg #[.int .i64 0, .int .i64 0, .int .i64 0]), 3, 24) := by kernel_rfl
/-- A list of changes of one's own, in memory made since w0. -/
structure Rc (w0 w : World) (a : Option Addr) (cap : Nat) (m : List Rn) : Prop where
  own : w.ownsRow w0.heap.size 42 3 (.slice a m.length cap) m.length (rcells m)
  keep : Keep (fun _ => False) w0 w
theorem Rc.nil (w : World) : Rc w w none 0 [] := ⟨World.ownsRow_nil _ _ _ _, Keep.refl _ _⟩
theorem Rc.more {w0 w w' : World} {a : Option Addr} {cap : Nat} {m : List Rn} (h : Rc w0 w a cap m) (k : Keep (fun _ => False) w w') : Rc w0 w' a cap m := by
  refine ⟨⟨h.own.1, h.own.2.imp id ?_⟩, h.keep.trans k⟩
  rintro ⟨g, c, cur, e, hb, hh, h1, h2, h3, h4⟩
  exact ⟨g, c, cur, e, hb, by rw [k.block g (by by_cases hg : g < w.heap.size; exact hg; simp [Array.getElem?_eq_none (Nat.le_of_not_lt hg)] at hh) (fun e => e)]; exact hh, h1, h2, h3, h4⟩
theorem Rc.other {S : Nat → Prop} {w0 w w' : World} {a : Option Addr} {cap : Nat} {m : List Rn} (h : Rc w0 w a cap m) (k : Keep S w w') (hs : ∀ g, a = some ⟨g, 0, none⟩ → ¬ S g) (h0 : ∀ x, S x → w0.heap.size ≤ x) : Rc w0 w' a cap m := by
  refine ⟨⟨h.own.1, h.own.2.imp id ?_⟩, h.keep.next k (fun x hx e => by have := h0 x e; omega)⟩
  rintro ⟨g, c, cur, e, hb, hh, h1, h2, h3, h4⟩
  injection e with e1 e2 e3
  exact ⟨g, c, cur, by rw [e1, e3], hb, by rw [k.block g (by by_cases hg : g < w.heap.size; exact hg; simp [Array.getElem?_eq_none (Nat.le_of_not_lt hg)] at hh) (hs g e1)]; exact hh, h1, h2, h3, h4⟩
set_option maxRecDepth 100000 in
theorem Rc.block {w0 w : World} {a : Option Addr} {cap : Nat} {m : List Rn} (h : Rc w0 w a cap m) {g : Nat} (e : a = some ⟨g, 0, none⟩) : w0.heap.size ≤ g ∧ g < w.heap.size := by
  have := h.own.lt g (by rw [e]; rfl)
  exact this
set_option maxRecDepth 100000 in
theorem Rc.rs {w0 w : World} {a : Option Addr} {cap : Nat} {m : List Rn} (h : Rc w0 w a cap m) : Rs w a cap m := by
  obtain ⟨h1, h2⟩ := h.own
  rcases h2 with ⟨e, hn⟩ | ⟨g, c, cur, e, hb, hh, hn, hm, hs, ht⟩
  · injection e with e1 e2 e3
    exact ⟨by omega, by omega, Or.inl (List.eq_nil_of_length_eq_zero hn)⟩
  · injection e with e1 e2 e3
    subst e1 e3
    unfold maxLen at hm
    refine ⟨hn, by omega, Or.inr ⟨g, rfl, fun j u hu => ?_⟩⟩
    have := h.own.cells (g := g) rfl j u hu
    rwa [Addr.add_lit, Nat.zero_add] at this
set_option maxRecDepth 100000 in
theorem Rc.appN {w0 w : World} {a : Option Addr} {cap : Nat} {m : List Rn} (h : Rc w0 w a cap m) (x : Addr) (c : Nat) (ns : List Rn) (hl : m.length + ns.length ≤ 1000000) (hnews : ∀ j u, (rcells ns)[j]? = some u → w.cell? (x.add j) = some u) :
    ∃ a' cap' w', (Builtin.append_ #[36, 36] 36 #[.slice a m.length cap, .slice (some x) ns.length c]).run Try.prog w = .ok (.slice a' (m.length + ns.length) cap') w' ∧ Rc w0 w' a' cap' (m ++ ns) ∧ Keep (fun b => w0.heap.size ≤ b) w w' := by
  obtain ⟨i, hi, hz0, hz1, hz2⟩ := info_parts info42p
  have hs := h.keep.size
  obtain ⟨v', w', hrun, hown, hgrow, hnil⟩ := run_append_own (P := Try.prog) w w0.heap.size 36 36 42 i _ 3 24 Try.underlying36 hi hz0 hz1 hz2 rfl (by decide) (.slice a m.length cap) m.length (rcells m) h.own
    x ns.length c (rcells ns) (rcells_len ns) hnews (by intro u hu; obtain ⟨y, _, hy⟩ := List.mem_flatMap.1 hu; simp [rcs] at hy; rcases hy with rfl | rfl | rfl <;> rfl) (by unfold maxLen; omega) (by omega) hs
  have hk : Keep (fun b => w0.heap.size ≤ b) w w' := (keep_grown hgrow).mono (fun b _ e => (h.own.lt b e.symm).1)
  have hK : Keep (fun _ => False) w0 w' := h.keep.next hk (fun y hy e => by omega)
  rw [← rcells_app, ← List.length_append] at hown
  have hshape : ∃ a' cap', v' = .slice a' (m ++ ns).length cap' := by
    rcases hown.2 with ⟨e, hn⟩ | ⟨g, c', cur, e, -⟩
    · exact ⟨none, 0, by rw [hn]; exact e⟩
    · exact ⟨_, _, e⟩
  obtain ⟨a', cap', rfl⟩ := hshape
  exact ⟨a', cap', w', by rw [hrun, List.length_append], ⟨hown, hK⟩, hk⟩
theorem Rc.app1 {w0 w : World} {a : Option Addr} {cap : Nat} {m : List Rn} (h : Rc w0 w a cap m) (hl : m.length ≤ 100000) (x : Rn) :
    ∃ a' cap' w', (Builtin.append_ #[36, 36] 36 #[.slice a m.length cap, .slice (some ⟨w.heap.size, 0, none⟩) 1 1]).run Try.prog (w.alloc (.cells #[.int .i64 x.lba, .int .i64 x.len, .int .i64 x.phys] 42)) = .ok (.slice a' (m.length + 1) cap') w' ∧ Rc w0 w' a' cap' (m ++ [x]) := by
  obtain ⟨a', cap', w', h1, h2, -⟩ := (h.more ((Keep.refl (fun _ => False) w).alloc (.cells #[.int .i64 x.lba, .int .i64 x.len, .int .i64 x.phys] 42))).appN ⟨w.heap.size, 0, none⟩ 1 [x] (by simp; omega) (fun j u hu => cells_new w _ 42 j u (by simpa [rcells, rcs] using hu))
  exact ⟨a', cap', w', h1, h2⟩
set_option maxRecDepth 100000 in
/-- One run more, and where the row then lies. -/
theorem Rc.appS {w0 w : World} {a : Option Addr} {cap : Nat} {m : List Rn} (h : Rc w0 w a cap m) (hl : m.length ≤ 100000) (x : Rn) :
    ∃ a' cap' w', (Builtin.append_ #[36, 36] 36 #[.slice a m.length cap, .slice (some ⟨w.heap.size, 0, none⟩) 1 1]).run Try.prog (w.alloc (.cells #[.int .i64 x.lba, .int .i64 x.len, .int .i64 x.phys] 42)) = .ok (.slice a' (m.length + 1) cap') w' ∧ Rc w0 w' a' cap' (m ++ [x]) ∧
      Keep (fun b => a = some ⟨b, 0, none⟩) w w' ∧ (a' = a ∨ ∃ g, a' = some ⟨g, 0, none⟩ ∧ w.heap.size ≤ g) := by
  have hA := (Keep.refl (fun _ => False) w).alloc (.cells #[.int .i64 x.lba, .int .i64 x.len, .int .i64 x.phys] 42)
  have h1 := h.more hA
  have hsz : w.heap.size ≤ (w.alloc (.cells #[.int .i64 x.lba, .int .i64 x.len, .int .i64 x.phys] 42)).heap.size := hA.size
  have hnews : ∀ j u, (rcells [x])[j]? = some u → (w.alloc (.cells #[.int .i64 x.lba, .int .i64 x.len, .int .i64 x.phys] 42)).cell? ((⟨w.heap.size, 0, none⟩ : Addr).add j) = some u := fun j u hu => cells_new w _ 42 j u (by simpa [rcells, rcs] using hu)
  have hone : ∀ u ∈ rcells [x], u.oneCell' = true := by intro u hu; simp [rcells, rcs] at hu; rcases hu with rfl | rfl | rfl <;> rfl
  obtain ⟨i, hi, hz0, hz1, hz2⟩ := info_parts info42p
  generalize w.alloc (.cells #[.int .i64 x.lba, .int .i64 x.len, .int .i64 x.phys] 42) = w1 at *
  obtain ⟨v', w', hrun, hown, hgrow, hnil⟩ := run_append_own (P := Try.prog) w1 w0.heap.size 36 36 42 i _ 3 24 Try.underlying36 hi hz0 hz1 hz2 rfl (by decide) (.slice a m.length cap) m.length (rcells m) h1.own
    ⟨w.heap.size, 0, none⟩ 1 1 (rcells [x]) (rcells_len [x]) hnews hone (by unfold maxLen; omega) (by omega) h1.keep.size
  have hk : Keep (fun b => a = some ⟨b, 0, none⟩) w1 w' := (keep_grown hgrow).mono (fun b _ e => by
    rcases h1.own.2 with ⟨e', -⟩ | ⟨g, c, cur, e', -⟩
    · injection e' with e'; subst e'; cases e
    · injection e' with e'; subst e'; injection e with e; subst e; rfl)
  have hK : Keep (fun b => a = some ⟨b, 0, none⟩) w w' := (hA.mono (fun _ _ e => e.elim)).next hk (fun y hy e => e)
  have hK0 : Keep (fun _ => False) w0 w' := h1.keep.next hk (fun y hy e => by have := (h1.block e).1; omega)
  rw [← rcells_app] at hown
  have hshape : ∃ a' cap', v' = .slice a' (m.length + 1) cap' := by
    rcases hown.2 with ⟨e, hn⟩ | ⟨g, c', cur, e, -⟩
    · omega
    · exact ⟨_, _, e⟩
  obtain ⟨a', cap', rfl⟩ := hshape
  refine ⟨a', cap', w', hrun, ⟨by rw [List.length_append]; exact hown, hK0⟩, hK, ?_⟩
  rcases h1.own.2 with ⟨e', hn⟩ | ⟨g, c, cur, e', hb, hh, hnc, hm, hs, ht⟩
  · injection e' with e1 e2 e3
    subst e1 e3
    have hn' := run_append_nil (P := Try.prog) w1 36 36 42 i _ Try.underlying36 hi hz0 ⟨w.heap.size, 0, none⟩ 1 1 (rcells [x]) (by rw [hz1]; rfl) hnews (by omega) (by omega) (by rw [hz2]; omega)
    rw [hn] at hrun
    rw [hn'] at hrun
    injection hrun with hr1 hr2
    injection hr1 with hr1 hr3 hr4
    exact Or.inr ⟨_, hr1.symm, hsz⟩
  · injection e' with e1 e2 e3
    subst e1 e3
    by_cases hroom : m.length + 1 ≤ cap
    · obtain ⟨w'', hf, -, -⟩ := run_append_fits (P := Try.prog) w1 w0.heap.size 36 36 42 i 3 Try.underlying36 hi hz1 g m.length cap (rcells m) h1.own ⟨w.heap.size, 0, none⟩ 1 1 (rcells [x]) (rcells_len [x]) hnews hone hroom
      rw [hf] at hrun
      injection hrun with hr1 hr2
      injection hr1 with hr1 hr3 hr4
      exact Or.inl hr1.symm
    · have hg := run_append_grow (P := Try.prog) w1 36 36 42 i _ Try.underlying36 hi hz0 ⟨g, 0, none⟩ m.length cap (rcells m) (by rw [hz1]; exact rcells_len m) (h1.own.cells (g := g) rfl) ⟨w.heap.size, 0, none⟩ 1 1 (rcells [x]) (by rw [hz1]; rfl) hnews (by omega) (by omega) (growslice_fits (by omega) (by rw [hz2]; omega))
      rw [hg] at hrun
      injection hrun with hr1 hr2
      injection hr1 with hr1 hr3 hr4
      exact Or.inr ⟨_, hr1.symm, hsz⟩
theorem build_pc (x y z : Int) (w : World) : (Instr.buildSlice 36 1 #[(0, .agg #[.int .i64 x, .int .i64 y, .int .i64 z])]).run Try.prog w = .ok (.slice (some ⟨w.heap.size, 0, none⟩) 1 1) (w.alloc (.cells #[.int .i64 x, .int .i64 y, .int .i64 z] 42)) := by kernel_rfl
theorem step_build_run {P : Program} {ops : Array Oper} {o : Oper} {a : Act} {w : World} {K : Act → World → Prop} {Q : Exit → Act → World → Prop} {E : Prop}
    (hw : Region.wanted o (yielded ops a.tmps) = true) (t : TypeId) (n : Nat) (x : Operand) (hop : o.op = Op.buildSlice t n #[(0, x)]) {v1 v' : Value} {w' : World} (hx : a.eval x = v1) (hrun : (Instr.buildSlice t n #[(0, v1)]).run P w = .ok v' w')
    (hK : K (a.put o.dst v') w') : if Region.wanted o (yielded ops a.tmps) = true then Oper.wp P o a w K Q else E := by
  rw [if_pos hw]
  unfold Oper.wp
  simp [execOp, hop, hx, hrun, Result.andThen]
  exact hK
end Tg
end Go.Proofs.Ytkddonmddgfpnab
