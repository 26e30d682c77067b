/-
  The library's way through a row from its last to its first; a map's runs laid so.
-/
import Derived.Test.YtkddonmddgfpnaaSpC
import Derived.RangeFuncNested
import Derived.RangeFuncBound
import Derived.RangeFuncCalls
import Derived.RangeFuncLeaves
import Derived.Shelf.Abstract
import Derived.Shelf.RegionOpen
import Derived.OwnWalkIn
import Derived.TacticsInMore
import Derived.LoopNIn
import Derived.LoopIn
namespace Go.Proofs.Ytkddonmddgfpnaa
open Go.ChangeShapes Go.WideShapes Go.ChangeAt Go.RowKit Go.Shelf
attribute [local go_sem] Oper.semAt_some
namespace Tg

/-- What a round hands over: a place, and the run there. -/
structure Bk where
  i : Nat
  r : Rn
  ok : Rok r
/-- .. as two values. -/
def bkV (x : Bk) : Array Value := #[.int .i64 (x.i : Int), .agg #[.int .i64 x.r.lba, .int .i64 x.r.len, .int .i64 x.r.phys]]
/-- What a round keeps: the blocks below n1 that are none of S. -/
structure KB (n1 : Nat) (S : Nat → Prop) (W W' : World) : Prop where
  size : W.heap.size ≤ W'.heap.size
  block : ∀ x, x < n1 → ¬ S x → W'.heap[x]? = W.heap[x]?
theorem KB.refl (n1 : Nat) (S : Nat → Prop) (W : World) : KB n1 S W W := ⟨Nat.le_refl _, fun _ _ _ => rfl⟩
theorem KB.trans {n1 : Nat} {S : Nat → Prop} {A B C : World} (h : KB n1 S A B) (k : KB n1 S B C) : KB n1 S A C := ⟨Nat.le_trans h.size k.size, fun x h1 h2 => (k.block x h1 h2).trans (h.block x h1 h2)⟩
theorem KB.put {n1 : Nat} {S : Nat → Prop} {w : World} (hn : n1 ≤ w.heap.size) (W : World) (l : Nat) (o o' : Obj) (hl : w.heap.size ≤ l) (h : W.heap[l]? = some o) (_ : o.isCells = false) (_ : o.isWalk = false) : KB n1 S W (W.putObj l o') :=
  ⟨(grownBy_putObj' W l o').size, fun x hx _ => (grownBy_putObj' W l o').block x (by have := (Array.getElem?_eq_some_iff.1 h).1; omega) (fun e => by cases e; omega)⟩
theorem KB.of_keep {n1 : Nat} {S : Nat → Prop} {W W' : World} (k : Keep S W W') (hn : n1 ≤ W.heap.size) : KB n1 S W W' := ⟨k.size, fun x hx hs => k.block x (by omega) hs⟩
theorem KB.cell {n1 : Nat} {S : Nat → Prop} {W W' : World} (k : KB n1 S W W') {a : Addr} {v : Value} (ha : a.block < n1) (hs : ¬ S a.block) (h : W.cell? a = some v) : W'.cell? a = some v := by
  rw [← h]
  exact World.cell?_of_block (w := W) (k.block a.block ha hs)

set_option maxRecDepth 100000 in
set_option maxHeartbeats 2000000 in
/-- slices.Backward's closure: for every loop body that keeps the row. -/
theorem back1_in (F : Fence) (n : Nat) (h63 : F.fn 63) (hro : F.round = none) (hn : 1 ≤ n) (l Bs n1 g o cap : Nat) (S : Nat → Prop) (m : List Rn) (hm : ∀ x ∈ m, Rok x) (hlen : m.length ≤ 512) (hg : g < n1) (hgS : ¬ S g) (hB : Bs < n1) (hBS : ¬ S Bs) (J Jx : List Bk → World → Prop)
    (hY : ∀ pre x W, J pre W → pre.length < m.length → YieldAt F (n - 1) Try.prog l (bkV x) W fun e W' =>
      (e = .returned (.bool true) ∧ J (pre ++ [x]) W' ∧ KB n1 S W W') ∨ (e = .returned (.bool false) ∧ Jx (pre ++ [x]) W'))
    (W : World) (hBs : W.cell? ⟨Bs, 0, none⟩ = some (.slice (some ⟨g, o, none⟩) m.length cap))
    (hc : ∀ i x, m[i]? = some x → W.cell? ⟨g, o + i * 3, none⟩ = some (.int .i64 x.lba) ∧ W.cell? ⟨g, o + i * 3 + 1, none⟩ = some (.int .i64 x.len) ∧ W.cell? ⟨g, o + i * 3 + 2, none⟩ = some (.int .i64 x.phys)) (h0 : J [] W) :
    CallsIn F n Try.prog 63 #[.func (.yield l) #[] #[], .pointer (some ⟨Bs, 0, none⟩)] W fun e W' => (∃ v, e = .returned v) ∧
      ((∃ ys : List Bk, ys.map (·.r) = m.reverse ∧ J ys W') ∨ (∃ pre : List Bk, True ∧ Jx pre W')) := by
  refine callsIn_of_wp Try.func63 rfl h63 ?_ hro
  simp only [Try.ntmps63, List.size_toArray, List.length_cons, List.length_nil, Nat.reduceAdd, Nat.reduceSub, Array.replicate_succ, Array.replicate_zero, List.push_toArray, List.append_toArray, List.nil_append, List.cons_append]
  have dw := wrapI (x := (m.length : Int) - 1) (by omega) (by omega)
  gi_wp2
  gi_loopw [3] (fun i wr => ∃ (j : Nat) (ys : List Bk), j ≤ m.length ∧ i = .int .i64 ((j : Int) - 1) ∧ ys.map (·.r) = (m.drop j).reverse ∧ J ys wr ∧ KB n1 S W wr)
    (fun i _ => (intOf i + 1).toNat)
  case atStart => exact ⟨m.length, [], Nat.le_refl _, rfl, by simp, h0, KB.refl _ _ _⟩
  case round =>
    obtain ⟨j, ys, hj, rfl, hys, hJs, hnx⟩ := hrel
    cases j with
    | zero =>
      rw [List.drop_zero] at hys
      have hz : ((0 : Nat) : Int) - 1 = -1 := rfl
      rw [hz]
      clear hY hc dw
      gi_wp2
      go_end0
      exact ⟨⟨_, rfl⟩, .inl ⟨_, hys, hJs⟩⟩
    | succ j =>
      have hz : ((j + 1 : Nat) : Int) - 1 = (j : Int) := by omega
      rw [hz]
      obtain ⟨x, hx⟩ := get_rn (m := m) (i := j) (by omega)
      obtain ⟨c0, c1, c2⟩ := hc j x hx
      have e0 := hnx.cell (a := ⟨g, o + j * 3, none⟩) hg hgS c0
      have e1 := hnx.cell (a := ⟨g, o + j * 3 + 1, none⟩) hg hgS c1
      have e2 := hnx.cell (a := ⟨g, o + j * 3 + 2, none⟩) hg hgS c2
      have eB := hnx.cell (a := ⟨Bs, 0, none⟩) hB hBS hBs
      obtain ⟨fn, tmps, assign, body, hy, hR⟩ := hY ys ⟨j, x, hm x (List.mem_of_getElem? hx)⟩ wr hJs (by
        have := congrArg List.length hys
        simp at this
        omega)
      unfold bkV at hy
      dsimp only at hy
      have dj : (j : Int) < (m.length : Int) := by omega
      have dj0 : (0 : Int) ≤ (j : Int) := by omega
      have dw2 := wrapI (x := (j : Int) - 1) (by omega) (by omega)
      have hnext : (ys ++ [(⟨j, x, hm x (List.mem_of_getElem? hx)⟩ : Bk)]).map (·.r) = (m.drop j).reverse := by
        rw [List.map_append, hys]
        obtain ⟨hi, e⟩ := List.getElem?_eq_some_iff.1 hx
        rw [← List.getElem_cons_drop hi, List.reverse_cons, e]
        rfl
      clear hY hc dw c0 c1 c2 hys
      gi_wp2
      refine hR.mono ?_
      rintro e W3 (⟨rfl, hJ3, hk3⟩ | ⟨rfl, hJx3⟩)
      · gi_wp2
        go_roundw
        case rel => exact ⟨j, _, by omega, by go_num, hnext, hJ3, hnx.trans hk3⟩
        case measure => simp [intOf]
      · gi_wp2
        refine bodyPost_ret (results_none rfl _ _ _) rfl ?_
        exact ⟨⟨_, rfl⟩, .inr ⟨_, trivial, hJx3⟩⟩
set_option maxRecDepth 100000 in
set_option maxHeartbeats 1000000 in
/-- .. at a row that is empty: no round. -/
theorem back0_in (F : Fence) (n : Nat) (h63 : F.fn 63) (hro : F.round = none) (l Bs cap : Nat) (a : Option Addr) (J : List Bk → World → Prop) (W : World) (hBs : W.cell? ⟨Bs, 0, none⟩ = some (.slice a 0 cap)) (h0 : J [] W) :
    CallsIn F n Try.prog 63 #[.func (.yield l) #[] #[], .pointer (some ⟨Bs, 0, none⟩)] W fun e W' => (∃ v, e = .returned v) ∧ J [] W' := by
  refine callsIn_of_wp Try.func63 rfl h63 ?_ hro
  simp only [Try.ntmps63, List.size_toArray, List.length_cons, List.length_nil, Nat.reduceAdd, Nat.reduceSub, Array.replicate_succ, Array.replicate_zero, List.push_toArray, List.append_toArray, List.nil_append, List.cons_append]
  gi_wp2
  gi_loopw [3] (fun i wr => i = .int .i64 (-1) ∧ J [] wr) (fun _ _ => 0)
  case atStart => exact ⟨rfl, h0⟩
  case round =>
    obtain ⟨rfl, hJs⟩ := hrel
    gi_wp2
    go_end0
    exact ⟨⟨_, rfl⟩, hJs⟩
set_option maxRecDepth 100000 in
set_option maxHeartbeats 1000000 in
theorem back_in (F : Fence) (n : Nat) (h54 : F.fn 54) (hro : F.round = none) (a : Option Addr) (len cap : Nat) (w : World) :
    CallsIn F n Try.prog 54 #[.slice a len cap] w fun e w' => e = .returned (.func (.func 63) #[] #[.pointer (some ⟨w.heap.size, 0, none⟩)]) ∧ w' = w.alloc (.cells #[.slice a len cap] 32) := by
  refine callsIn_of_wp Try.func54 rfl h54 ?_ hro
  simp only [Try.ntmps54, List.size_toArray, List.length_cons, List.length_nil, Nat.reduceAdd, Nat.reduceSub, Array.replicate_succ, Array.replicate_zero, List.push_toArray, List.append_toArray, List.nil_append, List.cons_append]
  gi_wp2
  go_ret
  exact ⟨rfl, rfl⟩
/-- What slices.Backward of a row hands back: all, from the last to the first. -/
theorem back_stops (F : Fence) (n : Nat) (h63 : F.fn 63) (hro : F.round = none) (hn : 1 ≤ n) (Bs n1 cap : Nat) (a : Option Addr) (S : Nat → Prop) (m : List Rn) (hm : ∀ x ∈ m, Rok x) (hlen : m.length ≤ 512) (w : World) (hB : Bs < n1) (hBS : ¬ S Bs) (hn1 : n1 ≤ w.heap.size)
    (hBs : w.cell? ⟨Bs, 0, none⟩ = some (.slice a m.length cap)) (hR : Rz w a cap m) (hgS : ∀ g o, a = some ⟨g, o, none⟩ → m ≠ [] → g < n1 ∧ ¬ S g) :
    SeqStopsK F n Try.prog 63 #[.pointer (some ⟨Bs, 0, none⟩)] bkV (KB n1 S) (fun ys => ys.map (·.r) = m.reverse) (fun _ => True) m.length w := fun l J Jx W hW _ _ hY h0 => by
  have hb' := (hW.cell (p := ⟨Bs, 0, none⟩) (by show Bs < _; omega)).trans hBs
  by_cases c : m = []
  · subst c
    exact (back0_in F n h63 hro l Bs cap a J W hb' h0).mono fun e W' ⟨he, hj⟩ => ⟨he, .inl ⟨_, rfl, hj⟩⟩
  · obtain ⟨h1, h2, h3⟩ := hR
    obtain ⟨g, o, rfl, hc⟩ := h3.resolve_left c
    obtain ⟨hg1, hg2⟩ := hgS g o rfl c
    have hk : ∀ (k : Nat) (v : Value), w.cell? ⟨g, k, none⟩ = some v → W.cell? ⟨g, k, none⟩ = some v := fun k v e => (hW.cell (p := ⟨g, k, none⟩) (by show g < _; omega)).trans e
    exact back1_in F n h63 hro hn l Bs n1 g o cap S m hm hlen hg1 hg2 hB hBS J Jx hY W hb' (fun i x hx => ⟨hk _ _ (hc i x hx).1, hk _ _ (hc i x hx).2.1, hk _ _ (hc i x hx).2.2⟩) h0
end Tg
end Go.Proofs.Ytkddonmddgfpnaa
