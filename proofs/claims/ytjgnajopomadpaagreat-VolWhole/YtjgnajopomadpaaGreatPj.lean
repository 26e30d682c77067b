/-
  Where a volume would lie (mathematics), and room's memory.
-/
import Derived.Test.YtjgnajopomadpaaGreatPi
namespace Go.Proofs.YtjgnajopomadpaaGreat
open Go.ChangeShapes Go.WideShapes Go.ChangeAt Go.RowKit
namespace Tg
open Qm
def usedV (V : List En) (j : Nat) : Bool := V.any (fun x => decide (x.f ≤ j ∧ (j : Int) < x.f + x.n))
def takenV (V : List En) (j : Nat) : Bool := V.any (fun x => decide (x.i = j))
/-- The last sectors but k looked through from behind: the least that is not taken; -1: none. -/
def feF (ts : Nat → Bool) : Nat → Int
  | 0 => -1
  | k + 1 => if ts (7 - k) then feF ts k else ((7 - k : Nat) : Int)
def fitsAt (us : Nat → Bool) (n at' : Nat) : Bool := (List.range n).all (fun k => !us (at' + k))
def seekL (us : Nat → Bool) (N n : Nat) : Nat → Nat → Option Nat
  | 0, _ => none
  | m + 1, at' => if at' + n ≤ N then (if fitsAt us n at' then some at' else seekL us N n m (at' + 1)) else none
/-- The free entry and the first sector of a volume of n sectors. -/
def roomL (N : Nat) (V : List En) (n : Nat) : Option (Nat × Int) := if feF (takenV V) 8 < 0 then none else (seekL (usedV V) N n (N + 1) 8).map (fun a => (a, feF (takenV V) 8))
def roomQ (N : Nat) (V : List En) (n : Nat) (v : Value) : Prop := match roomL N V n with
  | some (a, j) => v = .tuple #[.agg #[.string ⟨#[]⟩, .int .i64 (a : Int), .int .i64 (n : Int), .int .i64 j], .bool true]
  | none => ∃ f j, v = .tuple #[.agg #[.string ⟨#[]⟩, .int .i64 f, .int .i64 (n : Int), .int .i64 j], .bool false]
theorem feF_bd (ts : Nat → Bool) : ∀ k, -1 ≤ feF ts k ∧ feF ts k ≤ 7
  | 0 => by unfold feF; omega
  | k + 1 => by
    have := feF_bd ts k
    unfold feF
    split
    · exact this
    · omega
theorem takenV_next {V : List En} {i : Nat} {x : En} (hx : V[i]? = some x) {c : Nat} (hc : x.i = c) : (fun j => if j = c then true else takenV (V.take i) j) = takenV (V.take (i + 1)) := by
  funext j
  unfold takenV
  rw [List.take_add_one, hx, List.any_append]
  have e : (some x).toList.any (fun x => decide (x.i = (j : Int))) = decide (x.i = (j : Int)) := by simp
  rw [e, hc]
  by_cases h : j = c
  · rw [if_pos h, decide_eq_true (by omega), Bool.or_true]
  · rw [if_neg h, decide_eq_false (by omega), Bool.or_false]
theorem usedV_none (V : List En) {f : Int} (i : Nat) : (fun j => usedV (V.take i) j || decide (f ≤ (j : Int) ∧ (j : Int) < f + (0 : Nat))) = usedV (V.take i) := by
  funext j
  rw [decide_eq_false (by omega), Bool.or_false]
theorem usedV_next {V : List En} {i : Nat} {x : En} (hx : V[i]? = some x) {n : Nat} (hn : x.n = n) : (fun j => usedV (V.take i) j || decide (x.f ≤ (j : Int) ∧ (j : Int) < x.f + (n : Nat))) = usedV (V.take (i + 1)) := by
  funext j
  unfold usedV
  rw [List.take_add_one, hx, List.any_append, ← hn]
  simp
theorem usedV_step {u : Nat → Bool} {f k : Nat} : (fun j => if j = f + k then true else (u j || decide ((f : Int) ≤ (j : Int) ∧ (j : Int) < f + (k : Nat)))) = (fun j => u j || decide ((f : Int) ≤ (j : Int) ∧ (j : Int) < f + (k + 1 : Nat))) := by
  funext j
  by_cases h : j = f + k
  · rw [if_pos h, decide_eq_true (by omega), Bool.or_true]
  · rw [if_neg h]
    congr 1
    rw [decide_eq_decide]
    omega
/-- Which sectors are used in gu, which entries are taken in gt, both made since w2. -/
structure Rm (w2 wx : World) (gu gt N : Nat) (us ts : Nat → Bool) : Prop where
  kp : Keep (fun _ => False) w2 wx
  bu : Blk wx gu N (fun i => .bool (us i))
  bt : Blk wx gt 8 (fun i => .bool (ts i))
  lo : w2.heap.size ≤ gu ∧ gu < gt
theorem Rm.more {w2 wx wy : World} {gu gt N : Nat} {us ts : Nat → Bool} (h : Rm w2 wx gu gt N us ts) (k : Keep (fun _ => False) wx wy) : Rm w2 wy gu gt N us ts :=
  ⟨h.kp.trans k, h.bu.keep k (fun e => e), h.bt.keep k (fun e => e), h.lo⟩
theorem Rm.setU {w2 wx : World} {gu gt N : Nat} {us ts : Nat → Bool} (h : Rm w2 wx gu gt N us ts) (i : Nat) : Rm w2 (wx.setCell ⟨gu, i, none⟩ (.bool true)) gu gt N (fun j => if j = i then true else us j) ts :=
  ⟨h.kp.setCell (Or.inr h.lo.1) _, (h.bu.set i _).congr (fun j _ => by split <;> rfl), h.bt.other (by have := h.lo; show gt ≠ gu; omega) _, h.lo⟩
theorem Rm.setT {w2 wx : World} {gu gt N : Nat} {us ts : Nat → Bool} (h : Rm w2 wx gu gt N us ts) (i : Nat) : Rm w2 (wx.setCell ⟨gt, i, none⟩ (.bool true)) gu gt N us (fun j => if j = i then true else ts j) :=
  ⟨h.kp.setCell (Or.inr (by have := h.lo; show w2.heap.size ≤ gt; omega)) _, h.bu.other (by have := h.lo; show gu ≠ gt; omega) _, (h.bt.set i _).congr (fun j _ => by split <;> rfl), h.lo⟩
/-- And the entry under way in ge. -/
structure Rn (w2 wx : World) (gu gt ge N : Nat) (us ts : Nat → Bool) (e : En) : Prop where
  rm : Rm w2 wx gu gt N us ts
  be : Blk wx ge 4 (enC e)
  lo : gt < ge
theorem Rn.more {w2 wx wy : World} {gu gt ge N : Nat} {us ts : Nat → Bool} {e : En} (h : Rn w2 wx gu gt ge N us ts e) (k : Keep (fun _ => False) wx wy) : Rn w2 wy gu gt ge N us ts e := ⟨h.rm.more k, h.be.keep k (fun e => e), h.lo⟩
theorem Rm.otherE {w2 wx : World} {gu gt N : Nat} {us ts : Nat → Bool} (h : Rm w2 wx gu gt N us ts) {ge : Nat} (hg : gt < ge) (j : Nat) (v : Value) : Rm w2 (wx.setCell ⟨ge, j, none⟩ v) gu gt N us ts :=
  ⟨h.kp.setCell (Or.inr (by have := h.lo; show w2.heap.size ≤ ge; omega)) _, h.bu.other (by have := h.lo; show gu ≠ ge; omega) _, h.bt.other (by show gt ≠ ge; omega) _, h.lo⟩
theorem Rn.setI {w2 wx : World} {gu gt ge N : Nat} {us ts : Nat → Bool} {e : En} (h : Rn w2 wx gu gt ge N us ts e) (v : Int) : Rn w2 (wx.setCell ⟨ge, 3, none⟩ (.int .i64 v)) gu gt ge N us ts ⟨e.nm, e.f, e.n, v⟩ :=
  ⟨h.rm.otherE h.lo 3 _, (h.be.set 3 _).congr (fun j hj => by rcases (by omega : j = 0 ∨ j = 1 ∨ j = 2 ∨ j = 3) with rfl | rfl | rfl | rfl <;> rfl), h.lo⟩
theorem Rn.setF {w2 wx : World} {gu gt ge N : Nat} {us ts : Nat → Bool} {e : En} (h : Rn w2 wx gu gt ge N us ts e) (v : Int) : Rn w2 (wx.setCell ⟨ge, 1, none⟩ (.int .i64 v)) gu gt ge N us ts ⟨e.nm, v, e.n, e.i⟩ :=
  ⟨h.rm.otherE h.lo 1 _, (h.be.set 1 _).congr (fun j hj => by rcases (by omega : j = 0 ∨ j = 1 ∨ j = 2 ∨ j = 3) with rfl | rfl | rfl | rfl <;> rfl), h.lo⟩
theorem info4 : (Tryz.prog.info? 4).map (fun i => (i.zero, i.size, i.bytes)) = some (some (.bool false), 1, 1) := by kernel_rfl
theorem make61 (n : Nat) (hn : n ≤ 16384) (w : World) : (Instr.makeSlice 51 (.int .i64 (n : Int)) (.int .i64 (n : Int))).run Tryz.prog w = .ok (.slice (some ⟨w.heap.size, 0, none⟩) n n) (w.alloc (.cells (madeCells #[.bool false] n) 4)) := by
  obtain ⟨i, hi, hz0, hz1, hz2⟩ := info_parts info4
  have := run_make (P := Tryz.prog) w 51 4 i _ Tryz.underlying51 hi hz0 .i64 .i64 n n (by omega) (by omega) (by rw [hz2]; omega) (by omega)
  rw [hz1, Int.toNat_natCast, Nat.mul_one] at this
  exact this
theorem blk61 (n : Nat) (w : World) : Blk (w.alloc (.cells (madeCells #[.bool false] n) 4)) w.heap.size n (fun _ => .bool false) :=
  blk_alloc w _ 4 n _ (fun k hk => by
    rw [← Array.getElem?_toList, toList_madeCells_one, List.getElem?_replicate, if_pos hk])
end Tg
end Go.Proofs.YtjgnajopomadpaaGreat
