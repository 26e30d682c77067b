/-
  Rows of bytes of one's own that grow, told as lists of numbers; an iterator over a text in any memory.
-/
import Derived.Test.YtgilagmgepogbaaDoorBase
import Derived.Test.YtgilagmgepogbaaDoorStr
namespace Go.Proofs.YtgilagmgepogbaaDoor
open Go.ChangeShapes Go.WideShapes Go.ChangeAt Go.RowKit
namespace Tg
open Qm

/-- Bytes as integers. -/
def ints (l : List Nat) : List Int := l.map (fun n : Nat => (n : Int))
theorem ints_len (l : List Nat) : (ints l).length = l.length := by simp [ints]
theorem ints_append (l m : List Nat) : ints (l ++ m) = ints l ++ ints m := by simp [ints]
theorem ints_byte {l : List Nat} (h : ∀ x ∈ l, x < 256) : ∀ n ∈ ints l, 0 ≤ n ∧ n ≤ 255 := by
  intro n hn
  simp [ints] at hn
  obtain ⟨x, hx, rfl⟩ := hn
  have := h x hx
  omega
theorem strOfNums_ints (l : List Nat) : strOfNums (ints l) = str l := by
  unfold strOfNums str ints
  simp

/-- A row of bytes of one's own. -/
structure Ow (w : World) (g cap : Nat) (l : List Nat) : Prop where
  row : Row w (some ⟨g, 0, none⟩) l.length cap (ints l)
  free : Free w g cap

theorem Ow.text {w : World} {g cap : Nat} {l : List Nat} (h : Ow w g cap l) : (convert 67 9 (.slice (some ⟨g, 0, none⟩) l.length cap)).run Tryd.prog w = .ok (.string (str l)) w := by
  rw [h.row.text, strOfNums_ints]
theorem Ow.keep {S : Nat → Prop} {w w' : World} {g cap : Nat} {l : List Nat} (h : Ow w g cap l) (k : Keep S w w') (hs : ¬ S g) : Ow w' g cap l :=
  ⟨h.row.keep k (fun b o e => by simp at e; rw [← e.1]; exact hs), h.free.keep k hs⟩
theorem Ow.byte {w : World} {g cap : Nat} {l : List Nat} (h : Ow w g cap l) : ∀ x ∈ l, x < 256 := fun x hx => by
  have := h.row.2.2.2.1 (x : Int) (by simp [ints]; exact ⟨x, hx, rfl⟩)
  omega

/-- What a call that lets a row of one's own grow leaves. -/
structure Up (w w' : World) (g g' cap' : Nat) (l' : List Nat) : Prop where
  own : Ow w' g' cap' l'
  keep : Keep (fun b => b = g) w w'
  new : g' = g ∨ w.heap.size ≤ g'

theorem Up.trans {w w1 w2 : World} {g g1 g2 c1 c2 : Nat} {l1 l2 : List Nat} (h : Up w w1 g g1 c1 l1) (k : Up w1 w2 g1 g2 c2 l2) : Up w w2 g g2 c2 l2 := by
  have hs := h.keep.size
  have hn := h.new
  refine ⟨k.own, ⟨k.keep.os.trans h.keep.os, k.keep.tape.trans h.keep.tape, k.keep.output.trans h.keep.output, Nat.le_trans h.keep.size k.keep.size, fun i hi hs => ?_⟩, ?_⟩
  · rw [k.keep.block i (by omega) (by omega)]
    exact h.keep.block i hi hs
  · have := k.new
    omega

/-- An append whose second row is made beside it. -/
theorem Ow.put {w : World} {g cap : Nat} {l : List Nat} (h : Ow w g cap l) (l2 : List Nat) (hb : ∀ x ∈ l2, x < 256) {m : Nat} (hm : l2.length = m) (hlen : l.length + m ≤ 140737488355323) :
    ∃ g' cap' w2, (Builtin.append_ #[67, 67] 67 #[.slice (some ⟨g, 0, none⟩) l.length cap, .slice (some ⟨w.heap.size, 0, none⟩) m m]).run Tryd.prog (w.alloc (.cells (l2.map (fun n : Nat => Value.int .u8 (n : Int))).toArray 5)) = .ok (.slice (some ⟨g', 0, none⟩) (l.length + m) cap') w2 ∧
      Up w w2 g g' cap' (l ++ l2) := by
  subst hm
  have hk : Keep (fun _ => False) w (w.alloc (.cells ((ints l2).map (Value.int .u8)).toArray 5)) := (Keep.refl _ _).alloc _
  have h1 := h.keep hk (fun e => e)
  have hrow := row_new w (ints l2) (0, 0) w.heap.size l2.length rfl (by rw [ints_len]; exact Nat.le_refl _) (by omega) (ints_byte hb)
  rw [ints_len] at hrow
  obtain ⟨g', cap', w2, hrun, hr, hkp, hg, hf⟩ := append_rows _ g cap l.length (ints l) h1.row h1.free _ _ _ _ hrow hlen
  have hlt : g < w.heap.size ∨ cap = 0 := by
    rcases Nat.eq_zero_or_pos cap with h0 | h0
    · exact Or.inr h0
    · obtain ⟨v, hv⟩ := Option.isSome_iff_exists.1 (h.free 0 h0).1
      exact Or.inl (World.block_lt_of_cell? w _ hv)
  have e : (l2.map (fun n : Nat => Value.int .u8 (n : Int))) = (ints l2).map (Value.int .u8) := by simp [ints]
  rw [e]
  refine ⟨g', cap', w2, hrun, ⟨⟨by rw [List.length_append, ints_append]; exact hr, hf⟩, ?_, ?_⟩⟩
  · exact ((Keep.refl _ w).alloc _).trans hkp
  · rcases hg with hg | hg
    · exact Or.inl hg
    · right; simp at hg; omega

/-- An append of a text. -/
theorem wpList_append_text {P : Program} {w : World} {ops : Array Oper} {rest : List Oper} {o : Oper} {a : Act} {Q : Exit → Act → World → Prop}
    (hw : Region.wanted o (yielded ops a.tmps) = true) (s x : Operand) (t u : TypeId) (hop : o.op = Op.call { callee := Callee.builtin Builtin.append, args := #[s, x], argTypes := #[t, u] })
    {v1 v2 v' : Value} {w' : World} (hs : a.eval s = v1) (hx : a.eval x = v2) (hrun : (Builtin.append_ #[t, u] o.type #[v1, v2]).run P w = .ok v' w')
    (hK : wpList P ops Q rest (a.put o.dst v') w') : wpList P ops Q (o :: rest) a w := by
  refine BigFrame.wpList_want hw fun K hK' => ?_
  unfold Oper.wp
  simp [execOp, hop, resolve, invoke, builtin, hs, hx, hrun, Result.andThen]
  exact hK' _ _ hK

/-- The next of an iterator that lies in any memory. -/
theorem run_next_at {w : World} {k : Nat} {s : ByteArray} {pos : Nat} (hk : w.heap[k]? = some (.stringIter s pos)) (h : pos < s.size) :
    ∃ w', (∀ ty, (Instr.next (.pointer (some ⟨k, 0, none⟩)) true ty).run Tryd.prog w = .ok (.tuple #[.bool true, .int .i64 pos, .int .i32 ((fixed (rune ((bs s).drop pos))).1 : Nat)]) w') ∧
      w'.heap[k]? = some (.stringIter s (pos + (fixed (rune ((bs s).drop pos))).2)) ∧ Keep (fun b => b = k) w w' := by
  rw [← decode_eq s pos h]
  have hlt : k < w.heap.size := by
    rcases Nat.lt_or_ge k w.heap.size with h | h
    · exact h
    · rw [Array.getElem?_eq_none h] at hk; cases hk
  refine ⟨{ w with heap := w.heap.setIfInBounds k (.stringIter s (pos + (Utf8.decode s pos).2)) }, fun ty => by simp only [Instr.next, getObj, setObj, Sem.run_bind, Sem.run, hk, Result.andThen, h, if_true]; simp [goInt], ?_, ?_⟩
  · simp [hlt]
  · refine ⟨rfl, rfl, rfl, by simp, fun i hi hne => ?_⟩
    simp
    rw [Array.getElem?_setIfInBounds_ne (fun e => hne e.symm)]
theorem run_next_none {w : World} {k : Nat} {s : ByteArray} {pos : Nat} (hk : w.heap[k]? = some (.stringIter s pos)) (h : ¬ pos < s.size) (ty : TypeId) :
    (Instr.next (.pointer (some ⟨k, 0, none⟩)) true ty).run Tryd.prog w = .ok (.tuple #[.bool false]) w := by
  simp [Instr.next, getObj, Sem.run, hk, h]

/-- Room that has just been made. -/
theorem make_room (n : Nat) (hn : n ≤ 140737488355323) (w : World) : ∃ w', (Instr.makeSlice 67 (.int .i64 0) (.int .i64 (n : Int))).run Tryd.prog w = .ok (.slice (some ⟨w.heap.size, 0, none⟩) 0 n) w' ∧ Ow w' w.heap.size n [] ∧ Keep (fun _ => False) w w' := by
  obtain ⟨i, hi, hz0, hz1, hz2⟩ := info_parts info5
  have hr := run_make (P := Tryd.prog) w 67 5 i (.int .u8 0) Tryd.underlying67 hi hz0 .i64 .i64 0 n (by omega) (by omega) (by rw [hz2]; omega) (by omega)
  rw [hz1, Nat.mul_one, Int.toNat_natCast] at hr
  refine ⟨_, hr, ⟨⟨rfl, by simp, by omega, by simp [ints], Or.inl rfl⟩, fun j hj => ?_⟩, (Keep.refl _ _).alloc _⟩
  exact ⟨Option.isSome_iff_exists.2 ⟨_, (World.rowIs_made w (.int .u8 0) n 5).cell hj⟩, (World.rowIs_made w (.int .u8 0) n 5).frozen j⟩

/-- A text that is gone through while a row of one's own grows. -/
structure Qi (w wr : World) (k : Nat) (s : ByteArray) (pos g cap : Nat) (m : List Nat) : Prop where
  it : wr.heap[k]? = some (.stringIter s pos)
  own : Ow wr g cap m
  keep : Keep (fun _ => False) w wr
  ne : g ≠ k
  new : w.heap.size ≤ g
  newk : w.heap.size ≤ k

theorem Qi.lt {w wr : World} {k : Nat} {s : ByteArray} {pos g cap : Nat} {m : List Nat} (h : Qi w wr k s pos g cap m) : k < wr.heap.size := by
  have hk := h.it
  rcases Nat.lt_or_ge k wr.heap.size with h | h
  · exact h
  · rw [Array.getElem?_eq_none h] at hk; cases hk

theorem Qi.up {w wr w' : World} {k : Nat} {s : ByteArray} {pos g cap g' cap' : Nat} {m l' : List Nat} (h : Qi w wr k s pos g cap m) (u : Up wr w' g g' cap' l') : Qi w w' k s pos g' cap' l' := by
  have h1 := h.lt; have h2 := h.ne; have h3 := h.new; have h4 := u.new; have h5 := h.keep.size
  refine ⟨by rw [u.keep.block k h1 (fun e => h2 e.symm)]; exact h.it, u.own, ?_, by omega, by omega, h.newk⟩
  exact ⟨u.keep.os.trans h.keep.os, u.keep.tape.trans h.keep.tape, u.keep.output.trans h.keep.output, Nat.le_trans h.keep.size u.keep.size, fun i hi _ => by
    rw [u.keep.block i (by omega) (by omega)]; exact h.keep.block i hi (fun e => e)⟩

theorem Qi.next {w wr : World} {k : Nat} {s : ByteArray} {pos g cap : Nat} {m : List Nat} (h : Qi w wr k s pos g cap m) (hp : pos < s.size) :
    ∃ w', (∀ ty, (Instr.next (.pointer (some ⟨k, 0, none⟩)) true ty).run Tryd.prog wr = .ok (.tuple #[.bool true, .int .i64 pos, .int .i32 ((fixed (rune ((bs s).drop pos))).1 : Nat)]) w') ∧ Qi w w' k s (pos + (piece ((bs s).drop pos)).2) g cap m := by
  obtain ⟨w', h1, h2, h3⟩ := run_next_at h.it hp
  have a1 := h.ne; have a2 := h.newk; have a3 := h.keep.size
  refine ⟨w', h1, ?_, h.own.keep h3 a1, ?_, a1, h.new, a2⟩
  · rw [h2]
    have : (fixed (rune ((bs s).drop pos))).2 = (piece ((bs s).drop pos)).2 := by
      unfold fixed piece
      split <;> rfl
    rw [this]
  · exact ⟨h3.os.trans h.keep.os, h3.tape.trans h.keep.tape, h3.output.trans h.keep.output, Nat.le_trans h.keep.size h3.size, fun i hi _ => by
      rw [h3.block i (by omega) (by omega)]; exact h.keep.block i hi (fun e => e)⟩

theorem fixed_piece (l : List Nat) : (fixed (rune l)).2 = (piece l).2 := by
  unfold fixed piece
  split <;> rfl
end Tg
end Go.Proofs.YtgilagmgepogbaaDoor
