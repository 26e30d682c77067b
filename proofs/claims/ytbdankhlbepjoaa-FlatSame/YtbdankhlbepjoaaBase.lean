/-
  Blocks of memory: what they hold, what a store leaves, what is kept.
-/
import Derived.Test.YtbdankhlbepjoaaRows
import Derived.WalkKit
import Derived.ProofKit
import Derived.OpenShut
import Derived.ShutString
import Derived.ChangeOld
import Derived.Below
import Derived.Deep.OwnRows
import Derived.Laws.IdiomCopy
import Derived.Lib.SlBytesConst
import Derived.Lib.ConvBytes
import Derived.Laws.BytesArg
import Derived.SizedLaws
import Derived.ArgAppend
namespace Go.Proofs.Ytbdankhlbepjoaa
open Go.ChangeShapes Go.WideShapes Go.ChangeAt Go.RowKit
namespace Tg

/-- Block b's first n cells, none frozen. -/
def Blk (w : World) (b n : Nat) (f : Nat → Value) : Prop := ∀ i, i < n → w.cell? ⟨b, i, none⟩ = some (f i) ∧ w.frozen? ⟨b, i, none⟩ = false

theorem Blk.lt {w : World} {b n : Nat} {f : Nat → Value} (h : Blk w b n f) (hn : 0 < n) : b < w.heap.size := World.block_lt_of_cell? w _ (h 0 hn).1

theorem Blk.congr {w : World} {b n : Nat} {f g : Nat → Value} (h : Blk w b n f) (e : ∀ i, i < n → f i = g i) : Blk w b n g := fun i hi => by rw [← e i hi]; exact h i hi

theorem Blk.of_block {w w' : World} {b n : Nat} {f : Nat → Value} (h : Blk w b n f) (e : w'.heap[b]? = w.heap[b]?) : Blk w' b n f := fun i hi =>
  ⟨by rw [World.cell?_of_block (w := w) (a := ⟨b, i, none⟩) e]; exact (h i hi).1, by rw [World.frozen?_of_block (w := w) (a := ⟨b, i, none⟩) e]; exact (h i hi).2⟩

theorem Blk.set {w : World} {b n : Nat} {f : Nat → Value} (h : Blk w b n f) (j : Nat) (v : Value) : Blk (w.setCell ⟨b, j, none⟩ v) b n (fun i => if i = j then v else f i) := by
  intro i hi
  refine ⟨?_, by rw [World.frozen?_setCell]; exact (h i hi).2⟩
  by_cases e : i = j
  · subst e; simp only [if_true]; exact World.cell?_setCell_same w _ _ (h i hi).1
  · simp only [if_neg e]; rw [World.cell?_setCell_other (h := fun x => e (congrArg Addr.off x).symm)]; exact (h i hi).1

theorem Blk.other {w : World} {b n : Nat} {f : Nat → Value} (h : Blk w b n f) {a : Addr} (ha : b ≠ a.block) (v : Value) : Blk (w.setCell a v) b n f := h.of_block (Below.heap_setCell _ _ _ _ ha)

theorem Blk.alloc {w : World} {b n : Nat} {f : Nat → Value} (h : Blk w b n f) (o : Obj) : Blk (w.alloc o) b n f := by
  intro i hi
  have hl := h.lt (by omega)
  exact h.of_block (Below.heap_alloc w o b hl) i hi

theorem Blk.drew {w : World} {b n : Nat} {f : Nat → Value} (h : Blk w b n f) : Blk w.drew b n f := h

theorem Blk.setCells {w : World} {b n : Nat} {f : Nat → Value} (h : Blk w b n f) (o m : Nat) (g : Nat → Value) (hm : o + m ≤ n) :
    Blk (w.setCells b o ((List.range m).map g)) b n (fun i => if o ≤ i ∧ i < o + m then g (i - o) else f i) := by
  intro i hi
  refine ⟨?_, by rw [World.frozen?_setCells]; exact (h i hi).2⟩
  by_cases e : o ≤ i ∧ i < o + m
  · simp only [if_pos e]
    have := World.cell?_setCells_in b ((List.range m).map g) o w (fun j hj => by rw [(h (o + j) (by simp at hj; omega)).1]; rfl) (i - o) (by simp; omega)
    rw [show o + (i - o) = i by omega] at this
    rw [this]
    simp
  · simp only [if_neg e]
    rw [World.cell?_setCells_out b _ o w ⟨b, i, none⟩ (fun _ _ => by simp; omega)]
    exact (h i hi).1

theorem heap_setCells (b : Nat) : ∀ (vs : List Value) (o : Nat) (w : World) (k : Nat), k ≠ b → (w.setCells b o vs).heap[k]? = w.heap[k]?
  | [], _, _, _, _ => rfl
  | v :: r, o, w, k, h => by rw [World.setCells, heap_setCells b r (o + 1) _ k h, Below.heap_setCell _ _ _ _ h]

theorem setCells_same (b : Nat) : ∀ (vs : List Value) (o : Nat) (w : World), (w.setCells b o vs).os = w.os ∧ (w.setCells b o vs).tape = w.tape ∧ (w.setCells b o vs).output = w.output ∧ (w.setCells b o vs).heap.size = w.heap.size
  | [], _, _ => ⟨rfl, rfl, rfl, rfl⟩
  | v :: r, o, w => by
    have := setCells_same b r (o + 1) (w.setCell ⟨b, o, none⟩ v)
    rw [World.setCells]
    refine ⟨this.1, this.2.1, this.2.2.1, ?_⟩
    rw [this.2.2.2]; simp [World.setCell]

theorem Blk.otherCells {w : World} {b n : Nat} {f : Nat → Value} (h : Blk w b n f) {x : Nat} (hx : b ≠ x) (o : Nat) (vs : List Value) : Blk (w.setCells x o vs) b n f := h.of_block (heap_setCells x vs o w b hx)

/-- All blocks but those of S are as they were. -/
structure Keep (S : Nat → Prop) (w w' : World) : Prop where
  os : w'.os = w.os
  tape : w'.tape = w.tape
  output : w'.output = w.output
  size : w.heap.size ≤ w'.heap.size
  block : ∀ k, k < w.heap.size → ¬ S k → w'.heap[k]? = w.heap[k]?

theorem Keep.refl (S : Nat → Prop) (w : World) : Keep S w w := ⟨rfl, rfl, rfl, Nat.le_refl _, fun _ _ _ => rfl⟩
theorem Keep.trans {S : Nat → Prop} {a b c : World} (h : Keep S a b) (k : Keep S b c) : Keep S a c :=
  ⟨k.os.trans h.os, k.tape.trans h.tape, k.output.trans h.output, Nat.le_trans h.size k.size, fun i hi hs => (k.block i (Nat.lt_of_lt_of_le hi h.size) hs).trans (h.block i hi hs)⟩
theorem Keep.mono {S T : Nat → Prop} {a b : World} (h : Keep S a b) (e : ∀ k, k < a.heap.size → S k → T k) : Keep T a b :=
  ⟨h.os, h.tape, h.output, h.size, fun i hi hs => h.block i hi (fun x => hs (e i hi x))⟩
theorem Keep.drew {S : Nat → Prop} {a w : World} (h : Keep S a w) : Keep S a w.drew := ⟨h.os, h.tape, h.output, h.size, h.block⟩
theorem Keep.alloc {S : Nat → Prop} {a w : World} (h : Keep S a w) (o : Obj) : Keep S a (w.alloc o) :=
  h.trans ⟨rfl, rfl, rfl, by simp, fun k hk _ => Below.heap_alloc _ _ _ hk⟩
theorem Keep.setCell {S : Nat → Prop} {a w : World} (h : Keep S a w) {p : Addr} (hp : S p.block ∨ a.heap.size ≤ p.block) (u : Value) : Keep S a (w.setCell p u) :=
  ⟨h.os, h.tape, h.output, by simp [World.setCell]; exact h.size, fun k hk hs => by
    rw [Below.heap_setCell _ _ _ _ (fun e => by rcases hp with hp | hp; exact hs (e ▸ hp); omega)]; exact h.block k hk hs⟩
theorem Keep.setCells {S : Nat → Prop} {a w : World} (h : Keep S a w) {b : Nat} (hp : S b ∨ a.heap.size ≤ b) (o : Nat) (vs : List Value) : Keep S a (w.setCells b o vs) := by
  obtain ⟨h1, h2, h3, h4⟩ := setCells_same b vs o w
  exact ⟨h1.trans h.os, h2.trans h.tape, h3.trans h.output, by rw [h4]; exact h.size, fun k hk hs => by
    rw [heap_setCells b vs o w k (fun e => by rcases hp with hp | hp; exact hs (e ▸ hp); omega)]; exact h.block k hk hs⟩
theorem Keep.below {S : Nat → Prop} {w w' : World} (h : Keep S w w') {B : Nat} (hB : B ≤ w.heap.size) (hS : ∀ k, S k → B ≤ k) : Below B w w' :=
  ⟨h.os, h.tape, h.output, h.size, fun k hk => h.block k (by omega) (fun e => by have := hS k e; omega)⟩
theorem Keep.of_below {S : Nat → Prop} {w w' : World} (h : Below w.heap.size w w') : Keep S w w' := ⟨h.os, h.tape, h.output, h.size, fun k hk _ => h.block k hk⟩
theorem Blk.keep {S : Nat → Prop} {w w' : World} {b n : Nat} {f : Nat → Value} (h : Blk w b n f) (k : Keep S w w') (hs : ¬ S b) : Blk w' b n f := fun i hi =>
  h.of_block (k.block b (h.lt (by omega)) hs) i hi

theorem Keep.of_grown {S : Nat → Prop} {w w' : World} (hg : w.grownBy w' none) : Keep S w w' := ⟨hg.os, hg.tape, hg.output, hg.size, fun k hk _ => hg.block k hk (by simp)⟩

theorem Keep.next {S T : Nat → Prop} {a b c : World} (h : Keep S a b) (k : Keep T b c) (e : ∀ x, x < a.heap.size → T x → S x) : Keep S a c :=
  ⟨k.os.trans h.os, k.tape.trans h.tape, k.output.trans h.output, Nat.le_trans h.size k.size, fun i hi hs => (k.block i (Nat.lt_of_lt_of_le hi h.size) (fun t => hs (e i hi t))).trans (h.block i hi hs)⟩

theorem blk_alloc (w : World) (A : Array Value) (t : TypeId) (n : Nat) (f : Nat → Value) (h : ∀ i, i < n → A[i]? = some (f i)) : Blk (w.alloc (.cells A t)) w.heap.size n f := by
  intro i hi
  refine ⟨?_, ?_⟩
  · rw [World.cell?_alloc_mark]; exact h i hi
  · exact World.frozen?_alloc_new w A t i

theorem ret_bool {a b : Bool} (h : a = b) : Ending.returned (.bool a) = .returned (.bool b) := by rw [h]
theorem ret_i64 {a b : Int} (h : a = b) : Ending.returned (.int .i64 a) = .returned (.int .i64 b) := by rw [h]

/-- A fact that the walk does not look into. -/
def Hid (p : Prop) : Prop := p

/-- The walk's step at an append whose run is known. -/
theorem wpList_append_run {P : Program} {w : World} {ops : Array Oper} {rest : List Oper} {o : Oper} {a : Act} {Q : Exit → Act → World → Prop}
    (hw : Region.wanted o (yielded ops a.tmps) = true) (s x : Operand) (t : TypeId) (hop : o.op = Op.call { callee := Callee.builtin Builtin.append, args := #[s, x], argTypes := #[t, t] })
    {v1 v2 v' : Value} {w' : World} (hs : a.eval s = v1) (hx : a.eval x = v2) (hrun : (Builtin.append_ #[t, t] o.type #[v1, v2]).run P w = .ok v' w')
    (hK : wpList P ops Q rest (a.put o.dst v') w') : wpList P ops Q (o :: rest) a w := by
  refine BigFrame.wpList_want hw fun K hK' => ?_
  unfold Oper.wp
  simp [execOp, hop, resolve, invoke, builtin, hs, hx, hrun, Result.andThen]
  exact hK' _ _ hK


end Tg
end Go.Proofs.Ytbdankhlbepjoaa
