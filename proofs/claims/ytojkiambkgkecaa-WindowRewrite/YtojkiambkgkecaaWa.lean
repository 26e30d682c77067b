/-
  What the documents own answers lean on: blocks of memory, rows of triples, of numbers; runs in their form, entries, pieces folded; the flat map.
-/
import Derived.Test.YtojkiambkgkecaaRows
import Derived.WalkKit
import Derived.ProofKit
import Derived.OpenShut
import Derived.ShutString
import Derived.ChangeOld
import Derived.Below
import Derived.Deep.OwnRows
import Derived.Laws.IdiomCopy
import Derived.Lib.SlBytesConst
import Derived.Lib.ConvBytes
import Derived.Laws.BytesArg
import Derived.SizedLaws
import Derived.ArgAppend
import Derived.BigQuiet
import Derived.BigRegion
import Derived.Deep.MidRow
import Derived.ChangeKeysEq
import Derived.Laws.ResultCell
import Derived.Deep.RegionHeld3
import Derived.Deep.CutBlock
import Derived.Laws.AppendOwn
import Derived.Laws.OwnMore
import Derived.Deep.Slices
import Derived.Deep.Grids
namespace Go.Proofs.Ytojkiambkgkecaa
open Go.ChangeShapes Go.WideShapes Go.ChangeAt Go.RowKit
namespace Tg
/-- Block b's first n cells, none frozen. -/
def Blk (w : World) (b n : Nat) (f : Nat → Value) : Prop := ∀ i, i < n → w.cell? ⟨b, i, none⟩ = some (f i) ∧ w.frozen? ⟨b, i, none⟩ = false
theorem Blk.lt {w : World} {b n : Nat} {f : Nat → Value} (h : Blk w b n f) (hn : 0 < n) : b < w.heap.size := World.block_lt_of_cell? w _ (h 0 hn).1
theorem Blk.congr {w : World} {b n : Nat} {f g : Nat → Value} (h : Blk w b n f) (e : ∀ i, i < n → f i = g i) : Blk w b n g := fun i hi => by rw [← e i hi]; exact h i hi
theorem Blk.of_block {w w' : World} {b n : Nat} {f : Nat → Value} (h : Blk w b n f) (e : w'.heap[b]? = w.heap[b]?) : Blk w' b n f := fun i hi =>
  ⟨by rw [World.cell?_of_block (w := w) (a := ⟨b, i, none⟩) e]; exact (h i hi).1, by rw [World.frozen?_of_block (w := w) (a := ⟨b, i, none⟩) e]; exact (h i hi).2⟩
theorem Blk.set {w : World} {b n : Nat} {f : Nat → Value} (h : Blk w b n f) (j : Nat) (v : Value) : Blk (w.setCell ⟨b, j, none⟩ v) b n (fun i => if i = j then v else f i) := by
  intro i hi
  refine ⟨?_, by rw [World.frozen?_setCell]; exact (h i hi).2⟩
  by_cases e : i = j
  · subst e; simp only [if_true]; exact World.cell?_setCell_same w _ _ (h i hi).1
  · simp only [if_neg e]; rw [World.cell?_setCell_other (h := fun x => e (congrArg Addr.off x).symm)]; exact (h i hi).1
theorem Blk.other {w : World} {b n : Nat} {f : Nat → Value} (h : Blk w b n f) {a : Addr} (ha : b ≠ a.block) (v : Value) : Blk (w.setCell a v) b n f := h.of_block (Below.heap_setCell _ _ _ _ ha)
theorem Blk.alloc {w : World} {b n : Nat} {f : Nat → Value} (h : Blk w b n f) (o : Obj) : Blk (w.alloc o) b n f := by
  intro i hi
  have hl := h.lt (by omega)
  exact h.of_block (Below.heap_alloc w o b hl) i hi
theorem Blk.drew {w : World} {b n : Nat} {f : Nat → Value} (h : Blk w b n f) : Blk w.drew b n f := h
theorem Blk.setCells {w : World} {b n : Nat} {f : Nat → Value} (h : Blk w b n f) (o m : Nat) (g : Nat → Value) (hm : o + m ≤ n) :
    Blk (w.setCells b o ((List.range m).map g)) b n (fun i => if o ≤ i ∧ i < o + m then g (i - o) else f i) := by
  intro i hi
  refine ⟨?_, by rw [World.frozen?_setCells]; exact (h i hi).2⟩
  by_cases e : o ≤ i ∧ i < o + m
  · simp only [if_pos e]
    have := World.cell?_setCells_in b ((List.range m).map g) o w (fun j hj => by rw [(h (o + j) (by simp at hj; omega)).1]; rfl) (i - o) (by simp; omega)
    rw [show o + (i - o) = i by omega] at this
    rw [this]
    simp
  · simp only [if_neg e]
    rw [World.cell?_setCells_out b _ o w ⟨b, i, none⟩ (fun _ _ => by simp; omega)]
    exact (h i hi).1
theorem heap_setCells (b : Nat) : ∀ (vs : List Value) (o : Nat) (w : World) (k : Nat), k ≠ b → (w.setCells b o vs).heap[k]? = w.heap[k]?
  | [], _, _, _, _ => rfl
  | v :: r, o, w, k, h => by rw [World.setCells, heap_setCells b r (o + 1) _ k h, Below.heap_setCell _ _ _ _ h]
theorem setCells_same (b : Nat) : ∀ (vs : List Value) (o : Nat) (w : World), (w.setCells b o vs).os = w.os ∧ (w.setCells b o vs).tape = w.tape ∧ (w.setCells b o vs).output = w.output ∧ (w.setCells b o vs).heap.size = w.heap.size
  | [], _, _ => ⟨rfl, rfl, rfl, rfl⟩
  | v :: r, o, w => by
    have := setCells_same b r (o + 1) (w.setCell ⟨b, o, none⟩ v)
    rw [World.setCells]
    refine ⟨this.1, this.2.1, this.2.2.1, ?_⟩
    rw [this.2.2.2]; simp [World.setCell]
theorem Blk.otherCells {w : World} {b n : Nat} {f : Nat → Value} (h : Blk w b n f) {x : Nat} (hx : b ≠ x) (o : Nat) (vs : List Value) : Blk (w.setCells x o vs) b n f := h.of_block (heap_setCells x vs o w b hx)
/-- All blocks but those of S are as they were. -/
structure Keep (S : Nat → Prop) (w w' : World) : Prop where
  os : w'.os = w.os
  tape : w'.tape = w.tape
  output : w'.output = w.output
  size : w.heap.size ≤ w'.heap.size
  block : ∀ k, k < w.heap.size → ¬ S k → w'.heap[k]? = w.heap[k]?
theorem Keep.refl (S : Nat → Prop) (w : World) : Keep S w w := ⟨rfl, rfl, rfl, Nat.le_refl _, fun _ _ _ => rfl⟩
theorem Keep.trans {S : Nat → Prop} {a b c : World} (h : Keep S a b) (k : Keep S b c) : Keep S a c :=
  ⟨k.os.trans h.os, k.tape.trans h.tape, k.output.trans h.output, Nat.le_trans h.size k.size, fun i hi hs => (k.block i (Nat.lt_of_lt_of_le hi h.size) hs).trans (h.block i hi hs)⟩
theorem Keep.mono {S T : Nat → Prop} {a b : World} (h : Keep S a b) (e : ∀ k, k < a.heap.size → S k → T k) : Keep T a b :=
  ⟨h.os, h.tape, h.output, h.size, fun i hi hs => h.block i hi (fun x => hs (e i hi x))⟩
theorem Keep.drew {S : Nat → Prop} {a w : World} (h : Keep S a w) : Keep S a w.drew := ⟨h.os, h.tape, h.output, h.size, h.block⟩
theorem Keep.alloc {S : Nat → Prop} {a w : World} (h : Keep S a w) (o : Obj) : Keep S a (w.alloc o) :=
  h.trans ⟨rfl, rfl, rfl, by simp, fun k hk _ => Below.heap_alloc _ _ _ hk⟩
theorem Keep.setCell {S : Nat → Prop} {a w : World} (h : Keep S a w) {p : Addr} (hp : S p.block ∨ a.heap.size ≤ p.block) (u : Value) : Keep S a (w.setCell p u) :=
  ⟨h.os, h.tape, h.output, by simp [World.setCell]; exact h.size, fun k hk hs => by
    rw [Below.heap_setCell _ _ _ _ (fun e => by rcases hp with hp | hp; exact hs (e ▸ hp); omega)]; exact h.block k hk hs⟩
theorem Keep.setCells {S : Nat → Prop} {a w : World} (h : Keep S a w) {b : Nat} (hp : S b ∨ a.heap.size ≤ b) (o : Nat) (vs : List Value) : Keep S a (w.setCells b o vs) := by
  obtain ⟨h1, h2, h3, h4⟩ := setCells_same b vs o w
  exact ⟨h1.trans h.os, h2.trans h.tape, h3.trans h.output, by rw [h4]; exact h.size, fun k hk hs => by
    rw [heap_setCells b vs o w k (fun e => by rcases hp with hp | hp; exact hs (e ▸ hp); omega)]; exact h.block k hk hs⟩
theorem Keep.below {S : Nat → Prop} {w w' : World} (h : Keep S w w') {B : Nat} (hB : B ≤ w.heap.size) (hS : ∀ k, S k → B ≤ k) : Below B w w' :=
  ⟨h.os, h.tape, h.output, h.size, fun k hk => h.block k (by omega) (fun e => by have := hS k e; omega)⟩
theorem Keep.of_below {S : Nat → Prop} {w w' : World} (h : Below w.heap.size w w') : Keep S w w' := ⟨h.os, h.tape, h.output, h.size, fun k hk _ => h.block k hk⟩
theorem Blk.keep {S : Nat → Prop} {w w' : World} {b n : Nat} {f : Nat → Value} (h : Blk w b n f) (k : Keep S w w') (hs : ¬ S b) : Blk w' b n f := fun i hi =>
  h.of_block (k.block b (h.lt (by omega)) hs) i hi
theorem Keep.of_grown {S : Nat → Prop} {w w' : World} (hg : w.grownBy w' none) : Keep S w w' := ⟨hg.os, hg.tape, hg.output, hg.size, fun k hk _ => hg.block k hk (by simp)⟩
theorem Keep.next {S T : Nat → Prop} {a b c : World} (h : Keep S a b) (k : Keep T b c) (e : ∀ x, x < a.heap.size → T x → S x) : Keep S a c :=
  ⟨k.os.trans h.os, k.tape.trans h.tape, k.output.trans h.output, Nat.le_trans h.size k.size, fun i hi hs => (k.block i (Nat.lt_of_lt_of_le hi h.size) (fun t => hs (e i hi t))).trans (h.block i hi hs)⟩
theorem blk_alloc (w : World) (A : Array Value) (t : TypeId) (n : Nat) (f : Nat → Value) (h : ∀ i, i < n → A[i]? = some (f i)) : Blk (w.alloc (.cells A t)) w.heap.size n f := by
  intro i hi
  refine ⟨?_, ?_⟩
  · rw [World.cell?_alloc_mark]; exact h i hi
  · exact World.frozen?_alloc_new w A t i
/-- A fact that the walk does not look into. -/
def Hid (p : Prop) : Prop := p
/-- The walk's step at an append whose run is known. -/
theorem wpList_append_run {P : Program} {w : World} {ops : Array Oper} {rest : List Oper} {o : Oper} {a : Act} {Q : Exit → Act → World → Prop}
    (hw : Region.wanted o (yielded ops a.tmps) = true) (s x : Operand) (t : TypeId) (hop : o.op = Op.call { callee := Callee.builtin Builtin.append, args := #[s, x], argTypes := #[t, t] })
    {v1 v2 v' : Value} {w' : World} (hs : a.eval s = v1) (hx : a.eval x = v2) (hrun : (Builtin.append_ #[t, t] o.type #[v1, v2]).run P w = .ok v' w')
    (hK : wpList P ops Q rest (a.put o.dst v') w') : wpList P ops Q (o :: rest) a w := by
  refine BigFrame.wpList_want hw fun K hK' => ?_
  unfold Oper.wp
  simp [execOp, hop, resolve, invoke, builtin, hs, hx, hrun, Result.andThen]
  exact hK' _ _ hK
/-- A node's field as a value. -/
def nval (j : Nat) (v : Int) : Value := if j < 2 then .int .u32 v else .int .i64 v
/-- The blocks of an arena. -/
def Own (p k : Nat) : Nat → Prop := fun b => b = p ∨ b = k
theorem three {i : Nat} (h : i < 3) : i = 0 ∨ i = 1 ∨ i = 2 := by omega
theorem Keep.p {p k : Nat} {a w : World} (h : Keep (Own p k) a w) (j : Nat) (v : Value) : Keep (Own p k) a (w.setCell ⟨p, j, none⟩ v) := h.setCell (Or.inl (Or.inl rfl)) v
theorem Keep.k {p k : Nat} {a w : World} (h : Keep (Own p k) a w) (j : Nat) (v : Value) : Keep (Own p k) a (w.setCell ⟨k, j, none⟩ v) := h.setCell (Or.inl (Or.inr rfl)) v
theorem Keep.ks {p k : Nat} {a w : World} (h : Keep (Own p k) a w) (j : Nat) (v : List Value) : Keep (Own p k) a (w.setCells k j v) := h.setCells (Or.inl (Or.inr rfl)) j v
/-- The walk's step at a store, and at a load, whose run is known. -/
theorem wpList_store_run {P : Program} {w : World} {ops : Array Oper} {rest : List Oper} {o : Oper} {a : Act} {Q : Exit → Act → World → Prop}
    (hg : o.guard = none) (t : TypeId) (x y : Operand) (hop : o.op = Op.store t x y) {v1 v2 : Value} {w' : World} (hx : a.eval x = v1) (hy : a.eval y = v2) (hrun : (Instr.storeAt t v1 v2).run P w = .ok () w')
    (hK : wpList P ops Q rest (a.put o.dst undef) w') : wpList P ops Q (o :: rest) a w := by
  refine BigFrame.wpList_want (by simp [Region.wanted, hg]) fun K hK' => ?_
  unfold Oper.wp
  simp [execOp, hop, hx, hy, hrun, Result.andThen]
  exact hK' _ _ hK
theorem wpList_load_run {P : Program} {w : World} {ops : Array Oper} {rest : List Oper} {o : Oper} {a : Act} {Q : Exit → Act → World → Prop}
    (hw : Region.wanted o (yielded ops a.tmps) = true) (t : TypeId) (x : Operand) (hop : o.op = Op.load t x) {v1 v' : Value} {w' : World} (hx : a.eval x = v1) (hrun : (Instr.loadAt t v1).run P w = .ok v' w')
    (hK : wpList P ops Q rest (a.put o.dst v') w') : wpList P ops Q (o :: rest) a w := by
  refine BigFrame.wpList_want hw fun K hK' => ?_
  unfold Oper.wp
  simp [execOp, hop, hx, hrun, Result.andThen]
  exact hK' _ _ hK
/-- Are two nodes alike? -/
def sameN (n m : Nat → Int) : Bool := n 0 == m 0 && (n 1 == m 1 && (n 2 == m 2 && (n 3 == m 3 && (n 4 == m 4 && n 5 == m 5))))
theorem fields_cons {fu : Nat} {xs ys : Array Value} {f : Field} {fs : List Field} {a b : Value} {r q : Bool} {w : World} {t o : Nat} (h : (f.name == "_", f.type, f.offset) = (false, t, o)) (ha : (Go.part t xs o).run Try.prog w = .ok a w) (hb : (Go.part t ys o).run Try.prog w = .ok b w)
    (he : (Op.equalIn fu t a b).run Try.prog w = .ok r w) (hr : (Op.eqFields fu xs ys fs).run Try.prog w = .ok q w) : (Op.eqFields fu xs ys (f :: fs)).run Try.prog w = .ok (r && q) w := by
  simp only [Prod.mk.injEq] at h
  obtain ⟨hn, rfl, rfl⟩ := h
  have hn' : f.name ≠ "_" := by simpa using hn
  simp only [Op.eqFields, hn', ne_eq, not_false_eq_true, if_true, Sem.run_bind, ha, hb, he, Result.andThen_ok]
  cases r <;> simp [hr]
theorem part_cell (t : TypeId) (ht : ∀ w, (isAgg t).run Try.prog w = .ok false w) (A : Array Value) (i : Nat) (v : Value) (h : A[i]? = some v) (w : World) : (Go.part t A i).run Try.prog w = .ok v w := by
  simp [Go.part, ht w, h]
def runA (n : Nat → Int) : Array Value := #[.int .i64 (n 3), .int .i64 (n 4), .int .i64 (n 5)]
theorem eq38 (n m : Nat → Int) (w : World) : (Op.equalIn 9999 39 (.agg (runA n)) (.agg (runA m))).run Try.prog w = .ok (n 3 == m 3 && (n 4 == m 4 && n 5 == m 5)) w := by
  rw [run_equalIn_struct w 9998 39 _ _ (by kernel_rfl) (by kernel_rfl)]
  have hf : (Try.prog.fieldsOf 39).toList.map (fun f => (f.name == "_", f.type, f.offset)) = [(false, 3, 0), (false, 3, 1), (false, 3, 2)] := by kernel_rfl
  have a3 : ∀ w, (isAgg 3).run Try.prog w = .ok false w := fun w => by kernel_rfl
  generalize (Try.prog.fieldsOf 39).toList = fs at hf ⊢
  rcases fs with _ | ⟨f0, _ | ⟨f1, _ | ⟨f2, _ | ⟨f3, fs⟩⟩⟩⟩
  all_goals simp only [List.map_nil, List.map_cons, List.cons.injEq, List.nil_eq, reduceCtorEq, and_false, and_true] at hf
  obtain ⟨h0, h1, h2⟩ := hf
  refine fields_cons h0 (part_cell 3 a3 _ 0 _ rfl w) (part_cell 3 a3 _ 0 _ rfl w) (run_equalIn_int w 9997 3 .i64 .i64 _ _ Try.underlying3) ?_
  refine fields_cons h1 (part_cell 3 a3 _ 1 _ rfl w) (part_cell 3 a3 _ 1 _ rfl w) (run_equalIn_int w 9997 3 .i64 .i64 _ _ Try.underlying3) ?_
  have := fields_cons (fs := []) h2 (part_cell 3 a3 (runA n) 2 _ rfl w) (part_cell 3 a3 (runA m) 2 _ rfl w) (run_equalIn_int w 9997 3 .i64 .i64 _ _ Try.underlying3) (q := true) (by simp [Op.eqFields])
  rwa [Bool.and_true] at this
theorem guard40 : Try.prog.eqGuardType Try.prog.depth 94 = false := by kernel_rfl
/-- A run. -/
structure Rn where
  lba : Int
  len : Int
  phys : Int
theorem Keep.ownK {p k : Nat} {w w' : World} (h : Keep (fun _ => False) w w') : Keep (Own p k) w w' := h.mono (fun _ _ e => e.elim)
theorem Keep.drewN {S : Nat → Prop} {a w : World} (h : Keep S a w) (n : Nat) : Keep S a (w.drewN n) := ⟨h.os, h.tape, h.output, h.size, h.block⟩
def rcell (x : Rn) (j : Nat) : Value := if j = 0 then .int .i64 x.lba else if j = 1 then .int .i64 x.len else .int .i64 x.phys
def rnA (x : Rn) : Array Value := ((List.range 3).map (rcell x)).toArray
set_option maxRecDepth 100000 in
theorem rnA_lit (x : Rn) : rnA x = #[.int .i64 x.lba, .int .i64 x.len, .int .i64 x.phys] := rfl
theorem rnA_size (x : Rn) : (rnA x).size = 3 := by simp [rnA]
set_option maxRecDepth 100000 in
theorem size31 : (Try.prog.info? 39).map (·.size) = some 3 := by kernel_rfl
set_option maxRecDepth 100000 in
theorem under31 : ∃ d, Try.prog.underlying 39 = some d ∧ d.isRow = true := ⟨_, Try.underlying39, rfl⟩
set_option maxRecDepth 100000 in
theorem rcell_one (x : Rn) (j : Nat) : (rcell x j).oneCell' = true := by unfold rcell; split; rfl; split <;> rfl
set_option maxRecDepth 100000 in
theorem store_rn {w : World} {p o N : Nat} {f : Nat → Value} (h : Blk w p N f) (ho : o + 3 ≤ N) (x : Rn) :
    (Instr.storeAt 39 (.pointer (some ⟨p, o, none⟩)) (.agg (rnA x))).run Try.prog w = .ok () (w.setCells p o ((List.range 3).map (rcell x))) := by
  have ht : w.there p o (rnA x).size := fun j hj => by rw [rnA_size] at hj; exact ⟨by rw [(h (o + j) (by omega)).1]; rfl, (h (o + j) (by omega)).2⟩
  exact run_storeAt_mid w p o 39 (rnA x) ht (by rw [rnA_size]; exact size31) (all_oneCell_toArray (fun v hv => by simp at hv; obtain ⟨i, _, rfl⟩ := hv; exact rcell_one _ _))
theorem range_rn {w : World} {p o N : Nat} {f : Nat → Value} {x : Rn} (h : Blk w p N f) (ho : o + 3 ≤ N) (hf : ∀ i, i < 3 → f (o + i) = rcell x i) : w.rangeAt p o (rnA x).toList := by
  intro j v hv
  have hj : j < 3 := by have := (List.getElem?_eq_some_iff.1 hv).1; simpa [rnA] using this
  rw [(h (o + j) (by omega)).1, hf j hj, ← hv]
  simp [rnA, hj]
theorem load_rn {w : World} {p o N : Nat} {f : Nat → Value} {x : Rn} (h : Blk w p N f) (ho : o + 3 ≤ N) (hf : ∀ i, i < 3 → f (o + i) = rcell x i) : (loadVar 39 ⟨p, o, none⟩).run Try.prog w = .ok (.agg (rnA x)) w := by
  obtain ⟨t, h1, h2⟩ := under31
  have := run_loadVar_mid (P := Try.prog) w p o 39 (rnA x).toList t (range_rn h ho hf) h1 h2 (by rw [size31]; simp [rnA])
  simpa using this
/-- A variable of the call's own that holds a run. -/
def Lrn (w : World) (g : Nat) (x : Rn) : Prop := Blk w g 3 (rcell x)
theorem Lrn.new (w : World) (x : Rn) : Lrn (w.alloc (.cells (rnA x) 39)) w.heap.size x := blk_alloc w _ 39 3 _ (fun i hi => by simp [rnA, hi])
theorem Lrn.more {w w' : World} {g : Nat} {x : Rn} (h : Lrn w g x) (hk : Keep (fun _ => False) w w') : Lrn w' g x := Blk.keep h hk (fun e => e)
theorem Lrn.put {w : World} {g : Nat} {x : Rn} (h : Lrn w g x) (y : Rn) : Lrn (w.setCells g 0 ((List.range 3).map (rcell y))) g y := (Blk.setCells h 0 3 (rcell y) (by omega)).congr (fun i hi => by rw [if_pos (by omega), Nat.sub_zero])
theorem Lrn.store {w : World} {g : Nat} {x : Rn} (h : Lrn w g x) (y : Rn) : (Instr.storeAt 39 (.pointer (some ⟨g, 0, none⟩)) (.agg (rnA y))).run Try.prog w = .ok () (w.setCells g 0 ((List.range 3).map (rcell y))) := store_rn h (by omega) y
theorem Lrn.load {w : World} {g : Nat} {x : Rn} (h : Lrn w g x) : (loadVar 39 ⟨g, 0, none⟩).run Try.prog w = .ok (.agg (rnA x)) w := load_rn h (o := 0) (by omega) (fun i _ => by rw [Nat.zero_add])
set_option maxRecDepth 100000 in
theorem Lrn.over {w : World} {g : Nat} {x : Rn} (h : Lrn w g x) (y : Rn) : ∃ w', (Instr.storeAt 39 (.pointer (some ⟨g, 0, none⟩)) (.agg #[.int .i64 y.lba, .int .i64 y.len, .int .i64 y.phys])).run Try.prog w = .ok () w' ∧ Lrn w' g y ∧ Keep (fun b => b = g) w w' :=
  ⟨_, h.store y, h.put y, (Keep.refl (fun b => b = g) w).setCells (b := g) (Or.inl rfl) _ _⟩
set_option maxRecDepth 100000 in
theorem step_call_want {P : Program} {ops : Array Oper} {o : Oper} {a : Act} {w : World} {K : Act → World → Prop} {Q : Exit → Act → World → Prop} {E : Prop}
    (hw : Region.wanted o (yielded ops a.tmps) = true) (f : FuncId) (xs : Array Operand) (ts : Array TypeId) (hop : o.op = Op.call { callee := Callee.value (.func f), args := xs, argTypes := ts })
    {vs : Array Value} {R : Value → World → Prop} (hx : xs.map a.eval = vs) (he : ∀ args w, (callFunc f args).run P w = .ok (.enter f args) w) (hc : Calls P f vs w fun e w2 => ∃ v, e = .returned v ∧ R v w2)
    (hK : ∀ v w', R v w' → K (a.put o.dst v) w') : if Region.wanted o (yielded ops a.tmps) = true then Oper.wp P o a w K Q else E := by
  rw [if_pos hw]
  subst hx
  obtain ⟨dst, op, ty, pos, after, guard⟩ := o
  simp only at hop
  subst hop
  unfold Oper.wp
  rw [execOp_call_go, he, Oper.upon_enter]
  simp only [Array.empty_append, Array.append_empty]
  exact hc.mono (by rintro e w2 ⟨v, rfl, hr⟩; exact hK v w2 hr)
theorem step_load_run {P : Program} {ops : Array Oper} {o : Oper} {a : Act} {w : World} {K : Act → World → Prop} {Q : Exit → Act → World → Prop} {E : Prop}
    (hw : Region.wanted o (yielded ops a.tmps) = true) (t : TypeId) (x : Operand) (hop : o.op = Op.load t x) {v1 v' : Value} {w' : World} (hx : a.eval x = v1) (hrun : (Instr.loadAt t v1).run P w = .ok v' w')
    (hK : K (a.put o.dst v') w') : if Region.wanted o (yielded ops a.tmps) = true then Oper.wp P o a w K Q else E := by
  rw [if_pos hw]
  unfold Oper.wp
  simp [execOp, hop, hx, hrun, Result.andThen]
  exact hK
theorem step_store_run {P : Program} {ops : Array Oper} {o : Oper} {a : Act} {w : World} {K : Act → World → Prop} {Q : Exit → Act → World → Prop} {E : Prop}
    (hw : Region.wanted o (yielded ops a.tmps) = true) (t : TypeId) (x y : Operand) (hop : o.op = Op.store t x y) {v1 v2 : Value} {w' : World} (hx : a.eval x = v1) (hy : a.eval y = v2) (hrun : (Instr.storeAt t v1 v2).run P w = .ok () w')
    (hK : K (a.put o.dst undef) w') : if Region.wanted o (yielded ops a.tmps) = true then Oper.wp P o a w K Q else E := by
  rw [if_pos hw]
  unfold Oper.wp
  simp [execOp, hop, hx, hy, hrun, Result.andThen]
  exact hK
/-- The blocks of a whole tree. -/
def Own3 (b p k : Nat) : Nat → Prop := fun x => x = b ∨ x = p ∨ x = k
theorem Keep.own3 {b p k : Nat} {w w' : World} (h : Keep (Own p k) w w') : Keep (Own3 b p k) w w' := h.mono (fun _ _ e => Or.inr e)
theorem Keep.none3 {b p k : Nat} {w w' : World} (h : Keep (fun _ => False) w w') : Keep (Own3 b p k) w w' := h.mono (fun _ _ e => e.elim)
def rcs (x : Rn) : List Value := [.int .i64 x.lba, .int .i64 x.len, .int .i64 x.phys]
def rcells (l : List Rn) : List Value := l.flatMap rcs
set_option maxRecDepth 100000 in
theorem rcells_len (l : List Rn) : (rcells l).length = l.length * 3 := by
  induction l with
  | nil => rfl
  | cons v l ih => simp only [rcells, List.flatMap_cons, List.length_append] at *; rw [ih]; simp [rcs]; omega
theorem rcells_app (l m : List Rn) : rcells (l ++ m) = rcells l ++ rcells m := by simp [rcells]
set_option maxRecDepth 100000 in
theorem info31 : (Try.prog.info? 39).map (fun i => (i.zero, i.size, i.bytes)) = some (some (.agg #[.int .i64 0, .int .i64 0, .int .i64 0]), 3, 24) := by kernel_rfl
theorem make_runs (m : Nat) (hm : m ≤ 512) (w : World) : (Instr.makeSlice 27 (.int .i64 0) (.int .i64 (m : Int))).run Try.prog w =
    .ok (.slice (some ⟨w.heap.size, 0, none⟩) 0 m) (w.alloc (.cells (madeCells #[.int .i64 0, .int .i64 0, .int .i64 0] (m * 3)) 39)) := by
  obtain ⟨i, hi, hz0, hz1, hz2⟩ := info_parts info31
  have := run_make (P := Try.prog) w 27 39 i _ Try.underlying27 hi hz0 .i64 .i64 0 m (by omega) (by omega) (by rw [hz2]; omega) (by omega)
  rw [hz1] at this
  exact this
/-- A new block's cells. -/
theorem cells_new (w : World) (A : Array Value) (e : TypeId) : ∀ j u, A.toList[j]? = some u → (w.alloc (.cells A e)).cell? ((⟨w.heap.size, 0, none⟩ : Addr).add j) = some u := by
  intro j u hu
  rw [Addr.add_lit, Nat.zero_add, World.cell?_alloc_mark, ← Array.getElem?_toList]
  exact hu
set_option maxRecDepth 100000 in
theorem rcells_at {v : Rn} : ∀ {m : List Rn} {q : Nat}, m[q]? = some v → ∀ j, j < 3 → (rcells m)[q * 3 + j]? = (rcs v)[j]?
  | [], q, h, _, _ => by simp at h
  | y :: m, 0, h, j, hj => by
    simp at h
    subst h
    rw [show rcells (y :: m) = rcs y ++ rcells m from rfl, List.getElem?_append_left (by simp [rcs]; omega)]
    simp
  | y :: m, q + 1, h, j, hj => by
    simp at h
    have := rcells_at (m := m) (q := q) h j hj
    rw [show rcells (y :: m) = rcs y ++ rcells m from rfl, List.getElem?_append_right (by simp [rcs]; omega), ← this]
    congr 1
    simp [rcs]; omega
/-- A list of runs that can be read. -/
def Rs (w : World) (a : Option Addr) (cap : Nat) (m : List Rn) : Prop :=
  m.length ≤ cap ∧ cap ≤ 9223372036854775807 ∧ (m = [] ∨ ∃ g, a = some ⟨g, 0, none⟩ ∧ ∀ j u, (rcells m)[j]? = some u → w.cell? ⟨g, j, none⟩ = some u)
set_option maxRecDepth 100000 in
theorem Rs.keep {S : Nat → Prop} {w w' : World} {a : Option Addr} {cap : Nat} {m : List Rn} (h : Rs w a cap m) (k : Keep S w w') (hs : ∀ g, a = some ⟨g, 0, none⟩ → ¬ S g) : Rs w' a cap m := by
  obtain ⟨h1, h2, h3⟩ := h
  refine ⟨h1, h2, h3.imp id ?_⟩
  rintro ⟨g, rfl, hc⟩
  refine ⟨g, rfl, fun j u hu => ?_⟩
  have := hc j u hu
  rw [← this]
  exact World.cell?_of_block (w := w) (a := ⟨g, j, none⟩) (k.block g (World.block_lt_of_cell? w _ this) (hs g rfl))
theorem Rs.more {w w' : World} {a : Option Addr} {cap : Nat} {m : List Rn} (h : Rs w a cap m) (k : Keep (fun _ => False) w w') : Rs w' a cap m := h.keep k (fun _ _ e => e)
set_option maxRecDepth 100000 in
/-- What is read of the run at a place. -/
theorem Rs.at {w : World} {a : Option Addr} {cap : Nat} {m : List Rn} (h : Rs w a cap m) {i : Nat} {x : Rn} (hx : m[i]? = some x) :
    ∃ g, a = some ⟨g, 0, none⟩ ∧ w.cell? ⟨g, i * 3, none⟩ = some (.int .i64 x.lba) ∧ w.cell? ⟨g, i * 3 + 1, none⟩ = some (.int .i64 x.len) ∧ w.cell? ⟨g, i * 3 + 2, none⟩ = some (.int .i64 x.phys) := by
  rcases h.2.2 with rfl | ⟨g, rfl, hc⟩
  · simp at hx
  · exact ⟨g, rfl, hc (i * 3 + 0) _ (by rw [rcells_at hx 0 (by omega)]; rfl), hc (i * 3 + 1) _ (by rw [rcells_at hx 1 (by omega)]; rfl), hc (i * 3 + 2) _ (by rw [rcells_at hx 2 (by omega)]; rfl)⟩
theorem get_rn {m : List Rn} {i : Nat} (h : i < m.length) : ∃ x, m[i]? = some x := ⟨_, List.getElem?_eq_getElem h⟩
/-- A list of runs of one's own, in memory made since w0. -/
structure Rr (w0 w : World) (a : Option Addr) (cap : Nat) (m : List Rn) : Prop where
  own : w.ownsRow w0.heap.size 39 3 (.slice a m.length cap) m.length (rcells m)
  keep : Keep (fun _ => False) w0 w
theorem Rr.nil (w : World) : Rr w w none 0 [] := ⟨World.ownsRow_nil _ _ _ _, Keep.refl _ _⟩
theorem Rr.more {w0 w w' : World} {a : Option Addr} {cap : Nat} {m : List Rn} (h : Rr w0 w a cap m) (k : Keep (fun _ => False) w w') : Rr w0 w' a cap m := by
  refine ⟨⟨h.own.1, h.own.2.imp id ?_⟩, h.keep.trans k⟩
  rintro ⟨g, c, cur, e, hb, hh, h1, h2, h3, h4⟩
  exact ⟨g, c, cur, e, hb, by rw [k.block g (by by_cases hg : g < w.heap.size; exact hg; simp [Array.getElem?_eq_none (Nat.le_of_not_lt hg)] at hh) (fun e => e)]; exact hh, h1, h2, h3, h4⟩
theorem Rr.other {S : Nat → Prop} {w0 w w' : World} {a : Option Addr} {cap : Nat} {m : List Rn} (h : Rr w0 w a cap m) (k : Keep S w w') (hs : ∀ g, a = some ⟨g, 0, none⟩ → ¬ S g) (h0 : ∀ x, S x → w0.heap.size ≤ x) : Rr w0 w' a cap m := by
  refine ⟨⟨h.own.1, h.own.2.imp id ?_⟩, h.keep.next k (fun x hx e => by have := h0 x e; omega)⟩
  rintro ⟨g, c, cur, e, hb, hh, h1, h2, h3, h4⟩
  injection e with e1 e2 e3
  exact ⟨g, c, cur, by rw [e1, e3], hb, by rw [k.block g (by by_cases hg : g < w.heap.size; exact hg; simp [Array.getElem?_eq_none (Nat.le_of_not_lt hg)] at hh) (hs g e1)]; exact hh, h1, h2, h3, h4⟩
set_option maxRecDepth 100000 in
theorem Rr.block {w0 w : World} {a : Option Addr} {cap : Nat} {m : List Rn} (h : Rr w0 w a cap m) {g : Nat} (e : a = some ⟨g, 0, none⟩) : w0.heap.size ≤ g ∧ g < w.heap.size := by
  have := h.own.lt g (by rw [e]; rfl)
  exact this
set_option maxRecDepth 100000 in
theorem Rr.rs {w0 w : World} {a : Option Addr} {cap : Nat} {m : List Rn} (h : Rr w0 w a cap m) : Rs w a cap m := by
  obtain ⟨h1, h2⟩ := h.own
  rcases h2 with ⟨e, hn⟩ | ⟨g, c, cur, e, hb, hh, hn, hm, hs, ht⟩
  · injection e with e1 e2 e3
    exact ⟨by omega, by omega, Or.inl (List.eq_nil_of_length_eq_zero hn)⟩
  · injection e with e1 e2 e3
    subst e1 e3
    unfold maxLen at hm
    refine ⟨hn, by omega, Or.inr ⟨g, rfl, fun j u hu => ?_⟩⟩
    have := h.own.cells (g := g) rfl j u hu
    rwa [Addr.add_lit, Nat.zero_add] at this
theorem keep_grown {w w' : World} {row : Option Nat} (h : w.grownBy w' row) : Keep (fun x => some x = row) w w' := ⟨h.os, h.tape, h.output, h.size, fun k hk hs => h.block k hk hs⟩
set_option maxRecDepth 100000 in
theorem Rr.appN {w0 w : World} {a : Option Addr} {cap : Nat} {m : List Rn} (h : Rr w0 w a cap m) (x : Addr) (c : Nat) (ns : List Rn) (hl : m.length + ns.length ≤ 1000000) (hnews : ∀ j u, (rcells ns)[j]? = some u → w.cell? (x.add j) = some u) :
    ∃ a' cap' w', (Builtin.append_ #[27, 27] 27 #[.slice a m.length cap, .slice (some x) ns.length c]).run Try.prog w = .ok (.slice a' (m.length + ns.length) cap') w' ∧ Rr w0 w' a' cap' (m ++ ns) ∧ Keep (fun b => w0.heap.size ≤ b) w w' := by
  obtain ⟨i, hi, hz0, hz1, hz2⟩ := info_parts info31
  have hs := h.keep.size
  obtain ⟨v', w', hrun, hown, hgrow, hnil⟩ := run_append_own (P := Try.prog) w w0.heap.size 27 27 39 i _ 3 24 Try.underlying27 hi hz0 hz1 hz2 rfl (by decide) (.slice a m.length cap) m.length (rcells m) h.own
    x ns.length c (rcells ns) (rcells_len ns) hnews (by intro u hu; obtain ⟨y, _, hy⟩ := List.mem_flatMap.1 hu; simp [rcs] at hy; rcases hy with rfl | rfl | rfl <;> rfl) (by unfold maxLen; omega) (by omega) hs
  have hk : Keep (fun b => w0.heap.size ≤ b) w w' := (keep_grown hgrow).mono (fun b _ e => (h.own.lt b e.symm).1)
  have hK : Keep (fun _ => False) w0 w' := h.keep.next hk (fun y hy e => by omega)
  rw [← rcells_app, ← List.length_append] at hown
  have hshape : ∃ a' cap', v' = .slice a' (m ++ ns).length cap' := by
    rcases hown.2 with ⟨e, hn⟩ | ⟨g, c', cur, e, -⟩
    · exact ⟨none, 0, by rw [hn]; exact e⟩
    · exact ⟨_, _, e⟩
  obtain ⟨a', cap', rfl⟩ := hshape
  exact ⟨a', cap', w', by rw [hrun, List.length_append], ⟨hown, hK⟩, hk⟩
theorem Rr.app1 {w0 w : World} {a : Option Addr} {cap : Nat} {m : List Rn} (h : Rr w0 w a cap m) (hl : m.length ≤ 100000) (x : Rn) :
    ∃ a' cap' w', (Builtin.append_ #[27, 27] 27 #[.slice a m.length cap, .slice (some ⟨w.heap.size, 0, none⟩) 1 1]).run Try.prog (w.alloc (.cells #[.int .i64 x.lba, .int .i64 x.len, .int .i64 x.phys] 39)) = .ok (.slice a' (m.length + 1) cap') w' ∧ Rr w0 w' a' cap' (m ++ [x]) := by
  obtain ⟨a', cap', w', h1, h2, -⟩ := (h.more ((Keep.refl (fun _ => False) w).alloc (.cells #[.int .i64 x.lba, .int .i64 x.len, .int .i64 x.phys] 39))).appN ⟨w.heap.size, 0, none⟩ 1 [x] (by simp; omega) (fun j u hu => cells_new w _ 39 j u (by simpa [rcells, rcs] using hu))
  exact ⟨a', cap', w', h1, h2⟩
/-- The sector behind a run. -/
def Rn.fin (x : Rn) : Int := x.lba + x.len
/-- Does the second go on where the first ends, in sectors and in pages? -/
def Glued (a b : Rn) : Prop := a.fin = b.lba ∧ a.phys + a.len = b.phys
def Rn.Ok (x : Rn) : Prop := 0 ≤ x.lba ∧ 1 ≤ x.len ∧ 0 ≤ x.phys
/-- The one form. -/
def Form (m : List Rn) : Prop := (∀ x ∈ m, x.Ok) ∧ m.Pairwise (fun a b => a.fin ≤ b.lba ∧ ¬ Glued a b)
/-- A sector's page. -/
def page : List Rn → Int → Option Int
  | [], _ => none
  | x :: m, s => if x.lba ≤ s ∧ s < x.fin then some (x.phys + (s - x.lba)) else page m s
theorem Form.nil : Form [] := ⟨by simp, List.Pairwise.nil⟩
theorem Form.cons {x : Rn} {m : List Rn} : Form (x :: m) ↔ x.Ok ∧ (∀ y ∈ m, x.fin ≤ y.lba ∧ ¬ Glued x y) ∧ Form m := by
  unfold Form
  rw [List.pairwise_cons]
  constructor
  · rintro ⟨h1, h2, h3⟩
    exact ⟨h1 x (by simp), h2, fun y hy => h1 y (by simp [hy]), h3⟩
  · rintro ⟨h1, h2, h3, h4⟩
    exact ⟨fun y hy => by rcases List.mem_cons.1 hy with rfl | hy; exact h1; exact h3 y hy, h2, h4⟩
theorem Form.app {a b : List Rn} : Form (a ++ b) ↔ Form a ∧ Form b ∧ ∀ x ∈ a, ∀ y ∈ b, x.fin ≤ y.lba ∧ ¬ Glued x y := by
  unfold Form
  rw [List.pairwise_append]
  constructor
  · rintro ⟨h1, h2, h3, h4⟩
    exact ⟨⟨fun x hx => h1 x (by simp [hx]), h2⟩, ⟨fun x hx => h1 x (by simp [hx]), h3⟩, h4⟩
  · rintro ⟨⟨h1, h2⟩, ⟨h3, h4⟩, h5⟩
    exact ⟨fun x hx => by rcases List.mem_append.1 hx with hx | hx; exact h1 x hx; exact h3 x hx, h2, h4, h5⟩
theorem page_none {m : List Rn} {s : Int} (h : ∀ x ∈ m, ¬ (x.lba ≤ s ∧ s < x.fin)) : page m s = none := by
  induction m with
  | nil => rfl
  | cons x m ih => rw [page, if_neg (h x (by simp))]; exact ih (fun y hy => h y (by simp [hy]))
theorem page_app (a b : List Rn) (s : Int) : page (a ++ b) s = (page a s).or (page b s) := by
  induction a with
  | nil => simp [page]
  | cons x a ih =>
    rw [List.cons_append, page, page]
    split
    · rfl
    · exact ih
theorem page_mem {m : List Rn} {s p : Int} (h : page m s = some p) : ∃ x ∈ m, x.lba ≤ s ∧ s < x.fin ∧ p = x.phys + (s - x.lba) := by
  induction m with
  | nil => cases h
  | cons x m ih =>
    rw [page] at h
    split at h
    · next e => injection h with h; exact ⟨x, by simp, e.1, e.2, h.symm⟩
    · obtain ⟨y, hy, h'⟩ := ih h
      exact ⟨y, by simp [hy], h'⟩
/-- In the form each run tells its pages. -/
theorem Form.page_of {m : List Rn} (h : Form m) {x : Rn} (hx : x ∈ m) {s : Int} (h1 : x.lba ≤ s) (h2 : s < x.fin) : page m s = some (x.phys + (s - x.lba)) := by
  induction m with
  | nil => cases hx
  | cons y m ih =>
    obtain ⟨hy, hr, hm⟩ := Form.cons.1 h
    rw [page]
    rcases List.mem_cons.1 hx with rfl | hx'
    · rw [if_pos ⟨h1, h2⟩]
    · have := (hr x hx').1
      rw [if_neg (by omega)]
      exact ih hm hx'
theorem Form.page_low {x : Rn} {m : List Rn} (h : Form (x :: m)) {s : Int} (hs : s < x.fin) : page m s = none :=
  page_none (fun y hy => by have := ((Form.cons.1 h).2.1 y hy).1; omega)
theorem Form.head_le {x y : Rn} {a b : List Rn} (ha : Form (x :: a)) (hb : Form (y :: b)) (e : ∀ s, page (x :: a) s = page (y :: b) s) : y.lba ≤ x.lba := by
  have h1 := (Form.cons.1 ha).1
  have hp : page (x :: a) x.lba = some (x.phys + (x.lba - x.lba)) := ha.page_of (by simp) (Int.le_refl _) (by unfold Rn.fin; have := h1.2.1; omega)
  rw [e] at hp
  obtain ⟨z, hz, z1, z2, -⟩ := page_mem hp
  rcases List.mem_cons.1 hz with rfl | hz
  · exact z1
  · have := ((Form.cons.1 hb).2.1 z hz).1
    have := (Form.cons.1 hb).1.2.1
    unfold Rn.fin at *
    omega
theorem Form.len_le {x y : Rn} {a b : List Rn} (ha : Form (x :: a)) (hb : Form (y :: b)) (e : ∀ s, page (x :: a) s = page (y :: b) s) (hl : x.lba = y.lba) (hp : x.phys = y.phys) : y.len ≤ x.len := by
  by_cases h : y.len ≤ x.len
  · exact h
  · have hx := (Form.cons.1 ha).1
    have hy := (Form.cons.1 hb).1
    have h1 : page (y :: b) x.fin = some (y.phys + (x.fin - y.lba)) := hb.page_of (by simp) (by unfold Rn.fin; have := hx.2.1; omega) (by unfold Rn.fin; omega)
    rw [← e] at h1
    obtain ⟨z, hz, z1, z2, z3⟩ := page_mem h1
    rcases List.mem_cons.1 hz with rfl | hz
    · omega
    · obtain ⟨g1, g2⟩ := (Form.cons.1 ha).2.1 z hz
      refine absurd ⟨?_, ?_⟩ g2
      · omega
      · unfold Rn.fin at *; omega
/-- A map has just one list of that form. -/
theorem Form.one : ∀ {a b : List Rn}, Form a → Form b → (∀ s, page a s = page b s) → a = b
  | [], [], _, _, _ => rfl
  | [], y :: b, _, hb, e => by
    have hy := (Form.cons.1 hb).1
    have h1 : page (y :: b) y.lba = some (y.phys + (y.lba - y.lba)) := hb.page_of (by simp) (Int.le_refl _) (by unfold Rn.fin; have := hy.2.1; omega)
    rw [← e] at h1; cases h1
  | x :: a, [], ha, _, e => by
    have hx := (Form.cons.1 ha).1
    have h1 : page (x :: a) x.lba = some (x.phys + (x.lba - x.lba)) := ha.page_of (by simp) (Int.le_refl _) (by unfold Rn.fin; have := hx.2.1; omega)
    rw [e] at h1; cases h1
  | x :: a, y :: b, ha, hb, e => by
    have e' : ∀ s, page (y :: b) s = page (x :: a) s := fun s => (e s).symm
    have hl : x.lba = y.lba := by have := ha.head_le hb e; have := hb.head_le ha e'; omega
    have hx := (Form.cons.1 ha).1
    have hy := (Form.cons.1 hb).1
    have hp : x.phys = y.phys := by
      have h1 : page (x :: a) x.lba = some (x.phys + (x.lba - x.lba)) := ha.page_of (by simp) (Int.le_refl _) (by unfold Rn.fin; have := hx.2.1; omega)
      have h2 : page (y :: b) x.lba = some (y.phys + (x.lba - y.lba)) := hb.page_of (by simp) (by omega) (by unfold Rn.fin; have := hy.2.1; omega)
      rw [e, h2] at h1
      injection h1 with h1
      omega
    have hn : x.len = y.len := by have := ha.len_le hb e hl hp; have := hb.len_le ha e' hl.symm hp.symm; omega
    have hxy : x = y := by cases x; cases y; simp only at *; subst hl hp hn; rfl
    subst hxy
    congr 1
    refine Form.one (Form.cons.1 ha).2.2 (Form.cons.1 hb).2.2 (fun s => ?_)
    by_cases h : s < x.fin
    · rw [ha.page_low h, hb.page_low h]
    · have := e s
      rwa [page, page, if_neg (by omega), if_neg (by omega)] at this
/-- One entry a sector: below 0 none. -/
def entry (t : List Int) (s : Int) : Option Int := if 0 ≤ s ∧ s < t.length ∧ 0 ≤ t.getD s.toNat (-1) then some (t.getD s.toNat (-1)) else none
/-- The last run, one sector longer. -/
def grow : List Rn → List Rn
  | [] => []
  | [x] => [⟨x.lba, x.len + 1, x.phys⟩]
  | x :: y :: m => x :: grow (y :: m)
theorem grow_snoc (m : List Rn) (x : Rn) : grow (m ++ [x]) = m ++ [⟨x.lba, x.len + 1, x.phys⟩] := by
  induction m with
  | nil => rfl
  | cons y m ih =>
    cases m with
    | nil => rfl
    | cons z m => rw [List.cons_append, List.cons_append, grow, ← List.cons_append, ih]; rfl
/-- The document's own runs of the first i entries. -/
def refR (t : List Int) : Nat → List Rn
  | 0 => []
  | i + 1 => if t.getD i (-1) < 0 then refR t i else if 0 < i ∧ 0 ≤ t.getD (i - 1) (-1) ∧ t.getD (i - 1) (-1) + 1 = t.getD i (-1) then grow (refR t i) else refR t i ++ [⟨(i : Int), 1, t.getD i (-1)⟩]
/-- What the runs of the first i entries are. -/
structure RefI (t : List Int) (i : Nat) (m : List Rn) : Prop where
  form : Form m
  page : ∀ s, page m s = if 0 ≤ s ∧ s < (i : Int) ∧ 0 ≤ t.getD s.toNat (-1) then some (t.getD s.toNat (-1)) else none
  fin : ∀ x ∈ m, x.fin ≤ (i : Int)
  last : 0 < i → 0 ≤ t.getD (i - 1) (-1) → ∃ a x, m = a ++ [x] ∧ x.fin = (i : Int) ∧ x.phys + x.len = t.getD (i - 1) (-1) + 1
theorem refR_ok (t : List Int) : ∀ i, RefI t i (refR t i)
  | 0 => ⟨Form.nil, fun s => by rw [refR, Tg.page, if_neg (by omega)], by simp [refR], by omega⟩
  | i + 1 => by
    have ih := refR_ok t i
    rw [refR]
    by_cases h1 : t.getD i (-1) < 0
    · rw [if_pos h1]
      refine ⟨ih.form, fun s => ?_, fun x hx => by have := ih.fin x hx; omega, fun _ h => ?_⟩
      · rw [ih.page s]
        by_cases e : s = (i : Int)
        · subst e
          rw [if_neg (by omega), if_neg (by rw [Int.toNat_natCast]; omega)]
        · by_cases e2 : 0 ≤ s ∧ s < (i : Int) ∧ 0 ≤ t.getD s.toNat (-1)
          · rw [if_pos e2, if_pos ⟨e2.1, by omega, e2.2.2⟩]
          · rw [if_neg e2, if_neg (by rintro ⟨a, b, c⟩; exact e2 ⟨a, by omega, c⟩)]
      · rw [Nat.add_sub_cancel] at h; omega
    · rw [if_neg h1]
      by_cases h2 : 0 < i ∧ 0 ≤ t.getD (i - 1) (-1) ∧ t.getD (i - 1) (-1) + 1 = t.getD i (-1)
      · rw [if_pos h2]
        obtain ⟨a, x, e, hf, hp⟩ := ih.last h2.1 h2.2.1
        rw [e, grow_snoc]
        have hform := ih.form
        rw [e] at hform
        obtain ⟨fa, fx, fax⟩ := Form.app.1 hform
        have hxo := (Form.cons.1 fx).1
        have hfin : (⟨x.lba, x.len + 1, x.phys⟩ : Rn).fin = (i : Int) + 1 := by unfold Rn.fin at *; simp only; omega
        refine ⟨Form.app.2 ⟨fa, Form.cons.2 ⟨⟨hxo.1, by have := hxo.2.1; simp only; omega, hxo.2.2⟩, by simp, Form.nil⟩, fun y hy z hz => ?_⟩, fun s => ?_, fun y hy => ?_, fun _ _ => ⟨a, _, rfl, by rw [hfin]; rfl, by rw [Nat.add_sub_cancel]; simp only; omega⟩⟩
        · rw [List.mem_singleton] at hz
          subst hz
          exact fax y hy x (by simp)
        · have ip := ih.page s
          rw [e, page_app] at ip
          rw [page_app]
          simp only [Tg.page] at ip ⊢
          rw [hfin]
          rw [hf] at ip
          by_cases e3 : s = (i : Int)
          · subst e3
            have hn : page a (i : Int) = none := page_none (fun y hy => by
              have := (fax y hy x (by simp)).1
              have := hxo.2.1
              unfold Rn.fin at *; omega)
            rw [hn, if_pos (by unfold Rn.fin at *; have := hxo.2.1; omega), if_pos (by rw [Int.toNat_natCast]; omega), Int.toNat_natCast]
            simp only [Option.none_or]
            congr 1
            unfold Rn.fin at hf
            omega
          · have c1 : (x.lba ≤ s ∧ s < (i : Int) + 1) ↔ (x.lba ≤ s ∧ s < (i : Int)) := by omega
            have c2 : (0 ≤ s ∧ s < ((i + 1 : Nat) : Int) ∧ 0 ≤ t.getD s.toNat (-1)) ↔ (0 ≤ s ∧ s < (i : Int) ∧ 0 ≤ t.getD s.toNat (-1)) := by
              constructor
              · rintro ⟨p1, p2, p3⟩; exact ⟨p1, by omega, p3⟩
              · rintro ⟨p1, p2, p3⟩; exact ⟨p1, by omega, p3⟩
            simp only [c1, c2]
            exact ip
        · rcases List.mem_append.1 hy with hy | hy
          · have := ih.fin y (by rw [e]; simp [hy]); omega
          · rw [List.mem_singleton] at hy; subst hy; rw [hfin]; omega
      · rw [if_neg h2]
        have hfin : (⟨(i : Int), 1, t.getD i (-1)⟩ : Rn).fin = (i : Int) + 1 := rfl
        refine ⟨Form.app.2 ⟨ih.form, Form.cons.2 ⟨⟨by simp only; omega, by simp, by simp only; omega⟩, by simp, Form.nil⟩, fun y hy z hz => ?_⟩, fun s => ?_, fun y hy => ?_, fun _ _ => ⟨_, _, rfl, by rw [hfin]; rfl, by rw [Nat.add_sub_cancel]⟩⟩
        · rw [List.mem_singleton] at hz
          subst hz
          have hyf := ih.fin y hy
          refine ⟨hyf, ?_⟩
          rintro ⟨g1, g2⟩
          simp only at g1 g2
          have hyo := ih.form.1 y hy
          have hpg := ih.form.page_of hy (s := (i : Int) - 1) (by unfold Rn.fin at *; have := hyo.2.1; omega) (by omega)
          rw [ih.page] at hpg
          by_cases c : 0 ≤ (i : Int) - 1 ∧ (i : Int) - 1 < (i : Int) ∧ 0 ≤ t.getD ((i : Int) - 1).toNat (-1)
          · rw [if_pos c] at hpg
            injection hpg with hpg
            have ei : ((i : Int) - 1).toNat = i - 1 := by omega
            rw [ei] at c hpg
            refine h2 ⟨by omega, c.2.2, ?_⟩
            unfold Rn.fin at *
            omega
          · rw [if_neg c] at hpg; cases hpg
        · rw [page_app, ih.page s]
          simp only [Tg.page, hfin]
          by_cases e3 : s = (i : Int)
          · subst e3
            rw [if_neg (by omega), if_pos (by omega), if_pos (by rw [Int.toNat_natCast]; omega), Int.toNat_natCast]
            simp
          · have c2 : (0 ≤ s ∧ s < ((i + 1 : Nat) : Int) ∧ 0 ≤ t.getD s.toNat (-1)) ↔ (0 ≤ s ∧ s < (i : Int) ∧ 0 ≤ t.getD s.toNat (-1)) := by
              constructor
              · rintro ⟨p1, p2, p3⟩; exact ⟨p1, by omega, p3⟩
              · rintro ⟨p1, p2, p3⟩; exact ⟨p1, by omega, p3⟩
            rw [if_neg (show ¬ ((i : Int) ≤ s ∧ s < (i : Int) + 1) by omega)]
            simp only [c2, Option.or_none]
        · rcases List.mem_append.1 hy with hy | hy
          · have := ih.fin y hy; omega
          · rw [List.mem_singleton] at hy; subst hy; rw [hfin]; omega
/-- The document's own runs are the one list of that form. -/
theorem refR_one (t : List Int) {m : List Rn} (h : Form m) (hp : ∀ s, page m s = entry t s) : m = refR t t.length := by
  have hr := refR_ok t t.length
  refine Form.one h hr.form (fun s => ?_)
  rw [hp, hr.page]
  rfl
/-- A run's part below a sector, and from a sector on. -/
def below1 (lo : Int) (x : Rn) : List Rn := if x.fin ≤ lo then [x] else if x.lba < lo then [⟨x.lba, lo - x.lba, x.phys⟩] else []
def above1 (hi : Int) (x : Rn) : List Rn := if hi ≤ x.lba then [x] else if hi < x.fin then [⟨hi, x.fin - hi, x.phys + (hi - x.lba)⟩] else []
def belowL (lo : Int) (m : List Rn) : List Rn := m.flatMap (below1 lo)
def aboveL (hi : Int) (m : List Rn) : List Rn := m.flatMap (above1 hi)
theorem below1_mem {lo : Int} {x y : Rn} (hx : x.Ok) (h : y ∈ below1 lo x) : y.Ok ∧ y.lba = x.lba ∧ y.phys = x.phys ∧ y.fin ≤ lo ∧ y.fin ≤ x.fin ∧ (y.fin = lo ∨ y = x) := by
  unfold below1 at h
  have := hx.2.1
  split at h
  · simp at h; subst h; exact ⟨hx, rfl, rfl, by assumption, Int.le_refl _, Or.inr rfl⟩
  · split at h
    · simp at h; subst h
      refine ⟨⟨hx.1, by simp only; omega, hx.2.2⟩, rfl, rfl, ?_, ?_, Or.inl ?_⟩ <;> unfold Rn.fin at * <;> simp only <;> omega
    · simp at h
theorem above1_mem {hi : Int} {x y : Rn} (h0 : 0 ≤ hi) (hx : x.Ok) (h : y ∈ above1 hi x) : y.Ok ∧ y.fin = x.fin ∧ y.phys + y.len = x.phys + x.len ∧ hi ≤ y.lba ∧ x.lba ≤ y.lba ∧ (y.lba = hi ∨ y = x) := by
  unfold above1 at h
  have := hx.2.1
  split at h
  · simp at h; subst h; exact ⟨hx, rfl, rfl, by assumption, Int.le_refl _, Or.inr rfl⟩
  · split at h
    · simp at h; subst h
      have := hx.2.2
      refine ⟨⟨h0, ?_, ?_⟩, ?_, ?_, Int.le_refl _, ?_, Or.inl rfl⟩ <;> unfold Rn.fin at * <;> simp only <;> omega
    · simp at h
theorem below1_page {lo : Int} {x : Rn} (s : Int) : page (below1 lo x) s = if s < lo then page [x] s else none := by
  unfold below1
  by_cases h1 : x.fin ≤ lo
  · rw [if_pos h1]
    by_cases h : s < lo
    · rw [if_pos h]
    · rw [if_neg h, page, if_neg (by omega)]; rfl
  · rw [if_neg h1]
    by_cases h2 : x.lba < lo
    · rw [if_pos h2]
      have hf : (⟨x.lba, lo - x.lba, x.phys⟩ : Rn).fin = lo := by unfold Rn.fin; simp only; omega
      simp only [page, hf]
      by_cases h : s < lo
      · rw [if_pos h]
        have : (x.lba ≤ s ∧ s < lo) ↔ (x.lba ≤ s ∧ s < x.fin) := by omega
        simp only [this]
      · rw [if_neg h, if_neg (by omega)]
    · rw [if_neg h2]
      by_cases h : s < lo
      · rw [if_pos h, page, page, if_neg (by omega)]; rfl
      · rw [if_neg h]; rfl
theorem above1_page {hi : Int} {x : Rn} (s : Int) : page (above1 hi x) s = if hi ≤ s then page [x] s else none := by
  unfold above1
  by_cases h1 : hi ≤ x.lba
  · rw [if_pos h1]
    by_cases h : hi ≤ s
    · rw [if_pos h]
    · rw [if_neg h, page, if_neg (by omega)]; rfl
  · rw [if_neg h1]
    by_cases h2 : hi < x.fin
    · rw [if_pos h2]
      have hf : (⟨hi, x.fin - hi, x.phys + (hi - x.lba)⟩ : Rn).fin = x.fin := by unfold Rn.fin; simp only; omega
      simp only [page, hf]
      by_cases h : hi ≤ s
      · rw [if_pos h]
        have : (hi ≤ s ∧ s < x.fin) ↔ (x.lba ≤ s ∧ s < x.fin) := by omega
        simp only [this]
        split
        · congr 1; omega
        · rfl
      · rw [if_neg h, if_neg (by omega)]
    · rw [if_neg h2]
      by_cases h : hi ≤ s
      · rw [if_pos h, page, page, if_neg (by omega)]; rfl
      · rw [if_neg h]; rfl
theorem belowL_cons (lo : Int) (x : Rn) (m : List Rn) : belowL lo (x :: m) = below1 lo x ++ belowL lo m := rfl
theorem aboveL_cons (hi : Int) (x : Rn) (m : List Rn) : aboveL hi (x :: m) = above1 hi x ++ aboveL hi m := rfl
theorem belowL_page (lo : Int) (m : List Rn) (s : Int) : page (belowL lo m) s = if s < lo then page m s else none := by
  induction m with
  | nil => simp [belowL, page]
  | cons x m ih =>
    rw [belowL_cons, page_app, below1_page, ih, show x :: m = [x] ++ m from rfl, page_app]
    split <;> rfl
theorem aboveL_page (hi : Int) (m : List Rn) (s : Int) : page (aboveL hi m) s = if hi ≤ s then page m s else none := by
  induction m with
  | nil => simp [aboveL, page]
  | cons x m ih =>
    rw [aboveL_cons, page_app, above1_page, ih, show x :: m = [x] ++ m from rfl, page_app]
    split <;> rfl
theorem belowL_mem {lo : Int} {m : List Rn} {y : Rn} (h : y ∈ belowL lo m) : ∃ x ∈ m, y ∈ below1 lo x := List.mem_flatMap.1 h
theorem aboveL_mem {hi : Int} {m : List Rn} {y : Rn} (h : y ∈ aboveL hi m) : ∃ x ∈ m, y ∈ above1 hi x := List.mem_flatMap.1 h
theorem one_below (lo : Int) (x : Rn) : below1 lo x = [] ∨ ∃ y, below1 lo x = [y] := by
  unfold below1
  split
  · exact Or.inr ⟨_, rfl⟩
  · split
    · exact Or.inr ⟨_, rfl⟩
    · exact Or.inl rfl
theorem one_above (hi : Int) (x : Rn) : above1 hi x = [] ∨ ∃ y, above1 hi x = [y] := by
  unfold above1
  split
  · exact Or.inr ⟨_, rfl⟩
  · split
    · exact Or.inr ⟨_, rfl⟩
    · exact Or.inl rfl
theorem Form.single {y : Rn} (h : y.Ok) : Form [y] := Form.cons.2 ⟨h, by simp, Form.nil⟩
theorem belowL_fin {lo : Int} {m : List Rn} (h : Form m) {y : Rn} (hy : y ∈ belowL lo m) : y.fin ≤ lo := by
  obtain ⟨x, hx, hy⟩ := belowL_mem hy
  exact (below1_mem (h.1 x hx) hy).2.2.2.1
theorem aboveL_lba {hi : Int} (h0 : 0 ≤ hi) {m : List Rn} (h : Form m) {y : Rn} (hy : y ∈ aboveL hi m) : hi ≤ y.lba := by
  obtain ⟨x, hx, hy⟩ := aboveL_mem hy
  exact (above1_mem h0 (h.1 x hx) hy).2.2.2.1
theorem belowL_form (lo : Int) : ∀ {m : List Rn}, Form m → Form (belowL lo m)
  | [], _ => Form.nil
  | x :: m, h => by
    obtain ⟨hx, hr, hm⟩ := Form.cons.1 h
    rw [belowL_cons]
    refine Form.app.2 ⟨?_, belowL_form lo hm, fun y hy z hz => ?_⟩
    · rcases one_below lo x with e | ⟨y, e⟩
      · rw [e]; exact Form.nil
      · rw [e]; exact Form.single (below1_mem hx (by rw [e]; simp)).1
    · obtain ⟨o1, o2, o3, o4, o5, o6⟩ := below1_mem hx hy
      obtain ⟨w, hw, hz⟩ := belowL_mem hz
      obtain ⟨p1, p2, p3, p4, p5, p6⟩ := below1_mem (hm.1 w hw) hz
      have g := hr w hw
      refine ⟨by omega, ?_⟩
      rintro ⟨g1, g2⟩
      rcases o6 with o6 | rfl
      · have := p1.2.1
        unfold Rn.fin at *
        omega
      · exact g.2 ⟨by omega, by omega⟩
theorem aboveL_form {hi : Int} (h0 : 0 ≤ hi) : ∀ {m : List Rn}, Form m → Form (aboveL hi m)
  | [], _ => Form.nil
  | x :: m, h => by
    obtain ⟨hx, hr, hm⟩ := Form.cons.1 h
    rw [aboveL_cons]
    refine Form.app.2 ⟨?_, aboveL_form h0 hm, fun y hy z hz => ?_⟩
    · rcases one_above hi x with e | ⟨y, e⟩
      · rw [e]; exact Form.nil
      · rw [e]; exact Form.single (above1_mem h0 hx (by rw [e]; simp)).1
    · obtain ⟨o1, o2, o3, o4, o5, o6⟩ := above1_mem h0 hx hy
      obtain ⟨w, hw, hz⟩ := aboveL_mem hz
      obtain ⟨p1, p2, p3, p4, p5, p6⟩ := above1_mem h0 (hm.1 w hw) hz
      have g := hr w hw
      refine ⟨by omega, ?_⟩
      rintro ⟨g1, g2⟩
      rcases p6 with p6 | rfl
      · have := o1.2.1
        unfold Rn.fin at *
        omega
      · exact g.2 ⟨by omega, by omega⟩
/-- A range cleared. -/
def clearL (lo hi : Int) (m : List Rn) : List Rn := belowL lo m ++ aboveL hi m
theorem clearL_form {lo hi : Int} (h0 : 0 ≤ lo) (hl : lo < hi) {m : List Rn} (h : Form m) : Form (clearL lo hi m) :=
  Form.app.2 ⟨belowL_form lo h, aboveL_form (by omega) h, fun y hy z hz => by
    have h1 := belowL_fin h hy
    have h2 := aboveL_lba (by omega) h hz
    exact ⟨by omega, fun g => by have := g.1; omega⟩⟩
theorem clearL_page {lo hi : Int} (hl : lo ≤ hi) (m : List Rn) (s : Int) : page (clearL lo hi m) s = if lo ≤ s ∧ s < hi then none else page m s := by
  unfold clearL
  rw [page_app, belowL_page, aboveL_page]
  by_cases h1 : s < lo
  · rw [if_pos h1, if_neg (show ¬ hi ≤ s by omega), if_neg (by omega), Option.or_none]
  · rw [if_neg h1]
    by_cases h2 : hi ≤ s
    · rw [if_pos h2, if_neg (by omega)]; rfl
    · rw [if_neg h2, if_pos (by omega)]; rfl
/-- A run ahead of a list, joined where it goes on. -/
def consG (x : Rn) : List Rn → List Rn
  | [] => [x]
  | y :: m => if x.fin = y.lba ∧ x.phys + x.len = y.phys then ⟨x.lba, x.len + y.len, x.phys⟩ :: m else x :: y :: m
/-- A list ahead of a list, its last one joined where it goes on. -/
def appG : List Rn → List Rn → List Rn
  | [], m => m
  | [x], m => consG x m
  | x :: y :: a, m => x :: appG (y :: a) m
theorem consG_form {x : Rn} {m : List Rn} (hx : x.Ok) (hm : Form m) (hr : ∀ y ∈ m, x.fin ≤ y.lba) : Form (consG x m) := by
  cases m with
  | nil => exact Form.single hx
  | cons y m =>
    obtain ⟨hy, hz, hm'⟩ := Form.cons.1 hm
    rw [consG]
    split
    · next e =>
      refine Form.cons.2 ⟨⟨hx.1, by have := hx.2.1; have := hy.2.1; simp only; omega, hx.2.2⟩, fun z hz' => ?_, hm'⟩
      have g := hz z hz'
      have hf : (⟨x.lba, x.len + y.len, x.phys⟩ : Rn).fin = y.fin := by unfold Rn.fin at *; simp only; omega
      refine ⟨by rw [hf]; exact g.1, ?_⟩
      rintro ⟨g1, g2⟩
      rw [hf] at g1
      refine g.2 ⟨g1, ?_⟩
      simp only at g2
      omega
    · next e =>
      refine Form.cons.2 ⟨hx, fun z hz' => ?_, hm⟩
      rcases List.mem_cons.1 hz' with rfl | hz'
      · exact ⟨hr z (by simp), e⟩
      · have := hr z (by simp [hz'])
        have g := (hz z hz').1
        have h1 := hr y (by simp)
        have := hy.2.1
        refine ⟨by omega, fun g' => ?_⟩
        have := g'.1
        unfold Rn.fin at *
        omega
theorem consG_page (x : Rn) (m : List Rn) (hx : 0 ≤ x.len) (hm : ∀ y ∈ m, 0 ≤ y.len) (s : Int) : page (consG x m) s = page (x :: m) s := by
  cases m with
  | nil => rfl
  | cons y m =>
    rw [consG]
    split
    · next e =>
      have hy := hm y (by simp)
      have hf : (⟨x.lba, x.len + y.len, x.phys⟩ : Rn).fin = y.fin := by unfold Rn.fin at *; simp only; omega
      simp only [page, hf]
      by_cases h1 : x.lba ≤ s ∧ s < x.fin
      · rw [if_pos h1, if_pos (by unfold Rn.fin at *; omega)]
      · rw [if_neg h1]
        by_cases h2 : y.lba ≤ s ∧ s < y.fin
        · rw [if_pos h2, if_pos (by unfold Rn.fin at *; omega)]
          congr 1
          unfold Rn.fin at *
          omega
        · rw [if_neg h2, if_neg (by unfold Rn.fin at *; omega)]
    · rfl
theorem consG_head {x : Rn} {m : List Rn} {z : Rn} (h : z ∈ consG x m) : (z.lba = x.lba ∧ z.phys = x.phys) ∨ z ∈ m := by
  cases m with
  | nil => simp [consG] at h; exact Or.inl (by rw [h]; exact ⟨rfl, rfl⟩)
  | cons y m =>
    rw [consG] at h
    split at h
    · rcases List.mem_cons.1 h with rfl | h
      · exact Or.inl ⟨rfl, rfl⟩
      · exact Or.inr (by simp [h])
    · rcases List.mem_cons.1 h with rfl | h
      · exact Or.inl ⟨rfl, rfl⟩
      · exact Or.inr h
theorem appG_head : ∀ {a m : List Rn} {z : Rn}, z ∈ appG a m → (∃ w ∈ a, z.lba = w.lba ∧ z.phys = w.phys) ∨ z ∈ m
  | [], _, _, h => Or.inr h
  | [x], _, _, h => (consG_head h).imp (fun e => ⟨x, by simp, e⟩) id
  | x :: y :: a, m, z, h => by
    rw [appG] at h
    rcases List.mem_cons.1 h with rfl | h
    · exact Or.inl ⟨z, by simp, rfl, rfl⟩
    · exact (appG_head h).imp (fun ⟨w, hw, e⟩ => ⟨w, List.mem_cons_of_mem _ hw, e⟩) id
theorem appG_form : ∀ {a m : List Rn}, Form a → Form m → (∀ x ∈ a, ∀ y ∈ m, x.fin ≤ y.lba) → Form (appG a m)
  | [], m, _, hm, _ => hm
  | [x], m, ha, hm, h => consG_form (Form.cons.1 ha).1 hm (h x (by simp))
  | x :: y :: a, m, ha, hm, h => by
    obtain ⟨hx, hr, ha'⟩ := Form.cons.1 ha
    have ih := appG_form ha' hm (fun z hz w hw => h z (List.mem_cons_of_mem _ hz) w hw)
    rw [appG]
    have hyl := (Form.cons.1 ha').1.2.1
    have hxy := (hr y (by simp)).1
    refine Form.cons.2 ⟨hx, fun z hz => ?_, ih⟩
    rcases appG_head hz with ⟨w, hw, e1, e2⟩ | hz
    · have g := hr w hw
      refine ⟨by rw [e1]; exact g.1, fun g' => g.2 ?_⟩
      unfold Glued at g' ⊢; rw [e1, e2] at g'
      exact g'
    · have g := h y (by simp) z hz
      refine ⟨by unfold Rn.fin at *; omega, fun g' => ?_⟩
      have := g'.1
      unfold Rn.fin at *
      omega
theorem appG_page : ∀ {a m : List Rn}, (∀ x ∈ a, 0 ≤ x.len) → (∀ x ∈ m, 0 ≤ x.len) → ∀ s, page (appG a m) s = page (a ++ m) s
  | [], _, _, _, _ => rfl
  | [x], m, ha, hm, s => consG_page x m (ha x (by simp)) hm s
  | x :: y :: a, m, ha, hm, s => by
    rw [appG, List.cons_append]
    simp only [page]
    rw [appG_page (fun z hz => ha z (List.mem_cons_of_mem _ hz)) hm s]
/-- A run set: what lies below it, itself, what lies above it, joined where they go on. -/
def setL (r : Rn) (m : List Rn) : List Rn := appG (belowL r.lba m) (consG r (aboveL r.fin m))
theorem Form.len {m : List Rn} (h : Form m) {x : Rn} (hx : x ∈ m) : 0 ≤ x.len := by
  have := (h.1 x hx).2.1; omega
theorem setL_form {r : Rn} (hr : r.Ok) {m : List Rn} (h : Form m) : Form (setL r m) := by
  have h1 : 0 ≤ r.fin := by have := hr.1; have := hr.2.1; unfold Rn.fin; omega
  refine appG_form (belowL_form _ h) (consG_form hr (aboveL_form h1 h) fun y hy => aboveL_lba h1 h hy) fun x hx y hy => ?_
  have g := belowL_fin h hx
  rcases consG_head hy with e | e
  · rw [e.1]; exact g
  · have := aboveL_lba h1 h e
    have := hr.2.1
    unfold Rn.fin at *
    omega
theorem setL_page {r : Rn} (hr : r.Ok) {m : List Rn} (h : Form m) (s : Int) : page (setL r m) s = if r.lba ≤ s ∧ s < r.fin then some (r.phys + (s - r.lba)) else page m s := by
  have h1 : 0 ≤ r.fin := by have := hr.1; have := hr.2.1; unfold Rn.fin; omega
  have h2 := hr.2.1
  have hf := aboveL_form h1 h
  have hb := belowL_form r.lba h
  have hc : Form (consG r (aboveL r.fin m)) := consG_form hr hf fun y hy => aboveL_lba h1 h hy
  rw [setL, appG_page (fun x hx => hb.len hx) (fun x hx => hc.len hx), page_app, consG_page _ _ (by omega) (fun x hx => hf.len hx), belowL_page]
  simp only [page]
  rw [aboveL_page]
  by_cases e1 : s < r.lba
  · rw [if_pos e1, if_neg (show ¬ (r.lba ≤ s ∧ s < r.fin) by omega), if_neg (show ¬ (r.lba ≤ s ∧ s < r.fin) by omega), if_neg (show ¬ r.fin ≤ s by unfold Rn.fin at *; omega), Option.or_none]
  · rw [if_neg e1]
    by_cases e2 : r.lba ≤ s ∧ s < r.fin
    · rw [if_pos e2, if_pos e2]; rfl
    · rw [if_neg e2, if_neg e2, if_pos (by omega)]; rfl
/-- The entries with the first k of a range put (a page below 0: nowhere). -/
def putN (t : List Int) (lba : Nat) (phys : Int) : Nat → List Int
  | 0 => t
  | k + 1 => (putN t lba phys k).set (lba + k) (if phys < 0 then -1 else phys + k)
theorem putN_len (t : List Int) (lba : Nat) (phys : Int) : ∀ k, (putN t lba phys k).length = t.length
  | 0 => rfl
  | k + 1 => by rw [putN, List.length_set, putN_len t lba phys k]
theorem putN_get (t : List Int) (lba : Nat) (phys : Int) : ∀ k, lba + k ≤ t.length → ∀ j, (putN t lba phys k).getD j (-1) = if lba ≤ j ∧ j < lba + k then (if phys < 0 then -1 else phys + ((j : Int) - lba)) else t.getD j (-1)
  | 0, _, j => by rw [putN, if_neg (by omega)]
  | k + 1, h, j => by
    have ih := putN_get t lba phys k (by omega) j
    rw [putN, List.getD_eq_getElem?_getD, List.getElem?_set, putN_len]
    by_cases e : lba + k = j
    · subst e
      have e3 : ((lba + k : Nat) : Int) - lba = k := by omega
      rw [if_pos rfl, if_pos (show lba + k < t.length by omega), Option.getD_some, if_pos (show lba ≤ lba + k ∧ lba + k < lba + (k + 1) by omega), e3]
    · rw [if_neg e, ← List.getD_eq_getElem?_getD, ih]
      by_cases e2 : lba ≤ j ∧ j < lba + k
      · rw [if_pos e2, if_pos (show lba ≤ j ∧ j < lba + (k + 1) by omega)]
      · rw [if_neg e2, if_neg (show ¬ (lba ≤ j ∧ j < lba + (k + 1)) by omega)]
theorem putN_entry (t : List Int) (lba n : Nat) (phys : Int) (h : lba + n ≤ t.length) (s : Int) : entry (putN t lba phys n) s = if (lba : Int) ≤ s ∧ s < (lba : Int) + n then (if phys < 0 then none else some (phys + (s - lba))) else entry t s := by
  unfold entry
  rw [putN_len, putN_get t lba phys n h]
  by_cases e : (lba : Int) ≤ s ∧ s < (lba : Int) + n
  · rw [if_pos e]
    have e2 : lba ≤ s.toNat ∧ s.toNat < lba + n := by omega
    rw [if_pos e2]
    by_cases e3 : phys < 0
    · rw [if_pos e3, if_pos e3, if_neg (by omega)]
    · have e4 : ((s.toNat : Nat) : Int) = s := by omega
      rw [if_neg e3, if_neg e3, e4, if_pos (by omega)]
  · rw [if_neg e]
    by_cases e1 : 0 ≤ s
    · rw [if_neg (show ¬ (lba ≤ s.toNat ∧ s.toNat < lba + n) by omega)]
    · rw [if_neg (by omega), if_neg (by omega)]
/-- Are these runs those of these entries? -/
def Of (t : List Int) (m : List Rn) : Prop := Form m ∧ ∀ s, page m s = entry t s
theorem Of.runs {t : List Int} {m : List Rn} (h : Of t m) : m = refR t t.length := refR_one t h.1 h.2
theorem refR_of (t : List Int) : Of t (refR t t.length) := ⟨(refR_ok t t.length).form, fun s => by rw [(refR_ok t t.length).page]; rfl⟩
theorem Of.fin {t : List Int} {m : List Rn} (h : Of t m) {x : Rn} (hx : x ∈ m) : x.fin ≤ (t.length : Int) := by
  rw [h.runs] at hx
  exact (refR_ok t t.length).fin x hx
theorem Of.set {t : List Int} {m : List Rn} (h : Of t m) {lba n : Nat} {phys : Int} (hn : 1 ≤ n) (hp : 0 ≤ phys) (hr : lba + n ≤ t.length) : Of (putN t lba phys n) (setL ⟨(lba : Int), (n : Int), phys⟩ m) := by
  have ho : (⟨(lba : Int), (n : Int), phys⟩ : Rn).Ok := ⟨by simp only; omega, by simp only; omega, hp⟩
  refine ⟨setL_form ho h.1, fun s => ?_⟩
  rw [setL_page ho h.1, putN_entry t lba n phys hr, h.2 s, if_neg (show ¬ phys < 0 by omega)]
  rfl
theorem Of.clear {t : List Int} {m : List Rn} (h : Of t m) {lba n : Nat} {phys : Int} (hn : 1 ≤ n) (hp : phys < 0) (hr : lba + n ≤ t.length) : Of (putN t lba phys n) (clearL (lba : Int) ((lba : Int) + n) m) := by
  refine ⟨clearL_form (by omega) (by omega) h.1, fun s => ?_⟩
  rw [clearL_page (by omega), putN_entry t lba n phys hr, h.2 s, if_pos hp]
/-- No run goes on where it ends. -/
theorem Form.stop {m : List Rn} (h : Form m) {x : Rn} (hx : x ∈ m) : page m x.fin ≠ some (x.phys + x.len) := by
  intro e
  obtain ⟨z, hz, z1, z2, z3⟩ := page_mem e
  have hxo := (h.1 x hx).2.1
  induction m with
  | nil => cases hx
  | cons y m ih =>
    obtain ⟨hy, hr, hm⟩ := Form.cons.1 h
    rcases List.mem_cons.1 hx with rfl | hx'
    · rcases List.mem_cons.1 hz with rfl | hz
      · omega
      · have g := hr z hz
        exact g.2 ⟨by omega, by unfold Rn.fin at *; omega⟩
    · rcases List.mem_cons.1 hz with rfl | hz
      · have g := (hr x hx').1
        unfold Rn.fin at *
        omega
      · refine ih hm hx' ?_ hz
        rw [page] at e
        have g := (hr x hx').1
        rwa [if_neg (by unfold Rn.fin at *; omega)] at e
/-- Does a piece tell a sector (a page below 0: nowhere)? -/
def Fit (f : Int → Option Int) (x : Rn) (s : Int) : Prop := f s = if x.phys < 0 then none else some (x.phys + (s - x.lba))
/-- A range cut into the fewest pieces, in order. -/
def Cut (f : Int → Option Int) (hi : Int) : Int → List Rn → Prop
  | lo, [] => lo = hi
  | lo, x :: m => x.lba = lo ∧ 1 ≤ x.len ∧ -1 ≤ x.phys ∧ x.fin ≤ hi ∧ (∀ s, lo ≤ s → s < x.fin → Fit f x s) ∧ (x.fin = hi ∨ ¬ Fit f x x.fin) ∧ Cut f hi x.fin m
theorem Cut.len_le {f : Int → Option Int} {hi lo : Int} {x y : Rn} {a b : List Rn} (ha : Cut f hi lo (x :: a)) (hb : Cut f hi lo (y :: b)) (hp : x.phys = y.phys) : y.len ≤ x.len := by
  by_cases h : y.len ≤ x.len
  · exact h
  · obtain ⟨a1, a2, a3, a4, a5, a6, a7⟩ := ha
    obtain ⟨b1, b2, b3, b4, b5, b6, b7⟩ := hb
    have hlt : x.fin < y.fin := by unfold Rn.fin; omega
    rcases a6 with a6 | a6
    · omega
    · refine absurd ?_ a6
      have := b5 x.fin (by unfold Rn.fin; omega) hlt
      unfold Fit at *
      rw [hp, a1, ← b1]; exact this
/-- There is just one such cut. -/
theorem Cut.one {f : Int → Option Int} {hi : Int} : ∀ {lo : Int} {a b : List Rn}, Cut f hi lo a → Cut f hi lo b → a = b
  | _, [], [], _, _ => rfl
  | lo, [], y :: b, ha, hb => by
    obtain ⟨b1, b2, b3, b4, -⟩ := hb
    have : lo = hi := ha
    unfold Rn.fin at *; omega
  | lo, x :: a, [], ha, hb => by
    obtain ⟨b1, b2, b3, b4, -⟩ := ha
    have : lo = hi := hb
    unfold Rn.fin at *; omega
  | lo, x :: a, y :: b, ha, hb => by
    have ha' := ha
    have hb' := hb
    obtain ⟨a1, a2, a3, a4, a5, a6, a7⟩ := ha'
    obtain ⟨b1, b2, b3, b4, b5, b6, b7⟩ := hb'
    have hp : x.phys = y.phys := by
      have h1 := a5 lo (Int.le_refl _) (by unfold Rn.fin; omega)
      have h2 := b5 lo (Int.le_refl _) (by unfold Rn.fin; omega)
      unfold Fit at h1 h2
      rw [h1] at h2
      by_cases c1 : x.phys < 0
      · by_cases c2 : y.phys < 0
        · omega
        · rw [if_pos c1, if_neg c2] at h2; cases h2
      · by_cases c2 : y.phys < 0
        · rw [if_neg c1, if_pos c2] at h2; cases h2
        · rw [if_neg c1, if_neg c2] at h2
          injection h2 with h2
          omega
    have hn : x.len = y.len := by have := ha.len_le hb hp; have := hb.len_le ha hp.symm; omega
    have hxy : x = y := by cases x; cases y; simp only at *; subst hp hn; rw [a1, b1]
    subst hxy
    congr 1
    exact Cut.one a7 b7
/-- Pieces each of which ends where it must. -/
def Pre (f : Int → Option Int) : Int → Int → List Rn → Prop
  | lo, hi, [] => lo = hi
  | lo, hi, x :: m => x.lba = lo ∧ 1 ≤ x.len ∧ -1 ≤ x.phys ∧ (∀ s, lo ≤ s → s < x.fin → Fit f x s) ∧ ¬ Fit f x x.fin ∧ Pre f x.fin hi m
theorem Pre.le {f : Int → Option Int} : ∀ {lo hi : Int} {a : List Rn}, Pre f lo hi a → lo ≤ hi
  | _, _, [], h => Int.le_of_eq h
  | lo, hi, x :: a, ⟨h1, h2, _, _, _, h⟩ => by have := h.le; unfold Rn.fin at this; omega
theorem Pre.snoc {f : Int → Option Int} : ∀ {lo : Int} {a : List Rn} {x : Rn}, Pre f lo x.lba a → 1 ≤ x.len → -1 ≤ x.phys → (∀ s, x.lba ≤ s → s < x.fin → Fit f x s) → ¬ Fit f x x.fin → Pre f lo x.fin (a ++ [x])
  | _, [], _, h, h1, h2, h3, h4 => by
    have h : _ = _ := h
    exact ⟨h.symm, h1, h2, fun s hs => h3 s (by omega), h4, rfl⟩
  | _, _ :: _, _, ⟨g1, g2, g3, g4, g5, g6⟩, h1, h2, h3, h4 => ⟨g1, g2, g3, g4, g5, g6.snoc h1 h2 h3 h4⟩
theorem Pre.cut {f : Int → Option Int} {hi mid : Int} (hm : mid ≤ hi) {b : List Rn} (hb : Cut f hi mid b) : ∀ {lo : Int} {a : List Rn}, Pre f lo mid a → Cut f hi lo (a ++ b)
  | _, [], h => by
    have h : _ = _ := h
    subst h
    exact hb
  | _, _ :: _, ⟨g1, g2, g3, g4, g5, g6⟩ => ⟨g1, g2, g3, by have := g6.le; omega, g4, Or.inr g5, Pre.cut hm hb g6⟩
/-- The document's own cut of the first i sectors behind a sector. -/
def refP (t : List Int) (lba : Nat) : Nat → List Rn
  | 0 => []
  | i + 1 => if 0 < i ∧ (t.getD (lba + i) (-1) < 0 ∧ t.getD (lba + i - 1) (-1) < 0 ∨ 0 ≤ t.getD (lba + i) (-1) ∧ 0 ≤ t.getD (lba + i - 1) (-1) ∧ t.getD (lba + i - 1) (-1) + 1 = t.getD (lba + i) (-1)) then grow (refP t lba i) else refP t lba i ++ [⟨((lba + i : Nat) : Int), 1, if t.getD (lba + i) (-1) < 0 then -1 else t.getD (lba + i) (-1)⟩]
theorem entry_nat {t : List Int} {i : Nat} (h : i < t.length) : entry t (i : Int) = if t.getD i (-1) < 0 then none else some (t.getD i (-1)) := by
  unfold entry
  rw [Int.toNat_natCast]
  by_cases c : t.getD i (-1) < 0
  · rw [if_pos c, if_neg (by omega)]
  · rw [if_neg c, if_pos (by omega)]
theorem refP_ok (t : List Int) (lba : Nat) : ∀ i, lba + (i + 1) ≤ t.length → ∃ a x, refP t lba (i + 1) = a ++ [x] ∧ Pre (entry t) lba x.lba a ∧ x.fin = ((lba + (i + 1) : Nat) : Int) ∧ 1 ≤ x.len ∧ -1 ≤ x.phys ∧ ∀ s, x.lba ≤ s → s < x.fin → Fit (entry t) x s
  | 0, h => by
    refine ⟨[], _, by rw [refP, if_neg (by omega), refP], by show (lba : Int) = _; rfl, rfl, by simp, by simp only; split <;> omega, fun s h1 h2 => ?_⟩
    unfold Rn.fin at h2
    simp only at h1 h2
    have e : s = ((lba + 0 : Nat) : Int) := by omega
    subst e
    unfold Fit
    rw [entry_nat (by omega)]
    by_cases c : t.getD (lba + 0) (-1) < 0
    · simp only [if_pos c]; rfl
    · simp only [if_neg c]; simp
  | i + 1, h => by
    obtain ⟨a, x, e, hpre, hf, hl, hp, hfit⟩ := refP_ok t lba i (by omega)
    have hs : ∀ k : Nat, k < t.length → (Fit (entry t) x (k : Int) ↔ (t.getD k (-1) < 0 ∧ x.phys < 0 ∨ 0 ≤ t.getD k (-1) ∧ 0 ≤ x.phys ∧ x.phys + ((k : Int) - x.lba) = t.getD k (-1))) := by
      intro k hk
      unfold Fit
      rw [entry_nat hk]
      generalize t.getD k (-1) = v
      by_cases c1 : v < 0
      · by_cases c2 : x.phys < 0
        · rw [if_pos c1, if_pos c2]; exact ⟨fun _ => Or.inl ⟨c1, c2⟩, fun _ => rfl⟩
        · rw [if_pos c1, if_neg c2]; exact ⟨fun e => (by cases e), fun _ => by omega⟩
      · by_cases c2 : x.phys < 0
        · rw [if_neg c1, if_pos c2]; exact ⟨fun e => (by cases e), fun _ => by omega⟩
        · rw [if_neg c1, if_neg c2]; exact ⟨fun e => by injection e with e; omega, fun _ => by congr 1; omega⟩
    have hlast := (hs (lba + i) (by omega)).1 (hfit _ (by unfold Rn.fin at hf; omega) (by omega))
    have hnext := hs (lba + (i + 1)) (by omega)
    have hk : lba + (i + 1) - 1 = lba + i := by omega
    unfold Rn.fin at hf
    rw [refP, hk]
    split
    · next c =>
      have c := c.2
      have hfits : Fit (entry t) x ((lba + (i + 1) : Nat) : Int) := hnext.2 (by omega)
      rw [e, grow_snoc]
      refine ⟨a, _, rfl, hpre, by unfold Rn.fin; simp only; omega, by simp only; omega, hp, fun s h1 h2 => ?_⟩
      unfold Rn.fin at h2
      simp only at h1 h2
      show Fit (entry t) x s
      by_cases c3 : s < x.fin
      · exact hfit s h1 c3
      · have : s = ((lba + (i + 1) : Nat) : Int) := by unfold Rn.fin at c3; omega
        rw [this]; exact hfits
    · next c =>
      have hno : ¬ Fit (entry t) x x.fin := by
        rw [show x.fin = ((lba + (i + 1) : Nat) : Int) from hf, hnext]
        omega
      rw [e]
      refine ⟨a ++ [x], _, rfl, ?_, rfl, by simp, by simp only; split <;> omega, fun s h1 h2 => ?_⟩
      · show Pre (entry t) lba ((lba + (i + 1) : Nat) : Int) (a ++ [x])
        rw [← show x.fin = ((lba + (i + 1) : Nat) : Int) from hf]
        exact hpre.snoc hl hp hfit hno
      · unfold Rn.fin at h2
        simp only at h1 h2
        have e : s = ((lba + (i + 1) : Nat) : Int) := by omega
        subst e
        unfold Fit
        rw [entry_nat (by omega)]
        by_cases c : t.getD (lba + (i + 1)) (-1) < 0
        · simp only [if_pos c]; rfl
        · simp only [if_neg c]; simp
/-- The document's own cut is the one. -/
theorem refP_cut (t : List Int) (lba n : Nat) (h : lba + n ≤ t.length) : Cut (entry t) ((lba : Int) + n) lba (refP t lba n) := by
  cases n with
  | zero => show (lba : Int) = _; simp
  | succ i =>
    obtain ⟨a, x, e, hpre, hf, hl, hp, hfit⟩ := refP_ok t lba i h
    rw [e]
    refine hpre.cut (by unfold Rn.fin at hf; omega) ?_
    exact ⟨rfl, hl, hp, by omega, hfit, Or.inl (by omega), by show x.fin = _; omega⟩
theorem Of.cut {t : List Int} {m : List Rn} (h : Of t m) {lba n : Nat} (hr : lba + n ≤ t.length) {p : List Rn} (hc : Cut (page m) ((lba : Int) + n) lba p) : p = refP t lba n := by
  have e : page m = entry t := funext h.2
  rw [e] at hc
  exact hc.one (refP_cut t lba n hr)
/-- No more runs than sectors. -/
theorem Form.count : ∀ {m : List Rn} {lo hi : Int}, Form m → lo ≤ hi → (∀ x ∈ m, lo ≤ x.lba ∧ x.fin ≤ hi) → lo + m.length ≤ hi
  | [], lo, hi, _, h, _ => by simp; exact h
  | x :: m, lo, hi, hm, _, hx => by
    obtain ⟨ho, hr, hm'⟩ := Form.cons.1 hm
    have h1 := hx x (by simp)
    have h2 := ho.2.1
    have ih := Form.count (lo := x.fin) (hi := hi) hm' h1.2 (fun y hy => ⟨(hr y hy).1, (hx y (by simp [hy])).2⟩)
    rw [List.length_cons]
    unfold Rn.fin at *
    omega
theorem Of.count {t : List Int} {m : List Rn} (h : Of t m) : m.length ≤ t.length := by
  have := h.1.count (lo := 0) (hi := t.length) (by omega) (fun x hx => ⟨(h.1.1 x hx).1, h.fin hx⟩)
  omega
/-- What is there already, set again. -/
theorem setL_same {r : Rn} (hr : r.Ok) {m : List Rn} (h : Form m) (hs : ∀ s, r.lba ≤ s → s < r.fin → page m s = some (r.phys + (s - r.lba))) : setL r m = m :=
  Form.one (setL_form hr h) h (fun s => by
    rw [setL_page hr h]
    split
    · next c => rw [hs s c.1 c.2]
    · rfl)
theorem clearL_same {lo hi : Int} (h0 : 0 ≤ lo) (hl : lo < hi) {m : List Rn} (h : Form m) (hs : ∀ s, lo ≤ s → s < hi → page m s = none) : clearL lo hi m = m :=
  Form.one (clearL_form h0 hl h) h (fun s => by
    rw [clearL_page (by omega)]
    split
    · next c => rw [hs s c.1 c.2]
    · rfl)
/-- Every piece of a cut lies in its range and fits. -/
theorem Cut.mem {f : Int → Option Int} {hi : Int} : ∀ {lo : Int} {p : List Rn}, Cut f hi lo p → ∀ x ∈ p, lo ≤ x.lba ∧ 1 ≤ x.len ∧ -1 ≤ x.phys ∧ x.fin ≤ hi ∧ ∀ s, x.lba ≤ s → s < x.fin → Fit f x s
  | _, [], _, x, hx => by cases hx
  | lo, y :: p, ⟨h1, h2, h3, h4, h5, _, h7⟩, x, hx => by
    rcases List.mem_cons.1 hx with rfl | hx
    · exact ⟨by omega, h2, h3, h4, fun s hs => h5 s (by omega)⟩
    · obtain ⟨g1, g2⟩ := h7.mem x hx
      exact ⟨by unfold Rn.fin at g1; omega, g2⟩
/-- A run ahead of all others, set. -/
theorem setL_cons {x : Rn} {m : List Rn} (h : Form (x :: m)) : setL x m = x :: m :=
  Form.one (setL_form (Form.cons.1 h).1 (Form.cons.1 h).2.2) h (fun s => by rw [setL_page (Form.cons.1 h).1 (Form.cons.1 h).2.2, page])
/-- The runs of a map, set from the last to the first into an empty one. -/
theorem setL_all : ∀ {m : List Rn}, Form m → m.foldr setL [] = m
  | [], _ => rfl
  | x :: m, h => by rw [List.foldr_cons, setL_all (Form.cons.1 h).2.2, setL_cons h]
/-- A change: a range set, or cleared. -/
def chg (x : Rn) (m : List Rn) : List Rn := if x.phys < 0 then clearL x.lba x.fin m else setL x m
theorem chg_form {x : Rn} (h0 : 0 ≤ x.lba) (h1 : 1 ≤ x.len) {m : List Rn} (h : Form m) : Form (chg x m) := by
  unfold chg
  split
  · exact clearL_form h0 (by unfold Rn.fin; omega) h
  · exact setL_form ⟨h0, h1, by omega⟩ h
theorem chg_page {x : Rn} (h0 : 0 ≤ x.lba) (h1 : 1 ≤ x.len) {m : List Rn} (h : Form m) (s : Int) : page (chg x m) s = if x.lba ≤ s ∧ s < x.fin then (if x.phys < 0 then none else some (x.phys + (s - x.lba))) else page m s := by
  unfold chg
  split
  · exact clearL_page (by unfold Rn.fin; omega) m s
  · exact setL_page ⟨h0, h1, by omega⟩ h s
/-- All of it cleared. -/
theorem clearL_whole {hi : Int} (hl : 0 < hi) {m : List Rn} (h : Form m) (hf : ∀ x ∈ m, x.fin ≤ hi) : clearL 0 hi m = [] :=
  Form.one (clearL_form (Int.le_refl _) hl h) Form.nil (fun s => by
    rw [clearL_page (by omega)]
    split
    · rfl
    · next c =>
      refine page_none (fun x hx => ?_)
      have := hf x hx
      have := (h.1 x hx).1
      omega)
/-- Bounds of sectors and pages. -/
def Lim (cap top : Int) (m : List Rn) : Prop := ∀ x ∈ m, x.fin ≤ cap ∧ x.phys + x.len ≤ top
theorem Lim.nil (cap top : Int) : Lim cap top [] := fun _ h => by cases h
theorem Lim.page {cap top : Int} {m : List Rn} (h : Lim cap top m) (hm : Form m) {s p : Int} (hp : page m s = some p) : 0 ≤ s ∧ s < cap ∧ 0 ≤ p ∧ p < top := by
  obtain ⟨x, hx, h1, h2, h3⟩ := page_mem hp
  have h4 := h x hx
  have h5 := hm.1 x hx
  have := h5.1
  have := h5.2.2
  unfold Rn.fin at *
  omega
theorem Lim.of {cap top : Int} {m : List Rn} (hm : Form m) (h : ∀ s p, Tg.page m s = some p → s < cap ∧ p < top) : Lim cap top m := fun x hx => by
  have h1 := (hm.1 x hx).2.1
  have := h (x.fin - 1) _ (hm.page_of hx (by unfold Rn.fin; omega) (by omega))
  unfold Rn.fin at *
  omega
theorem Lim.chg {cap top : Int} {m : List Rn} (h : Lim cap top m) (hm : Form m) {x : Rn} (h0 : 0 ≤ x.lba) (h1 : 1 ≤ x.len) (h2 : x.fin ≤ cap) (h3 : 0 ≤ x.phys → x.phys + x.len ≤ top) : Lim cap top (chg x m) :=
  Lim.of (chg_form h0 h1 hm) (fun s p hp => by
    rw [chg_page h0 h1 hm] at hp
    split at hp
    · next c =>
      split at hp
      · cases hp
      · next c2 =>
        injection hp with hp
        have := h3 (by omega)
        unfold Rn.fin at *
        omega
    · have := h.page hm hp
      omega)
theorem Lim.count {cap top : Int} {m : List Rn} (h : Lim cap top m) (hm : Form m) (hc : 0 ≤ cap) : (m.length : Int) ≤ cap := by
  have := hm.count (lo := 0) (hi := cap) hc (fun x hx => ⟨(hm.1 x hx).1, (h x hx).1⟩)
  omega
theorem Cut.run {m : List Rn} (h : Form m) {x : Rn} (hx : x ∈ m) {k hi e : Int} (h1 : x.lba ≤ k) (h2 : k < e) (h3 : e ≤ x.fin) (h4 : e ≤ hi) (h5 : e = x.fin ∨ e = hi) {b : List Rn} (hb : Cut (page m) hi e b) : Cut (page m) hi k (⟨k, e - k, x.phys + (k - x.lba)⟩ :: b) := by
  have ho := h.1 x hx
  have hf : (⟨k, e - k, x.phys + (k - x.lba)⟩ : Rn).fin = e := by unfold Rn.fin; simp only; omega
  have hp := ho.2.2
  refine ⟨rfl, by simp only; omega, by simp only; omega, by rw [hf]; exact h4, fun s s1 s2 => ?_, ?_, by rw [hf]; exact hb⟩
  · rw [hf] at s2
    unfold Fit
    simp only
    rw [if_neg (by omega), h.page_of hx (by omega) (by omega)]
    congr 1
    omega
  · rw [hf]
    rcases h5 with h5 | h5
    · refine Or.inr (fun g => h.stop hx ?_)
      unfold Fit at g
      simp only at g
      rw [if_neg (by omega), h5] at g
      rw [g]
      congr 1
      unfold Rn.fin
      omega
    · exact Or.inl h5
theorem Cut.hole {f : Int → Option Int} {k hi e : Int} (h2 : k < e) (h4 : e ≤ hi) (hn : ∀ s, k ≤ s → s < e → f s = none) (h5 : f e ≠ none ∨ e = hi) {b : List Rn} (hb : Cut f hi e b) : Cut f hi k (⟨k, e - k, -1⟩ :: b) := by
  have hf : (⟨k, e - k, -1⟩ : Rn).fin = e := by unfold Rn.fin; simp only; omega
  refine ⟨rfl, by simp only; omega, by simp, by rw [hf]; exact h4, fun s s1 s2 => ?_, ?_, by rw [hf]; exact hb⟩
  · rw [hf] at s2
    unfold Fit
    rw [hn s s1 s2]; rfl
  · rw [hf]
    rcases h5 with h5 | h5
    · exact Or.inr (fun g => h5 g)
    · exact Or.inl h5
theorem hole_end {m : List Rn} (h : Form m) {x : Rn} (hx : x ∈ m) : page m x.lba ≠ none := by
  have := (h.1 x hx).2.1
  rw [h.page_of hx (Int.le_refl _) (by unfold Rn.fin; omega)]
  intro e; cases e
/-- A walk along the runs: what lies in a range, the holes between. -/
def cutL (hi : Int) : Int → List Rn → List Rn
  | lo, [] => if lo < hi then [⟨lo, hi - lo, -1⟩] else []
  | lo, x :: m => if hi ≤ lo then [] else if x.fin ≤ lo then cutL hi lo m else
    if lo < x.lba then
      (if hi ≤ x.lba then [⟨lo, hi - lo, -1⟩] else
        ⟨lo, x.lba - lo, -1⟩ :: ⟨x.lba, (if hi ≤ x.fin then hi else x.fin) - x.lba, x.phys⟩ :: cutL hi (if hi ≤ x.fin then hi else x.fin) m)
    else ⟨lo, (if hi ≤ x.fin then hi else x.fin) - lo, x.phys + (lo - x.lba)⟩ :: cutL hi (if hi ≤ x.fin then hi else x.fin) m
end Tg
end Go.Proofs.Ytojkiambkgkecaa
