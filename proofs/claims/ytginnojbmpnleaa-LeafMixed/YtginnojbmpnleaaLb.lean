/-
  Words of memory: blocks, rows of bytes, what is kept; laws for single steps.
-/
import Derived.Test.YtginnojbmpnleaaRows
import Derived.WalkKit
import Derived.ProofKit
import Derived.OpenShut
import Derived.ShutString
import Derived.ChangeOld
import Derived.Below
import Derived.Deep.OwnRows
import Derived.Laws.IdiomCopy
import Derived.Lib.SlBytesConst
import Derived.Lib.ConvBytes
import Derived.Laws.BytesArg
import Derived.SizedLaws
import Derived.ArgAppend
import Derived.BigQuiet
import Derived.BigRegion
import Derived.Deep.MidRow
import Derived.ChangeKeysEq
import Derived.Laws.ResultCell
import Derived.Deep.RegionHeld3
import Derived.Deep.CutBlock
import Derived.Laws.AppendOwn
import Derived.Laws.OwnMore
import Derived.Deep.Slices
import Derived.Lib.Bytes
import Derived.Deep.CutRange
namespace Go.Proofs.Ytginnojbmpnleaa
open Go.ChangeShapes Go.WideShapes Go.ChangeAt Go.RowKit
namespace Tg
/-- Block b's first n cells, none frozen. -/
def Blk (w : World) (b n : Nat) (f : Nat → Value) : Prop := ∀ i, i < n → w.cell? ⟨b, i, none⟩ = some (f i) ∧ w.frozen? ⟨b, i, none⟩ = false
theorem Blk.lt {w : World} {b n : Nat} {f : Nat → Value} (h : Blk w b n f) (hn : 0 < n) : b < w.heap.size := World.block_lt_of_cell? w _ (h 0 hn).1
theorem Blk.of_block {w w' : World} {b n : Nat} {f : Nat → Value} (h : Blk w b n f) (e : w'.heap[b]? = w.heap[b]?) : Blk w' b n f := fun i hi =>
  ⟨by rw [World.cell?_of_block (w := w) (a := ⟨b, i, none⟩) e]; exact (h i hi).1, by rw [World.frozen?_of_block (w := w) (a := ⟨b, i, none⟩) e]; exact (h i hi).2⟩
theorem Blk.set {w : World} {b n : Nat} {f : Nat → Value} (h : Blk w b n f) (j : Nat) (v : Value) : Blk (w.setCell ⟨b, j, none⟩ v) b n (fun i => if i = j then v else f i) := by
  intro i hi
  refine ⟨?_, by rw [World.frozen?_setCell]; exact (h i hi).2⟩
  by_cases e : i = j
  · subst e; simp only [if_true]; exact World.cell?_setCell_same w _ _ (h i hi).1
  · simp only [if_neg e]; rw [World.cell?_setCell_other (h := fun x => e (congrArg Addr.off x).symm)]; exact (h i hi).1
theorem Blk.other {w : World} {b n : Nat} {f : Nat → Value} (h : Blk w b n f) {a : Addr} (ha : b ≠ a.block) (v : Value) : Blk (w.setCell a v) b n f := h.of_block (Below.heap_setCell _ _ _ _ ha)
theorem Blk.alloc {w : World} {b n : Nat} {f : Nat → Value} (h : Blk w b n f) (o : Obj) : Blk (w.alloc o) b n f := by
  intro i hi
  have hl := h.lt (by omega)
  exact h.of_block (Below.heap_alloc w o b hl) i hi
/-- All blocks but those of S are as they were. -/
structure Keep (S : Nat → Prop) (w w' : World) : Prop where
  os : w'.os = w.os
  tape : w'.tape = w.tape
  output : w'.output = w.output
  size : w.heap.size ≤ w'.heap.size
  block : ∀ k, k < w.heap.size → ¬ S k → w'.heap[k]? = w.heap[k]?
theorem Keep.refl (S : Nat → Prop) (w : World) : Keep S w w := ⟨rfl, rfl, rfl, Nat.le_refl _, fun _ _ _ => rfl⟩
theorem Keep.trans {S : Nat → Prop} {a b c : World} (h : Keep S a b) (k : Keep S b c) : Keep S a c :=
  ⟨k.os.trans h.os, k.tape.trans h.tape, k.output.trans h.output, Nat.le_trans h.size k.size, fun i hi hs => (k.block i (Nat.lt_of_lt_of_le hi h.size) hs).trans (h.block i hi hs)⟩
theorem Keep.mono {S T : Nat → Prop} {a b : World} (h : Keep S a b) (e : ∀ k, k < a.heap.size → S k → T k) : Keep T a b :=
  ⟨h.os, h.tape, h.output, h.size, fun i hi hs => h.block i hi (fun x => hs (e i hi x))⟩
theorem Keep.alloc {S : Nat → Prop} {a w : World} (h : Keep S a w) (o : Obj) : Keep S a (w.alloc o) :=
  h.trans ⟨rfl, rfl, rfl, by simp, fun k hk _ => Below.heap_alloc _ _ _ hk⟩
theorem Keep.setCell {S : Nat → Prop} {a w : World} (h : Keep S a w) {p : Addr} (hp : S p.block ∨ a.heap.size ≤ p.block) (u : Value) : Keep S a (w.setCell p u) :=
  ⟨h.os, h.tape, h.output, by simp [World.setCell]; exact h.size, fun k hk hs => by
    rw [Below.heap_setCell _ _ _ _ (fun e => by rcases hp with hp | hp; exact hs (e ▸ hp); omega)]; exact h.block k hk hs⟩
theorem Blk.keep {S : Nat → Prop} {w w' : World} {b n : Nat} {f : Nat → Value} (h : Blk w b n f) (k : Keep S w w') (hs : ¬ S b) : Blk w' b n f := fun i hi =>
  h.of_block (k.block b (h.lt (by omega)) hs) i hi
theorem Keep.next {S T : Nat → Prop} {a b c : World} (h : Keep S a b) (k : Keep T b c) (e : ∀ x, x < a.heap.size → T x → S x) : Keep S a c :=
  ⟨k.os.trans h.os, k.tape.trans h.tape, k.output.trans h.output, Nat.le_trans h.size k.size, fun i hi hs => (k.block i (Nat.lt_of_lt_of_le hi h.size) (fun t => hs (e i hi t))).trans (h.block i hi hs)⟩
theorem blk_alloc (w : World) (A : Array Value) (t : TypeId) (n : Nat) (f : Nat → Value) (h : ∀ i, i < n → A[i]? = some (f i)) : Blk (w.alloc (.cells A t)) w.heap.size n f := by
  intro i hi
  refine ⟨?_, ?_⟩
  · rw [World.cell?_alloc_mark]; exact h i hi
  · exact World.frozen?_alloc_new w A t i
/-- A fact that the walk does not look into. -/
def Hid (p : Prop) : Prop := p
/-- The walk's step at an append whose run is known. -/
theorem wpList_append_run {P : Program} {w : World} {ops : Array Oper} {rest : List Oper} {o : Oper} {a : Act} {Q : Exit → Act → World → Prop}
    (hw : Region.wanted o (yielded ops a.tmps) = true) (s x : Operand) (t : TypeId) (hop : o.op = Op.call { callee := Callee.builtin Builtin.append, args := #[s, x], argTypes := #[t, t] })
    {v1 v2 v' : Value} {w' : World} (hs : a.eval s = v1) (hx : a.eval x = v2) (hrun : (Builtin.append_ #[t, t] o.type #[v1, v2]).run P w = .ok v' w')
    (hK : wpList P ops Q rest (a.put o.dst v') w') : wpList P ops Q (o :: rest) a w := by
  refine BigFrame.wpList_want hw fun K hK' => ?_
  unfold Oper.wp
  simp [execOp, hop, resolve, invoke, builtin, hs, hx, hrun, Result.andThen]
  exact hK' _ _ hK
theorem Keep.drewN {S : Nat → Prop} {a w : World} (h : Keep S a w) (n : Nat) : Keep S a (w.drewN n) := ⟨h.os, h.tape, h.output, h.size, h.block⟩
/-- A new block's cells. -/
theorem cells_new (w : World) (A : Array Value) (e : TypeId) : ∀ j u, A.toList[j]? = some u → (w.alloc (.cells A e)).cell? ((⟨w.heap.size, 0, none⟩ : Addr).add j) = some u := by
  intro j u hu
  rw [Addr.add_lit, Nat.zero_add, World.cell?_alloc_mark, ← Array.getElem?_toList]
  exact hu
theorem keep_grown {w w' : World} {row : Option Nat} (h : w.grownBy w' row) : Keep (fun x => some x = row) w w' := ⟨h.os, h.tape, h.output, h.size, fun k hk hs => h.block k hk hs⟩
theorem wrapI {x : Int} (h1 : -9223372036854775808 ≤ x) (h2 : x ≤ 9223372036854775807) : IntKind.i64.wrap x = x := by rw [IntKind.wrap_i64] <;> omega
theorem int_fits {n : Int} (h : (Lit.int .i64 n).wf = true) : -9223372036854775808 ≤ n ∧ n ≤ 9223372036854775807 := by
  have h1 : IntKind.i64.min = -9223372036854775808 := by rfl
  have h2 : IntKind.i64.max = 9223372036854775807 := by rfl
  simp [Lit.wf] at h
  omega
theorem cells_get {w : World} {base : Nat} {a : Addr} {n : Nat} {cs : List Value} (h : w.cells? base a n = some cs) : ∀ i, i < n → w.cell? (a.add i) = cs[i]? := by
  unfold World.cells? at h
  split at h
  · intro i hi
    have := mapM_some_get h i i (by simp [hi])
    exact this
  · cases h
theorem Keep.cell {w w' : World} (k : Keep (fun _ => False) w w') {a : Addr} {v : Value} (h : w.cell? a = some v) : w'.cell? a = some v := by
  rw [← h]
  exact World.cell?_of_block (w := w) (k.block a.block (World.block_lt_of_cell? w _ h) (fun e => e))
theorem step_append_run {P : Program} {ops : Array Oper} {o : Oper} {a : Act} {w : World} {K : Act → World → Prop} {Q : Exit → Act → World → Prop} {E : Prop}
    (hw : Region.wanted o (yielded ops a.tmps) = true) (s x : Operand) (t : TypeId) (hop : o.op = Op.call { callee := Callee.builtin Builtin.append, args := #[s, x], argTypes := #[t, t] })
    {v1 v2 v' : Value} {w' : World} (hs : a.eval s = v1) (hx : a.eval x = v2) (hrun : (Builtin.append_ #[t, t] o.type #[v1, v2]).run P w = .ok v' w')
    (hK : K (a.put o.dst v') w') : if Region.wanted o (yielded ops a.tmps) = true then Oper.wp P o a w K Q else E := by
  rw [if_pos hw]
  unfold Oper.wp
  simp [execOp, hop, resolve, invoke, builtin, hs, hx, hrun, Result.andThen]
  exact hK
theorem Blk.congr {w : World} {b n : Nat} {f g : Nat → Value} (h : Blk w b n f) (e : ∀ i, i < n → f i = g i) : Blk w b n g := fun i hi => by rw [← e i hi]; exact h i hi
theorem Blk.drew {w : World} {b n : Nat} {f : Nat → Value} (h : Blk w b n f) : Blk w.drew b n f := h
theorem Blk.setCells {w : World} {b n : Nat} {f : Nat → Value} (h : Blk w b n f) (o m : Nat) (g : Nat → Value) (hm : o + m ≤ n) :
    Blk (w.setCells b o ((List.range m).map g)) b n (fun i => if o ≤ i ∧ i < o + m then g (i - o) else f i) := by
  intro i hi
  refine ⟨?_, by rw [World.frozen?_setCells]; exact (h i hi).2⟩
  by_cases e : o ≤ i ∧ i < o + m
  · simp only [if_pos e]
    have := World.cell?_setCells_in b ((List.range m).map g) o w (fun j hj => by rw [(h (o + j) (by simp at hj; omega)).1]; rfl) (i - o) (by simp; omega)
    rw [show o + (i - o) = i by omega] at this
    rw [this]
    simp
  · simp only [if_neg e]
    rw [World.cell?_setCells_out b _ o w ⟨b, i, none⟩ (fun _ _ => by simp; omega)]
    exact (h i hi).1
theorem heap_setCells (b : Nat) : ∀ (vs : List Value) (o : Nat) (w : World) (k : Nat), k ≠ b → (w.setCells b o vs).heap[k]? = w.heap[k]?
  | [], _, _, _, _ => rfl
  | v :: r, o, w, k, h => by rw [World.setCells, heap_setCells b r (o + 1) _ k h, Below.heap_setCell _ _ _ _ h]
theorem setCells_same (b : Nat) : ∀ (vs : List Value) (o : Nat) (w : World), (w.setCells b o vs).os = w.os ∧ (w.setCells b o vs).tape = w.tape ∧ (w.setCells b o vs).output = w.output ∧ (w.setCells b o vs).heap.size = w.heap.size
  | [], _, _ => ⟨rfl, rfl, rfl, rfl⟩
  | v :: r, o, w => by
    have := setCells_same b r (o + 1) (w.setCell ⟨b, o, none⟩ v)
    rw [World.setCells]
    refine ⟨this.1, this.2.1, this.2.2.1, ?_⟩
    rw [this.2.2.2]; simp [World.setCell]
theorem Blk.otherCells {w : World} {b n : Nat} {f : Nat → Value} (h : Blk w b n f) {x : Nat} (hx : b ≠ x) (o : Nat) (vs : List Value) : Blk (w.setCells x o vs) b n f := h.of_block (heap_setCells x vs o w b hx)
theorem Keep.drew {S : Nat → Prop} {a w : World} (h : Keep S a w) : Keep S a w.drew := ⟨h.os, h.tape, h.output, h.size, h.block⟩
theorem Keep.setCells {S : Nat → Prop} {a w : World} (h : Keep S a w) {b : Nat} (hp : S b ∨ a.heap.size ≤ b) (o : Nat) (vs : List Value) : Keep S a (w.setCells b o vs) := by
  obtain ⟨h1, h2, h3, h4⟩ := setCells_same b vs o w
  exact ⟨h1.trans h.os, h2.trans h.tape, h3.trans h.output, by rw [h4]; exact h.size, fun k hk hs => by
    rw [heap_setCells b vs o w k (fun e => by rcases hp with hp | hp; exact hs (e ▸ hp); omega)]; exact h.block k hk hs⟩
theorem Keep.below {S : Nat → Prop} {w w' : World} (h : Keep S w w') {B : Nat} (hB : B ≤ w.heap.size) (hS : ∀ k, S k → B ≤ k) : Below B w w' :=
  ⟨h.os, h.tape, h.output, h.size, fun k hk => h.block k (by omega) (fun e => by have := hS k e; omega)⟩
theorem Keep.of_below {S : Nat → Prop} {w w' : World} (h : Below w.heap.size w w') : Keep S w w' := ⟨h.os, h.tape, h.output, h.size, fun k hk _ => h.block k hk⟩
/-- A row of bytes in memory: nil, or cells that hold the numbers. -/
def Row (w : World) (a : Option Addr) (len cap : Nat) (l : List Int) : Prop :=
  l.length = len ∧ len ≤ cap ∧ cap ≤ 9223372036854775807 ∧ (∀ n ∈ l, 0 ≤ n ∧ n ≤ 255) ∧
  (len = 0 ∨ ∃ b o, a = some ⟨b, o, none⟩ ∧ ∀ i, i < len → w.cell? ⟨b, o + i, none⟩ = some (.int .u8 (l.getD i 0)))
theorem getD_bound {l : List Int} (h : ∀ n ∈ l, 0 ≤ n ∧ n ≤ 255) (k : Nat) : 0 ≤ l.getD k 0 ∧ l.getD k 0 ≤ 255 := by
  by_cases hk : k < l.length
  · have : l.getD k 0 = l[k] := by simp [List.getD, hk]
    rw [this]; exact h _ (List.getElem_mem hk)
  · have : l.getD k 0 = 0 := by simp [List.getD, hk]
    omega
/-- A row that has just been laid. -/
theorem row_new (w : World) (l : List Int) (fr : Nat × Nat) (g cap : Nat) (hg : g = w.heap.size) (hc : l.length ≤ cap) (hm : cap ≤ 9223372036854775807) (hb : ∀ n ∈ l, 0 ≤ n ∧ n ≤ 255) :
    Row (w.alloc (.cells (l.map (Value.int .u8)).toArray 5 fr)) (some ⟨g, 0, none⟩) l.length cap l := by
  subst hg
  refine ⟨rfl, hc, hm, hb, Or.inr ⟨_, _, rfl, fun i hi => ?_⟩⟩
  rw [Nat.zero_add, World.cell?_alloc_mark]
  simp [List.getD, hi]
theorem Row.keep {S : Nat → Prop} {w w' : World} {a : Option Addr} {len cap : Nat} {l : List Int} (h : Row w a len cap l) (k : Keep S w w') (hs : ∀ b o, a = some ⟨b, o, none⟩ → ¬ S b) : Row w' a len cap l := by
  obtain ⟨h1, h2, h3, h4, h5⟩ := h
  refine ⟨h1, h2, h3, h4, h5.imp id ?_⟩
  rintro ⟨b, o, rfl, hc⟩
  refine ⟨b, o, rfl, fun i hi => ?_⟩
  have := hc i hi
  rw [← this]
  exact World.cell?_of_block (w := w) (a := ⟨b, o + i, none⟩) (k.block b (World.block_lt_of_cell? w _ this) (hs b o rfl))
/-- Bytes become a text. -/
theorem Row.text {w : World} {a : Option Addr} {len cap : Nat} {l : List Int} (h : Row w a len cap l) : (convert 28 9 (.slice a len cap)).run Try.prog w = .ok (.string (strOfNums l)) w := by
  obtain ⟨h1, h2, h3, h4, h5⟩ := h
  rcases h5 with h0 | ⟨b, o, rfl, hc⟩
  · subst h0
    obtain rfl := List.eq_nil_of_length_eq_zero h1
    rw [run_convert_bytes_string w 28 9 5 _ _ _ Try.underlying28 Try.underlying5 Try.underlying9]
    cases a with
    | none => simp [Conv.bytesToString]; rfl
    | some x =>
      rw [run_bytesToString w x 0 cap [] (by simp [loadCells, loadCellsFrom])]
      rfl
  · exact run_convert_bytes_arg w 28 5 Try.underlying28 Try.underlying5 b o len cap l h1 hc 9 Try.underlying9
/-- A text becomes bytes, in a new row. -/
theorem text_row (w : World) (l : List Int) (hb : ∀ n ∈ l, 0 ≤ n ∧ n ≤ 255) (hl : l.length ≤ 9223372036854775807) :
    ∃ cap w1, (convert 9 28 (.string (strOfNums l))).run Try.prog w = .ok (.slice (some ⟨w.heap.size, 0, none⟩) l.length cap) w1 ∧
      Row w1 (some ⟨w.heap.size, 0, none⟩) l.length cap l ∧ Below w.heap.size w w1 ∧ w1.heap.size = w.heap.size + 1 ∧
      (∀ i, i < cap → (w1.cell? ⟨w.heap.size, i, none⟩).isSome = true ∧ w1.frozen? ⟨w.heap.size, i, none⟩ = false) := by
  have hsz : (strOfNums l).size = l.length := strOfNums_size l
  have hge := grownCap_ge w (strOfNums l).size 0 5
  have hle := grownCap_le_maxLen w (strOfNums l).size 0 5 (by rw [hsz]; exact hl)
  have hcs : (Lib.bytesCells w 5 (strOfNums l)).size = grownCap w (strOfNums l).size 0 5 := by
    simp [Lib.bytesCells]
    have := hsz
    simp only [ByteArray.size] at this
    omega
  refine ⟨grownCap w (strOfNums l).size 0 5, Lib.bytesWorld w 5 (strOfNums l), ?_, ?_, ?_, Lib.bytesWorld_size w 5 _, ?_⟩
  · rw [Lib.run_convert_string_bytes w 9 28 5 _ Try.underlying9 Try.underlying28 Try.underlying5, hsz]
  · refine ⟨rfl, by omega, hle, hb, Or.inr ⟨_, _, rfl, fun i hi => ?_⟩⟩
    rw [Nat.zero_add, Lib.bytesWorld_cell w 5 _ i (by omega), strOfNums_data]
    have hbd := hb l[i] (List.getElem_mem hi)
    simp [List.getD, hi]
    omega
  · exact ⟨rfl, rfl, rfl, by rw [Lib.bytesWorld_size]; omega, fun k hk => Lib.bytesWorld_at_old w 5 _ k hk⟩
  · intro i hi
    have hh := Lib.bytesWorld_at_new w 5 (strOfNums l)
    constructor
    · simp [World.cell?, hh, hcs, hi]
    · simp [World.frozen?, hh, hcs]
      omega
theorem info5 : (Try.prog.info? 5).map (fun i => (i.zero, i.size, i.bytes)) = some (some (.int .u8 0), 1, 1) := by kernel_rfl
/-- The row's whole room is there and may be written. -/
def Free (w : World) (g cap : Nat) : Prop := ∀ i, i < cap → (w.cell? ⟨g, i, none⟩).isSome = true ∧ w.frozen? ⟨g, i, none⟩ = false
theorem Free.keep {S : Nat → Prop} {w w' : World} {g cap : Nat} (h : Free w g cap) (k : Keep S w w') (hs : ¬ S g) : Free w' g cap := by
  intro i hi
  obtain ⟨h1, h2⟩ := h i hi
  obtain ⟨v, hv⟩ := Option.isSome_iff_exists.1 h1
  have e := k.block g (World.block_lt_of_cell? w _ hv) hs
  exact ⟨by rw [World.cell?_of_block (w := w) (a := ⟨g, i, none⟩) e]; exact h1, by rw [World.frozen?_of_block (w := w) (a := ⟨g, i, none⟩) e]; exact h2⟩
theorem Keep.of_grown {S : Nat → Prop} {w w' : World} (hg : w.grownBy w' none) : Keep S w w' := ⟨hg.os, hg.tape, hg.output, hg.size, fun k hk _ => hg.block k hk (by simp)⟩
theorem cells_at {w : World} {a : Addr} {l : List Int} (h : ∀ i, i < l.length → w.cell? (a.add i) = some (.int .u8 (l.getD i 0))) :
    ∀ j u, (l.map (Value.int .u8))[j]? = some u → w.cell? (a.add j) = some u := by
  intro j u hu
  have hj : j < l.length := by
    have := (List.getElem?_eq_some_iff.1 hu).1
    simpa using this
  rw [h j hj, ← hu]
  simp [List.getD, hj]
theorem getD_append_left (l m : List Int) (i : Nat) (h : i < l.length) : (l ++ m).getD i 0 = l.getD i 0 := by
  simp [List.getD, List.getElem?_append_left h]
theorem getD_append_right (l m : List Int) (i : Nat) : (l ++ m).getD (l.length + i) 0 = m.getD i 0 := by
  simp only [List.getD]
  rw [List.getElem?_append_right (by omega)]
  congr 2
  omega
/-- 'append' on a row of bytes of the call's own. -/
theorem append_rows (w : World) (g cap len : Nat) (l : List Int) (hr : Row w (some ⟨g, 0, none⟩) len cap l) (hfree : Free w g cap) 
    (a2 : Option Addr) (m c : Nat) (l2 : List Int) (hr2 : Row w a2 m c l2) (hlen : len + m ≤ 140737488355323) :
    ∃ g' cap' w2, (Builtin.append_ #[28, 28] 28 #[.slice (some ⟨g, 0, none⟩) len cap, .slice a2 m c]).run Try.prog w = .ok (.slice (some ⟨g', 0, none⟩) (len + m) cap') w2 ∧
      Row w2 (some ⟨g', 0, none⟩) (len + m) cap' (l ++ l2) ∧ Keep (fun b => b = g) w w2 ∧ (g' = g ∨ w.heap.size ≤ g') ∧ Free w2 g' cap' := by
  obtain ⟨i, hi, hz0, hz1, hz2⟩ := info_parts info5
  obtain ⟨h1, h2, h3, h4, h5⟩ := hr
  obtain ⟨k1, k2, k3, k4, k5⟩ := hr2
  have hcell : ∀ i, i < len → w.cell? ⟨g, i, none⟩ = some (.int .u8 (l.getD i 0)) := by
    rcases h5 with h0 | ⟨b, o, e, hc⟩
    · intro i hi; omega
    · simp only [Option.some.injEq, Addr.mk.injEq, and_true] at e
      obtain ⟨rfl, rfl⟩ := e
      intro i hi
      have := hc i hi
      rwa [Nat.zero_add] at this
  have hbd : ∀ n ∈ l ++ l2, 0 ≤ n ∧ n ≤ 255 := by
    intro n hn
    rcases List.mem_append.1 hn with h | h
    · exact h4 n h
    · exact k4 n h
  rcases k5 with hm0 | ⟨b2, o2, rfl, hc2⟩
  · subst hm0
    obtain rfl := List.eq_nil_of_length_eq_zero k1
    refine ⟨g, cap, w, ?_, ⟨by simp [h1], by omega, h3, hbd, Or.inr ⟨_, _, rfl, fun i hi => ?_⟩⟩, Keep.refl _ _, Or.inl rfl, hfree⟩
    · cases a2 with
      | none => simp [Builtin.append_, run_underlying Try.underlying28, sizeOf, typeInfo, hi, Builtin.lenOf, h2, Builtin.firstCells, Addr.add_lit, storeCells]
      | some x => simp [Builtin.append_, run_underlying Try.underlying28, sizeOf, typeInfo, hi, Builtin.lenOf, h2, Builtin.firstCells, loadCells, loadCellsFrom, Addr.add_lit, storeCells]
    · rw [Nat.zero_add, hcell i (by omega)]; simp
  · have hnews : ∀ j u, (l2.map (Value.int .u8))[j]? = some u → w.cell? ((⟨b2, o2, none⟩ : Addr).add j) = some u :=
      cells_at (a := ⟨b2, o2, none⟩) fun i hi => by rw [Addr.add_lit]; exact hc2 i (by omega)
    have holds : ∀ j u, (l.map (Value.int .u8))[j]? = some u → w.cell? ((⟨g, 0, none⟩ : Addr).add j) = some u :=
      cells_at (a := ⟨g, 0, none⟩) fun i hi => by rw [Addr.add_lit, Nat.zero_add]; exact hcell i (by omega)
    by_cases hroom : len + m ≤ cap
    · have hrun := run_append_room_cells (P := Try.prog) w 28 28 5 i Try.underlying28 hi g 0 len cap ⟨b2, o2, none⟩ m c (l2.map (Value.int .u8)) (by simp [k1, hz1]) hnews (ints_oneCell _ _) hroom
        (fun j hj => by rw [hz1, Nat.zero_add, Nat.mul_one]; exact (hfree (len + j) (by simp at hj; omega)).1)
        (fun j hj => by rw [hz1, Nat.zero_add, Nat.mul_one]; exact (hfree (len + j) (by simp at hj; omega)).2)
      rw [hz1, Nat.zero_add, Nat.mul_one] at hrun
      have hin := World.cell?_setCells_in g (l2.map (Value.int .u8)) len w (fun j hj => (hfree (len + j) (by simp at hj; omega)).1)
      refine ⟨g, cap, _, hrun, ⟨by simp [h1, k1], hroom, h3, hbd, Or.inr ⟨_, _, rfl, fun i hi => ?_⟩⟩, (Keep.refl (fun b => b = g) w).setCells (b := g) (Or.inl rfl) _ _, Or.inl rfl, fun i hi => ?_⟩
      · rw [Nat.zero_add]
        by_cases hil : i < len
        · rw [World.cell?_setCells_out g _ len w ⟨g, i, none⟩ (fun _ _ => Or.inl hil), hcell i hil, getD_append_left _ _ _ (by omega)]
        · have hj : i - len < l2.length := by omega
          have := hin (i - len) (by simpa using hj)
          have e : len + (i - len) = i := by omega
          rw [e] at this
          rw [this]
          have e2 : (l ++ l2).getD i 0 = l2.getD (i - len) 0 := by
            have := getD_append_right l l2 (i - len)
            rw [h1, e] at this
            exact this
          rw [e2]
          simp [List.getD, hj]
      · obtain ⟨f1, f2⟩ := hfree i hi
        refine ⟨?_, by rw [World.frozen?_setCells]; exact f2⟩
        by_cases hil : len ≤ i ∧ i < len + l2.length
        · have := hin (i - len) (by simp; omega)
          have e : len + (i - len) = i := by omega
          rw [e] at this
          rw [this]; rfl
        · rw [World.cell?_setCells_out g _ len w ⟨g, i, none⟩ (fun _ _ => by simp; omega)]; exact f1
    · obtain ⟨v', w', hrun, hown, hgrow⟩ := run_append_arg_grows (P := Try.prog) w 28 28 5 i (.int .u8 0) 1 1 Try.underlying28 hi hz0 hz1 hz2 rfl (by decide) ⟨g, 0, none⟩ len cap (l.map (Value.int .u8)) (by simp [h1]) holds
        ⟨b2, o2, none⟩ m c (l2.map (Value.int .u8)) (by simp [k1]) hnews (by omega) (by unfold maxLen; omega) (by omega)
      obtain ⟨hol, hcase⟩ := hown
      rcases hcase with ⟨_, h0⟩ | ⟨g', cap', cur, rfl, hg', hh, hn, hcm, hsz, htake⟩
      · omega
      · unfold maxLen at hcm
        have hcur : ∀ j, j < len + m → cur[j]? = some (.int .u8 ((l ++ l2).getD j 0)) := by
          intro j hj
          have e1 : (cur.toList.take ((len + m) * 1))[j]? = cur.toList[j]? := by rw [List.getElem?_take]; rw [if_pos (by omega)]
          rw [htake, ← List.map_append] at e1
          rw [← Array.getElem?_toList, ← e1]
          have : j < (l ++ l2).length := by simp; omega
          simp only [List.getElem?_map, List.getElem?_eq_getElem this, Option.map_some, List.getD, Option.getD_some]
        refine ⟨g', cap', w', hrun, ⟨by simp [h1, k1], hn, by omega, hbd, Or.inr ⟨_, _, rfl, fun i hi => ?_⟩⟩, Keep.of_grown hgrow, Or.inr (by omega), fun i hi => ?_⟩
        · rw [Nat.zero_add]
          simp only [World.cell?, hh]
          simpa using hcur i hi
        · have hi' : i < cur.size := by omega
          constructor
          · simp [World.cell?, hh, hi']
          · simp [World.frozen?, hh]
theorem Row.init {w : World} {a : Option Addr} {len cap : Nat} {l m : List Int} (h : Row w a (len + m.length) cap (l ++ m)) : Row w a len cap l := by
  obtain ⟨h1, h2, h3, h4, h5⟩ := h
  have hl : l.length = len := by simp at h1; omega
  refine ⟨hl, by omega, h3, fun n hn => h4 n (by simp [hn]), ?_⟩
  rcases h5 with h0 | ⟨b, o, rfl, hc⟩
  · left; omega
  · right
    exact ⟨b, o, rfl, fun i hi => by rw [hc i (by omega), getD_append_left _ _ _ (by omega)]⟩
theorem Row.cellAt {w : World} {g len cap : Nat} {l : List Int} (h : Row w (some ⟨g, 0, none⟩) len cap l) {i : Nat} (hi : i < len) : w.cell? ⟨g, i, none⟩ = some (.int .u8 (l.getD i 0)) := by
  rcases h.2.2.2.2 with h0 | ⟨b, o, e, hc⟩
  · omega
  · simp only [Option.some.injEq, Addr.mk.injEq, and_true] at e
    obtain ⟨rfl, rfl⟩ := e
    have := hc i hi
    rwa [Nat.zero_add] at this
/-- One byte is stored. -/
theorem Row.set {w : World} {g len cap : Nat} {l : List Int} (h : Row w (some ⟨g, 0, none⟩) len cap l) {i : Nat} (hi : i < len) {n : Int} (hn : 0 ≤ n ∧ n ≤ 255) :
    Row (w.setCell ⟨g, i, none⟩ (.int .u8 n)) (some ⟨g, 0, none⟩) len cap (l.set i n) := by
  have hc := fun j (hj : j < len) => h.cellAt hj
  obtain ⟨h1, h2, h3, h4, h5⟩ := h
  refine ⟨by simp [h1], h2, h3, fun m hm => ?_, Or.inr ⟨_, _, rfl, fun j hj => ?_⟩⟩
  · rcases List.mem_or_eq_of_mem_set hm with h | h
    · exact h4 m h
    · subst h; exact hn
  · rw [Nat.zero_add]
    by_cases e : j = i
    · subst e
      rw [World.cell?_setCell_same w _ _ (hc j hj)]
      simp [List.getD, h1, hj]
    · rw [World.cell?_setCell_other (h := fun x => e (congrArg Addr.off x).symm), hc j hj]
      simp [List.getD, Ne.symm e]
theorem Free.set {w : World} {g cap : Nat} (h : Free w g cap) (a : Addr) (v : Value) : Free (w.setCell a v) g cap := by
  intro i hi
  obtain ⟨h1, h2⟩ := h i hi
  constructor
  · by_cases e : a = ⟨g, i, none⟩
    · subst e
      rw [World.cell?_setCell_same' w _ v h1]; rfl
    · rw [World.cell?_setCell_other (h := e)]; exact h1
  · rw [World.frozen?_setCell]; exact h2
/-- The first n of a function's numbers. -/
def tab (n : Nat) (d : Nat → Int) : List Int := (List.range n).map d
theorem tab_len (n : Nat) (d : Nat → Int) : (tab n d).length = n := by simp [tab]
theorem tab_get {n i : Nat} (d : Nat → Int) (h : i < n) : (tab n d).getD i 0 = d i := by simp [tab, List.getD, h]
theorem tab_byte {n : Nat} {d : Nat → Int} (h : ∀ i, 0 ≤ d i ∧ d i ≤ 255) : ∀ x ∈ tab n d, 0 ≤ x ∧ x ≤ 255 := by
  intro x hx
  simp [tab] at hx
  obtain ⟨i, _, rfl⟩ := hx
  exact h i
/-- A row of a block's bytes. -/
theorem Blk.row {w : World} {b N : Nat} {d : Nat → Int} (h : Blk w b N (fun i => .int .u8 (d i))) (hd : ∀ i, 0 ≤ d i ∧ d i ≤ 255) (o n cap : Nat) (hn : o + n ≤ N) (hc : n ≤ cap) (hm : cap ≤ 9223372036854775807) :
    Row w (some ⟨b, o, none⟩) n cap (tab n (fun i => d (o + i))) :=
  ⟨tab_len _ _, hc, hm, tab_byte (fun i => hd _), Or.inr ⟨b, o, rfl, fun i hi => by rw [tab_get _ hi]; exact (h (o + i) (by omega)).1⟩⟩
theorem Row.blk {w : World} {g n cap : Nat} {d : Nat → Int} (h : Row w (some ⟨g, 0, none⟩) n cap (tab n d)) (f : Free w g cap) : Blk w g n (fun i => .int .u8 (d i)) := fun i hi =>
  ⟨by rw [h.cellAt hi, tab_get d hi], (f i (by have := h.2.1; omega)).2⟩
theorem Keep.undrew' {S : Nat → Prop} {a w : World} (h : Keep S a.drew w) : Keep S a w := ⟨h.os, h.tape, h.output, h.size, h.block⟩
/-- A row of bytes of one's own that may grow. -/
structure Gr (w0 w : World) (g cap : Nat) (l : List Int) : Prop where
  row : Row w (some ⟨g, 0, none⟩) l.length cap l
  free : Free w g cap
  new : w0.heap.size ≤ g
  keep : Keep (fun _ => False) w0 w
theorem Gr.app {w0 w : World} {g cap : Nat} {l : List Int} (h : Gr w0 w g cap l) {n : Nat} (hn : l.length = n) {a2 : Option Addr} {m c : Nat} {l2 : List Int} (hr2 : Row w a2 m c l2) (hlen : n + m ≤ 140737488355323) :
    ∃ g' cap' w2, (Builtin.append_ #[28, 28] 28 #[.slice (some ⟨g, 0, none⟩) n cap, .slice a2 m c]).run Try.prog w = .ok (.slice (some ⟨g', 0, none⟩) (n + m) cap') w2 ∧ Gr w0 w2 g' cap' (l ++ l2) := by
  subst hn
  obtain ⟨g', cap', w2, hrun, hrow, hk, hg, hf⟩ := append_rows w g cap l.length l h.row h.free a2 m c l2 hr2 hlen
  have hm : (l ++ l2).length = l.length + m := by rw [List.length_append, hr2.1]
  have hn := h.new
  refine ⟨g', cap', w2, hrun, by rw [hm]; exact hrow, hf, ?_, h.keep.next hk (fun x hx e => by omega)⟩
  rcases hg with rfl | hg
  · exact hn
  · have := h.keep.size; omega
theorem Gr.drew {w0 w : World} {g cap : Nat} {l : List Int} (h : Gr w0 w g cap l) : Gr w0 w.drew g cap l := ⟨h.row.keep ((Keep.refl (fun _ => False) w).drew) (fun _ _ _ e => e), h.free.keep ((Keep.refl (fun _ => False) w).drew) (fun e => e), h.new, h.keep.drew⟩
theorem Gr.more {w0 w w' : World} {g cap : Nat} {l : List Int} (h : Gr w0 w g cap l) (k : Keep (fun _ => False) w w') : Gr w0 w' g cap l := ⟨h.row.keep k (fun _ _ _ e => e), h.free.keep k (fun e => e), h.new, h.keep.trans k⟩
theorem Gr.one {w0 w : World} {g cap : Nat} {l : List Int} (h : Gr w0 w g cap l) {n : Nat} (hn : l.length = n) {x : Int} (hx : 0 ≤ x ∧ x ≤ 255) (hlen : n + 1 ≤ 140737488355323) :
    ∃ g' cap' w2, (Builtin.append_ #[28, 28] 28 #[.slice (some ⟨g, 0, none⟩) n cap, .slice (some ⟨w.heap.size, 0, none⟩) 1 1]).run Try.prog (w.alloc (.cells #[.int .u8 x] 5)) = .ok (.slice (some ⟨g', 0, none⟩) (n + 1) cap') w2 ∧ Gr w0 w2 g' cap' (l ++ [x]) :=
  (h.more ((Keep.refl _ _).alloc _)).app hn (row_new w [x] (0, 0) w.heap.size 1 rfl (by simp) (by omega) (by simpa using hx)) hlen
/-- Room that has just been made. -/
theorem make_room (n : Nat) (hn : n ≤ 140737488355323) (w : World) : ∃ w', (Instr.makeSlice 28 (.int .i64 0) (.int .i64 (n : Int))).run Try.prog w = .ok (.slice (some ⟨w.heap.size, 0, none⟩) 0 n) w' ∧ Gr w w' w.heap.size n [] := by
  obtain ⟨i, hi, hz0, hz1, hz2⟩ := info_parts info5
  have hr := run_make (P := Try.prog) w 28 5 i (.int .u8 0) Try.underlying28 hi hz0 .i64 .i64 0 n (by omega) (by omega) (by rw [hz2]; omega) (by omega)
  rw [hz1, Nat.mul_one, Int.toNat_natCast] at hr
  refine ⟨_, hr, ⟨rfl, by simp, by omega, by simp, Or.inl rfl⟩, fun j hj => ?_, Nat.le_refl _, (Keep.refl _ _).alloc _⟩
  exact ⟨Option.isSome_iff_exists.2 ⟨_, (World.rowIs_made w (.int .u8 0) n 5).cell hj⟩, (World.rowIs_made w (.int .u8 0) n 5).frozen j⟩
theorem Gr.at {w0 w : World} {g cap : Nat} {l : List Int} (h : Gr w0 w g cap l) {n : Nat} (hn : l.length = n) : Row w (some ⟨g, 0, none⟩) n cap l := hn ▸ h.row
theorem Gr.lit (w : World) {x : Int} (hx : 0 ≤ x ∧ x ≤ 255) : Gr w (w.alloc (.cells #[.int .u8 x] 5)) w.heap.size 1 [x] := by
  refine ⟨row_new w [x] (0, 0) w.heap.size 1 rfl (by simp) (by omega) (by simpa using hx), fun i hi => ?_, Nat.le_refl _, (Keep.refl _ _).alloc _⟩
  obtain rfl : i = 0 := by omega
  exact ⟨by rw [World.cell?_alloc_mark]; rfl, World.frozen?_alloc_new w _ 5 0⟩
theorem enters {P : Program} {f : FuncId} {fn : Func} (hf : P.funcs[f]? = some fn) (hname : (fn.name == "runtime.NumGoroutine") = false) (hb : fn.body.isSome = true) (args : Array Value) (w : World) :
    (callFunc f args).run P w = .ok (.enter f args) w := by
  obtain ⟨c, hc⟩ := Option.isSome_iff_exists.1 hb
  simp [callFunc, go_sem, hf, hc]
  intro h; simp [h] at hname
theorem step_call_want {P : Program} {ops : Array Oper} {o : Oper} {a : Act} {w : World} {K : Act → World → Prop} {Q : Exit → Act → World → Prop} {E : Prop}
    (hw : Region.wanted o (yielded ops a.tmps) = true) (f : FuncId) (xs : Array Operand) (ts : Array TypeId) (hop : o.op = Op.call { callee := Callee.value (.func f), args := xs, argTypes := ts })
    {vs : Array Value} {R : Value → World → Prop} (hx : xs.map a.eval = vs) (he : ∀ args w, (callFunc f args).run P w = .ok (.enter f args) w) (hc : Calls P f vs w fun e w2 => ∃ v, e = .returned v ∧ R v w2)
    (hK : ∀ v w', R v w' → K (a.put o.dst v) w') : if Region.wanted o (yielded ops a.tmps) = true then Oper.wp P o a w K Q else E := by
  rw [if_pos hw]
  subst hx
  obtain ⟨dst, op, ty, pos, after, guard⟩ := o
  simp only at hop
  subst hop
  unfold Oper.wp
  rw [execOp_call_go, he, Oper.upon_enter]
  simp only [Array.empty_append, Array.append_empty]
  exact hc.mono (by rintro e w2 ⟨v, rfl, hr⟩; exact hK v w2 hr)
theorem step_conv_run {P : Program} {ops : Array Oper} {o : Oper} {a : Act} {w : World} {K : Act → World → Prop} {Q : Exit → Act → World → Prop} {E : Prop}
    (hw : Region.wanted o (yielded ops a.tmps) = true) (s t : TypeId) (x : Operand) (hop : o.op = Op.convert s t x) {v1 v' : Value} {w' : World} (hx : a.eval x = v1) (hrun : (convert s t v1).run P w = .ok v' w')
    (hK : K (a.put o.dst v') w') : if Region.wanted o (yielded ops a.tmps) = true then Oper.wp P o a w K Q else E := by
  rw [if_pos hw]
  unfold Oper.wp
  simp [execOp, hop, hx, hrun, Result.andThen]
  exact hK
theorem yields_conv {P : Program} {ops : Array Oper} {S : World → Prop} {o : Oper} {a : Act} {v v1 : Value} (hw : Region.wanted o (yielded ops a.tmps) = true) (s t : TypeId) (x : Operand) (hop : o.op = Op.convert s t x) (hx : a.eval x = v1) (h : ∀ w, S w → (convert s t v1).run P w = .ok v w) : YieldsIf P ops S o v a := by
  refine Or.inl ⟨hw, fun w hS => ?_⟩
  simp [execOp, hop, hx, h w hS]
/-- A call that leaves the world, as a step of a region. -/
theorem post_same {f : FuncId} {vs : Array Value} {v : Value} {w0 w : World} (h : Calls Try.prog f vs w fun e w' => e = .returned v ∧ w' = w) (hk : Keep (fun _ => False) w0 w) : Calls Try.prog f vs w fun e w2 => ∃ u, e = .returned u ∧ (fun u w2 => u = v ∧ w2 = w) u w2 :=
  h.mono (by rintro e w' ⟨rfl, rfl⟩; exact ⟨_, rfl, rfl, rfl⟩)
/-- A call that answers a row of its own, as a step of a region. -/
theorem post_row {f : FuncId} {vs : Array Value} {n : Nat} {l : List Int} {w0 w : World} (hn : l.length = n) (h : Calls Try.prog f vs w fun e w' => ∃ g cap, e = .returned (.slice (some ⟨g, 0, none⟩) n cap) ∧ Gr w w' g cap l) (hk : Keep (fun _ => False) w0 w) :
    Calls Try.prog f vs w fun e w2 => ∃ u, e = .returned u ∧ (fun u w2 => ∃ g cap, u = Value.slice (some ⟨g, 0, none⟩) n cap ∧ Row w2 (some ⟨g, 0, none⟩) n cap l ∧ Keep (fun _ => False) w0 w2) u w2 :=
  h.mono (by rintro e w' ⟨g, cap, rfl, hG⟩; exact ⟨_, rfl, g, cap, rfl, hG.at hn, hk.trans hG.keep⟩)
theorem Row.first {w : World} {a : Option Addr} {len cap n : Nat} {l : List Int} (h : Row w a len cap l) (hn : n ≤ len) : Row w a n cap (l.take n) :=
  Row.init (m := l.drop n) (by
    have e1 : n + (l.drop n).length = len := by rw [List.length_drop, h.1]; omega
    rw [e1, List.take_append_drop]; exact h)
set_option maxHeartbeats 600000 in
/-- What lies behind a row's first bytes. -/
theorem Row.drop {w : World} {b o len cap n : Nat} {l : List Int} (h : Row w (some ⟨b, o, none⟩) len cap l) (hn : n ≤ len) : Row w (some ⟨b, o + n, none⟩) (len - n) (cap - n) (l.drop n) := by
  obtain ⟨h1, h2, h3, h4, h5⟩ := h
  refine ⟨by simp [h1], by omega, by omega, fun x hx => h4 x (List.mem_of_mem_drop hx), ?_⟩
  by_cases hl : len - n = 0
  · exact Or.inl hl
  · right
    obtain ⟨b', o', e, hc⟩ := h5.resolve_left (by omega)
    injection e with e
    injection e with e1 e2 e3
    subst e1 e2
    refine ⟨b, o + n, rfl, fun i hi => ?_⟩
    rw [Nat.add_assoc, hc (n + i) (by omega)]
    simp [List.getD, List.getElem?_drop]
theorem Gr.lt {w0 w : World} {g cap : Nat} {l : List Int} (h : Gr w0 w g cap l) (hl : 1 ≤ l.length) : g < w.heap.size :=
  World.block_lt_of_cell? w _ (h.row.cellAt (i := 0) (by omega))
theorem Row.moreV {w w' : World} {a : Option Addr} {len cap : Nat} {l : List Int} (h : Row w a len cap l) (k : Keep (fun _ => False) w w') : Row w' a len cap l := h.keep k (fun _ _ _ e => e)
theorem str_nine (l : List Int) : strOfNums (l ++ [9]) = strOfNums l ++ { data := #[9] } := by
  apply ByteArray.ext
  simp [strOfNums, ByteArray.data_append]
theorem text_gr (w : World) (l : List Int) (hb : ∀ n ∈ l, 0 ≤ n ∧ n ≤ 255) (hl : l.length ≤ 9223372036854775807) :
    ∃ cap w1, (convert 9 28 (.string (strOfNums l))).run Try.prog w = .ok (.slice (some ⟨w.heap.size, 0, none⟩) l.length cap) w1 ∧ Gr w w1 w.heap.size cap l := by
  obtain ⟨cap, w1, h1, h2, h3, -, h5⟩ := text_row w l hb hl
  exact ⟨cap, w1, h1, h2, h5, Nat.le_refl _, Keep.of_below h3⟩
/-- append of bytes to nil. -/
theorem app_nil {w0 w : World} {g cap : Nat} {l : List Int} (h : Gr w0 w g cap l) (hl : 1 ≤ l.length) (hl2 : l.length ≤ 100000) :
    ∃ g' cap' w2, (Builtin.append_ #[28, 28] 28 #[.slice none 0 0, .slice (some ⟨g, 0, none⟩) l.length cap]).run Try.prog w = .ok (.slice (some ⟨g', 0, none⟩) l.length cap') w2 ∧ Gr w0 w2 g' cap' l := by
  obtain ⟨i, hi, hz0, hz1, hz2⟩ := info_parts info5
  have hcell : ∀ i, i < l.length → w.cell? ⟨g, i, none⟩ = some (.int .u8 (l.getD i 0)) := fun i hi => h.row.cellAt hi
  have hnews : ∀ j u, (l.map (Value.int .u8))[j]? = some u → w.cell? ((⟨g, 0, none⟩ : Addr).add j) = some u :=
    cells_at (a := ⟨g, 0, none⟩) fun i hi => by rw [Addr.add_lit, Nat.zero_add]; exact hcell i hi
  have hs := h.keep.size
  obtain ⟨v', w', hrun, hown, hgrow, hnil⟩ := run_append_own (P := Try.prog) w w0.heap.size 28 28 5 i (.int .u8 0) 1 1 Try.underlying28 hi hz0 hz1 hz2 rfl (by decide) (.slice none 0 0) 0 [] (World.ownsRow_nil _ _ _ _)
    ⟨g, 0, none⟩ l.length cap (l.map (Value.int .u8)) (by simp) hnews (ints_oneCell _ _) (by unfold maxLen; omega) (by omega) hs
  obtain ⟨hol, hcase⟩ := hown
  rcases hcase with ⟨_, h0⟩ | ⟨g', cap', cur, rfl, hg', hh, hn, hcm, hsz, htake⟩
  · omega
  · unfold maxLen at hcm
    rw [List.nil_append] at htake
    have hcur : ∀ j, j < l.length → cur[j]? = some (.int .u8 (l.getD j 0)) := by
      intro j hj
      have e1 : (cur.toList.take ((0 + l.length) * 1))[j]? = cur.toList[j]? := by rw [List.getElem?_take]; rw [if_pos (by omega)]
      rw [htake] at e1
      rw [← Array.getElem?_toList, ← e1]
      simp only [List.getElem?_map, List.getElem?_eq_getElem hj, Option.map_some, List.getD, Option.getD_some]
    refine ⟨g', cap', w', by rw [hrun, Nat.zero_add], ⟨⟨rfl, by omega, by omega, h.row.2.2.2.1, Or.inr ⟨_, _, rfl, fun i hi => ?_⟩⟩, fun i hi => ?_, hg', h.keep.trans (Keep.of_grown hgrow)⟩⟩
    · rw [Nat.zero_add]
      simp only [World.cell?, hh]
      simpa using hcur i hi
    · have hi' : i < cur.size := by omega
      constructor
      · simp [World.cell?, hh, hi']
      · simp [World.frozen?, hh]
/-- A row grows by what a call told; what it is worth saying. -/
theorem grow_row {w0 w w2 : World} {g c n g2 cap2 : Nat} {d A : List Int} (G : Gr w0 w g c d) (hd : d.length = n) (hg : g < w.heap.size) (G2 : Gr w w2 g2 cap2 A) (hlen : n + A.length ≤ 140737488355323) :
    ∃ g3 cap3 w3, (Builtin.append_ #[28, 28] 28 #[.slice (some ⟨g, 0, none⟩) n c, .slice (some ⟨g2, 0, none⟩) A.length cap2]).run Try.prog w2 = .ok (.slice (some ⟨g3, 0, none⟩) (n + A.length) cap3) w3 ∧
      Gr w0 w3 g3 cap3 (d ++ A) ∧ Keep (fun b => b = g) w w3 ∧ (g3 = g ∨ w.heap.size ≤ g3) := by
  subst hd
  have H := G.more G2.keep
  obtain ⟨g', cap', w3, hrun, hrow, hk, hg', hf⟩ := append_rows w2 g c d.length d H.row H.free (some ⟨g2, 0, none⟩) A.length cap2 A G2.row hlen
  have hm : (d ++ A).length = d.length + A.length := List.length_append
  have hn := H.new
  refine ⟨g', cap', w3, hrun, ⟨by rw [hm]; exact hrow, hf, ?_, H.keep.next hk (fun x hx e => by omega)⟩, (G2.keep.mono (fun _ _ e => e.elim)).trans hk, ?_⟩
  · rcases hg' with rfl | hg'
    · exact hn
    · have := H.keep.size; omega
  · rcases hg' with rfl | hg'
    · exact Or.inl rfl
    · right; have := G2.keep.size; omega
theorem row_nil (w : World) : Row w none 0 0 [] := ⟨rfl, by omega, by omega, by simp, Or.inl rfl⟩
theorem results_cell {fn : Func} {p : Tmp} {ty : TypeId} (h : fn.results = #[.cell p ty]) (tmps : Array Value) (P : Program) (w : World) :
    (results fn tmps).run P w = ((asAddr (tmps.getD p undef)).run P w).andThen fun a w₁ => (loadVar ty a).run P w₁ := by
  simp only [results, h]
  simp [Sem.run_bind, Result.andThen]
theorem wpList_store_run {P : Program} {w : World} {ops : Array Oper} {rest : List Oper} {o : Oper} {a : Act} {Q : Exit → Act → World → Prop}
    (hg : o.guard = none) (t : TypeId) (x y : Operand) (hop : o.op = Op.store t x y) {v1 v2 : Value} {w' : World} (hx : a.eval x = v1) (hy : a.eval y = v2) (hrun : (Instr.storeAt t v1 v2).run P w = .ok () w')
    (hK : wpList P ops Q rest (a.put o.dst undef) w') : wpList P ops Q (o :: rest) a w := by
  refine BigFrame.wpList_want (by simp [Region.wanted, hg]) fun K hK' => ?_
  unfold Oper.wp
  simp [execOp, hop, hx, hy, hrun, Result.andThen]
  exact hK' _ _ hK
theorem step_store_run {P : Program} {ops : Array Oper} {o : Oper} {a : Act} {w : World} {K : Act → World → Prop} {Q : Exit → Act → World → Prop} {E : Prop}
    (hw : Region.wanted o (yielded ops a.tmps) = true) (t : TypeId) (x y : Operand) (hop : o.op = Op.store t x y) {v1 v2 : Value} {w' : World} (hx : a.eval x = v1) (hy : a.eval y = v2) (hrun : (Instr.storeAt t v1 v2).run P w = .ok () w')
    (hK : K (a.put o.dst undef) w') : if Region.wanted o (yielded ops a.tmps) = true then Oper.wp P o a w K Q else E := by
  rw [if_pos hw]
  unfold Oper.wp
  simp [execOp, hop, hx, hy, hrun, Result.andThen]
  exact hK
theorem Gr.other {S : Nat → Prop} {w0 w w' : World} {g cap : Nat} {l : List Int} (h : Gr w0 w g cap l) (k : Keep S w w') (hs : ¬ S g) (h0 : ∀ x, S x → w0.heap.size ≤ x) : Gr w0 w' g cap l :=
  ⟨h.row.keep k (fun b o e => by injection e with e; injection e with e1; rw [← e1]; exact hs), h.free.keep k hs, h.new, h.keep.next k (fun x hx e => by have := h0 x e; omega)⟩
/-- Where a slice begins that is cut at n. -/
def cutA (a : Option Addr) (cap n : Nat) : Option Addr := if cap = n then a else a.map (·.add n)
theorem cutA_block {a : Option Addr} {cap n B : Nat} (h : ∀ x, a = some x → x.block < B) : ∀ x, cutA a cap n = some x → x.block < B := by
  intro x e
  unfold cutA at e
  split at e
  · exact h x e
  · cases a with
    | none => cases e
    | some y =>
      simp only [Option.map_some, Option.some.injEq] at e
      have hy := h y rfl
      rw [← e]
      unfold Addr.add
      split <;> exact hy
theorem Row.cut {w : World} {a : Option Addr} {len cap n : Nat} {l : List Int} (h : Row w a len cap l) (hn : n ≤ len) : Row w (cutA a cap n) (len - n) (cap - n) (l.drop n) := by
  obtain ⟨h1, h2, h3, h4, h5⟩ := h
  refine ⟨by simp [h1], by omega, by omega, fun x hx => h4 x (List.mem_of_mem_drop hx), ?_⟩
  by_cases hl : len - n = 0
  · exact Or.inl hl
  · right
    obtain ⟨b', o', rfl, hc⟩ := h5.resolve_left (by omega)
    refine ⟨b', o' + n, ?_, fun i hi => ?_⟩
    · unfold cutA
      rw [if_neg (by omega), Option.map_some, Addr.add_lit]
    · rw [Nat.add_assoc, hc (n + i) (by omega)]
      simp [List.getD, List.getElem?_drop]
theorem cut_run (w : World) (a : Option Addr) {len cap n : Nat} (hn : n ≤ len) : (Instr.sliceAt 28 (.slice a len cap) (some (.int .i64 (n : Int))) none none).run Try.prog w = .ok (.slice (cutA a cap n) (len - n) (cap - n)) w := by
  obtain ⟨i, hi, hz0, hz1, hz2⟩ := info_parts info5
  simp [Instr.sliceAt, Instr.slice, Instr.sliceBounds, Instr.sliceBound, run_underlying Try.underlying28, sizeOf, typeInfo, hi, hz1, asIntOf, hn, cutA]
theorem Row.old {S : Nat → Prop} {B : Nat} {w w' : World} {a : Option Addr} {len cap : Nat} {l : List Int} (hR : Row w a len cap l) (hb : len = 0 ∨ ∀ x, a = some x → x.block < B) (k : Keep S w w') (hr : ∀ b, S b → B ≤ b) : Row w' a len cap l := by
  obtain ⟨h1, h2, h3, h4, h5⟩ := hR
  refine ⟨h1, h2, h3, h4, ?_⟩
  by_cases h0 : len = 0
  · exact Or.inl h0
  · obtain ⟨b, o, rfl, hc⟩ := h5.resolve_left h0
    refine Or.inr ⟨b, o, rfl, fun i hi => ?_⟩
    have hc1 := hc i hi
    have hlt := World.block_lt_of_cell? w _ hc1
    have hbb : b < B := hb.resolve_left h0 _ rfl
    rw [← hc1]
    exact World.cell?_of_block (w := w) (a := ⟨b, o + i, none⟩) (k.block b hlt (fun e => by have := hr b e; omega))
theorem wrap_rng (x : Int) : -9223372036854775808 ≤ IntKind.i64.wrap x ∧ IntKind.i64.wrap x ≤ 9223372036854775807 := by rw [IntKind.wrap_i64]; omega
/-- Bytes. -/
def Bys (b : List Int) : Prop := ∀ x ∈ b, 0 ≤ x ∧ x ≤ 255
theorem str_inj {a b : List Int} (ha : Bys a) (hb : Bys b) (h : strOfNums a = strOfNums b) : a = b := by
  have h1 : (strOfNums a).data.toList = (strOfNums b).data.toList := by rw [h]
  rw [strOfNums_data, strOfNums_data] at h1
  have key : ∀ (a b : List Int), Bys a → Bys b → (a.map fun n => UInt8.ofNat n.toNat) = (b.map fun n => UInt8.ofNat n.toNat) → a = b := by
    intro a
    induction a with
    | nil => intro b _ _ e; cases b with
      | nil => rfl
      | cons y b => simp at e
    | cons x a ih =>
      intro b ha hb e
      cases b with
      | nil => simp at e
      | cons y b =>
        simp only [List.map_cons, List.cons.injEq] at e
        have hx := ha x (by simp)
        have hy := hb y (by simp)
        have e1 := congrArg UInt8.toNat e.1
        simp only [UInt8.toNat_ofNat'] at e1
        rw [ih b (fun z hz => ha z (by simp [hz])) (fun z hz => hb z (by simp [hz])) e.2]
        have : x = y := by omega
        rw [this]
  exact key a b ha hb h1
theorem str_beq {a b : List Int} (ha : Bys a) (hb : Bys b) : ((strOfNums a).toList == (strOfNums b).toList) = decide (a = b) := by
  by_cases h : a = b
  · subst h; simp
  · rw [decide_eq_false h, beq_eq_false_iff_ne]
    intro e
    refine h (str_inj ha hb ?_)
    rw [Go.Lib.strOfNums_toList, Go.Lib.strOfNums_toList] at e
    apply ByteArray.ext
    apply Array.toList_inj.1
    rw [strOfNums_data, strOfNums_data]
    exact e
theorem bytes5 : Try.prog.bytesOf 5 = 1 := by kernel_rfl
/-- An argument that is a row of bytes. -/
theorem open_bytes {H : Type} {enc : TypeId × Value → H} {W : World} {a : Option Addr} {len cap : Nat} {d : DataW H} {p : List MemPlace}
    (h : DataW.Trod enc Try.prog W 0 (fun _ => true) true 28 (.slice a len cap) d p) :
    ∃ l, Row W a len cap l ∧ ((d = .nil ∧ len = 0) ∨ ∃ el sp, d = .slice el sp ∧ el.length = len ∧ el.length + sp.length = cap) := by
  obtain ⟨fuel, hf⟩ := h
  rcases open_ints Try.underlying28 Try.underlying5 (by kernel_rfl) hf with ⟨hcs, hx⟩ | ⟨x, l, c, zs, hcs, _, hl, hm, hz, hx, hcell, hwz⟩
  · simp [Value.cells] at hcs
    obtain ⟨rfl, rfl, rfl⟩ := hcs
    simp only [Prod.mk.injEq] at hx
    exact ⟨[], ⟨rfl, by omega, by omega, by simp, Or.inl rfl⟩, Or.inl ⟨hx.1, rfl⟩⟩
  · simp [Value.cells] at hcs
    obtain ⟨rfl, rfl, rfl⟩ := hcs
    simp only [Prod.mk.injEq] at hx
    simp at hz
    unfold maxLen at hm
    refine ⟨zs.take len, ⟨by simp; omega, hl, by omega, fun n hn => bounds_u8 (hwz n (List.mem_of_mem_take hn)), ?_⟩, Or.inr ⟨_, _, hx.1, by simp [lits]; omega, by simp [lits]; omega⟩⟩
    by_cases h0 : len = 0
    · exact Or.inl h0
    · right
      obtain ⟨b, off, spot⟩ := x
      have hc := hcell 0 (by omega)
      have hspot : spot = none := by simpa [Addr.add] using World.cell?_spot hc
      subst hspot
      refine ⟨b, off, rfl, fun i hi => ?_⟩
      have := hcell i (by omega)
      rw [Addr.add_lit] at this
      rw [this]
      simp [List.getD, hi]
/-- So many bytes of one's own. -/
def Hb (w wx : World) (g c n : Nat) : Prop := ∃ l, Gr w wx g c l ∧ l.length = n ∧ 1 ≤ n ∧ n ≤ 100000
theorem Hb.more {w wx w2 : World} {g c n : Nat} (h : Hb w wx g c n) (k : Keep (fun _ => False) wx w2) : Hb w w2 g c n := by
  obtain ⟨l, h1, h2⟩ := h
  exact ⟨l, h1.more k, h2⟩
theorem Hb.older {w0 w wx : World} {g c n : Nat} (h : Hb w wx g c n) (k : Keep (fun _ => False) w0 w) : Hb w0 wx g c n := by
  obtain ⟨l, h1, h2⟩ := h
  exact ⟨l, ⟨h1.row, h1.free, Nat.le_trans k.size h1.new, k.trans h1.keep⟩, h2⟩
theorem Hb.lt {w wx : World} {g c n : Nat} (h : Hb w wx g c n) : g < wx.heap.size := by
  obtain ⟨l, h1, h2, h3, h4⟩ := h
  exact h1.lt (by omega)
theorem Hb.len {w wx : World} {g c n : Nat} (h : Hb w wx g c n) : 1 ≤ n ∧ n ≤ 100000 ∧ n ≤ c ∧ c ≤ 9223372036854775807 := by
  obtain ⟨l, h1, h2, h3, h4⟩ := h
  exact ⟨h3, h4, by rw [← h2]; exact h1.row.2.1, h1.row.2.2.1⟩
theorem Hb.keep {w wx : World} {g c n : Nat} (h : Hb w wx g c n) : Keep (fun _ => False) w wx := by
  obtain ⟨l, h1, h2⟩ := h
  exact h1.keep
theorem Hb.new {w wx : World} {g c n : Nat} (h : Hb w wx g c n) : w.heap.size ≤ g := by
  obtain ⟨l, h1, h2⟩ := h
  exact h1.new
/-- A byte is stored in it; beside it another one stays. -/
theorem Hb.set {w wx : World} {g c n : Nat} (h : Hb w wx g c n) {i : Nat} (hi : i < n) {v : Int} (hv : 0 ≤ v ∧ v ≤ 255) : Hb w (wx.setCell ⟨g, i, none⟩ (.int .u8 v)) g c n := by
  obtain ⟨l, h1, h2, h3⟩ := h
  have hr := h1.row
  rw [h2] at hr
  have := hr.set hi hv
  refine ⟨l.set i v, ⟨?_, h1.free.set _ _, h1.new, ?_⟩, by rw [List.length_set, h2], h3⟩
  · rw [List.length_set, h2]; exact this
  · exact h1.keep.setCell (Or.inr h1.new) _
theorem Hb.beside {w wx : World} {g c n g2 : Nat} (h : Hb w wx g c n) (hg : g ≠ g2) (h2 : w.heap.size ≤ g2) (i : Nat) (v : Value) : Hb w (wx.setCell ⟨g2, i, none⟩ v) g c n := by
  obtain ⟨l, h1, h3⟩ := h
  exact ⟨l, h1.other (S := fun b => b = g2) ((Keep.refl (fun b => b = g2) wx).setCell (p := ⟨g2, i, none⟩) (Or.inl rfl) v) hg (fun x e => by omega), h3⟩
theorem Hb.cell {w wx : World} {g c n : Nat} (h : Hb w wx g c n) {i : Nat} (hi : i < n) : (∃ v, wx.cell? ⟨g, i, none⟩ = some v) ∧ wx.frozen? ⟨g, i, none⟩ = false := by
  obtain ⟨l, h1, h2, h3⟩ := h
  have hc := h1.row.2.1
  exact ⟨⟨_, h1.row.cellAt (by omega)⟩, (h1.free i (by omega)).2⟩
theorem Hb.row {w wx : World} {g c n : Nat} (h : Hb w wx g c n) {k : Nat} (hk : k ≤ n) : ∃ l, Row wx (some ⟨g, 0, none⟩) k c l := by
  obtain ⟨l, h1, h2, h3⟩ := h
  have hr := h1.row
  rw [h2] at hr
  exact ⟨_, hr.first hk⟩
theorem Hb.lit (w : World) : Hb w (w.alloc (.cells #[.int .u8 0] 5)) w.heap.size 1 1 := ⟨[0], Gr.lit w (by omega), rfl, by omega, by omega⟩
end Tg
end Go.Proofs.Ytginnojbmpnleaa
