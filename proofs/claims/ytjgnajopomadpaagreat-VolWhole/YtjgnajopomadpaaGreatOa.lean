/-
  Sectors: the document's own New, Read, Write (stage 17's).
-/
import Derived.Test.YtjgnajopomadpaaGreatRows
import Derived.ArgAppend
import Derived.BigQuiet
import Derived.BigRegion
import Derived.ChangeKeysEq
import Derived.Deep.CutBlock
import Derived.Deep.MidRow
import Derived.Deep.RegionHeld3
import Derived.Deep.Slices
import Derived.Laws.AppendOwn
import Derived.Laws.BytesArg
import Derived.Laws.OwnMore
import Derived.Laws.ResultCell
import Derived.SizedLaws
import Derived.WalkKit
import Derived.ProofKit
import Derived.OpenShut
import Derived.ShutString
import Derived.ChangeOld
import Derived.Below
import Derived.Deep.OwnRows
import Derived.Laws.IdiomCopy
import Derived.Lib.SlBytesConst
import Derived.Lib.ConvBytes
namespace Go.Proofs.YtjgnajopomadpaaGreat
open Go.ChangeShapes Go.WideShapes Go.ChangeAt Go.RowKit
namespace Tg
def Blk (w : World) (b n : Nat) (f : Nat → Value) : Prop := ∀ i, i < n → w.cell? ⟨b, i, none⟩ = some (f i) ∧ w.frozen? ⟨b, i, none⟩ = false
theorem Blk.lt {w : World} {b n : Nat} {f : Nat → Value} (h : Blk w b n f) (hn : 0 < n) : b < w.heap.size := World.block_lt_of_cell? w _ (h 0 hn).1
theorem Blk.congr {w : World} {b n : Nat} {f g : Nat → Value} (h : Blk w b n f) (e : ∀ i, i < n → f i = g i) : Blk w b n g := fun i hi => by rw [← e i hi]; exact h i hi
theorem Blk.of_block {w w' : World} {b n : Nat} {f : Nat → Value} (h : Blk w b n f) (e : w'.heap[b]? = w.heap[b]?) : Blk w' b n f := fun i hi =>
  ⟨by rw [World.cell?_of_block (w := w) (a := ⟨b, i, none⟩) e]; exact (h i hi).1, by rw [World.frozen?_of_block (w := w) (a := ⟨b, i, none⟩) e]; exact (h i hi).2⟩
theorem Blk.set {w : World} {b n : Nat} {f : Nat → Value} (h : Blk w b n f) (j : Nat) (v : Value) : Blk (w.setCell ⟨b, j, none⟩ v) b n (fun i => if i = j then v else f i) := by
  intro i hi
  refine ⟨?_, by rw [World.frozen?_setCell]; exact (h i hi).2⟩
  by_cases e : i = j
  · subst e; simp only [if_true]; exact World.cell?_setCell_same w _ _ (h i hi).1
  · simp only [if_neg e]; rw [World.cell?_setCell_other (h := fun x => e (congrArg Addr.off x).symm)]; exact (h i hi).1
theorem Blk.other {w : World} {b n : Nat} {f : Nat → Value} (h : Blk w b n f) {a : Addr} (ha : b ≠ a.block) (v : Value) : Blk (w.setCell a v) b n f := h.of_block (Below.heap_setCell _ _ _ _ ha)
theorem Blk.alloc {w : World} {b n : Nat} {f : Nat → Value} (h : Blk w b n f) (o : Obj) : Blk (w.alloc o) b n f := by
  intro i hi
  have hl := h.lt (by omega)
  exact h.of_block (Below.heap_alloc w o b hl) i hi
theorem Blk.drew {w : World} {b n : Nat} {f : Nat → Value} (h : Blk w b n f) : Blk w.drew b n f := h
theorem Blk.setCells {w : World} {b n : Nat} {f : Nat → Value} (h : Blk w b n f) (o m : Nat) (g : Nat → Value) (hm : o + m ≤ n) :
    Blk (w.setCells b o ((List.range m).map g)) b n (fun i => if o ≤ i ∧ i < o + m then g (i - o) else f i) := by
  intro i hi
  refine ⟨?_, by rw [World.frozen?_setCells]; exact (h i hi).2⟩
  by_cases e : o ≤ i ∧ i < o + m
  · simp only [if_pos e]
    have := World.cell?_setCells_in b ((List.range m).map g) o w (fun j hj => by rw [(h (o + j) (by simp at hj; omega)).1]; rfl) (i - o) (by simp; omega)
    rw [show o + (i - o) = i by omega] at this
    rw [this]
    simp
  · simp only [if_neg e]
    rw [World.cell?_setCells_out b _ o w ⟨b, i, none⟩ (fun _ _ => by simp; omega)]
    exact (h i hi).1
theorem heap_setCells (b : Nat) : ∀ (vs : List Value) (o : Nat) (w : World) (k : Nat), k ≠ b → (w.setCells b o vs).heap[k]? = w.heap[k]?
  | [], _, _, _, _ => rfl
  | v :: r, o, w, k, h => by rw [World.setCells, heap_setCells b r (o + 1) _ k h, Below.heap_setCell _ _ _ _ h]
theorem setCells_same (b : Nat) : ∀ (vs : List Value) (o : Nat) (w : World), (w.setCells b o vs).os = w.os ∧ (w.setCells b o vs).tape = w.tape ∧ (w.setCells b o vs).output = w.output ∧ (w.setCells b o vs).heap.size = w.heap.size
  | [], _, _ => ⟨rfl, rfl, rfl, rfl⟩
  | v :: r, o, w => by
    have := setCells_same b r (o + 1) (w.setCell ⟨b, o, none⟩ v)
    rw [World.setCells]
    refine ⟨this.1, this.2.1, this.2.2.1, ?_⟩
    rw [this.2.2.2]; simp [World.setCell]
theorem Blk.otherCells {w : World} {b n : Nat} {f : Nat → Value} (h : Blk w b n f) {x : Nat} (hx : b ≠ x) (o : Nat) (vs : List Value) : Blk (w.setCells x o vs) b n f := h.of_block (heap_setCells x vs o w b hx)
structure Keep (S : Nat → Prop) (w w' : World) : Prop where
  os : w'.os = w.os
  tape : w'.tape = w.tape
  output : w'.output = w.output
  size : w.heap.size ≤ w'.heap.size
  block : ∀ k, k < w.heap.size → ¬ S k → w'.heap[k]? = w.heap[k]?
theorem Keep.refl (S : Nat → Prop) (w : World) : Keep S w w := ⟨rfl, rfl, rfl, Nat.le_refl _, fun _ _ _ => rfl⟩
theorem Keep.trans {S : Nat → Prop} {a b c : World} (h : Keep S a b) (k : Keep S b c) : Keep S a c :=
  ⟨k.os.trans h.os, k.tape.trans h.tape, k.output.trans h.output, Nat.le_trans h.size k.size, fun i hi hs => (k.block i (Nat.lt_of_lt_of_le hi h.size) hs).trans (h.block i hi hs)⟩
theorem Keep.mono {S T : Nat → Prop} {a b : World} (h : Keep S a b) (e : ∀ k, k < a.heap.size → S k → T k) : Keep T a b :=
  ⟨h.os, h.tape, h.output, h.size, fun i hi hs => h.block i hi (fun x => hs (e i hi x))⟩
theorem Keep.drew {S : Nat → Prop} {a w : World} (h : Keep S a w) : Keep S a w.drew := ⟨h.os, h.tape, h.output, h.size, h.block⟩
theorem Keep.alloc {S : Nat → Prop} {a w : World} (h : Keep S a w) (o : Obj) : Keep S a (w.alloc o) :=
  h.trans ⟨rfl, rfl, rfl, by simp, fun k hk _ => Below.heap_alloc _ _ _ hk⟩
theorem Keep.setCell {S : Nat → Prop} {a w : World} (h : Keep S a w) {p : Addr} (hp : S p.block ∨ a.heap.size ≤ p.block) (u : Value) : Keep S a (w.setCell p u) :=
  ⟨h.os, h.tape, h.output, by simp [World.setCell]; exact h.size, fun k hk hs => by
    rw [Below.heap_setCell _ _ _ _ (fun e => by rcases hp with hp | hp; exact hs (e ▸ hp); omega)]; exact h.block k hk hs⟩
theorem Keep.setCells {S : Nat → Prop} {a w : World} (h : Keep S a w) {b : Nat} (hp : S b ∨ a.heap.size ≤ b) (o : Nat) (vs : List Value) : Keep S a (w.setCells b o vs) := by
  obtain ⟨h1, h2, h3, h4⟩ := setCells_same b vs o w
  exact ⟨h1.trans h.os, h2.trans h.tape, h3.trans h.output, by rw [h4]; exact h.size, fun k hk hs => by
    rw [heap_setCells b vs o w k (fun e => by rcases hp with hp | hp; exact hs (e ▸ hp); omega)]; exact h.block k hk hs⟩
theorem Keep.below {S : Nat → Prop} {w w' : World} (h : Keep S w w') {B : Nat} (hB : B ≤ w.heap.size) (hS : ∀ k, S k → B ≤ k) : Below B w w' :=
  ⟨h.os, h.tape, h.output, h.size, fun k hk => h.block k (by omega) (fun e => by have := hS k e; omega)⟩
theorem Keep.of_below {S : Nat → Prop} {w w' : World} (h : Below w.heap.size w w') : Keep S w w' := ⟨h.os, h.tape, h.output, h.size, fun k hk _ => h.block k hk⟩
theorem Blk.keep {S : Nat → Prop} {w w' : World} {b n : Nat} {f : Nat → Value} (h : Blk w b n f) (k : Keep S w w') (hs : ¬ S b) : Blk w' b n f := fun i hi =>
  h.of_block (k.block b (h.lt (by omega)) hs) i hi
theorem Keep.of_grown {S : Nat → Prop} {w w' : World} (hg : w.grownBy w' none) : Keep S w w' := ⟨hg.os, hg.tape, hg.output, hg.size, fun k hk _ => hg.block k hk (by simp)⟩
theorem Keep.next {S T : Nat → Prop} {a b c : World} (h : Keep S a b) (k : Keep T b c) (e : ∀ x, x < a.heap.size → T x → S x) : Keep S a c :=
  ⟨k.os.trans h.os, k.tape.trans h.tape, k.output.trans h.output, Nat.le_trans h.size k.size, fun i hi hs => (k.block i (Nat.lt_of_lt_of_le hi h.size) (fun t => hs (e i hi t))).trans (h.block i hi hs)⟩
def Hid (p : Prop) : Prop := p
theorem keep_grown {w w' : World} {row : Option Nat} (h : w.grownBy w' row) : Keep (fun x => some x = row) w w' := ⟨h.os, h.tape, h.output, h.size, fun k hk hs => h.block k hk hs⟩
theorem Keep.drewN {S : Nat → Prop} {a w : World} (h : Keep S a w) (n : Nat) : Keep S a (w.drewN n) := ⟨h.os, h.tape, h.output, h.size, h.block⟩
theorem wrapI {x : Int} (h1 : -9223372036854775808 ≤ x) (h2 : x ≤ 9223372036854775807) : IntKind.i64.wrap x = x := by rw [IntKind.wrap_i64] <;> omega
theorem step_store_run {P : Program} {ops : Array Oper} {o : Oper} {a : Act} {w : World} {K : Act → World → Prop} {Q : Exit → Act → World → Prop} {E : Prop}
    (hw : Region.wanted o (yielded ops a.tmps) = true) (t : TypeId) (x y : Operand) (hop : o.op = Op.store t x y) {v1 v2 : Value} {w' : World} (hx : a.eval x = v1) (hy : a.eval y = v2) (hrun : (Instr.storeAt t v1 v2).run P w = .ok () w')
    (hK : K (a.put o.dst undef) w') : if Region.wanted o (yielded ops a.tmps) = true then Oper.wp P o a w K Q else E := by
  rw [if_pos hw]
  unfold Oper.wp
  simp [execOp, hop, hx, hy, hrun, Result.andThen]
  exact hK
theorem step_load_run {P : Program} {ops : Array Oper} {o : Oper} {a : Act} {w : World} {K : Act → World → Prop} {Q : Exit → Act → World → Prop} {E : Prop}
    (hw : Region.wanted o (yielded ops a.tmps) = true) (t : TypeId) (x : Operand) (hop : o.op = Op.load t x) {v1 v' : Value} {w' : World} (hx : a.eval x = v1) (hrun : (Instr.loadAt t v1).run P w = .ok v' w')
    (hK : K (a.put o.dst v') w') : if Region.wanted o (yielded ops a.tmps) = true then Oper.wp P o a w K Q else E := by
  rw [if_pos hw]
  unfold Oper.wp
  simp [execOp, hop, hx, hrun, Result.andThen]
  exact hK
def ic (xs : List Int) : List Value := xs.map (Value.int .i64)
def Is (w : World) (a : Option Addr) (cap : Nat) (xs : List Int) : Prop :=
  xs.length ≤ cap ∧ cap ≤ 9223372036854775807 ∧ (xs = [] ∨ ∃ g, a = some ⟨g, 0, none⟩ ∧ ∀ j u, (ic xs)[j]? = some u → w.cell? ⟨g, j, none⟩ = some u)
theorem Is.keep {S : Nat → Prop} {w w' : World} {a : Option Addr} {cap : Nat} {m : List Int} (h : Is w a cap m) (k : Keep S w w') (hs : ∀ g, a = some ⟨g, 0, none⟩ → ¬ S g) : Is w' a cap m := by
  obtain ⟨h1, h2, h3⟩ := h
  refine ⟨h1, h2, h3.imp id ?_⟩
  rintro ⟨g, rfl, hc⟩
  refine ⟨g, rfl, fun j u hu => ?_⟩
  have := hc j u hu
  rw [← this]
  exact World.cell?_of_block (w := w) (a := ⟨g, j, none⟩) (k.block g (World.block_lt_of_cell? w _ this) (hs g rfl))
structure Ri (w0 w : World) (a : Option Addr) (cap : Nat) (m : List Int) : Prop where
  own : w.ownsRow w0.heap.size 3 1 (.slice a m.length cap) m.length (ic m)
  keep : Keep (fun _ => False) w0 w
theorem Ri.block {w0 w : World} {a : Option Addr} {cap : Nat} {m : List Int} (h : Ri w0 w a cap m) {g : Nat} (e : a = some ⟨g, 0, none⟩) : w0.heap.size ≤ g ∧ g < w.heap.size :=
  h.own.lt g (by rw [e]; rfl)
theorem Ri.set {w0 w : World} {g cap : Nat} {m : List Int} (h : Ri w0 w (some ⟨g, 0, none⟩) cap m) (i : Nat) (v : Int) :
    Ri w0 (w.setCell ⟨g, i, none⟩ (.int .i64 v)) (some ⟨g, 0, none⟩) cap (m.set i v) := by
  obtain ⟨h1, h2⟩ := h.own.stored i (.int .i64 v)
  have e : (ic m).set i (.int .i64 v) = ic (m.set i v) := by unfold ic; rw [List.map_set]
  rw [e] at h1
  refine ⟨by rw [List.length_set]; exact h1, h.keep.next (keep_grown h2) (fun y hy e => ?_)⟩
  injection e with e
  have := (h.block rfl).1
  omega
def Row (w : World) (a : Option Addr) (len cap : Nat) (l : List Int) : Prop :=
  l.length = len ∧ len ≤ cap ∧ cap ≤ 9223372036854775807 ∧ (∀ n ∈ l, 0 ≤ n ∧ n ≤ 255) ∧
  (len = 0 ∨ ∃ b o, a = some ⟨b, o, none⟩ ∧ ∀ i, i < len → w.cell? ⟨b, o + i, none⟩ = some (.int .u8 (l.getD i 0)))
theorem getD_bound {l : List Int} (h : ∀ n ∈ l, 0 ≤ n ∧ n ≤ 255) (k : Nat) : 0 ≤ l.getD k 0 ∧ l.getD k 0 ≤ 255 := by
  by_cases hk : k < l.length
  · have : l.getD k 0 = l[k] := by simp [List.getD, hk]
    rw [this]; exact h _ (List.getElem_mem hk)
  · have : l.getD k 0 = 0 := by simp [List.getD, hk]
    omega
theorem row_new (w : World) (l : List Int) (fr : Nat × Nat) (g cap : Nat) (hg : g = w.heap.size) (hc : l.length ≤ cap) (hm : cap ≤ 9223372036854775807) (hb : ∀ n ∈ l, 0 ≤ n ∧ n ≤ 255) :
    Row (w.alloc (.cells (l.map (Value.int .u8)).toArray 5 fr)) (some ⟨g, 0, none⟩) l.length cap l := by
  subst hg
  refine ⟨rfl, hc, hm, hb, Or.inr ⟨_, _, rfl, fun i hi => ?_⟩⟩
  rw [Nat.zero_add, World.cell?_alloc_mark]
  simp [List.getD, hi]
theorem Row.keep {S : Nat → Prop} {w w' : World} {a : Option Addr} {len cap : Nat} {l : List Int} (h : Row w a len cap l) (k : Keep S w w') (hs : ∀ b o, a = some ⟨b, o, none⟩ → ¬ S b) : Row w' a len cap l := by
  obtain ⟨h1, h2, h3, h4, h5⟩ := h
  refine ⟨h1, h2, h3, h4, h5.imp id ?_⟩
  rintro ⟨b, o, rfl, hc⟩
  refine ⟨b, o, rfl, fun i hi => ?_⟩
  have := hc i hi
  rw [← this]
  exact World.cell?_of_block (w := w) (a := ⟨b, o + i, none⟩) (k.block b (World.block_lt_of_cell? w _ this) (hs b o rfl))
theorem Row.text {w : World} {a : Option Addr} {len cap : Nat} {l : List Int} (h : Row w a len cap l) : (convert 59 9 (.slice a len cap)).run Tryz.prog w = .ok (.string (strOfNums l)) w := by
  obtain ⟨h1, h2, h3, h4, h5⟩ := h
  rcases h5 with h0 | ⟨b, o, rfl, hc⟩
  · subst h0
    obtain rfl := List.eq_nil_of_length_eq_zero h1
    rw [run_convert_bytes_string w 59 9 5 _ _ _ Tryz.underlying59 Tryz.underlying5 Tryz.underlying9]
    cases a with
    | none => simp [Conv.bytesToString]; rfl
    | some x =>
      rw [run_bytesToString w x 0 cap [] (by simp [loadCells, loadCellsFrom])]
      rfl
  · exact run_convert_bytes_arg w 59 5 Tryz.underlying59 Tryz.underlying5 b o len cap l h1 hc 9 Tryz.underlying9
theorem text_row (w : World) (l : List Int) (hb : ∀ n ∈ l, 0 ≤ n ∧ n ≤ 255) (hl : l.length ≤ 9223372036854775807) :
    ∃ cap w1, (convert 9 59 (.string (strOfNums l))).run Tryz.prog w = .ok (.slice (some ⟨w.heap.size, 0, none⟩) l.length cap) w1 ∧
      Row w1 (some ⟨w.heap.size, 0, none⟩) l.length cap l ∧ Below w.heap.size w w1 ∧ w1.heap.size = w.heap.size + 1 ∧
      (∀ i, i < cap → (w1.cell? ⟨w.heap.size, i, none⟩).isSome = true ∧ w1.frozen? ⟨w.heap.size, i, none⟩ = false) := by
  have hsz : (strOfNums l).size = l.length := strOfNums_size l
  have hge := grownCap_ge w (strOfNums l).size 0 5
  have hle := grownCap_le_maxLen w (strOfNums l).size 0 5 (by rw [hsz]; exact hl)
  have hcs : (Lib.bytesCells w 5 (strOfNums l)).size = grownCap w (strOfNums l).size 0 5 := by
    simp [Lib.bytesCells]
    have := hsz
    simp only [ByteArray.size] at this
    omega
  refine ⟨grownCap w (strOfNums l).size 0 5, Lib.bytesWorld w 5 (strOfNums l), ?_, ?_, ?_, Lib.bytesWorld_size w 5 _, ?_⟩
  · rw [Lib.run_convert_string_bytes w 9 59 5 _ Tryz.underlying9 Tryz.underlying59 Tryz.underlying5, hsz]
  · refine ⟨rfl, by omega, hle, hb, Or.inr ⟨_, _, rfl, fun i hi => ?_⟩⟩
    rw [Nat.zero_add, Lib.bytesWorld_cell w 5 _ i (by omega), strOfNums_data]
    have hbd := hb l[i] (List.getElem_mem hi)
    simp [List.getD, hi]
    omega
  · exact ⟨rfl, rfl, rfl, by rw [Lib.bytesWorld_size]; omega, fun k hk => Lib.bytesWorld_at_old w 5 _ k hk⟩
  · intro i hi
    have hh := Lib.bytesWorld_at_new w 5 (strOfNums l)
    constructor
    · simp [World.cell?, hh, hcs, hi]
    · simp [World.frozen?, hh, hcs]
      omega
theorem info5 : (Tryz.prog.info? 5).map (fun i => (i.zero, i.size, i.bytes)) = some (some (.int .u8 0), 1, 1) := by kernel_rfl
def Free (w : World) (g cap : Nat) : Prop := ∀ i, i < cap → (w.cell? ⟨g, i, none⟩).isSome = true ∧ w.frozen? ⟨g, i, none⟩ = false
theorem Free.keep {S : Nat → Prop} {w w' : World} {g cap : Nat} (h : Free w g cap) (k : Keep S w w') (hs : ¬ S g) : Free w' g cap := by
  intro i hi
  obtain ⟨h1, h2⟩ := h i hi
  obtain ⟨v, hv⟩ := Option.isSome_iff_exists.1 h1
  have e := k.block g (World.block_lt_of_cell? w _ hv) hs
  exact ⟨by rw [World.cell?_of_block (w := w) (a := ⟨g, i, none⟩) e]; exact h1, by rw [World.frozen?_of_block (w := w) (a := ⟨g, i, none⟩) e]; exact h2⟩
theorem getD_append_left (l m : List Int) (i : Nat) (h : i < l.length) : (l ++ m).getD i 0 = l.getD i 0 := by
  simp [List.getD, List.getElem?_append_left h]
theorem Row.init {w : World} {a : Option Addr} {len cap : Nat} {l m : List Int} (h : Row w a (len + m.length) cap (l ++ m)) : Row w a len cap l := by
  obtain ⟨h1, h2, h3, h4, h5⟩ := h
  have hl : l.length = len := by simp at h1; omega
  refine ⟨hl, by omega, h3, fun n hn => h4 n (by simp [hn]), ?_⟩
  rcases h5 with h0 | ⟨b, o, rfl, hc⟩
  · left; omega
  · right
    exact ⟨b, o, rfl, fun i hi => by rw [hc i (by omega), getD_append_left _ _ _ (by omega)]⟩
theorem Row.cellAt {w : World} {g len cap : Nat} {l : List Int} (h : Row w (some ⟨g, 0, none⟩) len cap l) {i : Nat} (hi : i < len) : w.cell? ⟨g, i, none⟩ = some (.int .u8 (l.getD i 0)) := by
  rcases h.2.2.2.2 with h0 | ⟨b, o, e, hc⟩
  · omega
  · simp only [Option.some.injEq, Addr.mk.injEq, and_true] at e
    obtain ⟨rfl, rfl⟩ := e
    have := hc i hi
    rwa [Nat.zero_add] at this
theorem Row.set {w : World} {g len cap : Nat} {l : List Int} (h : Row w (some ⟨g, 0, none⟩) len cap l) {i : Nat} (hi : i < len) {n : Int} (hn : 0 ≤ n ∧ n ≤ 255) :
    Row (w.setCell ⟨g, i, none⟩ (.int .u8 n)) (some ⟨g, 0, none⟩) len cap (l.set i n) := by
  have hc := fun j (hj : j < len) => h.cellAt hj
  obtain ⟨h1, h2, h3, h4, h5⟩ := h
  refine ⟨by simp [h1], h2, h3, fun m hm => ?_, Or.inr ⟨_, _, rfl, fun j hj => ?_⟩⟩
  · rcases List.mem_or_eq_of_mem_set hm with h | h
    · exact h4 m h
    · subst h; exact hn
  · rw [Nat.zero_add]
    by_cases e : j = i
    · subst e
      rw [World.cell?_setCell_same w _ _ (hc j hj)]
      simp [List.getD, h1, hj]
    · rw [World.cell?_setCell_other (h := fun x => e (congrArg Addr.off x).symm), hc j hj]
      simp [List.getD, Ne.symm e]
theorem Free.set {w : World} {g cap : Nat} (h : Free w g cap) (a : Addr) (v : Value) : Free (w.setCell a v) g cap := by
  intro i hi
  obtain ⟨h1, h2⟩ := h i hi
  constructor
  · by_cases e : a = ⟨g, i, none⟩
    · subst e
      rw [World.cell?_setCell_same' w _ v h1]; rfl
    · rw [World.cell?_setCell_other (h := e)]; exact h1
  · rw [World.frozen?_setCell]; exact h2
def tab (n : Nat) (d : Nat → Int) : List Int := (List.range n).map d
theorem tab_len (n : Nat) (d : Nat → Int) : (tab n d).length = n := by simp [tab]
theorem tab_get {n i : Nat} (d : Nat → Int) (h : i < n) : (tab n d).getD i 0 = d i := by simp [tab, List.getD, h]
theorem tab_byte {n : Nat} {d : Nat → Int} (h : ∀ i, 0 ≤ d i ∧ d i ≤ 255) : ∀ x ∈ tab n d, 0 ≤ x ∧ x ≤ 255 := by
  intro x hx
  simp [tab] at hx
  obtain ⟨i, _, rfl⟩ := hx
  exact h i
theorem Blk.row {w : World} {b N : Nat} {d : Nat → Int} (h : Blk w b N (fun i => .int .u8 (d i))) (hd : ∀ i, 0 ≤ d i ∧ d i ≤ 255) (o n cap : Nat) (hn : o + n ≤ N) (hc : n ≤ cap) (hm : cap ≤ 9223372036854775807) :
    Row w (some ⟨b, o, none⟩) n cap (tab n (fun i => d (o + i))) :=
  ⟨tab_len _ _, hc, hm, tab_byte (fun i => hd _), Or.inr ⟨b, o, rfl, fun i hi => by rw [tab_get _ hi]; exact (h (o + i) (by omega)).1⟩⟩
theorem Row.blk {w : World} {g n cap : Nat} {d : Nat → Int} (h : Row w (some ⟨g, 0, none⟩) n cap (tab n d)) (f : Free w g cap) : Blk w g n (fun i => .int .u8 (d i)) := fun i hi =>
  ⟨by rw [h.cellAt hi, tab_get d hi], (f i (by have := h.2.1; omega)).2⟩
def B8 (l : List Int) : Prop := ∀ x ∈ l, 0 ≤ x ∧ x ≤ 255
def rdL (l : List Int) (a n : Nat) : List Int := (l.take ((a + n) * 32)).drop (a * 32)
def padL (m : Nat) (d : List Int) : List Int := d.take m ++ List.replicate (m - d.length) 0
def wrL (l : List Int) (a n : Nat) (d : List Int) : List Int := l.take (a * 32) ++ (padL (n * 32) d ++ l.drop ((a + n) * 32))
theorem padL_len (m : Nat) (d : List Int) : (padL m d).length = m := by
  unfold padL
  rw [List.length_append, List.length_take, List.length_replicate]
  omega
theorem padL_b8 {m : Nat} {d : List Int} (h : B8 d) : B8 (padL m d) := by
  intro x hx
  unfold padL at hx
  rcases List.mem_append.1 hx with hx | hx
  · exact h x (List.mem_of_mem_take hx)
  · have := List.eq_of_mem_replicate hx; omega
theorem rdL_len {l : List Int} {a n : Nat} (h : (a + n) * 32 ≤ l.length) : (rdL l a n).length = n * 32 := by
  unfold rdL
  rw [List.length_drop, List.length_take]
  omega
theorem rdL_b8 {l : List Int} {a n : Nat} (h : B8 l) : B8 (rdL l a n) := fun x hx => h x (List.mem_of_mem_take (List.mem_of_mem_drop hx))
theorem wrL_len {l : List Int} {a n : Nat} {d : List Int} (h : (a + n) * 32 ≤ l.length) : (wrL l a n d).length = l.length := by
  unfold wrL
  rw [List.length_append, List.length_append, padL_len, List.length_take, List.length_drop]
  omega
theorem wrL_b8 {l : List Int} {a n : Nat} {d : List Int} (h : B8 l) (hd : B8 d) : B8 (wrL l a n d) := by
  intro x hx
  unfold wrL at hx
  rcases List.mem_append.1 hx with hx | hx
  · exact h x (List.mem_of_mem_take hx)
  rcases List.mem_append.1 hx with hx | hx
  · exact padL_b8 hd x hx
  · exact h x (List.mem_of_mem_drop hx)
theorem wrL_at {l : List Int} {a n : Nat} {d : List Int} (h : (a + n) * 32 ≤ l.length) (i : Nat) : (wrL l a n d)[i]? = if i < a * 32 then l[i]? else if i < (a + n) * 32 then (padL (n * 32) d)[i - a * 32]? else l[i]? := by
  have hl : (l.take (a * 32)).length = a * 32 := by rw [List.length_take]; omega
  unfold wrL
  by_cases c1 : i < a * 32
  · rw [if_pos c1, List.getElem?_append_left (by rw [hl]; exact c1), List.getElem?_take_of_lt c1]
  · rw [if_neg c1, List.getElem?_append_right (by omega), hl]
    by_cases c2 : i < (a + n) * 32
    · rw [if_pos c2, List.getElem?_append_left (by rw [padL_len]; omega)]
    · rw [if_neg c2, List.getElem?_append_right (by rw [padL_len]; omega), padL_len, List.getElem?_drop]
      congr 1
      omega
theorem wrL_comm {l : List Int} {a n b m : Nat} {d e : List Int} (h1 : (a + n) * 32 ≤ l.length) (h2 : (b + m) * 32 ≤ l.length) (h : a + n ≤ b ∨ b + m ≤ a) : wrL (wrL l a n d) b m e = wrL (wrL l b m e) a n d := by
  refine List.ext_getElem? (fun i => ?_)
  have e1 := wrL_at (l := wrL l a n d) (a := b) (n := m) (d := e) (by rw [wrL_len h1]; exact h2) i
  have e2 := wrL_at (l := wrL l b m e) (a := a) (n := n) (d := d) (by rw [wrL_len h2]; exact h1) i
  rw [e1, e2, wrL_at h1, wrL_at h2]
  clear e1 e2
  by_cases c1 : i < a * 32 <;> by_cases c2 : i < (a + n) * 32 <;> by_cases c3 : i < b * 32 <;> by_cases c4 : i < (b + m) * 32 <;> simp only [c1, c2, c3, c4, if_true, if_false] <;> omega
theorem rd_wr {l : List Int} {a n : Nat} {d : List Int} (h : (a + n) * 32 ≤ l.length) : rdL (wrL l a n d) a n = padL (n * 32) d := by
  have hl : (l.take (a * 32)).length = a * 32 := by rw [List.length_take]; omega
  unfold rdL wrL
  rw [← List.append_assoc, List.take_append_of_le_length (by rw [List.length_append, hl, padL_len]; omega), List.take_of_length_le (by rw [List.length_append, hl, padL_len]; omega)]
  generalize l.take (a * 32) = x at hl ⊢
  rw [← hl, List.drop_left]
theorem padL_take {m : Nat} {d : List Int} {k : Nat} (h1 : k ≤ m) (h2 : k ≤ d.length) : (padL m d).take k = d.take k := by
  unfold padL
  rw [List.take_append_of_le_length (by rw [List.length_take]; omega), List.take_take, Nat.min_eq_left h1]
theorem padL_nil (m : Nat) : padL m [] = List.replicate m 0 := by simp [padL]
def nums (s : ByteArray) : List Int := s.data.toList.map fun b => (b.toNat : Int)
theorem nums_b8 (s : ByteArray) : B8 (nums s) := by
  intro x hx
  obtain ⟨b, -, rfl⟩ := List.mem_map.1 hx
  have := b.toNat_lt
  constructor <;> omega
theorem nums_len (s : ByteArray) : (nums s).length = s.size := by unfold nums; rw [List.length_map]; rfl
theorem str_nums (s : ByteArray) : strOfNums (nums s) = s := by
  obtain ⟨d⟩ := s
  unfold strOfNums nums
  congr 1
  rw [List.map_map]
  have : (d.toList.map ((fun n : Int => UInt8.ofNat n.toNat) ∘ fun b : UInt8 => (b.toNat : Int))) = d.toList := by
    conv => rhs; rw [← List.map_id d.toList]
    refine List.map_congr_left (fun b _ => ?_)
    simp
  rw [this]
theorem str_app (l m : List Int) : strOfNums l ++ strOfNums m = strOfNums (l ++ m) := by
  apply ByteArray.ext
  simp [strOfNums]
theorem str_extract (l : List Int) (a b : Nat) : (strOfNums l).extract a b = strOfNums ((l.take b).drop a) := by
  apply ByteArray.ext
  simp [strOfNums, List.map_drop, List.map_take]
  rw [List.drop_take]
theorem str_inj {l m : List Int} (hl : B8 l) (hm : B8 m) (h : strOfNums l = strOfNums m) : l = m := by
  have h1 := congrArg nums h
  have key : ∀ {l : List Int}, B8 l → nums (strOfNums l) = l := by
    intro l hl
    unfold nums
    rw [strOfNums_data, List.map_map]
    conv => rhs; rw [← List.map_id l]
    refine List.map_congr_left (fun x hx => ?_)
    have := hl x hx
    simp
    omega
  rwa [key hl, key hm] at h1
def okR (cap lba n : Int) : Bool := decide (1 ≤ n) && (decide (0 ≤ lba) && decide (n ≤ cap - lba))
theorem okR_iff {cap lba n : Int} : okR cap lba n = true ↔ 1 ≤ n ∧ 0 ≤ lba ∧ n ≤ cap - lba := by unfold okR; simp
set_option maxRecDepth 100000 in
theorem right9 (w : World) (cap lba n : Int) (hc : cap ≤ 9223372036854775807) :
    Calls Tryz.prog 42 #[.int .i64 cap, .int .i64 lba, .int .i64 n] w fun e w' => e = .returned (.bool (okR cap lba n)) ∧ w' = w := by
  unfold okR
  by_cases h1 : 1 ≤ n
  · by_cases h2 : n ≤ cap
    · by_cases h3 : 0 ≤ lba
      · have dw := wrapI (x := cap - n) (by omega) (by omega)
        go_enter Tryz.func42, Tryz.ntmps42
        go_wp2_with fail
        go_ret
        refine ⟨?_, rfl⟩
        have e : decide (lba ≤ cap - n) = decide (n ≤ cap - lba) := decide_eq_decide.2 (by omega)
        simp [h1, h3, e]
      · go_enter Tryz.func42, Tryz.ntmps42
        go_wp2_with fail
        go_ret
        exact ⟨by simp; intros; omega, rfl⟩
    · go_enter Tryz.func42, Tryz.ntmps42
      go_wp2_with fail
      go_ret
      exact ⟨by simp; intros; omega, rfl⟩
  · go_enter Tryz.func42, Tryz.ntmps42
    go_wp2_with fail
    go_ret
    exact ⟨by simp; intros; omega, rfl⟩
set_option maxRecDepth 100000 in
theorem cap_any {s : ByteArray} {N : Nat} (hs : s.size = N * 32) (hN : N ≤ 512) (w : World) : Calls Tryz.prog 43 #[.string s] w fun e w' => e = .returned (.int .i64 (N : Int)) ∧ w' = w := by
  have q1 : (s.size : Int).tdiv 32 = (N : Int) := by rw [Int.tdiv_eq_ediv_of_nonneg (by omega)]; omega
  have q2 := wrapI (x := (N : Int)) (by omega) (by omega)
  have q3 : (s.size : Int) ≤ 9223372036854775807 := by omega
  clear hs hN
  go_enter Tryz.func43, Tryz.ntmps43
  go_wp2_with fail
  go_ret
  exact ⟨rfl, rfl⟩
set_option maxRecDepth 100000 in
theorem make_bytes (n : Nat) (hn : n ≤ 16384) (w : World) : (Instr.makeSlice 59 (.int .i64 (n : Int)) (.int .i64 (n : Int))).run Tryz.prog w =
    .ok (.slice (some ⟨w.heap.size, 0, none⟩) n n) (w.alloc (.cells (madeCells #[.int .u8 0] n) 5)) := by
  obtain ⟨i, hi, hz0, hz1, hz2⟩ := info_parts info5
  have := run_make (P := Tryz.prog) w 59 5 i _ Tryz.underlying59 hi hz0 .i64 .i64 n n (by omega) (by omega) (by rw [hz2]; omega) (by omega)
  rw [hz1, Nat.mul_one] at this
  exact this
theorem made_eq (n : Nat) : madeCells #[.int .u8 0] n = ((List.replicate n (0 : Int)).map (Value.int .u8)).toArray := by
  apply Array.ext'
  rw [toList_madeCells_one]
  simp
theorem row_made (w : World) (n : Nat) (hn : n ≤ 16384) : Row (w.alloc (.cells (madeCells #[.int .u8 0] n) 5)) (some ⟨w.heap.size, 0, none⟩) n n (List.replicate n 0) := by
  rw [made_eq]
  have := row_new w (List.replicate n 0) (0, 0) w.heap.size n rfl (by simp) (by omega) (fun x hx => by have := List.eq_of_mem_replicate hx; omega)
  rwa [List.length_replicate] at this
theorem free_made (w : World) (n : Nat) : Free (w.alloc (.cells (madeCells #[.int .u8 0] n) 5)) w.heap.size n := by
  rw [made_eq]
  intro i hi
  refine ⟨?_, World.frozen?_alloc_new w _ 5 i⟩
  rw [World.cell?_alloc_mark]
  simp [hi]
set_option maxRecDepth 100000 in
theorem rnew17 {n : Nat} (hn : n ≤ 512) (w : World) : Calls Tryz.prog 19 #[.int .i64 (n : Int)] w fun e w' => e = .returned (.string (strOfNums (List.replicate (n * 32) 0))) ∧ Keep (fun _ => False) w w' := by
  have q1 : IntKind.i64.wrap ((n : Int) * 32) = ((n * 32 : Nat) : Int) := by rw [show (n : Int) * 32 = ((n * 32 : Nat) : Int) by omega]; exact wrapI (by omega) (by omega)
  have hmk := make_bytes (n * 32) (by omega) w
  have hR := row_made w (n * 32) (by omega)
  have hK : Keep (fun _ => False) w (w.alloc (.cells (madeCells #[.int .u8 0] (n * 32)) 5)) := (Keep.refl _ _).alloc _
  have hcv := hR.text
  generalize n * 32 = m at *
  clear hR
  go_enter Tryz.func19, Tryz.ntmps19
  go_wp2_with fail
  go_ret
  exact ⟨rfl, hK⟩
set_option maxRecDepth 100000 in
theorem rread17_no {s : ByteArray} {N : Nat} (hs : s.size = N * 32) (hN : N ≤ 512) {lba n : Int} (h : okR N lba n = false) (w : World) : Calls Tryz.prog 53 #[.string s, .int .i64 lba, .int .i64 n] w fun e w' => e = .returned (.tuple #[.string ⟨#[]⟩, .bool false]) ∧ w' = w := by
  have hc := fun w => cap_any hs hN w
  have hr := fun w => right9 w (N : Int) lba n (by omega)
  rw [h] at hr
  clear h hs
  go_enter Tryz.func53, Tryz.ntmps53
  go_wp2_with fail
  refine (hc _).mono ?_
  rintro e w1 ⟨rfl, e0⟩
  subst e0
  go_wp2_with fail
  refine (hr _).mono ?_
  rintro e w1 ⟨rfl, e0⟩
  subst e0
  go_wp2_with fail
  go_ret2
  exact ⟨rfl, rfl⟩
set_option maxRecDepth 100000 in
theorem rread17_yes {l : List Int} {N : Nat} (hs : l.length = N * 32) (hN : N ≤ 512) {lba n : Nat} (h : okR N lba n = true) (w : World) : Calls Tryz.prog 53 #[.string (strOfNums l), .int .i64 (lba : Int), .int .i64 (n : Int)] w fun e w' => e = .returned (.tuple #[.string (strOfNums (rdL l lba n)), .bool true]) ∧ w' = w := by
  have hz : (strOfNums l).size = N * 32 := by rw [strOfNums_size, hs]
  have hc := fun w => cap_any hz hN w
  have hr := fun w => right9 w (N : Int) lba n (by omega)
  rw [h] at hr
  have hb := okR_iff.1 h
  have q1 : IntKind.i64.wrap ((lba : Int) * 32) = ((lba * 32 : Nat) : Int) := by rw [show (lba : Int) * 32 = ((lba * 32 : Nat) : Int) by omega]; exact wrapI (by omega) (by omega)
  have q2 : IntKind.i64.wrap ((lba : Int) + n) = ((lba + n : Nat) : Int) := by rw [show (lba : Int) + n = ((lba + n : Nat) : Int) by omega]; exact wrapI (by omega) (by omega)
  have q3 : IntKind.i64.wrap (((lba + n : Nat) : Int) * 32) = (((lba + n) * 32 : Nat) : Int) := by rw [show ((lba + n : Nat) : Int) * 32 = (((lba + n) * 32 : Nat) : Int) by omega]; exact wrapI (by omega) (by omega)
  have d1 : lba * 32 ≤ (lba + n) * 32 := by omega
  have d2 : (lba + n) * 32 ≤ (strOfNums l).size := by omega
  have hE : Hid ((strOfNums l).extract (lba * 32) ((lba + n) * 32) = strOfNums (rdL l lba n)) := by show _ = _; rw [str_extract]; rfl
  generalize strOfNums (rdL l lba n) = r at *
  generalize strOfNums l = s at *
  generalize lba * 32 = A at *
  generalize hX : lba + n = X at *
  generalize X * 32 = B at *
  clear h hs hz hb hX
  go_enter Tryz.func53, Tryz.ntmps53
  go_wp2_with fail
  refine (hc _).mono ?_
  rintro e w1 ⟨rfl, e0⟩
  subst e0
  go_wp2_with fail
  refine (hr _).mono ?_
  rintro e w1 ⟨rfl, e0⟩
  subst e0
  go_wp2_with fail
  go_ret2
  exact ⟨by rw [← show _ = r from hE]; rfl, rfl⟩
theorem nums_at {d : ByteArray} {i : Nat} (h : i < d.size) : (nums d).getD i 0 = ((d[i]'h).toNat : Int) := by
  unfold nums
  rw [List.getD_eq_getElem?_getD, List.getElem?_map, List.getElem?_eq_getElem (by simpa using h)]
  rfl
def padI (m : Nat) (d : List Int) (i : Nat) : List Int := d.take i ++ List.replicate (m - i) 0
theorem padI_set {m : Nat} {d : List Int} {i : Nat} (h1 : i < m) (h2 : i < d.length) : (padI m d i).set i (d.getD i 0) = padI m d (i + 1) := by
  have hl : (d.take i).length = i := by rw [List.length_take]; omega
  unfold padI
  rw [List.set_append_right _ _ (by omega), hl, Nat.sub_self, show m - i = (m - (i + 1)) + 1 by omega, List.replicate_succ, List.set_cons_zero, List.take_add_one, List.append_assoc]
  congr 1
  rw [List.getD_eq_getElem?_getD, List.getElem?_eq_getElem h2]
  rfl
theorem padI_end {m : Nat} {d : List Int} {i : Nat} (h1 : i ≤ m) (h2 : i ≤ d.length) (h : i = m ∨ i = d.length) : padI m d i = padL m d := by
  unfold padI padL
  rcases h with rfl | rfl
  · rw [Nat.sub_self, show i - d.length = 0 by omega]
  · rw [List.take_of_length_le (Nat.le_refl _), List.take_of_length_le h1]
set_option maxRecDepth 100000 in
set_option maxHeartbeats 1000000 in
theorem rwrite17_no {s d : ByteArray} {N : Nat} (hs : s.size = N * 32) (hN : N ≤ 512) {lba n : Int} (h : okR N lba n = false) (w : World) : Calls Tryz.prog 18 #[.string s, .int .i64 lba, .int .i64 n, .string d] w fun e w' => e = .returned (.tuple #[.string s, .bool false]) ∧ Keep (fun _ => False) w w' := by
  have hc := fun w => cap_any hs hN w
  have hr := fun w => right9 w (N : Int) lba n (by omega)
  rw [h] at hr
  clear h hs
  go_enter Tryz.func18, Tryz.ntmps18
  go_wp2_with fail
  refine (hc _).mono ?_
  rintro e w1 ⟨rfl, e0⟩
  subst e0
  go_wp2_with fail
  refine (hr _).mono ?_
  rintro e w1 ⟨rfl, e0⟩
  subst e0
  go_wp2_with fail
  go_ret2
  exact ⟨rfl, Keep.refl _ _⟩
set_option maxRecDepth 100000 in
set_option maxHeartbeats 1000000 in
theorem rwrite17_yes {l : List Int} {d : ByteArray} {N : Nat} (hs : l.length = N * 32) (hN : N ≤ 512) {lba n : Nat} (h : okR N lba n = true) (w : World) : Calls Tryz.prog 18 #[.string (strOfNums l), .int .i64 (lba : Int), .int .i64 (n : Int), .string d] w fun e w' => e = .returned (.tuple #[.string (strOfNums (wrL l lba n (nums d))), .bool true]) ∧ Keep (fun _ => False) w w' := by
  have hz : (strOfNums l).size = N * 32 := by rw [strOfNums_size, hs]
  have hc := fun w => cap_any hz hN w
  have hr := fun w => right9 w (N : Int) lba n (by omega)
  rw [h] at hr
  have hb := okR_iff.1 h
  have q0 : IntKind.i64.wrap ((n : Int) * 32) = ((n * 32 : Nat) : Int) := by rw [show (n : Int) * 32 = ((n * 32 : Nat) : Int) by omega]; exact wrapI (by omega) (by omega)
  have q1 : IntKind.i64.wrap ((lba : Int) * 32) = ((lba * 32 : Nat) : Int) := by rw [show (lba : Int) * 32 = ((lba * 32 : Nat) : Int) by omega]; exact wrapI (by omega) (by omega)
  have q2 : IntKind.i64.wrap ((lba : Int) + n) = ((lba + n : Nat) : Int) := by rw [show (lba : Int) + n = ((lba + n : Nat) : Int) by omega]; exact wrapI (by omega) (by omega)
  have q3 : IntKind.i64.wrap (((lba + n : Nat) : Int) * 32) = (((lba + n) * 32 : Nat) : Int) := by rw [show ((lba + n : Nat) : Int) * 32 = (((lba + n) * 32 : Nat) : Int) by omega]; exact wrapI (by omega) (by omega)
  have d1 : lba * 32 ≤ (strOfNums l).size := by omega
  have d2 : (lba + n) * 32 ≤ (strOfNums l).size := by omega
  have d3 : (strOfNums l).size ≤ 16384 := by omega
  have hE : Hid ((strOfNums l).extract 0 (lba * 32) ++ strOfNums (padL (n * 32) (nums d)) ++ (strOfNums l).extract ((lba + n) * 32) (strOfNums l).size = strOfNums (wrL l lba n (nums d))) := by
    show _ = _
    rw [str_extract, str_extract, str_app, str_app, strOfNums_size, List.take_length, List.drop_zero, List.append_assoc]
    rfl
  have hm : n * 32 ≤ 16384 := by omega
  have hdl := nums_len d
  have hd8 := nums_b8 d
  generalize strOfNums (wrL l lba n (nums d)) = r at *
  generalize strOfNums l = s at *
  generalize lba * 32 = A at *
  generalize hX : lba + n = X at *
  generalize X * 32 = B at *
  generalize n * 32 = m at *
  have hmk := make_bytes m hm w
  have hR0 := row_made w m hm
  have hF0 := free_made w m
  have hK0 : Keep (fun _ => False) w (w.alloc (.cells (madeCells #[.int .u8 0] m) 5)) := (Keep.refl _ _).alloc _
  clear h hs hz hb hX
  go_enter Tryz.func18, Tryz.ntmps18
  go_wp2_with fail
  refine (hc _).mono ?_
  rintro e w1 ⟨rfl, e0⟩
  subst e0
  go_wp2_with fail
  refine (hr _).mono ?_
  rintro e w1 ⟨rfl, e0⟩
  subst e0
  clear hc hr
  go_upto_region 4 with fail
  clear hmk q0
  generalize w1.alloc (.cells (madeCells #[.int .u8 0] m) 5) = w2 at hR0 hF0 hK0 ⊢
  obtain ⟨g, hg⟩ : ∃ g, g = w1.heap.size := ⟨_, rfl⟩
  rw [← hg] at hR0 hF0 ⊢
  have hgv : Hid (w1.heap.size ≤ g) := by show _ ≤ _; omega
  clear hg
  rw [show List.replicate m (0 : Int) = padI m (nums d) 0 by simp [padI]] at hR0
  go_wp2_with fail
  go_loopw [11] (fun iv wx => ∃ i : Nat, i ≤ m ∧ i ≤ d.size ∧ iv = .int .i64 (i : Int) ∧ Row wx (some ⟨g, 0, none⟩) m m (padI m (nums d) i) ∧ Free wx g m ∧ Keep (fun _ => False) w1 wx) (fun iv _ => m - (intOf iv).toNat)
  case atStart => exact ⟨0, by omega, by omega, rfl, hR0, hF0, hK0⟩
  case round =>
    clear hR0 hF0 hK0
    obtain ⟨i, hi1, hi2, rfl, R1, F1, K1⟩ := hrel
    by_cases c1 : i < m
    · have b1 : (i : Int) < (m : Int) := by omega
      by_cases c2 : i < d.size
      · have b2 : (i : Int) < (d.size : Int) := by omega
        have hdb := getD_bound hd8 i
        have R2 := R1.set c1 hdb
        rw [padI_set c1 (by omega)] at R2
        have F2 := F1.set ⟨g, i, none⟩ (.int .u8 ((nums d).getD i 0))
        have K2 := K1.setCell (p := ⟨g, i, none⟩) (Or.inr hgv) (.int .u8 ((nums d).getD i 0))
        have u0 := R1.cellAt c1
        have z0 := (F1 i c1).2
        have dw := wrapI (x := (i : Int) + 1) (by omega) (by omega)
        have hlt' : Hid (i < m ∧ i < d.size) := ⟨c1, c2⟩
        clear R1 F1 K1
        rw [nums_at c2] at R2 F2 K2
        go_wp2_with fail
        go_roundw
        case rel => exact ⟨i + 1, by have h : i < m ∧ i < d.size := hlt'; omega, by have h : i < m ∧ i < d.size := hlt'; omega, by go_num, R2, F2, K2⟩
        case measure => have h : i < m ∧ i < d.size := hlt'; simp [intOf]; omega
      · have b2 : ¬ (i : Int) < (d.size : Int) := by omega
        have e1 : padI m (nums d) i = padL m (nums d) := padI_end hi1 (by omega) (Or.inr (by omega))
        rw [e1] at R1
        have hcv : (convert 59 9 (.slice (some ⟨g, 0, none⟩) m m)).run Tryz.prog wr.drew = .ok (.string (strOfNums (padL m (nums d)))) wr.drew := (R1.keep ((Keep.refl (fun _ => False) wr).drew) (fun _ _ _ e => e)).text
        have K2 := K1.drew
        have ht : (strOfNums (padL m (nums d))).size = m := by rw [strOfNums_size, padL_len]
        generalize strOfNums (padL m (nums d)) = t at hE hcv ht
        have n1 : ¬ 9223372036854775807 < A + m := by omega
        have n2 : ¬ 9223372036854775807 < A + m + (s.size - B) := by omega
        clear R1 F1
        go_upto_region 8 with fail
        refine wp_region_noPanic ?_
        refine wp_region_held_drew (S := fun w' => w' = wr.drew) (by kernel_rfl) (rfl) (fun hH0 => ?_)
        refine' wpAnyH_take (i := 0) (oi := { dst := some 40, op := Op.move (Operand.tmp 0), type := 9, pos := "ref.go:32", after := #[], guard := none }) (v := _) rfl (by kernel_rfl) (by kernel_rfl) (by kernel_rfl) (fun _ _ _ h => h) (Or.inl ⟨by rfl, ?hyms0⟩) hH0 ?rms0
        case hyms0 => (intro w' hSw; clear hSw; go_simp; try with_reducible rfl)
        simp only [Act.put, List.setIfInBounds_toArray, List.set_cons_zero, List.set_cons_succ]
        refine' wpAnyH_take (i := 1) (oi := { dst := some 41, op := Op.move (Operand.tmp 1), type := 3, pos := "ref.go:32", after := #[], guard := none }) (v := _) rfl (by kernel_rfl) (by kernel_rfl) (by kernel_rfl) (fun _ _ _ h => h) (Or.inl ⟨by rfl, ?hyms1⟩) hH0 ?rms1
        case hyms1 => (intro w' hSw; clear hSw; go_simp; try with_reducible rfl)
        simp only [Act.put, List.setIfInBounds_toArray, List.set_cons_zero, List.set_cons_succ]
        refine' wpAnyH_take (i := 2) (oi := { dst := some 42, op := Op.binOp BinOp.mul 3 (Operand.tmp 41) (Operand.const (Value.int IntKind.i64 32)) 3, type := 3, pos := "ref.go:32", after := #[{ on := 1, ground := Ground.data }], guard := none }) (v := _) rfl (by kernel_rfl) (by kernel_rfl) (by kernel_rfl) (fun _ _ _ h => h) (Or.inl ⟨by rfl, ?hyms2⟩) hH0 ?rms2
        case hyms2 => (intro w' hSw; clear hSw; go_simp; try with_reducible rfl)
        simp only [Act.put, List.setIfInBounds_toArray, List.set_cons_zero, List.set_cons_succ]
        refine' wpAnyH_take (i := 3) (oi := { dst := some 43, op := Op.slice 9 (Operand.tmp 40) none (some (Operand.tmp 42)) none, type := 9, pos := "ref.go:32", after := #[{ on := 0, ground := Ground.data }, { on := 2, ground := Ground.data }], guard := none }) (v := _) rfl (by kernel_rfl) (by kernel_rfl) (by kernel_rfl) (fun _ _ _ h => h) (Or.inl ⟨by rfl, ?hyms3⟩) hH0 ?rms3
        case hyms3 => (intro w' hSw; clear hSw; go_simp; try with_reducible rfl)
        simp only [Act.put, List.setIfInBounds_toArray, List.set_cons_zero, List.set_cons_succ]
        refine' wpAnyH_take (i := 4) (oi := { dst := some 44, op := Op.move (Operand.tmp 10), type := 59, pos := "ref.go:32", after := #[], guard := none }) (v := _) rfl (by kernel_rfl) (by kernel_rfl) (by kernel_rfl) (fun _ _ _ h => h) (Or.inl ⟨by rfl, ?hyms4⟩) hH0 ?rms4
        case hyms4 => (intro w' hSw; clear hSw; go_simp; try with_reducible rfl)
        simp only [Act.put, List.setIfInBounds_toArray, List.set_cons_zero, List.set_cons_succ]
        refine' wpAnyH_take (i := 5) (oi := { dst := some 45, op := Op.convert 59 9 (Operand.tmp 44), type := 9, pos := "ref.go:32", after := #[{ on := 4, ground := Ground.data }], guard := none }) (v := _) rfl (by kernel_rfl) (by kernel_rfl) (by kernel_rfl) (fun _ _ _ h => h) (Or.inl ⟨by rfl, ?hyms5⟩) hH0 ?rms5
        case hyms5 => (intro w' hSw; subst hSw; go_simp; try with_reducible rfl)
        simp only [Act.put, List.setIfInBounds_toArray, List.set_cons_zero, List.set_cons_succ]
        refine' wpAnyH_take (i := 6) (oi := { dst := some 46, op := Op.binOp BinOp.add 9 (Operand.tmp 43) (Operand.tmp 45) 9, type := 9, pos := "ref.go:32", after := #[{ on := 3, ground := Ground.data }, { on := 5, ground := Ground.data }], guard := none }) (v := _) rfl (by kernel_rfl) (by kernel_rfl) (by kernel_rfl) (fun _ _ _ h => h) (Or.inl ⟨by rfl, ?hyms6⟩) hH0 ?rms6
        case hyms6 => (intro w' hSw; clear hSw; go_simp; try with_reducible rfl)
        simp only [Act.put, List.setIfInBounds_toArray, List.set_cons_zero, List.set_cons_succ]
        refine' wpAnyH_take (i := 7) (oi := { dst := some 47, op := Op.move (Operand.tmp 0), type := 9, pos := "ref.go:32", after := #[], guard := none }) (v := _) rfl (by kernel_rfl) (by kernel_rfl) (by kernel_rfl) (fun _ _ _ h => h) (Or.inl ⟨by rfl, ?hyms7⟩) hH0 ?rms7
        case hyms7 => (intro w' hSw; clear hSw; go_simp; try with_reducible rfl)
        simp only [Act.put, List.setIfInBounds_toArray, List.set_cons_zero, List.set_cons_succ]
        refine' wpAnyH_take (i := 8) (oi := { dst := some 48, op := Op.move (Operand.tmp 1), type := 3, pos := "ref.go:32", after := #[], guard := none }) (v := _) rfl (by kernel_rfl) (by kernel_rfl) (by kernel_rfl) (fun _ _ _ h => h) (Or.inl ⟨by rfl, ?hyms8⟩) hH0 ?rms8
        case hyms8 => (intro w' hSw; clear hSw; go_simp; try with_reducible rfl)
        simp only [Act.put, List.setIfInBounds_toArray, List.set_cons_zero, List.set_cons_succ]
        refine' wpAnyH_take (i := 9) (oi := { dst := some 49, op := Op.move (Operand.tmp 2), type := 3, pos := "ref.go:32", after := #[], guard := none }) (v := _) rfl (by kernel_rfl) (by kernel_rfl) (by kernel_rfl) (fun _ _ _ h => h) (Or.inl ⟨by rfl, ?hyms9⟩) hH0 ?rms9
        case hyms9 => (intro w' hSw; clear hSw; go_simp; try with_reducible rfl)
        simp only [Act.put, List.setIfInBounds_toArray, List.set_cons_zero, List.set_cons_succ]
        refine' wpAnyH_take (i := 10) (oi := { dst := some 50, op := Op.binOp BinOp.add 3 (Operand.tmp 48) (Operand.tmp 49) 3, type := 3, pos := "ref.go:32", after := #[{ on := 8, ground := Ground.data }, { on := 9, ground := Ground.data }], guard := none }) (v := _) rfl (by kernel_rfl) (by kernel_rfl) (by kernel_rfl) (fun _ _ _ h => h) (Or.inl ⟨by rfl, ?hyms10⟩) hH0 ?rms10
        case hyms10 => (intro w' hSw; clear hSw; go_simp; try with_reducible rfl)
        simp only [Act.put, List.setIfInBounds_toArray, List.set_cons_zero, List.set_cons_succ]
        refine' wpAnyH_take (i := 11) (oi := { dst := some 51, op := Op.binOp BinOp.mul 3 (Operand.tmp 50) (Operand.const (Value.int IntKind.i64 32)) 3, type := 3, pos := "ref.go:32", after := #[{ on := 10, ground := Ground.data }], guard := none }) (v := _) rfl (by kernel_rfl) (by kernel_rfl) (by kernel_rfl) (fun _ _ _ h => h) (Or.inl ⟨by rfl, ?hyms11⟩) hH0 ?rms11
        case hyms11 => (intro w' hSw; clear hSw; go_simp; try with_reducible rfl)
        simp only [Act.put, List.setIfInBounds_toArray, List.set_cons_zero, List.set_cons_succ]
        refine' wpAnyH_take (i := 12) (oi := { dst := some 52, op := Op.slice 9 (Operand.tmp 47) (some (Operand.tmp 51)) none none, type := 9, pos := "ref.go:32", after := #[{ on := 7, ground := Ground.data }, { on := 11, ground := Ground.data }], guard := none }) (v := _) rfl (by kernel_rfl) (by kernel_rfl) (by kernel_rfl) (fun _ _ _ h => h) (Or.inl ⟨by rfl, ?hyms12⟩) hH0 ?rms12
        case hyms12 => (intro w' hSw; clear hSw; go_simp; try with_reducible rfl)
        simp only [Act.put, List.setIfInBounds_toArray, List.set_cons_zero, List.set_cons_succ]
        refine' wpAnyH_take (i := 13) (oi := { dst := some 53, op := Op.binOp BinOp.add 9 (Operand.tmp 46) (Operand.tmp 52) 9, type := 9, pos := "ref.go:32", after := #[{ on := 6, ground := Ground.data }, { on := 12, ground := Ground.data }], guard := none }) (v := _) rfl (by kernel_rfl) (by kernel_rfl) (by kernel_rfl) (fun _ _ _ h => h) (Or.inl ⟨by rfl, ?hyms13⟩) hH0 ?rms13
        case hyms13 => (intro w' hSw; clear hSw; go_simp; try with_reducible rfl)
        simp only [Act.put, List.setIfInBounds_toArray, List.set_cons_zero, List.set_cons_succ]
        refine' wpAnyH_take (i := 14) (oi := { dst := some 8, op := Op.assign (Operand.tmp 53), type := 9, pos := "ref.go:32", after := #[{ on := 13, ground := Ground.data }, { on := 0, ground := Ground.phase }, { on := 1, ground := Ground.phase }, { on := 2, ground := Ground.phase }, { on := 3, ground := Ground.phase }, { on := 4, ground := Ground.phase }, { on := 5, ground := Ground.phase }, { on := 6, ground := Ground.phase }, { on := 7, ground := Ground.phase }, { on := 8, ground := Ground.phase }, { on := 9, ground := Ground.phase }, { on := 10, ground := Ground.phase }, { on := 11, ground := Ground.phase }, { on := 12, ground := Ground.phase }, { on := 13, ground := Ground.phase }], guard := none }) (v := _) rfl (by kernel_rfl) (by kernel_rfl) (by kernel_rfl) (fun _ _ _ h => h) (Or.inl ⟨by rfl, ?hyms14⟩) hH0 ?rms14
        case hyms14 => (intro w' hSw; clear hSw; go_simp; try with_reducible rfl)
        simp only [Act.put, List.setIfInBounds_toArray, List.set_cons_zero, List.set_cons_succ]
        refine' wpAnyH_take (i := 15) (oi := { dst := some 9, op := Op.assign (Operand.const (Value.bool true)), type := 4, pos := "ref.go:32", after := #[{ on := 14, ground := Ground.chain }, { on := 0, ground := Ground.phase }, { on := 1, ground := Ground.phase }, { on := 2, ground := Ground.phase }, { on := 3, ground := Ground.phase }, { on := 4, ground := Ground.phase }, { on := 5, ground := Ground.phase }, { on := 6, ground := Ground.phase }, { on := 7, ground := Ground.phase }, { on := 8, ground := Ground.phase }, { on := 9, ground := Ground.phase }, { on := 10, ground := Ground.phase }, { on := 11, ground := Ground.phase }, { on := 12, ground := Ground.phase }, { on := 13, ground := Ground.phase }, { on := 14, ground := Ground.phase }], guard := none }) (v := _) rfl (by kernel_rfl) (by kernel_rfl) (by kernel_rfl) (fun _ _ _ h => h) (Or.inl ⟨by rfl, ?hyms15⟩) hH0 ?rms15
        case hyms15 => (intro w' hSw; clear hSw; go_simp; try with_reducible rfl)
        simp only [Act.put, List.setIfInBounds_toArray, List.set_cons_zero, List.set_cons_succ]
        refine wpAnyH_done (by kernel_rfl) ?_ _
        refine NoPanic.normal ?_
        go_wp2_with fail
        go_ret2
        exact ⟨by rw [← show _ = r from hE]; rfl, K2⟩
    · have b1 : ¬ (i : Int) < (m : Int) := by omega
      have e1 : padI m (nums d) i = padL m (nums d) := padI_end hi1 (by omega) (Or.inl (by omega))
      rw [e1] at R1
      have hcv : (convert 59 9 (.slice (some ⟨g, 0, none⟩) m m)).run Tryz.prog wr.drew = .ok (.string (strOfNums (padL m (nums d)))) wr.drew := (R1.keep ((Keep.refl (fun _ => False) wr).drew) (fun _ _ _ e => e)).text
      have K2 := K1.drew
      have ht : (strOfNums (padL m (nums d))).size = m := by rw [strOfNums_size, padL_len]
      generalize strOfNums (padL m (nums d)) = t at hE hcv ht
      have n1 : ¬ 9223372036854775807 < A + m := by omega
      have n2 : ¬ 9223372036854775807 < A + m + (s.size - B) := by omega
      clear R1 F1
      go_upto_region 8 with fail
      refine wp_region_noPanic ?_
      refine wp_region_held_drew (S := fun w' => w' = wr.drew) (by kernel_rfl) (rfl) (fun hH0 => ?_)
      refine' wpAnyH_take (i := 0) (oi := { dst := some 40, op := Op.move (Operand.tmp 0), type := 9, pos := "ref.go:32", after := #[], guard := none }) (v := _) rfl (by kernel_rfl) (by kernel_rfl) (by kernel_rfl) (fun _ _ _ h => h) (Or.inl ⟨by rfl, ?hyn0⟩) hH0 ?rn0
      case hyn0 => (intro w' hSw; clear hSw; go_simp; try with_reducible rfl)
      simp only [Act.put, List.setIfInBounds_toArray, List.set_cons_zero, List.set_cons_succ]
      refine' wpAnyH_take (i := 1) (oi := { dst := some 41, op := Op.move (Operand.tmp 1), type := 3, pos := "ref.go:32", after := #[], guard := none }) (v := _) rfl (by kernel_rfl) (by kernel_rfl) (by kernel_rfl) (fun _ _ _ h => h) (Or.inl ⟨by rfl, ?hyn1⟩) hH0 ?rn1
      case hyn1 => (intro w' hSw; clear hSw; go_simp; try with_reducible rfl)
      simp only [Act.put, List.setIfInBounds_toArray, List.set_cons_zero, List.set_cons_succ]
      refine' wpAnyH_take (i := 2) (oi := { dst := some 42, op := Op.binOp BinOp.mul 3 (Operand.tmp 41) (Operand.const (Value.int IntKind.i64 32)) 3, type := 3, pos := "ref.go:32", after := #[{ on := 1, ground := Ground.data }], guard := none }) (v := _) rfl (by kernel_rfl) (by kernel_rfl) (by kernel_rfl) (fun _ _ _ h => h) (Or.inl ⟨by rfl, ?hyn2⟩) hH0 ?rn2
      case hyn2 => (intro w' hSw; clear hSw; go_simp; try with_reducible rfl)
      simp only [Act.put, List.setIfInBounds_toArray, List.set_cons_zero, List.set_cons_succ]
      refine' wpAnyH_take (i := 3) (oi := { dst := some 43, op := Op.slice 9 (Operand.tmp 40) none (some (Operand.tmp 42)) none, type := 9, pos := "ref.go:32", after := #[{ on := 0, ground := Ground.data }, { on := 2, ground := Ground.data }], guard := none }) (v := _) rfl (by kernel_rfl) (by kernel_rfl) (by kernel_rfl) (fun _ _ _ h => h) (Or.inl ⟨by rfl, ?hyn3⟩) hH0 ?rn3
      case hyn3 => (intro w' hSw; clear hSw; go_simp; try with_reducible rfl)
      simp only [Act.put, List.setIfInBounds_toArray, List.set_cons_zero, List.set_cons_succ]
      refine' wpAnyH_take (i := 4) (oi := { dst := some 44, op := Op.move (Operand.tmp 10), type := 59, pos := "ref.go:32", after := #[], guard := none }) (v := _) rfl (by kernel_rfl) (by kernel_rfl) (by kernel_rfl) (fun _ _ _ h => h) (Or.inl ⟨by rfl, ?hyn4⟩) hH0 ?rn4
      case hyn4 => (intro w' hSw; clear hSw; go_simp; try with_reducible rfl)
      simp only [Act.put, List.setIfInBounds_toArray, List.set_cons_zero, List.set_cons_succ]
      refine' wpAnyH_take (i := 5) (oi := { dst := some 45, op := Op.convert 59 9 (Operand.tmp 44), type := 9, pos := "ref.go:32", after := #[{ on := 4, ground := Ground.data }], guard := none }) (v := _) rfl (by kernel_rfl) (by kernel_rfl) (by kernel_rfl) (fun _ _ _ h => h) (Or.inl ⟨by rfl, ?hyn5⟩) hH0 ?rn5
      case hyn5 => (intro w' hSw; subst hSw; go_simp; try with_reducible rfl)
      simp only [Act.put, List.setIfInBounds_toArray, List.set_cons_zero, List.set_cons_succ]
      refine' wpAnyH_take (i := 6) (oi := { dst := some 46, op := Op.binOp BinOp.add 9 (Operand.tmp 43) (Operand.tmp 45) 9, type := 9, pos := "ref.go:32", after := #[{ on := 3, ground := Ground.data }, { on := 5, ground := Ground.data }], guard := none }) (v := _) rfl (by kernel_rfl) (by kernel_rfl) (by kernel_rfl) (fun _ _ _ h => h) (Or.inl ⟨by rfl, ?hyn6⟩) hH0 ?rn6
      case hyn6 => (intro w' hSw; clear hSw; go_simp; try with_reducible rfl)
      simp only [Act.put, List.setIfInBounds_toArray, List.set_cons_zero, List.set_cons_succ]
      refine' wpAnyH_take (i := 7) (oi := { dst := some 47, op := Op.move (Operand.tmp 0), type := 9, pos := "ref.go:32", after := #[], guard := none }) (v := _) rfl (by kernel_rfl) (by kernel_rfl) (by kernel_rfl) (fun _ _ _ h => h) (Or.inl ⟨by rfl, ?hyn7⟩) hH0 ?rn7
      case hyn7 => (intro w' hSw; clear hSw; go_simp; try with_reducible rfl)
      simp only [Act.put, List.setIfInBounds_toArray, List.set_cons_zero, List.set_cons_succ]
      refine' wpAnyH_take (i := 8) (oi := { dst := some 48, op := Op.move (Operand.tmp 1), type := 3, pos := "ref.go:32", after := #[], guard := none }) (v := _) rfl (by kernel_rfl) (by kernel_rfl) (by kernel_rfl) (fun _ _ _ h => h) (Or.inl ⟨by rfl, ?hyn8⟩) hH0 ?rn8
      case hyn8 => (intro w' hSw; clear hSw; go_simp; try with_reducible rfl)
      simp only [Act.put, List.setIfInBounds_toArray, List.set_cons_zero, List.set_cons_succ]
      refine' wpAnyH_take (i := 9) (oi := { dst := some 49, op := Op.move (Operand.tmp 2), type := 3, pos := "ref.go:32", after := #[], guard := none }) (v := _) rfl (by kernel_rfl) (by kernel_rfl) (by kernel_rfl) (fun _ _ _ h => h) (Or.inl ⟨by rfl, ?hyn9⟩) hH0 ?rn9
      case hyn9 => (intro w' hSw; clear hSw; go_simp; try with_reducible rfl)
      simp only [Act.put, List.setIfInBounds_toArray, List.set_cons_zero, List.set_cons_succ]
      refine' wpAnyH_take (i := 10) (oi := { dst := some 50, op := Op.binOp BinOp.add 3 (Operand.tmp 48) (Operand.tmp 49) 3, type := 3, pos := "ref.go:32", after := #[{ on := 8, ground := Ground.data }, { on := 9, ground := Ground.data }], guard := none }) (v := _) rfl (by kernel_rfl) (by kernel_rfl) (by kernel_rfl) (fun _ _ _ h => h) (Or.inl ⟨by rfl, ?hyn10⟩) hH0 ?rn10
      case hyn10 => (intro w' hSw; clear hSw; go_simp; try with_reducible rfl)
      simp only [Act.put, List.setIfInBounds_toArray, List.set_cons_zero, List.set_cons_succ]
      refine' wpAnyH_take (i := 11) (oi := { dst := some 51, op := Op.binOp BinOp.mul 3 (Operand.tmp 50) (Operand.const (Value.int IntKind.i64 32)) 3, type := 3, pos := "ref.go:32", after := #[{ on := 10, ground := Ground.data }], guard := none }) (v := _) rfl (by kernel_rfl) (by kernel_rfl) (by kernel_rfl) (fun _ _ _ h => h) (Or.inl ⟨by rfl, ?hyn11⟩) hH0 ?rn11
      case hyn11 => (intro w' hSw; clear hSw; go_simp; try with_reducible rfl)
      simp only [Act.put, List.setIfInBounds_toArray, List.set_cons_zero, List.set_cons_succ]
      refine' wpAnyH_take (i := 12) (oi := { dst := some 52, op := Op.slice 9 (Operand.tmp 47) (some (Operand.tmp 51)) none none, type := 9, pos := "ref.go:32", after := #[{ on := 7, ground := Ground.data }, { on := 11, ground := Ground.data }], guard := none }) (v := _) rfl (by kernel_rfl) (by kernel_rfl) (by kernel_rfl) (fun _ _ _ h => h) (Or.inl ⟨by rfl, ?hyn12⟩) hH0 ?rn12
      case hyn12 => (intro w' hSw; clear hSw; go_simp; try with_reducible rfl)
      simp only [Act.put, List.setIfInBounds_toArray, List.set_cons_zero, List.set_cons_succ]
      refine' wpAnyH_take (i := 13) (oi := { dst := some 53, op := Op.binOp BinOp.add 9 (Operand.tmp 46) (Operand.tmp 52) 9, type := 9, pos := "ref.go:32", after := #[{ on := 6, ground := Ground.data }, { on := 12, ground := Ground.data }], guard := none }) (v := _) rfl (by kernel_rfl) (by kernel_rfl) (by kernel_rfl) (fun _ _ _ h => h) (Or.inl ⟨by rfl, ?hyn13⟩) hH0 ?rn13
      case hyn13 => (intro w' hSw; clear hSw; go_simp; try with_reducible rfl)
      simp only [Act.put, List.setIfInBounds_toArray, List.set_cons_zero, List.set_cons_succ]
      refine' wpAnyH_take (i := 14) (oi := { dst := some 8, op := Op.assign (Operand.tmp 53), type := 9, pos := "ref.go:32", after := #[{ on := 13, ground := Ground.data }, { on := 0, ground := Ground.phase }, { on := 1, ground := Ground.phase }, { on := 2, ground := Ground.phase }, { on := 3, ground := Ground.phase }, { on := 4, ground := Ground.phase }, { on := 5, ground := Ground.phase }, { on := 6, ground := Ground.phase }, { on := 7, ground := Ground.phase }, { on := 8, ground := Ground.phase }, { on := 9, ground := Ground.phase }, { on := 10, ground := Ground.phase }, { on := 11, ground := Ground.phase }, { on := 12, ground := Ground.phase }, { on := 13, ground := Ground.phase }], guard := none }) (v := _) rfl (by kernel_rfl) (by kernel_rfl) (by kernel_rfl) (fun _ _ _ h => h) (Or.inl ⟨by rfl, ?hyn14⟩) hH0 ?rn14
      case hyn14 => (intro w' hSw; clear hSw; go_simp; try with_reducible rfl)
      simp only [Act.put, List.setIfInBounds_toArray, List.set_cons_zero, List.set_cons_succ]
      refine' wpAnyH_take (i := 15) (oi := { dst := some 9, op := Op.assign (Operand.const (Value.bool true)), type := 4, pos := "ref.go:32", after := #[{ on := 14, ground := Ground.chain }, { on := 0, ground := Ground.phase }, { on := 1, ground := Ground.phase }, { on := 2, ground := Ground.phase }, { on := 3, ground := Ground.phase }, { on := 4, ground := Ground.phase }, { on := 5, ground := Ground.phase }, { on := 6, ground := Ground.phase }, { on := 7, ground := Ground.phase }, { on := 8, ground := Ground.phase }, { on := 9, ground := Ground.phase }, { on := 10, ground := Ground.phase }, { on := 11, ground := Ground.phase }, { on := 12, ground := Ground.phase }, { on := 13, ground := Ground.phase }, { on := 14, ground := Ground.phase }], guard := none }) (v := _) rfl (by kernel_rfl) (by kernel_rfl) (by kernel_rfl) (fun _ _ _ h => h) (Or.inl ⟨by rfl, ?hyn15⟩) hH0 ?rn15
      case hyn15 => (intro w' hSw; clear hSw; go_simp; try with_reducible rfl)
      simp only [Act.put, List.setIfInBounds_toArray, List.set_cons_zero, List.set_cons_succ]
      refine wpAnyH_done (by kernel_rfl) ?_ _
      refine NoPanic.normal ?_
      go_wp2_with fail
      go_ret2
      exact ⟨by rw [← show _ = r from hE]; rfl, K2⟩
end Tg
end Go.Proofs.YtjgnajopomadpaaGreat
