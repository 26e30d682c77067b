/-
  What the documents own answers lean on: blocks of memory, rows of triples, of numbers; runs in their form, entries, pieces folded; the documents own Same, Form, Fold.
-/
import Derived.Test.YtlekapfhbceibaaRows
import Derived.WalkKit
import Derived.ProofKit
import Derived.OpenShut
import Derived.ShutString
import Derived.ChangeOld
import Derived.Below
import Derived.Deep.OwnRows
import Derived.Laws.IdiomCopy
import Derived.Lib.SlBytesConst
import Derived.Lib.ConvBytes
import Derived.Laws.BytesArg
import Derived.SizedLaws
import Derived.ArgAppend
import Derived.BigQuiet
import Derived.BigRegion
import Derived.Deep.MidRow
import Derived.ChangeKeysEq
import Derived.Laws.ResultCell
import Derived.Deep.RegionHeld3
import Derived.Deep.CutBlock
import Derived.Laws.AppendOwn
import Derived.Laws.OwnMore
import Derived.Deep.Slices
namespace Go.Proofs.Ytlekapfhbceibaa
open Go.ChangeShapes Go.WideShapes Go.ChangeAt Go.RowKit
namespace Tg
/-- Block b's first n cells, none frozen. -/
def Blk (w : World) (b n : Nat) (f : Nat → Value) : Prop := ∀ i, i < n → w.cell? ⟨b, i, none⟩ = some (f i) ∧ w.frozen? ⟨b, i, none⟩ = false
theorem Blk.lt {w : World} {b n : Nat} {f : Nat → Value} (h : Blk w b n f) (hn : 0 < n) : b < w.heap.size := World.block_lt_of_cell? w _ (h 0 hn).1
theorem Blk.of_block {w w' : World} {b n : Nat} {f : Nat → Value} (h : Blk w b n f) (e : w'.heap[b]? = w.heap[b]?) : Blk w' b n f := fun i hi =>
  ⟨by rw [World.cell?_of_block (w := w) (a := ⟨b, i, none⟩) e]; exact (h i hi).1, by rw [World.frozen?_of_block (w := w) (a := ⟨b, i, none⟩) e]; exact (h i hi).2⟩
theorem Blk.set {w : World} {b n : Nat} {f : Nat → Value} (h : Blk w b n f) (j : Nat) (v : Value) : Blk (w.setCell ⟨b, j, none⟩ v) b n (fun i => if i = j then v else f i) := by
  intro i hi
  refine ⟨?_, by rw [World.frozen?_setCell]; exact (h i hi).2⟩
  by_cases e : i = j
  · subst e; simp only [if_true]; exact World.cell?_setCell_same w _ _ (h i hi).1
  · simp only [if_neg e]; rw [World.cell?_setCell_other (h := fun x => e (congrArg Addr.off x).symm)]; exact (h i hi).1
theorem Blk.other {w : World} {b n : Nat} {f : Nat → Value} (h : Blk w b n f) {a : Addr} (ha : b ≠ a.block) (v : Value) : Blk (w.setCell a v) b n f := h.of_block (Below.heap_setCell _ _ _ _ ha)
theorem Blk.alloc {w : World} {b n : Nat} {f : Nat → Value} (h : Blk w b n f) (o : Obj) : Blk (w.alloc o) b n f := by
  intro i hi
  have hl := h.lt (by omega)
  exact h.of_block (Below.heap_alloc w o b hl) i hi
/-- All blocks but those of S are as they were. -/
structure Keep (S : Nat → Prop) (w w' : World) : Prop where
  os : w'.os = w.os
  tape : w'.tape = w.tape
  output : w'.output = w.output
  size : w.heap.size ≤ w'.heap.size
  block : ∀ k, k < w.heap.size → ¬ S k → w'.heap[k]? = w.heap[k]?
theorem Keep.refl (S : Nat → Prop) (w : World) : Keep S w w := ⟨rfl, rfl, rfl, Nat.le_refl _, fun _ _ _ => rfl⟩
theorem Keep.trans {S : Nat → Prop} {a b c : World} (h : Keep S a b) (k : Keep S b c) : Keep S a c :=
  ⟨k.os.trans h.os, k.tape.trans h.tape, k.output.trans h.output, Nat.le_trans h.size k.size, fun i hi hs => (k.block i (Nat.lt_of_lt_of_le hi h.size) hs).trans (h.block i hi hs)⟩
theorem Keep.mono {S T : Nat → Prop} {a b : World} (h : Keep S a b) (e : ∀ k, k < a.heap.size → S k → T k) : Keep T a b :=
  ⟨h.os, h.tape, h.output, h.size, fun i hi hs => h.block i hi (fun x => hs (e i hi x))⟩
theorem Keep.alloc {S : Nat → Prop} {a w : World} (h : Keep S a w) (o : Obj) : Keep S a (w.alloc o) :=
  h.trans ⟨rfl, rfl, rfl, by simp, fun k hk _ => Below.heap_alloc _ _ _ hk⟩
theorem Keep.setCell {S : Nat → Prop} {a w : World} (h : Keep S a w) {p : Addr} (hp : S p.block ∨ a.heap.size ≤ p.block) (u : Value) : Keep S a (w.setCell p u) :=
  ⟨h.os, h.tape, h.output, by simp [World.setCell]; exact h.size, fun k hk hs => by
    rw [Below.heap_setCell _ _ _ _ (fun e => by rcases hp with hp | hp; exact hs (e ▸ hp); omega)]; exact h.block k hk hs⟩
theorem Blk.keep {S : Nat → Prop} {w w' : World} {b n : Nat} {f : Nat → Value} (h : Blk w b n f) (k : Keep S w w') (hs : ¬ S b) : Blk w' b n f := fun i hi =>
  h.of_block (k.block b (h.lt (by omega)) hs) i hi
theorem Keep.next {S T : Nat → Prop} {a b c : World} (h : Keep S a b) (k : Keep T b c) (e : ∀ x, x < a.heap.size → T x → S x) : Keep S a c :=
  ⟨k.os.trans h.os, k.tape.trans h.tape, k.output.trans h.output, Nat.le_trans h.size k.size, fun i hi hs => (k.block i (Nat.lt_of_lt_of_le hi h.size) (fun t => hs (e i hi t))).trans (h.block i hi hs)⟩
theorem blk_alloc (w : World) (A : Array Value) (t : TypeId) (n : Nat) (f : Nat → Value) (h : ∀ i, i < n → A[i]? = some (f i)) : Blk (w.alloc (.cells A t)) w.heap.size n f := by
  intro i hi
  refine ⟨?_, ?_⟩
  · rw [World.cell?_alloc_mark]; exact h i hi
  · exact World.frozen?_alloc_new w A t i
/-- A fact that the walk does not look into. -/
def Hid (p : Prop) : Prop := p
/-- The walk's step at an append whose run is known. -/
theorem wpList_append_run {P : Program} {w : World} {ops : Array Oper} {rest : List Oper} {o : Oper} {a : Act} {Q : Exit → Act → World → Prop}
    (hw : Region.wanted o (yielded ops a.tmps) = true) (s x : Operand) (t : TypeId) (hop : o.op = Op.call { callee := Callee.builtin Builtin.append, args := #[s, x], argTypes := #[t, t] })
    {v1 v2 v' : Value} {w' : World} (hs : a.eval s = v1) (hx : a.eval x = v2) (hrun : (Builtin.append_ #[t, t] o.type #[v1, v2]).run P w = .ok v' w')
    (hK : wpList P ops Q rest (a.put o.dst v') w') : wpList P ops Q (o :: rest) a w := by
  refine BigFrame.wpList_want hw fun K hK' => ?_
  unfold Oper.wp
  simp [execOp, hop, resolve, invoke, builtin, hs, hx, hrun, Result.andThen]
  exact hK' _ _ hK
theorem three {i : Nat} (h : i < 3) : i = 0 ∨ i = 1 ∨ i = 2 := by omega
/-- A run. -/
structure Rn where
  lba : Int
  len : Int
  phys : Int
theorem Keep.drewN {S : Nat → Prop} {a w : World} (h : Keep S a w) (n : Nat) : Keep S a (w.drewN n) := ⟨h.os, h.tape, h.output, h.size, h.block⟩
def rcell (x : Rn) (j : Nat) : Value := if j = 0 then .int .i64 x.lba else if j = 1 then .int .i64 x.len else .int .i64 x.phys
def rcs (x : Rn) : List Value := [.int .i64 x.lba, .int .i64 x.len, .int .i64 x.phys]
def rcells (l : List Rn) : List Value := l.flatMap rcs
set_option maxRecDepth 100000 in
theorem rcells_len (l : List Rn) : (rcells l).length = l.length * 3 := by
  induction l with
  | nil => rfl
  | cons v l ih => simp only [rcells, List.flatMap_cons, List.length_append] at *; rw [ih]; simp [rcs]; omega
theorem rcells_app (l m : List Rn) : rcells (l ++ m) = rcells l ++ rcells m := by simp [rcells]
set_option maxRecDepth 100000 in
theorem info31 : (Try.prog.info? 45).map (fun i => (i.zero, i.size, i.bytes)) = some (some (.agg #[.int .i64 0, .int .i64 0, .int .i64 0]), 3, 24) := by kernel_rfl
theorem make_runs (m : Nat) (hm : m ≤ 512) (w : World) : (Instr.makeSlice 32 (.int .i64 0) (.int .i64 (m : Int))).run Try.prog w =
    .ok (.slice (some ⟨w.heap.size, 0, none⟩) 0 m) (w.alloc (.cells (madeCells #[.int .i64 0, .int .i64 0, .int .i64 0] (m * 3)) 45)) := by
  obtain ⟨i, hi, hz0, hz1, hz2⟩ := info_parts info31
  have := run_make (P := Try.prog) w 32 45 i _ Try.underlying32 hi hz0 .i64 .i64 0 m (by omega) (by omega) (by rw [hz2]; omega) (by omega)
  rw [hz1] at this
  exact this
/-- A new block's cells. -/
theorem cells_new (w : World) (A : Array Value) (e : TypeId) : ∀ j u, A.toList[j]? = some u → (w.alloc (.cells A e)).cell? ((⟨w.heap.size, 0, none⟩ : Addr).add j) = some u := by
  intro j u hu
  rw [Addr.add_lit, Nat.zero_add, World.cell?_alloc_mark, ← Array.getElem?_toList]
  exact hu
set_option maxRecDepth 100000 in
theorem rcells_at {v : Rn} : ∀ {m : List Rn} {q : Nat}, m[q]? = some v → ∀ j, j < 3 → (rcells m)[q * 3 + j]? = (rcs v)[j]?
  | [], q, h, _, _ => by simp at h
  | y :: m, 0, h, j, hj => by
    simp at h
    subst h
    rw [show rcells (y :: m) = rcs y ++ rcells m from rfl, List.getElem?_append_left (by simp [rcs]; omega)]
    simp
  | y :: m, q + 1, h, j, hj => by
    simp at h
    have := rcells_at (m := m) (q := q) h j hj
    rw [show rcells (y :: m) = rcs y ++ rcells m from rfl, List.getElem?_append_right (by simp [rcs]; omega), ← this]
    congr 1
    simp [rcs]; omega
/-- A list of runs that can be read. -/
def Rs (w : World) (a : Option Addr) (cap : Nat) (m : List Rn) : Prop :=
  m.length ≤ cap ∧ cap ≤ 9223372036854775807 ∧ (m = [] ∨ ∃ g, a = some ⟨g, 0, none⟩ ∧ ∀ j u, (rcells m)[j]? = some u → w.cell? ⟨g, j, none⟩ = some u)
set_option maxRecDepth 100000 in
theorem Rs.keep {S : Nat → Prop} {w w' : World} {a : Option Addr} {cap : Nat} {m : List Rn} (h : Rs w a cap m) (k : Keep S w w') (hs : ∀ g, a = some ⟨g, 0, none⟩ → ¬ S g) : Rs w' a cap m := by
  obtain ⟨h1, h2, h3⟩ := h
  refine ⟨h1, h2, h3.imp id ?_⟩
  rintro ⟨g, rfl, hc⟩
  refine ⟨g, rfl, fun j u hu => ?_⟩
  have := hc j u hu
  rw [← this]
  exact World.cell?_of_block (w := w) (a := ⟨g, j, none⟩) (k.block g (World.block_lt_of_cell? w _ this) (hs g rfl))
theorem Rs.more {w w' : World} {a : Option Addr} {cap : Nat} {m : List Rn} (h : Rs w a cap m) (k : Keep (fun _ => False) w w') : Rs w' a cap m := h.keep k (fun _ _ e => e)
set_option maxRecDepth 100000 in
/-- What is read of the run at a place. -/
theorem Rs.at {w : World} {a : Option Addr} {cap : Nat} {m : List Rn} (h : Rs w a cap m) {i : Nat} {x : Rn} (hx : m[i]? = some x) :
    ∃ g, a = some ⟨g, 0, none⟩ ∧ w.cell? ⟨g, i * 3, none⟩ = some (.int .i64 x.lba) ∧ w.cell? ⟨g, i * 3 + 1, none⟩ = some (.int .i64 x.len) ∧ w.cell? ⟨g, i * 3 + 2, none⟩ = some (.int .i64 x.phys) := by
  rcases h.2.2 with rfl | ⟨g, rfl, hc⟩
  · simp at hx
  · exact ⟨g, rfl, hc (i * 3 + 0) _ (by rw [rcells_at hx 0 (by omega)]; rfl), hc (i * 3 + 1) _ (by rw [rcells_at hx 1 (by omega)]; rfl), hc (i * 3 + 2) _ (by rw [rcells_at hx 2 (by omega)]; rfl)⟩
theorem get_rn {m : List Rn} {i : Nat} (h : i < m.length) : ∃ x, m[i]? = some x := ⟨_, List.getElem?_eq_getElem h⟩
/-- A list of runs of one's own, in memory made since w0. -/
structure Rr (w0 w : World) (a : Option Addr) (cap : Nat) (m : List Rn) : Prop where
  own : w.ownsRow w0.heap.size 45 3 (.slice a m.length cap) m.length (rcells m)
  keep : Keep (fun _ => False) w0 w
theorem Rr.nil (w : World) : Rr w w none 0 [] := ⟨World.ownsRow_nil _ _ _ _, Keep.refl _ _⟩
theorem Rr.more {w0 w w' : World} {a : Option Addr} {cap : Nat} {m : List Rn} (h : Rr w0 w a cap m) (k : Keep (fun _ => False) w w') : Rr w0 w' a cap m := by
  refine ⟨⟨h.own.1, h.own.2.imp id ?_⟩, h.keep.trans k⟩
  rintro ⟨g, c, cur, e, hb, hh, h1, h2, h3, h4⟩
  exact ⟨g, c, cur, e, hb, by rw [k.block g (by by_cases hg : g < w.heap.size; exact hg; simp [Array.getElem?_eq_none (Nat.le_of_not_lt hg)] at hh) (fun e => e)]; exact hh, h1, h2, h3, h4⟩
theorem Rr.other {S : Nat → Prop} {w0 w w' : World} {a : Option Addr} {cap : Nat} {m : List Rn} (h : Rr w0 w a cap m) (k : Keep S w w') (hs : ∀ g, a = some ⟨g, 0, none⟩ → ¬ S g) (h0 : ∀ x, S x → w0.heap.size ≤ x) : Rr w0 w' a cap m := by
  refine ⟨⟨h.own.1, h.own.2.imp id ?_⟩, h.keep.next k (fun x hx e => by have := h0 x e; omega)⟩
  rintro ⟨g, c, cur, e, hb, hh, h1, h2, h3, h4⟩
  injection e with e1 e2 e3
  exact ⟨g, c, cur, by rw [e1, e3], hb, by rw [k.block g (by by_cases hg : g < w.heap.size; exact hg; simp [Array.getElem?_eq_none (Nat.le_of_not_lt hg)] at hh) (hs g e1)]; exact hh, h1, h2, h3, h4⟩
set_option maxRecDepth 100000 in
theorem Rr.block {w0 w : World} {a : Option Addr} {cap : Nat} {m : List Rn} (h : Rr w0 w a cap m) {g : Nat} (e : a = some ⟨g, 0, none⟩) : w0.heap.size ≤ g ∧ g < w.heap.size := by
  have := h.own.lt g (by rw [e]; rfl)
  exact this
set_option maxRecDepth 100000 in
theorem Rr.rs {w0 w : World} {a : Option Addr} {cap : Nat} {m : List Rn} (h : Rr w0 w a cap m) : Rs w a cap m := by
  obtain ⟨h1, h2⟩ := h.own
  rcases h2 with ⟨e, hn⟩ | ⟨g, c, cur, e, hb, hh, hn, hm, hs, ht⟩
  · injection e with e1 e2 e3
    exact ⟨by omega, by omega, Or.inl (List.eq_nil_of_length_eq_zero hn)⟩
  · injection e with e1 e2 e3
    subst e1 e3
    unfold maxLen at hm
    refine ⟨hn, by omega, Or.inr ⟨g, rfl, fun j u hu => ?_⟩⟩
    have := h.own.cells (g := g) rfl j u hu
    rwa [Addr.add_lit, Nat.zero_add] at this
theorem keep_grown {w w' : World} {row : Option Nat} (h : w.grownBy w' row) : Keep (fun x => some x = row) w w' := ⟨h.os, h.tape, h.output, h.size, fun k hk hs => h.block k hk hs⟩
set_option maxRecDepth 100000 in
theorem Rr.appN {w0 w : World} {a : Option Addr} {cap : Nat} {m : List Rn} (h : Rr w0 w a cap m) (x : Addr) (c : Nat) (ns : List Rn) (hl : m.length + ns.length ≤ 1000000) (hnews : ∀ j u, (rcells ns)[j]? = some u → w.cell? (x.add j) = some u) :
    ∃ a' cap' w', (Builtin.append_ #[32, 32] 32 #[.slice a m.length cap, .slice (some x) ns.length c]).run Try.prog w = .ok (.slice a' (m.length + ns.length) cap') w' ∧ Rr w0 w' a' cap' (m ++ ns) ∧ Keep (fun b => w0.heap.size ≤ b) w w' := by
  obtain ⟨i, hi, hz0, hz1, hz2⟩ := info_parts info31
  have hs := h.keep.size
  obtain ⟨v', w', hrun, hown, hgrow, hnil⟩ := run_append_own (P := Try.prog) w w0.heap.size 32 32 45 i _ 3 24 Try.underlying32 hi hz0 hz1 hz2 rfl (by decide) (.slice a m.length cap) m.length (rcells m) h.own
    x ns.length c (rcells ns) (rcells_len ns) hnews (by intro u hu; obtain ⟨y, _, hy⟩ := List.mem_flatMap.1 hu; simp [rcs] at hy; rcases hy with rfl | rfl | rfl <;> rfl) (by unfold maxLen; omega) (by omega) hs
  have hk : Keep (fun b => w0.heap.size ≤ b) w w' := (keep_grown hgrow).mono (fun b _ e => (h.own.lt b e.symm).1)
  have hK : Keep (fun _ => False) w0 w' := h.keep.next hk (fun y hy e => by omega)
  rw [← rcells_app, ← List.length_append] at hown
  have hshape : ∃ a' cap', v' = .slice a' (m ++ ns).length cap' := by
    rcases hown.2 with ⟨e, hn⟩ | ⟨g, c', cur, e, -⟩
    · exact ⟨none, 0, by rw [hn]; exact e⟩
    · exact ⟨_, _, e⟩
  obtain ⟨a', cap', rfl⟩ := hshape
  exact ⟨a', cap', w', by rw [hrun, List.length_append], ⟨hown, hK⟩, hk⟩
theorem Rr.app1 {w0 w : World} {a : Option Addr} {cap : Nat} {m : List Rn} (h : Rr w0 w a cap m) (hl : m.length ≤ 100000) (x : Rn) :
    ∃ a' cap' w', (Builtin.append_ #[32, 32] 32 #[.slice a m.length cap, .slice (some ⟨w.heap.size, 0, none⟩) 1 1]).run Try.prog (w.alloc (.cells #[.int .i64 x.lba, .int .i64 x.len, .int .i64 x.phys] 45)) = .ok (.slice a' (m.length + 1) cap') w' ∧ Rr w0 w' a' cap' (m ++ [x]) := by
  obtain ⟨a', cap', w', h1, h2, -⟩ := (h.more ((Keep.refl (fun _ => False) w).alloc (.cells #[.int .i64 x.lba, .int .i64 x.len, .int .i64 x.phys] 45))).appN ⟨w.heap.size, 0, none⟩ 1 [x] (by simp; omega) (fun j u hu => cells_new w _ 45 j u (by simpa [rcells, rcs] using hu))
  exact ⟨a', cap', w', h1, h2⟩
/-- The sector behind a run. -/
def Rn.fin (x : Rn) : Int := x.lba + x.len
/-- Does the second go on where the first ends, in sectors and in pages? -/
def Glued (a b : Rn) : Prop := a.fin = b.lba ∧ a.phys + a.len = b.phys
def Rn.Ok (x : Rn) : Prop := 0 ≤ x.lba ∧ 1 ≤ x.len ∧ 0 ≤ x.phys
/-- The one form. -/
def Form (m : List Rn) : Prop := (∀ x ∈ m, x.Ok) ∧ m.Pairwise (fun a b => a.fin ≤ b.lba ∧ ¬ Glued a b)
/-- A sector's page. -/
def page : List Rn → Int → Option Int
  | [], _ => none
  | x :: m, s => if x.lba ≤ s ∧ s < x.fin then some (x.phys + (s - x.lba)) else page m s
theorem Form.nil : Form [] := ⟨by simp, List.Pairwise.nil⟩
theorem Form.cons {x : Rn} {m : List Rn} : Form (x :: m) ↔ x.Ok ∧ (∀ y ∈ m, x.fin ≤ y.lba ∧ ¬ Glued x y) ∧ Form m := by
  unfold Form
  rw [List.pairwise_cons]
  constructor
  · rintro ⟨h1, h2, h3⟩
    exact ⟨h1 x (by simp), h2, fun y hy => h1 y (by simp [hy]), h3⟩
  · rintro ⟨h1, h2, h3, h4⟩
    exact ⟨fun y hy => by rcases List.mem_cons.1 hy with rfl | hy; exact h1; exact h3 y hy, h2, h4⟩
theorem Form.app {a b : List Rn} : Form (a ++ b) ↔ Form a ∧ Form b ∧ ∀ x ∈ a, ∀ y ∈ b, x.fin ≤ y.lba ∧ ¬ Glued x y := by
  unfold Form
  rw [List.pairwise_append]
  constructor
  · rintro ⟨h1, h2, h3, h4⟩
    exact ⟨⟨fun x hx => h1 x (by simp [hx]), h2⟩, ⟨fun x hx => h1 x (by simp [hx]), h3⟩, h4⟩
  · rintro ⟨⟨h1, h2⟩, ⟨h3, h4⟩, h5⟩
    exact ⟨fun x hx => by rcases List.mem_append.1 hx with hx | hx; exact h1 x hx; exact h3 x hx, h2, h4, h5⟩
theorem page_none {m : List Rn} {s : Int} (h : ∀ x ∈ m, ¬ (x.lba ≤ s ∧ s < x.fin)) : page m s = none := by
  induction m with
  | nil => rfl
  | cons x m ih => rw [page, if_neg (h x (by simp))]; exact ih (fun y hy => h y (by simp [hy]))
theorem page_app (a b : List Rn) (s : Int) : page (a ++ b) s = (page a s).or (page b s) := by
  induction a with
  | nil => simp [page]
  | cons x a ih =>
    rw [List.cons_append, page, page]
    split
    · rfl
    · exact ih
theorem page_mem {m : List Rn} {s p : Int} (h : page m s = some p) : ∃ x ∈ m, x.lba ≤ s ∧ s < x.fin ∧ p = x.phys + (s - x.lba) := by
  induction m with
  | nil => cases h
  | cons x m ih =>
    rw [page] at h
    split at h
    · next e => injection h with h; exact ⟨x, by simp, e.1, e.2, h.symm⟩
    · obtain ⟨y, hy, h'⟩ := ih h
      exact ⟨y, by simp [hy], h'⟩
/-- In the form each run tells its pages. -/
theorem Form.page_of {m : List Rn} (h : Form m) {x : Rn} (hx : x ∈ m) {s : Int} (h1 : x.lba ≤ s) (h2 : s < x.fin) : page m s = some (x.phys + (s - x.lba)) := by
  induction m with
  | nil => cases hx
  | cons y m ih =>
    obtain ⟨hy, hr, hm⟩ := Form.cons.1 h
    rw [page]
    rcases List.mem_cons.1 hx with rfl | hx'
    · rw [if_pos ⟨h1, h2⟩]
    · have := (hr x hx').1
      rw [if_neg (by omega)]
      exact ih hm hx'
theorem Form.page_low {x : Rn} {m : List Rn} (h : Form (x :: m)) {s : Int} (hs : s < x.fin) : page m s = none :=
  page_none (fun y hy => by have := ((Form.cons.1 h).2.1 y hy).1; omega)
theorem Form.head_le {x y : Rn} {a b : List Rn} (ha : Form (x :: a)) (hb : Form (y :: b)) (e : ∀ s, page (x :: a) s = page (y :: b) s) : y.lba ≤ x.lba := by
  have h1 := (Form.cons.1 ha).1
  have hp : page (x :: a) x.lba = some (x.phys + (x.lba - x.lba)) := ha.page_of (by simp) (Int.le_refl _) (by unfold Rn.fin; have := h1.2.1; omega)
  rw [e] at hp
  obtain ⟨z, hz, z1, z2, -⟩ := page_mem hp
  rcases List.mem_cons.1 hz with rfl | hz
  · exact z1
  · have := ((Form.cons.1 hb).2.1 z hz).1
    have := (Form.cons.1 hb).1.2.1
    unfold Rn.fin at *
    omega
theorem Form.len_le {x y : Rn} {a b : List Rn} (ha : Form (x :: a)) (hb : Form (y :: b)) (e : ∀ s, page (x :: a) s = page (y :: b) s) (hl : x.lba = y.lba) (hp : x.phys = y.phys) : y.len ≤ x.len := by
  by_cases h : y.len ≤ x.len
  · exact h
  · have hx := (Form.cons.1 ha).1
    have hy := (Form.cons.1 hb).1
    have h1 : page (y :: b) x.fin = some (y.phys + (x.fin - y.lba)) := hb.page_of (by simp) (by unfold Rn.fin; have := hx.2.1; omega) (by unfold Rn.fin; omega)
    rw [← e] at h1
    obtain ⟨z, hz, z1, z2, z3⟩ := page_mem h1
    rcases List.mem_cons.1 hz with rfl | hz
    · omega
    · obtain ⟨g1, g2⟩ := (Form.cons.1 ha).2.1 z hz
      refine absurd ⟨?_, ?_⟩ g2
      · omega
      · unfold Rn.fin at *; omega
/-- A map has just one list of that form. -/
theorem Form.one : ∀ {a b : List Rn}, Form a → Form b → (∀ s, page a s = page b s) → a = b
  | [], [], _, _, _ => rfl
  | [], y :: b, _, hb, e => by
    have hy := (Form.cons.1 hb).1
    have h1 : page (y :: b) y.lba = some (y.phys + (y.lba - y.lba)) := hb.page_of (by simp) (Int.le_refl _) (by unfold Rn.fin; have := hy.2.1; omega)
    rw [← e] at h1; cases h1
  | x :: a, [], ha, _, e => by
    have hx := (Form.cons.1 ha).1
    have h1 : page (x :: a) x.lba = some (x.phys + (x.lba - x.lba)) := ha.page_of (by simp) (Int.le_refl _) (by unfold Rn.fin; have := hx.2.1; omega)
    rw [e] at h1; cases h1
  | x :: a, y :: b, ha, hb, e => by
    have e' : ∀ s, page (y :: b) s = page (x :: a) s := fun s => (e s).symm
    have hl : x.lba = y.lba := by have := ha.head_le hb e; have := hb.head_le ha e'; omega
    have hx := (Form.cons.1 ha).1
    have hy := (Form.cons.1 hb).1
    have hp : x.phys = y.phys := by
      have h1 : page (x :: a) x.lba = some (x.phys + (x.lba - x.lba)) := ha.page_of (by simp) (Int.le_refl _) (by unfold Rn.fin; have := hx.2.1; omega)
      have h2 : page (y :: b) x.lba = some (y.phys + (x.lba - y.lba)) := hb.page_of (by simp) (by omega) (by unfold Rn.fin; have := hy.2.1; omega)
      rw [e, h2] at h1
      injection h1 with h1
      omega
    have hn : x.len = y.len := by have := ha.len_le hb e hl hp; have := hb.len_le ha e' hl.symm hp.symm; omega
    have hxy : x = y := by cases x; cases y; simp only at *; subst hl hp hn; rfl
    subst hxy
    congr 1
    refine Form.one (Form.cons.1 ha).2.2 (Form.cons.1 hb).2.2 (fun s => ?_)
    by_cases h : s < x.fin
    · rw [ha.page_low h, hb.page_low h]
    · have := e s
      rwa [page, page, if_neg (by omega), if_neg (by omega)] at this
/-- One entry a sector: below 0 none. -/
def entry (t : List Int) (s : Int) : Option Int := if 0 ≤ s ∧ s < t.length ∧ 0 ≤ t.getD s.toNat (-1) then some (t.getD s.toNat (-1)) else none
/-- The last run, one sector longer. -/
def grow : List Rn → List Rn
  | [] => []
  | [x] => [⟨x.lba, x.len + 1, x.phys⟩]
  | x :: y :: m => x :: grow (y :: m)
theorem grow_snoc (m : List Rn) (x : Rn) : grow (m ++ [x]) = m ++ [⟨x.lba, x.len + 1, x.phys⟩] := by
  induction m with
  | nil => rfl
  | cons y m ih =>
    cases m with
    | nil => rfl
    | cons z m => rw [List.cons_append, List.cons_append, grow, ← List.cons_append, ih]; rfl
/-- The document's own runs of the first i entries. -/
def refR (t : List Int) : Nat → List Rn
  | 0 => []
  | i + 1 => if t.getD i (-1) < 0 then refR t i else if 0 < i ∧ 0 ≤ t.getD (i - 1) (-1) ∧ t.getD (i - 1) (-1) + 1 = t.getD i (-1) then grow (refR t i) else refR t i ++ [⟨(i : Int), 1, t.getD i (-1)⟩]
/-- What the runs of the first i entries are. -/
structure RefI (t : List Int) (i : Nat) (m : List Rn) : Prop where
  form : Form m
  page : ∀ s, page m s = if 0 ≤ s ∧ s < (i : Int) ∧ 0 ≤ t.getD s.toNat (-1) then some (t.getD s.toNat (-1)) else none
  fin : ∀ x ∈ m, x.fin ≤ (i : Int)
  last : 0 < i → 0 ≤ t.getD (i - 1) (-1) → ∃ a x, m = a ++ [x] ∧ x.fin = (i : Int) ∧ x.phys + x.len = t.getD (i - 1) (-1) + 1
theorem refR_ok (t : List Int) : ∀ i, RefI t i (refR t i)
  | 0 => ⟨Form.nil, fun s => by rw [refR, Tg.page, if_neg (by omega)], by simp [refR], by omega⟩
  | i + 1 => by
    have ih := refR_ok t i
    rw [refR]
    by_cases h1 : t.getD i (-1) < 0
    · rw [if_pos h1]
      refine ⟨ih.form, fun s => ?_, fun x hx => by have := ih.fin x hx; omega, fun _ h => ?_⟩
      · rw [ih.page s]
        by_cases e : s = (i : Int)
        · subst e
          rw [if_neg (by omega), if_neg (by rw [Int.toNat_natCast]; omega)]
        · by_cases e2 : 0 ≤ s ∧ s < (i : Int) ∧ 0 ≤ t.getD s.toNat (-1)
          · rw [if_pos e2, if_pos ⟨e2.1, by omega, e2.2.2⟩]
          · rw [if_neg e2, if_neg (by rintro ⟨a, b, c⟩; exact e2 ⟨a, by omega, c⟩)]
      · rw [Nat.add_sub_cancel] at h; omega
    · rw [if_neg h1]
      by_cases h2 : 0 < i ∧ 0 ≤ t.getD (i - 1) (-1) ∧ t.getD (i - 1) (-1) + 1 = t.getD i (-1)
      · rw [if_pos h2]
        obtain ⟨a, x, e, hf, hp⟩ := ih.last h2.1 h2.2.1
        rw [e, grow_snoc]
        have hform := ih.form
        rw [e] at hform
        obtain ⟨fa, fx, fax⟩ := Form.app.1 hform
        have hxo := (Form.cons.1 fx).1
        have hfin : (⟨x.lba, x.len + 1, x.phys⟩ : Rn).fin = (i : Int) + 1 := by unfold Rn.fin at *; simp only; omega
        refine ⟨Form.app.2 ⟨fa, Form.cons.2 ⟨⟨hxo.1, by have := hxo.2.1; simp only; omega, hxo.2.2⟩, by simp, Form.nil⟩, fun y hy z hz => ?_⟩, fun s => ?_, fun y hy => ?_, fun _ _ => ⟨a, _, rfl, by rw [hfin]; rfl, by rw [Nat.add_sub_cancel]; simp only; omega⟩⟩
        · rw [List.mem_singleton] at hz
          subst hz
          exact fax y hy x (by simp)
        · have ip := ih.page s
          rw [e, page_app] at ip
          rw [page_app]
          simp only [Tg.page] at ip ⊢
          rw [hfin]
          rw [hf] at ip
          by_cases e3 : s = (i : Int)
          · subst e3
            have hn : page a (i : Int) = none := page_none (fun y hy => by
              have := (fax y hy x (by simp)).1
              have := hxo.2.1
              unfold Rn.fin at *; omega)
            rw [hn, if_pos (by unfold Rn.fin at *; have := hxo.2.1; omega), if_pos (by rw [Int.toNat_natCast]; omega), Int.toNat_natCast]
            simp only [Option.none_or]
            congr 1
            unfold Rn.fin at hf
            omega
          · have c1 : (x.lba ≤ s ∧ s < (i : Int) + 1) ↔ (x.lba ≤ s ∧ s < (i : Int)) := by omega
            have c2 : (0 ≤ s ∧ s < ((i + 1 : Nat) : Int) ∧ 0 ≤ t.getD s.toNat (-1)) ↔ (0 ≤ s ∧ s < (i : Int) ∧ 0 ≤ t.getD s.toNat (-1)) := by
              constructor
              · rintro ⟨p1, p2, p3⟩; exact ⟨p1, by omega, p3⟩
              · rintro ⟨p1, p2, p3⟩; exact ⟨p1, by omega, p3⟩
            simp only [c1, c2]
            exact ip
        · rcases List.mem_append.1 hy with hy | hy
          · have := ih.fin y (by rw [e]; simp [hy]); omega
          · rw [List.mem_singleton] at hy; subst hy; rw [hfin]; omega
      · rw [if_neg h2]
        have hfin : (⟨(i : Int), 1, t.getD i (-1)⟩ : Rn).fin = (i : Int) + 1 := rfl
        refine ⟨Form.app.2 ⟨ih.form, Form.cons.2 ⟨⟨by simp only; omega, by simp, by simp only; omega⟩, by simp, Form.nil⟩, fun y hy z hz => ?_⟩, fun s => ?_, fun y hy => ?_, fun _ _ => ⟨_, _, rfl, by rw [hfin]; rfl, by rw [Nat.add_sub_cancel]⟩⟩
        · rw [List.mem_singleton] at hz
          subst hz
          have hyf := ih.fin y hy
          refine ⟨hyf, ?_⟩
          rintro ⟨g1, g2⟩
          simp only at g1 g2
          have hyo := ih.form.1 y hy
          have hpg := ih.form.page_of hy (s := (i : Int) - 1) (by unfold Rn.fin at *; have := hyo.2.1; omega) (by omega)
          rw [ih.page] at hpg
          by_cases c : 0 ≤ (i : Int) - 1 ∧ (i : Int) - 1 < (i : Int) ∧ 0 ≤ t.getD ((i : Int) - 1).toNat (-1)
          · rw [if_pos c] at hpg
            injection hpg with hpg
            have ei : ((i : Int) - 1).toNat = i - 1 := by omega
            rw [ei] at c hpg
            refine h2 ⟨by omega, c.2.2, ?_⟩
            unfold Rn.fin at *
            omega
          · rw [if_neg c] at hpg; cases hpg
        · rw [page_app, ih.page s]
          simp only [Tg.page, hfin]
          by_cases e3 : s = (i : Int)
          · subst e3
            rw [if_neg (by omega), if_pos (by omega), if_pos (by rw [Int.toNat_natCast]; omega), Int.toNat_natCast]
            simp
          · have c2 : (0 ≤ s ∧ s < ((i + 1 : Nat) : Int) ∧ 0 ≤ t.getD s.toNat (-1)) ↔ (0 ≤ s ∧ s < (i : Int) ∧ 0 ≤ t.getD s.toNat (-1)) := by
              constructor
              · rintro ⟨p1, p2, p3⟩; exact ⟨p1, by omega, p3⟩
              · rintro ⟨p1, p2, p3⟩; exact ⟨p1, by omega, p3⟩
            rw [if_neg (show ¬ ((i : Int) ≤ s ∧ s < (i : Int) + 1) by omega)]
            simp only [c2, Option.or_none]
        · rcases List.mem_append.1 hy with hy | hy
          · have := ih.fin y hy; omega
          · rw [List.mem_singleton] at hy; subst hy; rw [hfin]; omega
/-- The document's own runs are the one list of that form. -/
theorem refR_one (t : List Int) {m : List Rn} (h : Form m) (hp : ∀ s, page m s = entry t s) : m = refR t t.length := by
  have hr := refR_ok t t.length
  refine Form.one h hr.form (fun s => ?_)
  rw [hp, hr.page]
  rfl
/-- A run's part below a sector, and from a sector on. -/
def below1 (lo : Int) (x : Rn) : List Rn := if x.fin ≤ lo then [x] else if x.lba < lo then [⟨x.lba, lo - x.lba, x.phys⟩] else []
def above1 (hi : Int) (x : Rn) : List Rn := if hi ≤ x.lba then [x] else if hi < x.fin then [⟨hi, x.fin - hi, x.phys + (hi - x.lba)⟩] else []
def belowL (lo : Int) (m : List Rn) : List Rn := m.flatMap (below1 lo)
def aboveL (hi : Int) (m : List Rn) : List Rn := m.flatMap (above1 hi)
theorem below1_mem {lo : Int} {x y : Rn} (hx : x.Ok) (h : y ∈ below1 lo x) : y.Ok ∧ y.lba = x.lba ∧ y.phys = x.phys ∧ y.fin ≤ lo ∧ y.fin ≤ x.fin ∧ (y.fin = lo ∨ y = x) := by
  unfold below1 at h
  have := hx.2.1
  split at h
  · simp at h; subst h; exact ⟨hx, rfl, rfl, by assumption, Int.le_refl _, Or.inr rfl⟩
  · split at h
    · simp at h; subst h
      refine ⟨⟨hx.1, by simp only; omega, hx.2.2⟩, rfl, rfl, ?_, ?_, Or.inl ?_⟩ <;> unfold Rn.fin at * <;> simp only <;> omega
    · simp at h
theorem above1_mem {hi : Int} {x y : Rn} (h0 : 0 ≤ hi) (hx : x.Ok) (h : y ∈ above1 hi x) : y.Ok ∧ y.fin = x.fin ∧ y.phys + y.len = x.phys + x.len ∧ hi ≤ y.lba ∧ x.lba ≤ y.lba ∧ (y.lba = hi ∨ y = x) := by
  unfold above1 at h
  have := hx.2.1
  split at h
  · simp at h; subst h; exact ⟨hx, rfl, rfl, by assumption, Int.le_refl _, Or.inr rfl⟩
  · split at h
    · simp at h; subst h
      have := hx.2.2
      refine ⟨⟨h0, ?_, ?_⟩, ?_, ?_, Int.le_refl _, ?_, Or.inl rfl⟩ <;> unfold Rn.fin at * <;> simp only <;> omega
    · simp at h
theorem below1_page {lo : Int} {x : Rn} (s : Int) : page (below1 lo x) s = if s < lo then page [x] s else none := by
  unfold below1
  by_cases h1 : x.fin ≤ lo
  · rw [if_pos h1]
    by_cases h : s < lo
    · rw [if_pos h]
    · rw [if_neg h, page, if_neg (by omega)]; rfl
  · rw [if_neg h1]
    by_cases h2 : x.lba < lo
    · rw [if_pos h2]
      have hf : (⟨x.lba, lo - x.lba, x.phys⟩ : Rn).fin = lo := by unfold Rn.fin; simp only; omega
      simp only [page, hf]
      by_cases h : s < lo
      · rw [if_pos h]
        have : (x.lba ≤ s ∧ s < lo) ↔ (x.lba ≤ s ∧ s < x.fin) := by omega
        simp only [this]
      · rw [if_neg h, if_neg (by omega)]
    · rw [if_neg h2]
      by_cases h : s < lo
      · rw [if_pos h, page, page, if_neg (by omega)]; rfl
      · rw [if_neg h]; rfl
theorem above1_page {hi : Int} {x : Rn} (s : Int) : page (above1 hi x) s = if hi ≤ s then page [x] s else none := by
  unfold above1
  by_cases h1 : hi ≤ x.lba
  · rw [if_pos h1]
    by_cases h : hi ≤ s
    · rw [if_pos h]
    · rw [if_neg h, page, if_neg (by omega)]; rfl
  · rw [if_neg h1]
    by_cases h2 : hi < x.fin
    · rw [if_pos h2]
      have hf : (⟨hi, x.fin - hi, x.phys + (hi - x.lba)⟩ : Rn).fin = x.fin := by unfold Rn.fin; simp only; omega
      simp only [page, hf]
      by_cases h : hi ≤ s
      · rw [if_pos h]
        have : (hi ≤ s ∧ s < x.fin) ↔ (x.lba ≤ s ∧ s < x.fin) := by omega
        simp only [this]
        split
        · congr 1; omega
        · rfl
      · rw [if_neg h, if_neg (by omega)]
    · rw [if_neg h2]
      by_cases h : hi ≤ s
      · rw [if_pos h, page, page, if_neg (by omega)]; rfl
      · rw [if_neg h]; rfl
theorem belowL_cons (lo : Int) (x : Rn) (m : List Rn) : belowL lo (x :: m) = below1 lo x ++ belowL lo m := rfl
theorem aboveL_cons (hi : Int) (x : Rn) (m : List Rn) : aboveL hi (x :: m) = above1 hi x ++ aboveL hi m := rfl
theorem belowL_page (lo : Int) (m : List Rn) (s : Int) : page (belowL lo m) s = if s < lo then page m s else none := by
  induction m with
  | nil => simp [belowL, page]
  | cons x m ih =>
    rw [belowL_cons, page_app, below1_page, ih, show x :: m = [x] ++ m from rfl, page_app]
    split <;> rfl
theorem aboveL_page (hi : Int) (m : List Rn) (s : Int) : page (aboveL hi m) s = if hi ≤ s then page m s else none := by
  induction m with
  | nil => simp [aboveL, page]
  | cons x m ih =>
    rw [aboveL_cons, page_app, above1_page, ih, show x :: m = [x] ++ m from rfl, page_app]
    split <;> rfl
theorem belowL_mem {lo : Int} {m : List Rn} {y : Rn} (h : y ∈ belowL lo m) : ∃ x ∈ m, y ∈ below1 lo x := List.mem_flatMap.1 h
theorem aboveL_mem {hi : Int} {m : List Rn} {y : Rn} (h : y ∈ aboveL hi m) : ∃ x ∈ m, y ∈ above1 hi x := List.mem_flatMap.1 h
theorem one_below (lo : Int) (x : Rn) : below1 lo x = [] ∨ ∃ y, below1 lo x = [y] := by
  unfold below1
  split
  · exact Or.inr ⟨_, rfl⟩
  · split
    · exact Or.inr ⟨_, rfl⟩
    · exact Or.inl rfl
theorem one_above (hi : Int) (x : Rn) : above1 hi x = [] ∨ ∃ y, above1 hi x = [y] := by
  unfold above1
  split
  · exact Or.inr ⟨_, rfl⟩
  · split
    · exact Or.inr ⟨_, rfl⟩
    · exact Or.inl rfl
theorem Form.single {y : Rn} (h : y.Ok) : Form [y] := Form.cons.2 ⟨h, by simp, Form.nil⟩
theorem belowL_fin {lo : Int} {m : List Rn} (h : Form m) {y : Rn} (hy : y ∈ belowL lo m) : y.fin ≤ lo := by
  obtain ⟨x, hx, hy⟩ := belowL_mem hy
  exact (below1_mem (h.1 x hx) hy).2.2.2.1
theorem aboveL_lba {hi : Int} (h0 : 0 ≤ hi) {m : List Rn} (h : Form m) {y : Rn} (hy : y ∈ aboveL hi m) : hi ≤ y.lba := by
  obtain ⟨x, hx, hy⟩ := aboveL_mem hy
  exact (above1_mem h0 (h.1 x hx) hy).2.2.2.1
theorem belowL_form (lo : Int) : ∀ {m : List Rn}, Form m → Form (belowL lo m)
  | [], _ => Form.nil
  | x :: m, h => by
    obtain ⟨hx, hr, hm⟩ := Form.cons.1 h
    rw [belowL_cons]
    refine Form.app.2 ⟨?_, belowL_form lo hm, fun y hy z hz => ?_⟩
    · rcases one_below lo x with e | ⟨y, e⟩
      · rw [e]; exact Form.nil
      · rw [e]; exact Form.single (below1_mem hx (by rw [e]; simp)).1
    · obtain ⟨o1, o2, o3, o4, o5, o6⟩ := below1_mem hx hy
      obtain ⟨w, hw, hz⟩ := belowL_mem hz
      obtain ⟨p1, p2, p3, p4, p5, p6⟩ := below1_mem (hm.1 w hw) hz
      have g := hr w hw
      refine ⟨by omega, ?_⟩
      rintro ⟨g1, g2⟩
      rcases o6 with o6 | rfl
      · have := p1.2.1
        unfold Rn.fin at *
        omega
      · exact g.2 ⟨by omega, by omega⟩
theorem aboveL_form {hi : Int} (h0 : 0 ≤ hi) : ∀ {m : List Rn}, Form m → Form (aboveL hi m)
  | [], _ => Form.nil
  | x :: m, h => by
    obtain ⟨hx, hr, hm⟩ := Form.cons.1 h
    rw [aboveL_cons]
    refine Form.app.2 ⟨?_, aboveL_form h0 hm, fun y hy z hz => ?_⟩
    · rcases one_above hi x with e | ⟨y, e⟩
      · rw [e]; exact Form.nil
      · rw [e]; exact Form.single (above1_mem h0 hx (by rw [e]; simp)).1
    · obtain ⟨o1, o2, o3, o4, o5, o6⟩ := above1_mem h0 hx hy
      obtain ⟨w, hw, hz⟩ := aboveL_mem hz
      obtain ⟨p1, p2, p3, p4, p5, p6⟩ := above1_mem h0 (hm.1 w hw) hz
      have g := hr w hw
      refine ⟨by omega, ?_⟩
      rintro ⟨g1, g2⟩
      rcases p6 with p6 | rfl
      · have := o1.2.1
        unfold Rn.fin at *
        omega
      · exact g.2 ⟨by omega, by omega⟩
/-- A run ahead of a list, joined where it goes on. -/
def consG (x : Rn) : List Rn → List Rn
  | [] => [x]
  | y :: m => if x.fin = y.lba ∧ x.phys + x.len = y.phys then ⟨x.lba, x.len + y.len, x.phys⟩ :: m else x :: y :: m
/-- A list ahead of a list, its last one joined where it goes on. -/
def appG : List Rn → List Rn → List Rn
  | [], m => m
  | [x], m => consG x m
  | x :: y :: a, m => x :: appG (y :: a) m
theorem consG_form {x : Rn} {m : List Rn} (hx : x.Ok) (hm : Form m) (hr : ∀ y ∈ m, x.fin ≤ y.lba) : Form (consG x m) := by
  cases m with
  | nil => exact Form.single hx
  | cons y m =>
    obtain ⟨hy, hz, hm'⟩ := Form.cons.1 hm
    rw [consG]
    split
    · next e =>
      refine Form.cons.2 ⟨⟨hx.1, by have := hx.2.1; have := hy.2.1; simp only; omega, hx.2.2⟩, fun z hz' => ?_, hm'⟩
      have g := hz z hz'
      have hf : (⟨x.lba, x.len + y.len, x.phys⟩ : Rn).fin = y.fin := by unfold Rn.fin at *; simp only; omega
      refine ⟨by rw [hf]; exact g.1, ?_⟩
      rintro ⟨g1, g2⟩
      rw [hf] at g1
      refine g.2 ⟨g1, ?_⟩
      simp only at g2
      omega
    · next e =>
      refine Form.cons.2 ⟨hx, fun z hz' => ?_, hm⟩
      rcases List.mem_cons.1 hz' with rfl | hz'
      · exact ⟨hr z (by simp), e⟩
      · have := hr z (by simp [hz'])
        have g := (hz z hz').1
        have h1 := hr y (by simp)
        have := hy.2.1
        refine ⟨by omega, fun g' => ?_⟩
        have := g'.1
        unfold Rn.fin at *
        omega
theorem consG_page (x : Rn) (m : List Rn) (hx : 0 ≤ x.len) (hm : ∀ y ∈ m, 0 ≤ y.len) (s : Int) : page (consG x m) s = page (x :: m) s := by
  cases m with
  | nil => rfl
  | cons y m =>
    rw [consG]
    split
    · next e =>
      have hy := hm y (by simp)
      have hf : (⟨x.lba, x.len + y.len, x.phys⟩ : Rn).fin = y.fin := by unfold Rn.fin at *; simp only; omega
      simp only [page, hf]
      by_cases h1 : x.lba ≤ s ∧ s < x.fin
      · rw [if_pos h1, if_pos (by unfold Rn.fin at *; omega)]
      · rw [if_neg h1]
        by_cases h2 : y.lba ≤ s ∧ s < y.fin
        · rw [if_pos h2, if_pos (by unfold Rn.fin at *; omega)]
          congr 1
          unfold Rn.fin at *
          omega
        · rw [if_neg h2, if_neg (by unfold Rn.fin at *; omega)]
    · rfl
theorem consG_head {x : Rn} {m : List Rn} {z : Rn} (h : z ∈ consG x m) : (z.lba = x.lba ∧ z.phys = x.phys) ∨ z ∈ m := by
  cases m with
  | nil => simp [consG] at h; exact Or.inl (by rw [h]; exact ⟨rfl, rfl⟩)
  | cons y m =>
    rw [consG] at h
    split at h
    · rcases List.mem_cons.1 h with rfl | h
      · exact Or.inl ⟨rfl, rfl⟩
      · exact Or.inr (by simp [h])
    · rcases List.mem_cons.1 h with rfl | h
      · exact Or.inl ⟨rfl, rfl⟩
      · exact Or.inr h
theorem appG_head : ∀ {a m : List Rn} {z : Rn}, z ∈ appG a m → (∃ w ∈ a, z.lba = w.lba ∧ z.phys = w.phys) ∨ z ∈ m
  | [], _, _, h => Or.inr h
  | [x], _, _, h => (consG_head h).imp (fun e => ⟨x, by simp, e⟩) id
  | x :: y :: a, m, z, h => by
    rw [appG] at h
    rcases List.mem_cons.1 h with rfl | h
    · exact Or.inl ⟨z, by simp, rfl, rfl⟩
    · exact (appG_head h).imp (fun ⟨w, hw, e⟩ => ⟨w, List.mem_cons_of_mem _ hw, e⟩) id
theorem appG_form : ∀ {a m : List Rn}, Form a → Form m → (∀ x ∈ a, ∀ y ∈ m, x.fin ≤ y.lba) → Form (appG a m)
  | [], m, _, hm, _ => hm
  | [x], m, ha, hm, h => consG_form (Form.cons.1 ha).1 hm (h x (by simp))
  | x :: y :: a, m, ha, hm, h => by
    obtain ⟨hx, hr, ha'⟩ := Form.cons.1 ha
    have ih := appG_form ha' hm (fun z hz w hw => h z (List.mem_cons_of_mem _ hz) w hw)
    rw [appG]
    have hyl := (Form.cons.1 ha').1.2.1
    have hxy := (hr y (by simp)).1
    refine Form.cons.2 ⟨hx, fun z hz => ?_, ih⟩
    rcases appG_head hz with ⟨w, hw, e1, e2⟩ | hz
    · have g := hr w hw
      refine ⟨by rw [e1]; exact g.1, fun g' => g.2 ?_⟩
      unfold Glued at g' ⊢; rw [e1, e2] at g'
      exact g'
    · have g := h y (by simp) z hz
      refine ⟨by unfold Rn.fin at *; omega, fun g' => ?_⟩
      have := g'.1
      unfold Rn.fin at *
      omega
theorem appG_page : ∀ {a m : List Rn}, (∀ x ∈ a, 0 ≤ x.len) → (∀ x ∈ m, 0 ≤ x.len) → ∀ s, page (appG a m) s = page (a ++ m) s
  | [], _, _, _, _ => rfl
  | [x], m, ha, hm, s => consG_page x m (ha x (by simp)) hm s
  | x :: y :: a, m, ha, hm, s => by
    rw [appG, List.cons_append]
    simp only [page]
    rw [appG_page (fun z hz => ha z (List.mem_cons_of_mem _ hz)) hm s]
/-- A run set: what lies below it, itself, what lies above it, joined where they go on. -/
def setL (r : Rn) (m : List Rn) : List Rn := appG (belowL r.lba m) (consG r (aboveL r.fin m))
theorem Form.len {m : List Rn} (h : Form m) {x : Rn} (hx : x ∈ m) : 0 ≤ x.len := by
  have := (h.1 x hx).2.1; omega
theorem setL_form {r : Rn} (hr : r.Ok) {m : List Rn} (h : Form m) : Form (setL r m) := by
  have h1 : 0 ≤ r.fin := by have := hr.1; have := hr.2.1; unfold Rn.fin; omega
  refine appG_form (belowL_form _ h) (consG_form hr (aboveL_form h1 h) fun y hy => aboveL_lba h1 h hy) fun x hx y hy => ?_
  have g := belowL_fin h hx
  rcases consG_head hy with e | e
  · rw [e.1]; exact g
  · have := aboveL_lba h1 h e
    have := hr.2.1
    unfold Rn.fin at *
    omega
theorem setL_page {r : Rn} (hr : r.Ok) {m : List Rn} (h : Form m) (s : Int) : page (setL r m) s = if r.lba ≤ s ∧ s < r.fin then some (r.phys + (s - r.lba)) else page m s := by
  have h1 : 0 ≤ r.fin := by have := hr.1; have := hr.2.1; unfold Rn.fin; omega
  have h2 := hr.2.1
  have hf := aboveL_form h1 h
  have hb := belowL_form r.lba h
  have hc : Form (consG r (aboveL r.fin m)) := consG_form hr hf fun y hy => aboveL_lba h1 h hy
  rw [setL, appG_page (fun x hx => hb.len hx) (fun x hx => hc.len hx), page_app, consG_page _ _ (by omega) (fun x hx => hf.len hx), belowL_page]
  simp only [page]
  rw [aboveL_page]
  by_cases e1 : s < r.lba
  · rw [if_pos e1, if_neg (show ¬ (r.lba ≤ s ∧ s < r.fin) by omega), if_neg (show ¬ (r.lba ≤ s ∧ s < r.fin) by omega), if_neg (show ¬ r.fin ≤ s by unfold Rn.fin at *; omega), Option.or_none]
  · rw [if_neg e1]
    by_cases e2 : r.lba ≤ s ∧ s < r.fin
    · rw [if_pos e2, if_pos e2]; rfl
    · rw [if_neg e2, if_neg e2, if_pos (by omega)]; rfl
/-- The entries with the first k of a range put (a page below 0: nowhere). -/
def putN (t : List Int) (lba : Nat) (phys : Int) : Nat → List Int
  | 0 => t
  | k + 1 => (putN t lba phys k).set (lba + k) (if phys < 0 then -1 else phys + k)
theorem putN_len (t : List Int) (lba : Nat) (phys : Int) : ∀ k, (putN t lba phys k).length = t.length
  | 0 => rfl
  | k + 1 => by rw [putN, List.length_set, putN_len t lba phys k]
theorem putN_get (t : List Int) (lba : Nat) (phys : Int) : ∀ k, lba + k ≤ t.length → ∀ j, (putN t lba phys k).getD j (-1) = if lba ≤ j ∧ j < lba + k then (if phys < 0 then -1 else phys + ((j : Int) - lba)) else t.getD j (-1)
  | 0, _, j => by rw [putN, if_neg (by omega)]
  | k + 1, h, j => by
    have ih := putN_get t lba phys k (by omega) j
    rw [putN, List.getD_eq_getElem?_getD, List.getElem?_set, putN_len]
    by_cases e : lba + k = j
    · subst e
      have e3 : ((lba + k : Nat) : Int) - lba = k := by omega
      rw [if_pos rfl, if_pos (show lba + k < t.length by omega), Option.getD_some, if_pos (show lba ≤ lba + k ∧ lba + k < lba + (k + 1) by omega), e3]
    · rw [if_neg e, ← List.getD_eq_getElem?_getD, ih]
      by_cases e2 : lba ≤ j ∧ j < lba + k
      · rw [if_pos e2, if_pos (show lba ≤ j ∧ j < lba + (k + 1) by omega)]
      · rw [if_neg e2, if_neg (show ¬ (lba ≤ j ∧ j < lba + (k + 1)) by omega)]
theorem putN_entry (t : List Int) (lba n : Nat) (phys : Int) (h : lba + n ≤ t.length) (s : Int) : entry (putN t lba phys n) s = if (lba : Int) ≤ s ∧ s < (lba : Int) + n then (if phys < 0 then none else some (phys + (s - lba))) else entry t s := by
  unfold entry
  rw [putN_len, putN_get t lba phys n h]
  by_cases e : (lba : Int) ≤ s ∧ s < (lba : Int) + n
  · rw [if_pos e]
    have e2 : lba ≤ s.toNat ∧ s.toNat < lba + n := by omega
    rw [if_pos e2]
    by_cases e3 : phys < 0
    · rw [if_pos e3, if_pos e3, if_neg (by omega)]
    · have e4 : ((s.toNat : Nat) : Int) = s := by omega
      rw [if_neg e3, if_neg e3, e4, if_pos (by omega)]
  · rw [if_neg e]
    by_cases e1 : 0 ≤ s
    · rw [if_neg (show ¬ (lba ≤ s.toNat ∧ s.toNat < lba + n) by omega)]
    · rw [if_neg (by omega), if_neg (by omega)]
/-- Are these runs those of these entries? -/
def Of (t : List Int) (m : List Rn) : Prop := Form m ∧ ∀ s, page m s = entry t s
theorem Of.runs {t : List Int} {m : List Rn} (h : Of t m) : m = refR t t.length := refR_one t h.1 h.2
theorem refR_of (t : List Int) : Of t (refR t t.length) := ⟨(refR_ok t t.length).form, fun s => by rw [(refR_ok t t.length).page]; rfl⟩
theorem Of.fin {t : List Int} {m : List Rn} (h : Of t m) {x : Rn} (hx : x ∈ m) : x.fin ≤ (t.length : Int) := by
  rw [h.runs] at hx
  exact (refR_ok t t.length).fin x hx
theorem Of.set {t : List Int} {m : List Rn} (h : Of t m) {lba n : Nat} {phys : Int} (hn : 1 ≤ n) (hp : 0 ≤ phys) (hr : lba + n ≤ t.length) : Of (putN t lba phys n) (setL ⟨(lba : Int), (n : Int), phys⟩ m) := by
  have ho : (⟨(lba : Int), (n : Int), phys⟩ : Rn).Ok := ⟨by simp only; omega, by simp only; omega, hp⟩
  refine ⟨setL_form ho h.1, fun s => ?_⟩
  rw [setL_page ho h.1, putN_entry t lba n phys hr, h.2 s, if_neg (show ¬ phys < 0 by omega)]
  rfl
/-- What a run tells of a sector that is at its first one or behind. -/
def told (s : Int) : Option Rn → Option Int
  | none => none
  | some x => if s < x.fin then some (x.phys + (s - x.lba)) else none
theorem wrapI {x : Int} (h1 : -9223372036854775808 ≤ x) (h2 : x ≤ 9223372036854775807) : IntKind.i64.wrap x = x := by rw [IntKind.wrap_i64] <;> omega
theorem set_cells {a : List Rn} {x : Rn} {v : Int} : (rcells (a ++ [x])).set (a.length * 3 + 1) (.int .i64 v) = rcells (a ++ [⟨x.lba, v, x.phys⟩]) := by
  rw [rcells_app, rcells_app, List.set_append_right _ _ (by rw [rcells_len]; omega), rcells_len, show a.length * 3 + 1 - a.length * 3 = 1 by omega]
  rfl
/-- The last run's length is written over. -/
theorem Rr.setLen {w0 w : World} {g cap : Nat} {a : List Rn} {x : Rn} (h : Rr w0 w (some ⟨g, 0, none⟩) cap (a ++ [x])) (v : Int) :
    Rr w0 (w.setCell ⟨g, a.length * 3 + 1, none⟩ (.int .i64 v)) (some ⟨g, 0, none⟩) cap (a ++ [⟨x.lba, v, x.phys⟩]) := by
  have hl : (a ++ [x]).length = (a ++ [(⟨x.lba, v, x.phys⟩ : Rn)]).length := by simp
  obtain ⟨h1, h2⟩ := h.own.stored (a.length * 3 + 1) (.int .i64 v)
  rw [set_cells] at h1
  refine ⟨by rw [← hl]; exact h1, h.keep.next (keep_grown h2) (fun y hy e => ?_)⟩
  injection e with e
  have := (h.block rfl).1
  omega
set_option maxRecDepth 100000 in
/-- One run more, and where the row then lies. -/
theorem Rr.appS {w0 w : World} {a : Option Addr} {cap : Nat} {m : List Rn} (h : Rr w0 w a cap m) (hl : m.length ≤ 100000) (x : Rn) :
    ∃ a' cap' w', (Builtin.append_ #[32, 32] 32 #[.slice a m.length cap, .slice (some ⟨w.heap.size, 0, none⟩) 1 1]).run Try.prog (w.alloc (.cells #[.int .i64 x.lba, .int .i64 x.len, .int .i64 x.phys] 45)) = .ok (.slice a' (m.length + 1) cap') w' ∧ Rr w0 w' a' cap' (m ++ [x]) ∧
      Keep (fun b => a = some ⟨b, 0, none⟩) w w' ∧ (a' = a ∨ ∃ g, a' = some ⟨g, 0, none⟩ ∧ w.heap.size ≤ g) := by
  have hA := (Keep.refl (fun _ => False) w).alloc (.cells #[.int .i64 x.lba, .int .i64 x.len, .int .i64 x.phys] 45)
  have h1 := h.more hA
  have hsz : w.heap.size ≤ (w.alloc (.cells #[.int .i64 x.lba, .int .i64 x.len, .int .i64 x.phys] 45)).heap.size := hA.size
  have hnews : ∀ j u, (rcells [x])[j]? = some u → (w.alloc (.cells #[.int .i64 x.lba, .int .i64 x.len, .int .i64 x.phys] 45)).cell? ((⟨w.heap.size, 0, none⟩ : Addr).add j) = some u := fun j u hu => cells_new w _ 45 j u (by simpa [rcells, rcs] using hu)
  have hone : ∀ u ∈ rcells [x], u.oneCell' = true := by intro u hu; simp [rcells, rcs] at hu; rcases hu with rfl | rfl | rfl <;> rfl
  obtain ⟨i, hi, hz0, hz1, hz2⟩ := info_parts info31
  generalize w.alloc (.cells #[.int .i64 x.lba, .int .i64 x.len, .int .i64 x.phys] 45) = w1 at *
  obtain ⟨v', w', hrun, hown, hgrow, hnil⟩ := run_append_own (P := Try.prog) w1 w0.heap.size 32 32 45 i _ 3 24 Try.underlying32 hi hz0 hz1 hz2 rfl (by decide) (.slice a m.length cap) m.length (rcells m) h1.own
    ⟨w.heap.size, 0, none⟩ 1 1 (rcells [x]) (rcells_len [x]) hnews hone (by unfold maxLen; omega) (by omega) h1.keep.size
  have hk : Keep (fun b => a = some ⟨b, 0, none⟩) w1 w' := (keep_grown hgrow).mono (fun b _ e => by
    rcases h1.own.2 with ⟨e', -⟩ | ⟨g, c, cur, e', -⟩
    · injection e' with e'; subst e'; cases e
    · injection e' with e'; subst e'; injection e with e; subst e; rfl)
  have hK : Keep (fun b => a = some ⟨b, 0, none⟩) w w' := (hA.mono (fun _ _ e => e.elim)).next hk (fun y hy e => e)
  have hK0 : Keep (fun _ => False) w0 w' := h1.keep.next hk (fun y hy e => by have := (h1.block e).1; omega)
  rw [← rcells_app] at hown
  have hshape : ∃ a' cap', v' = .slice a' (m.length + 1) cap' := by
    rcases hown.2 with ⟨e, hn⟩ | ⟨g, c', cur, e, -⟩
    · omega
    · exact ⟨_, _, e⟩
  obtain ⟨a', cap', rfl⟩ := hshape
  refine ⟨a', cap', w', hrun, ⟨by rw [List.length_append]; exact hown, hK0⟩, hK, ?_⟩
  rcases h1.own.2 with ⟨e', hn⟩ | ⟨g, c, cur, e', hb, hh, hnc, hm, hs, ht⟩
  · injection e' with e1 e2 e3
    subst e1 e3
    have hn' := run_append_nil (P := Try.prog) w1 32 32 45 i _ Try.underlying32 hi hz0 ⟨w.heap.size, 0, none⟩ 1 1 (rcells [x]) (by rw [hz1]; rfl) hnews (by omega) (by omega) (by rw [hz2]; omega)
    rw [hn] at hrun
    rw [hn'] at hrun
    injection hrun with hr1 hr2
    injection hr1 with hr1 hr3 hr4
    exact Or.inr ⟨_, hr1.symm, hsz⟩
  · injection e' with e1 e2 e3
    subst e1 e3
    by_cases hroom : m.length + 1 ≤ cap
    · obtain ⟨w'', hf, -, -⟩ := run_append_fits (P := Try.prog) w1 w0.heap.size 32 32 45 i 3 Try.underlying32 hi hz1 g m.length cap (rcells m) h1.own ⟨w.heap.size, 0, none⟩ 1 1 (rcells [x]) (rcells_len [x]) hnews hone hroom
      rw [hf] at hrun
      injection hrun with hr1 hr2
      injection hr1 with hr1 hr3 hr4
      exact Or.inl hr1.symm
    · have hg := run_append_grow (P := Try.prog) w1 32 32 45 i _ Try.underlying32 hi hz0 ⟨g, 0, none⟩ m.length cap (rcells m) (by rw [hz1]; exact rcells_len m) (h1.own.cells (g := g) rfl) ⟨w.heap.size, 0, none⟩ 1 1 (rcells [x]) (by rw [hz1]; rfl) hnews (by omega) (by omega) (growslice_fits (by omega) (by rw [hz2]; omega))
      rw [hg] at hrun
      injection hrun with hr1 hr2
      injection hr1 with hr1 hr3 hr4
      exact Or.inr ⟨_, hr1.symm, hsz⟩
theorem take_next {m : List Rn} {i : Nat} {x : Rn} (hx : m[i]? = some x) : m.take (i + 1) = m.take i ++ [x] := by rw [List.take_add_one, hx]; rfl
theorem cells3 : Try.prog.cellsOf 3 = 1 := by kernel_rfl
theorem int_fits {n : Int} (h : (Lit.int .i64 n).wf = true) : -9223372036854775808 ≤ n ∧ n ≤ 9223372036854775807 := by
  have h1 : IntKind.i64.min = -9223372036854775808 := by rfl
  have h2 : IntKind.i64.max = 9223372036854775807 := by rfl
  simp [Lit.wf] at h
  omega
theorem cells_get {w : World} {base : Nat} {a : Addr} {n : Nat} {cs : List Value} (h : w.cells? base a n = some cs) : ∀ i, i < n → w.cell? (a.add i) = cs[i]? := by
  unfold World.cells? at h
  split at h
  · intro i hi
    have := mapM_some_get h i i (by simp [hi])
    exact this
  · cases h
/-- Are two lists of runs the same? -/
def sameL : List Rn → List Rn → Bool
  | [], [] => true
  | x :: a, y :: b => (x.lba == y.lba && (x.len == y.len && x.phys == y.phys)) && sameL a b
  | [], _ :: _ => false
  | _ :: _, [] => false
theorem rn_eq {x y : Rn} : (x.lba == y.lba && (x.len == y.len && x.phys == y.phys)) = true ↔ x = y := by
  cases x; cases y; simp
theorem sameL_iff : ∀ {a b : List Rn}, sameL a b = true ↔ a = b
  | [], [] => by simp [sameL]
  | [], y :: b => by simp [sameL]
  | x :: a, [] => by simp [sameL]
  | x :: a, y :: b => by
    rw [sameL, Bool.and_eq_true, rn_eq, sameL_iff, List.cons.injEq]
theorem sameL_take {a b : List Rn} {i : Nat} (hl : a.length = b.length) (h : a.take i = b.take i) (hi : i = a.length) : a = b := by
  rwa [List.take_of_length_le (by omega), List.take_of_length_le (by omega)] at h
set_option maxRecDepth 100000 in
set_option maxHeartbeats 1000000 in
theorem same9 {w : World} {a1 a2 : Option Addr} {c1 c2 : Nat} {m1 m2 : List Rn} (h1 : Rs w a1 c1 m1) (h2 : Rs w a2 c2 m2) (hl1 : m1.length ≤ 100000) :
    Calls Try.prog 21 #[.slice a1 m1.length c1, .slice a2 m2.length c2] w fun e w' => e = .returned (.bool (sameL m1 m2)) ∧ Keep (fun _ => False) w w' := by
  have K0 := Keep.refl (fun _ => False) w
  have hc1 := h1.1
  have hc2 := h2.1
  by_cases hl : m1.length = m2.length
  · have hb : ((m1.length : Int) != (m2.length : Int)) = false := by simp [hl]
    have hl' : Hid (m1.length = m2.length) := hl
    have hl1' : (m1.length : Int) ≤ 100000 := by omega
    have hm2 : (m2.length : Int) = (m1.length : Int) := by omega
    have hm2' : Hid ((m2.length : Int) = (m1.length : Int)) := hm2
    clear hl hl1 hm2
    go_enter Try.func21, Try.ntmps21
    go_wp2_with fail
    go_loopw [5] (fun v wx => ∃ i : Nat, i ≤ m1.length ∧ v = .int .i64 (i : Int) ∧ Hid (m1.take i = m2.take i) ∧ Keep (fun _ => False) w wx) (fun v _ => m1.length - (intOf v).toNat)
    case atStart => exact ⟨0, by omega, rfl, by show m1.take 0 = m2.take 0; simp, K0⟩
    case round =>
      obtain ⟨i, hi, rfl, hI, k1⟩ := hrel
      by_cases hlt : i < m1.length
      · have hlt2 : i < m2.length := by have := show m1.length = m2.length from hl'; omega
        obtain ⟨x, hx⟩ := get_rn hlt
        obtain ⟨y, hy⟩ := get_rn hlt2
        obtain ⟨g1, rfl, e0, e1, e2⟩ := (h1.more k1).at hx
        obtain ⟨g2, rfl, f0, f1, f2⟩ := (h2.more k1).at hy
        have di : (i : Int) < (m1.length : Int) := by omega
        have di2 : (i : Int) < (m2.length : Int) := by omega
        have dw := wrapI (x := (i : Int) + 1) (by omega) (by omega)
        have hlt' : Hid (i < m1.length) := hlt
        have t1 : Hid (m1.take (i + 1) = m1.take i ++ [x]) := take_next hx
        have t2 : Hid (m2.take (i + 1) = m2.take i ++ [y]) := take_next hy
        by_cases e : x = y
        · subst e
          have hI2 : Hid (m1.take (i + 1) = m2.take (i + 1)) := by
            show m1.take (i + 1) = m2.take (i + 1)
            rw [show m1.take (i + 1) = _ from t1, show m2.take (i + 1) = _ from t2, show m1.take i = m2.take i from hI]
          clear hx hy hlt hlt2 hI t1 t2
          go_wp2_with fail
          go_quiet (fail)
          go_wp2_with fail
          go_roundw
          case rel => exact ⟨i + 1, hlt', by go_num, hI2, k1.drewN _⟩
          case measure => have : i < m1.length := hlt'; simp [intOf]; omega
        · have hne : Hid (sameL m1 m2 = false) := by
            show sameL m1 m2 = false
            rw [Bool.eq_false_iff]
            intro hs
            have := sameL_iff.1 hs
            subst this
            rw [hx] at hy
            injection hy with hy
            exact e hy
          clear hx hy hlt hlt2 hI t1 t2 h1 h2
          by_cases u1 : x.lba = y.lba
          · have v1 : (x.lba == y.lba) = true := by simp [u1]
            by_cases u2 : x.len = y.len
            · have v2 : (x.len == y.len) = true := by simp [u2]
              have v3 : (x.phys == y.phys) = false := by
                simp
                intro u3
                exact e (by cases x; cases y; simp only at u1 u2 u3; subst u1; subst u2; subst u3; rfl)
              clear e u1 u2
              go_wp2_with fail
              go_quiet (fail)
              go_wp2_with fail
              go_ret
              exact ⟨by rw [show sameL m1 m2 = false from hne]; rfl, k1.drewN _⟩
            · have v2 : (x.len == y.len) = false := by simp [u2]
              clear e u1 u2
              go_wp2_with fail
              go_quiet (fail)
              go_wp2_with fail
              go_ret
              exact ⟨by rw [show sameL m1 m2 = false from hne]; rfl, k1.drewN _⟩
          · have v1 : (x.lba == y.lba) = false := by simp [u1]
            clear e u1
            go_wp2_with fail
            go_quiet (fail)
            go_wp2_with fail
            go_ret
            exact ⟨by rw [show sameL m1 m2 = false from hne]; rfl, k1.drewN _⟩
      · have di : ¬ (i : Int) < (m1.length : Int) := by omega
        have he : Hid (sameL m1 m2 = true) := sameL_iff.2 (sameL_take hl' hI (by omega))
        clear hlt h1 h2
        go_wp2_with fail
        go_ret
        exact ⟨by rw [show sameL m1 m2 = true from he]; rfl, k1⟩
  · have hb : ((m1.length : Int) != (m2.length : Int)) = true := by simp; omega
    have hne : Hid (sameL m1 m2 = false) := by
      show sameL m1 m2 = false
      rw [Bool.eq_false_iff]
      intro hs
      exact hl (by rw [sameL_iff.1 hs])
    clear hl h1 h2
    go_enter Try.func21, Try.ntmps21
    go_wp2_with fail
    go_ret
    exact ⟨by rw [show sameL m1 m2 = false from hne]; rfl, K0⟩
theorem Keep.cell {w w' : World} (k : Keep (fun _ => False) w w') {a : Addr} {v : Value} (h : w.cell? a = some v) : w'.cell? a = some v := by
  rw [← h]
  exact World.cell?_of_block (w := w) (k.block a.block (World.block_lt_of_cell? w _ h) (fun e => e))
set_option maxRecDepth 100000 in
theorem info3 : (Try.prog.info? 3).map (fun i => (i.zero, i.size, i.bytes)) = some (some (.int .i64 0), 1, 8) := by kernel_rfl
set_option maxRecDepth 100000 in
theorem make_ints (n : Nat) (hn : n ≤ 512) (w : World) : (Instr.makeSlice 62 (.int .i64 (n : Int)) (.int .i64 (n : Int))).run Try.prog w =
    .ok (.slice (some ⟨w.heap.size, 0, none⟩) n n) (w.alloc (.cells (madeCells #[.int .i64 0] n) 3)) := by
  obtain ⟨i, hi, hz0, hz1, hz2⟩ := info_parts info3
  have := run_make (P := Try.prog) w 62 3 i _ Try.underlying62 hi hz0 .i64 .i64 n n (by omega) (by omega) (by rw [hz2]; omega) (by omega)
  rw [hz1, Nat.mul_one] at this
  exact this
def ic (xs : List Int) : List Value := xs.map (Value.int .i64)
/-- A row of numbers that can be read. -/
def Is (w : World) (a : Option Addr) (cap : Nat) (xs : List Int) : Prop :=
  xs.length ≤ cap ∧ cap ≤ 9223372036854775807 ∧ (xs = [] ∨ ∃ g, a = some ⟨g, 0, none⟩ ∧ ∀ j u, (ic xs)[j]? = some u → w.cell? ⟨g, j, none⟩ = some u)
theorem Is.keep {S : Nat → Prop} {w w' : World} {a : Option Addr} {cap : Nat} {m : List Int} (h : Is w a cap m) (k : Keep S w w') (hs : ∀ g, a = some ⟨g, 0, none⟩ → ¬ S g) : Is w' a cap m := by
  obtain ⟨h1, h2, h3⟩ := h
  refine ⟨h1, h2, h3.imp id ?_⟩
  rintro ⟨g, rfl, hc⟩
  refine ⟨g, rfl, fun j u hu => ?_⟩
  have := hc j u hu
  rw [← this]
  exact World.cell?_of_block (w := w) (a := ⟨g, j, none⟩) (k.block g (World.block_lt_of_cell? w _ this) (hs g rfl))
theorem Is.more {w w' : World} {a : Option Addr} {cap : Nat} {m : List Int} (h : Is w a cap m) (k : Keep (fun _ => False) w w') : Is w' a cap m := h.keep k (fun _ _ e => e)
theorem Is.at {w : World} {a : Option Addr} {cap : Nat} {m : List Int} (h : Is w a cap m) {i : Nat} (hi : i < m.length) :
    ∃ g, a = some ⟨g, 0, none⟩ ∧ w.cell? ⟨g, i, none⟩ = some (.int .i64 (m.getD i (-1))) := by
  rcases h.2.2 with rfl | ⟨g, rfl, hc⟩
  · simp at hi
  · refine ⟨g, rfl, hc i _ ?_⟩
    simp [ic, hi]
/-- A row of numbers of one's own, in memory made since w0. -/
structure Ri (w0 w : World) (a : Option Addr) (cap : Nat) (m : List Int) : Prop where
  own : w.ownsRow w0.heap.size 3 1 (.slice a m.length cap) m.length (ic m)
  keep : Keep (fun _ => False) w0 w
theorem Ri.more {w0 w w' : World} {a : Option Addr} {cap : Nat} {m : List Int} (h : Ri w0 w a cap m) (k : Keep (fun _ => False) w w') : Ri w0 w' a cap m := by
  refine ⟨⟨h.own.1, h.own.2.imp id ?_⟩, h.keep.trans k⟩
  rintro ⟨g, c, cur, e, hb, hh, h1, h2, h3, h4⟩
  exact ⟨g, c, cur, e, hb, by rw [k.block g (by by_cases hg : g < w.heap.size; exact hg; simp [Array.getElem?_eq_none (Nat.le_of_not_lt hg)] at hh) (fun e => e)]; exact hh, h1, h2, h3, h4⟩
theorem Ri.block {w0 w : World} {a : Option Addr} {cap : Nat} {m : List Int} (h : Ri w0 w a cap m) {g : Nat} (e : a = some ⟨g, 0, none⟩) : w0.heap.size ≤ g ∧ g < w.heap.size :=
  h.own.lt g (by rw [e]; rfl)
theorem Ri.is {w0 w : World} {a : Option Addr} {cap : Nat} {m : List Int} (h : Ri w0 w a cap m) : Is w a cap m := by
  obtain ⟨h1, h2⟩ := h.own
  rcases h2 with ⟨e, hn⟩ | ⟨g, c, cur, e, hb, hh, hn, hm, hs, ht⟩
  · injection e with e1 e2 e3
    exact ⟨by omega, by omega, Or.inl (List.eq_nil_of_length_eq_zero hn)⟩
  · injection e with e1 e2 e3
    subst e1 e3
    unfold maxLen at hm
    refine ⟨hn, by omega, Or.inr ⟨g, rfl, fun j u hu => ?_⟩⟩
    have := h.own.cells (g := g) rfl j u hu
    rwa [Addr.add_lit, Nat.zero_add] at this
theorem Ri.set {w0 w : World} {g cap : Nat} {m : List Int} (h : Ri w0 w (some ⟨g, 0, none⟩) cap m) (i : Nat) (v : Int) :
    Ri w0 (w.setCell ⟨g, i, none⟩ (.int .i64 v)) (some ⟨g, 0, none⟩) cap (m.set i v) := by
  obtain ⟨h1, h2⟩ := h.own.stored i (.int .i64 v)
  have e : (ic m).set i (.int .i64 v) = ic (m.set i v) := by unfold ic; rw [List.map_set]
  rw [e] at h1
  refine ⟨by rw [List.length_set]; exact h1, h.keep.next (keep_grown h2) (fun y hy e => ?_)⟩
  injection e with e
  have := (h.block rfl).1
  omega
theorem Ri.fz {w0 w : World} {g cap : Nat} {m : List Int} (h : Ri w0 w (some ⟨g, 0, none⟩) cap m) (i : Nat) : w.frozen? ⟨g, i, none⟩ = false := h.own.frozenAt i
/-- The row that make makes. -/
theorem ri_made (w : World) (n : Nat) (hn : n ≤ 512) : Ri w (w.alloc (.cells (madeCells #[.int .i64 0] n) 3)) (some ⟨w.heap.size, 0, none⟩) n (List.replicate n 0) := by
  have := World.ownsRow_lit (e := 3) (size := 1) (base := w.heap.size) w (madeCells #[.int .i64 0] n) n (Nat.le_refl _) (by unfold maxLen; omega) (by simp [madeCells])
  rw [toList_madeCells_one] at this
  refine ⟨?_, (Keep.refl _ _).alloc _⟩
  rw [List.length_replicate]
  have e : ic (List.replicate n 0) = List.replicate n (.int .i64 0) := by simp [ic]
  rw [e]; exact this
/-- The first i places set to -1. -/
def nw (C : Nat) : Nat → List Int
  | 0 => List.replicate C 0
  | i + 1 => (nw C i).set i (-1)
theorem nw_len (C : Nat) : ∀ i, (nw C i).length = C
  | 0 => by simp [nw]
  | i + 1 => by rw [nw, List.length_set, nw_len C i]
theorem nw_at (C : Nat) : ∀ i j, j < C → (nw C i)[j]? = some (if j < i then -1 else 0)
  | 0, j, h => by simp [nw, h]
  | i + 1, j, h => by
    rw [nw, List.getElem?_set]
    by_cases e : i = j
    · subst e
      rw [if_pos rfl, if_pos (by rw [nw_len]; exact h), if_pos (by omega)]
    · rw [if_neg e, nw_at C i j h]
      congr 1
      by_cases c : j < i
      · rw [if_pos c, if_pos (by omega)]
      · rw [if_neg c, if_neg (by omega)]
theorem nw_end (C : Nat) : nw C C = List.replicate C (-1) := by
  refine List.ext_getElem? (fun j => ?_)
  by_cases h : j < C
  · rw [nw_at C C j h, if_pos h]; simp [h]
  · rw [List.getElem?_eq_none (by rw [nw_len]; omega), List.getElem?_eq_none (by simp; omega)]
set_option maxRecDepth 100000 in
set_option maxHeartbeats 1000000 in
theorem new9 {w : World} {C : Nat} (h2 : C ≤ 512) :
    Calls Try.prog 34 #[.int .i64 (C : Int)] w fun e w' => ∃ a c, e = .returned (.slice a C c) ∧ Ri w w' a c (List.replicate C (-1)) := by
  have hmk := make_ints C h2 w
  have R0 : Ri w (w.alloc (.cells (madeCells #[.int .i64 0] C) 3)) (some ⟨w.heap.size, 0, none⟩) C (nw C 0) := ri_made w C h2
  generalize w.alloc (.cells (madeCells #[.int .i64 0] C) 3) = w1 at hmk R0
  generalize hG : w.heap.size = G at hmk R0
  go_enter Try.func34, Try.ntmps34
  go_wp2_with fail
  clear hmk
  go_loopw [4] (fun v wx => ∃ i : Nat, i ≤ C ∧ v = .int .i64 (i : Int) ∧ Ri w wx (some ⟨G, 0, none⟩) C (nw C i)) (fun v _ => C - (intOf v).toNat)
  case atStart => exact ⟨0, by omega, rfl, R0⟩
  case round =>
    clear R0
    obtain ⟨i, hi, rfl, R1⟩ := hrel
    by_cases hlt : i < C
    · obtain ⟨g, eg, c0⟩ := R1.is.at (i := i) (by rw [nw_len]; exact hlt)
      injection eg with eg; injection eg with eg; subst eg
      have z0 := R1.fz i
      have R2 := R1.set i (-1)
      have di : (i : Int) < (C : Int) := by omega
      have dw := wrapI (x := (i : Int) + 1) (by omega) (by omega)
      have hlt' : Hid (i < C) := hlt
      clear hlt R1
      go_wp2_with fail
      go_roundw
      case rel => exact ⟨i + 1, hlt', by go_num, R2⟩
      case measure => have : i < C := hlt'; simp [intOf]; omega
    · have di : ¬ (i : Int) < (C : Int) := by omega
      have ei : i = C := by omega
      rw [ei, nw_end] at R1
      clear hlt ei
      go_wp2_with fail
      go_ret
      exact ⟨_, _, rfl, R1⟩
theorem grow_len : ∀ m : List Rn, (grow m).length = m.length
  | [] => rfl
  | [x] => rfl
  | x :: y :: m => by rw [grow, List.length_cons, grow_len (y :: m)]; rfl
theorem refR_len (t : List Int) : ∀ i, (refR t i).length ≤ i
  | 0 => by simp [refR]
  | i + 1 => by
    have := refR_len t i
    rw [refR]
    split
    · omega
    · split
      · rw [grow_len]; omega
      · simp; omega
/-- Bounds of a list of pages. -/
def Tab (t : List Int) : Prop := ∀ i, -1 ≤ t.getD i (-1) ∧ t.getD i (-1) ≤ 1049088
set_option maxRecDepth 100000 in
/-- An empty row, made. -/
theorem rr_made (w : World) : (Instr.makeSlice 32 (.int .i64 0) (.int .i64 0)).run Try.prog w = .ok (.slice (some ⟨w.heap.size, 0, none⟩) 0 0) (w.alloc (.cells (madeCells #[.int .i64 0, .int .i64 0, .int .i64 0] (0 * 3)) 45)) ∧ Rr w (w.alloc (.cells (madeCells #[.int .i64 0, .int .i64 0, .int .i64 0] (0 * 3)) 45)) (some ⟨w.heap.size, 0, none⟩) 0 [] := by
  refine ⟨make_runs 0 (by omega) w, ?_, (Keep.refl _ _).alloc _⟩
  have e : madeCells #[.int .i64 0, .int .i64 0, .int .i64 0] (0 * 3) = #[] := by simp [madeCells]
  rw [e]
  exact World.ownsRow_lit (e := 45) (size := 3) (base := w.heap.size) w #[] 0 (Nat.le_refl _) (by unfold maxLen; omega) rfl
set_option maxRecDepth 100000 in
set_option maxHeartbeats 2000000 in
theorem runs9 {w : World} {a : Option Addr} {c : Nat} {t : List Int} (h : Is w a c t) (h2 : t.length ≤ 512) (hb : Tab t) :
    Calls Try.prog 35 #[.slice a t.length c] w fun e w' => ∃ a' c', e = .returned (.slice a' (refR t t.length).length c') ∧ Rr w w' a' c' (refR t t.length) := by
  obtain ⟨hmk, R0⟩ := rr_made w
  have R0 : Rr w (w.alloc (.cells (madeCells #[.int .i64 0, .int .i64 0, .int .i64 0] (0 * 3)) 45)) (some ⟨w.heap.size, 0, none⟩) 0 (refR t 0) := R0
  generalize w.alloc (.cells (madeCells #[.int .i64 0, .int .i64 0, .int .i64 0] (0 * 3)) 45) = w1 at hmk R0
  generalize hG : w.heap.size = G at hmk R0
  have hc := h.1
  have hl : (t.length : Int) ≤ 512 := by omega
  go_enter Try.func35, Try.ntmps35
  go_wp2_with fail
  clear hmk
  go_loopw [3, 4] (fun lv v wx => ∃ (i : Nat) (a' : Option Addr) (c' : Nat), i ≤ t.length ∧ lv = .slice a' (refR t i).length c' ∧ v = .int .i64 (i : Int) ∧ Rr w wx a' c' (refR t i)) (fun _ v _ => t.length - (intOf v).toNat)
  case atStart => exact ⟨0, _, _, by omega, rfl, rfl, R0⟩
  case round =>
    clear R0
    obtain ⟨i, a', c', hi, rfl, rfl, R1⟩ := hrel
    by_cases hlt : i < t.length
    · obtain ⟨g, rfl, ci⟩ := (h.more R1.keep).at hlt
      have hbi := hb i
      have hstep : refR t (i + 1) = if t.getD i (-1) < 0 then refR t i else if 0 < i ∧ 0 ≤ t.getD (i - 1) (-1) ∧ t.getD (i - 1) (-1) + 1 = t.getD i (-1) then grow (refR t i) else refR t i ++ [⟨(i : Int), 1, t.getD i (-1)⟩] := by rw [refR]
      have hlast := (refR_ok t i).last
      have hfm := (refR_ok t i).form
      have hln := refR_len t i
      have di : (i : Int) < (t.length : Int) := by omega
      have dw := wrapI (x := (i : Int) + 1) (by omega) (by omega)
      have hlt' : Hid (i < t.length) := hlt
      have hcj : ∀ j, j + 1 = i → wr.cell? ⟨g, j, none⟩ = some (.int .i64 (t.getD j (-1))) := fun j hj => by
        obtain ⟨g', eg, cj⟩ := (h.more R1.keep).at (i := j) (by omega)
        injection eg with eg; injection eg with eg; subst eg; exact cj
      have hbj := fun j => hb j
      generalize hX : t.getD i (-1) = X at ci hbi hstep
      clear h hb
      by_cases c0 : X < 0
      · rw [if_pos c0] at hstep
        have R2 : Rr w wr a' c' (refR t (i + 1)) := by rw [hstep]; exact R1
        have hE : Hid ((refR t (i + 1)).length = (refR t i).length) := by show (refR t (i + 1)).length = _; rw [hstep]
        clear hlast hfm hcj hbj R1 hstep hX
        go_wp2_with fail
        go_roundw
        case rel => exact ⟨i + 1, a', c', hlt', by rw [show (refR t (i + 1)).length = _ from hE], by go_num, R2⟩
        case measure => have : i < t.length := hlt'; simp [intOf]; omega
      · rw [if_neg c0] at hstep
        have c0' : 0 ≤ X := by omega
        -- where no run goes on
        have hnew : refR t (i + 1) = refR t i ++ [⟨(i : Int), 1, X⟩] → ∀ w2, Keep (fun _ => False) wr w2 → ∃ a2 c2 w3, (Builtin.append_ #[32, 32] 32 #[.slice a' (refR t i).length c', .slice (some ⟨w2.heap.size, 0, none⟩) 1 1]).run Try.prog (w2.alloc (.cells #[.int .i64 (i : Int), .int .i64 1, .int .i64 X] 45)) = .ok (.slice a2 ((refR t i).length + 1) c2) w3 ∧ Rr w w3 a2 c2 (refR t (i + 1)) ∧ (refR t (i + 1)).length = (refR t i).length + 1 := fun e w2 k2 => by
          obtain ⟨a2, c2, w3, h1, h2⟩ := (R1.more k2).app1 (by omega) ⟨(i : Int), 1, X⟩
          exact ⟨a2, c2, w3, h1, by rw [e]; exact h2, by rw [e]; simp⟩
        by_cases hz : i = 0
        · have dz : ¬ (0 : Int) < (i : Int) := by omega
          have dzb : decide ((0 : Int) < (i : Int)) = false := decide_eq_false dz
          have dzc : decide (0 < i) = false := decide_eq_false (by omega)
          rw [if_neg (by omega)] at hstep
          have hn := hnew hstep
          clear hlast hfm hcj hbj hstep hnew hX hz
          go_upto_region 6 with fail
          go_quiet (fail)
          have k2 := (Keep.refl (fun _ => False) wr).drewN nq
          have ci2 := k2.cell ci
          generalize wr.drewN nq = w2 at k2 ci2 ⊢
          obtain ⟨a2, c2, w3, happ, R3, hE⟩ := hn w2 k2
          have hE' : Hid ((refR t (i + 1)).length = (refR t i).length + 1) := hE
          clear hn hE R1 ci k2
          go_wp2_with (at_builtin; refine wpList_append_run rfl (.tmp 50) (.tmp 57) 32 rfl (by rfl) (by rfl) happ ?_)
          go_roundw
          case rel => exact ⟨i + 1, a2, c2, hlt', by rw [show (refR t (i + 1)).length = _ from hE'], by go_num, R3⟩
          case measure => have : i < t.length := hlt'; simp [intOf]; omega
        · obtain ⟨j, hij⟩ : ∃ j, j + 1 = i := ⟨i - 1, by omega⟩
          have cj := hcj j hij
          have bj := hbj j
          have ej : i - 1 = j := by omega
          rw [ej] at hstep hlast
          have dz : (0 : Int) < (i : Int) := by omega
          have dzb : decide ((0 : Int) < (i : Int)) = true := decide_eq_true dz
          have dzc : decide (0 < i) = true := decide_eq_true (by omega)
          have djw : IntKind.i64.wrap ((i : Int) - 1) = (j : Int) := (wrapI (x := (i : Int) - 1) (by omega) (by omega)).trans (by omega)
          have djl : (j : Int) < (t.length : Int) := by omega
          generalize t.getD j (-1) = Y at cj bj hstep hlast
          by_cases cy : Y < 0
          · have cyd : decide (0 ≤ Y) = false := decide_eq_false (by omega)
            rw [if_neg (by omega)] at hstep
            have hn := hnew hstep
            clear hlast hfm hcj hbj hstep hnew hX hz ej hij
            go_upto_region 6 with fail
            go_quiet (fail)
            have k2 := (Keep.refl (fun _ => False) wr).drewN nq
            have ci2 := k2.cell ci
            generalize wr.drewN nq = w2 at k2 ci2 ⊢
            obtain ⟨a2, c2, w3, happ, R3, hE⟩ := hn w2 k2
            have hE' : Hid ((refR t (i + 1)).length = (refR t i).length + 1) := hE
            clear hn hE R1 ci k2
            go_wp2_with (at_builtin; refine wpList_append_run rfl (.tmp 50) (.tmp 57) 32 rfl (by rfl) (by rfl) happ ?_)
            go_roundw
            case rel => exact ⟨i + 1, a2, c2, hlt', by rw [show (refR t (i + 1)).length = _ from hE'], by go_num, R3⟩
            case measure => have : i < t.length := hlt'; simp [intOf]; omega
          · have cj0 : 0 ≤ Y := by omega
            have cyd : decide (0 ≤ Y) = true := decide_eq_true cj0
            have dy := wrapI (x := Y + 1) (by omega) (by omega)
            by_cases ce : Y + 1 = X
            · have ceb : (Y + 1 == X) = true := by simp [ce]
              rw [if_pos ⟨by omega, cj0, ce⟩] at hstep
              obtain ⟨A, x, eA, xf, xp⟩ := hlast (by omega) cj0
              rw [eA, grow_snoc] at hstep
              have hxo := hfm.1 x (by rw [eA]; simp)
              have hx1 := hxo.1
              have hx2 := hxo.2.1
              unfold Rn.fin at xf
              rw [eA] at R1 hln ⊢
              have hAl : (A ++ [x]).length = A.length + 1 := by simp
              rw [hAl] at hln ⊢
              have hEl : Hid ((refR t (i + 1)).length = A.length + 1) := by show (refR t (i + 1)).length = _; rw [hstep]; simp
              have hst' : Hid (refR t (i + 1) = A ++ [⟨x.lba, x.len + 1, x.phys⟩]) := hstep
              have dxl := wrapI (x := x.len + 1) (by omega) (by omega)
              have dA := wrapI (x := ((A.length + 1 : Nat) : Int) - 1) (by omega) (by omega)
              have dA2 : ((A.length + 1 : Nat) : Int) - 1 = (A.length : Int) := by omega
              rw [dA2] at dA
              have hrc := R1.rs.1
              rw [hAl] at hrc
              clear hcj hbj hstep hnew hX hz ej hij ce
              clear hlast hfm eA hxo hx1 hx2 xf xp dA2 hAl
              go_upto_region 6 with fail
              go_quiet (fail)
              have k2 := (Keep.refl (fun _ => False) wr).drewN nq
              have R2 := R1.more k2
              generalize wr.drewN nq = w2 at k2 R2 ⊢
              obtain ⟨g2, rfl, f0, f1, f2⟩ := R2.rs.at (i := A.length) (x := x) (by simp)
              have hfz := R2.own.frozenAt (A.length * 3 + 1)
              have R3 := R2.setLen (x.len + 1)
              rw [← (show refR t (i + 1) = _ from hst')] at R3
              clear R1 R2 ci k2
              go_wp2_with fail
              go_roundw
              case rel => exact ⟨i + 1, _, c', hlt', by rw [show (refR t (i + 1)).length = _ from hEl], by go_num, R3⟩
              case measure => have : i < t.length := hlt'; simp [intOf]; omega
            · have ceb : (Y + 1 == X) = false := by simp [ce]
              rw [if_neg (fun h => ce h.2.2)] at hstep
              have hn := hnew hstep
              clear hlast hfm hcj hbj hstep hnew hX hz ej hij ce
              go_upto_region 6 with fail
              go_quiet (fail)
              have k2 := (Keep.refl (fun _ => False) wr).drewN nq
              have ci2 := k2.cell ci
              generalize wr.drewN nq = w2 at k2 ci2 ⊢
              obtain ⟨a2, c2, w3, happ, R3, hE⟩ := hn w2 k2
              have hE' : Hid ((refR t (i + 1)).length = (refR t i).length + 1) := hE
              clear hn hE R1 ci k2
              go_wp2_with (at_builtin; refine wpList_append_run rfl (.tmp 50) (.tmp 57) 32 rfl (by rfl) (by rfl) happ ?_)
              go_roundw
              case rel => exact ⟨i + 1, a2, c2, hlt', by rw [show (refR t (i + 1)).length = _ from hE'], by go_num, R3⟩
              case measure => have : i < t.length := hlt'; simp [intOf]; omega
    · have di : ¬ (i : Int) < (t.length : Int) := by omega
      have ei : i = t.length := by omega
      rw [ei] at R1 ⊢
      clear hlt ei h
      go_wp2_with fail
      go_ret
      exact ⟨_, _, rfl, R1⟩
theorem Rr.older {w0 w1 w : World} {a : Option Addr} {cap : Nat} {m : List Rn} (h : Rr w1 w a cap m) (k : Keep (fun _ => False) w0 w1) : Rr w0 w a cap m := by
  refine ⟨⟨h.own.1, h.own.2.imp id ?_⟩, k.trans h.keep⟩
  rintro ⟨g, c, cur, e, hb, hh, h1, h2, h3, h4⟩
  exact ⟨g, c, cur, e, by have := k.size; omega, hh, h1, h2, h3, h4⟩
/-- Is a piece passed over? -/
abbrev Skip (x : Rn) : Prop := x.phys < 0 ∨ 1048576 < x.phys ∨ x.len < 1 ∨ x.lba < 0 ∨ 512 < x.lba
/-- How many sectors of it lie below 512. -/
def clipN (x : Rn) : Nat := (min x.len (512 - x.lba)).toNat
/-- A piece over entries. -/
def fold1 (t : List Int) (x : Rn) : List Int := if Skip x then t else putN t x.lba.toNat x.phys (clipN x)
/-- Pieces over entries, one after the other. -/
def foldT (l : List Rn) (t : List Int) : List Int := l.foldl fold1 t
theorem foldT_nil (t : List Int) : foldT [] t = t := rfl
theorem foldT_cons (x : Rn) (l : List Rn) (t : List Int) : foldT (x :: l) t = foldT l (fold1 t x) := rfl
theorem foldT_app (a b : List Rn) (t : List Int) : foldT (a ++ b) t = foldT b (foldT a t) := List.foldl_append
theorem fold1_len (t : List Int) (x : Rn) : (fold1 t x).length = t.length := by
  unfold fold1
  split
  · rfl
  · exact putN_len _ _ _ _
theorem foldT_len : ∀ (l : List Rn) (t : List Int), (foldT l t).length = t.length
  | [], _ => rfl
  | x :: l, t => by rw [foldT_cons, foldT_len l, fold1_len]
theorem clip_in {x : Rn} (h : ¬ Skip x) : x.lba.toNat + clipN x ≤ 512 := by unfold Skip at h; unfold clipN; omega
/-- What an entry may be. -/
def Ent (t : List Int) : Prop := ∀ i, -1 ≤ t.getD i (-1) ∧ t.getD i (-1) ≤ 1049088
theorem fold1_ent {t : List Int} (ht : t.length = 512) (h : Ent t) (x : Rn) : Ent (fold1 t x) := by
  unfold fold1
  split
  · exact h
  · next c =>
    intro i
    have := h i
    have h1 := clip_in c
    rw [putN_get t _ _ _ (by omega) i]
    unfold Skip at c
    split
    · split <;> omega
    · exact this
theorem foldT_ent : ∀ (l : List Rn) {t : List Int}, t.length = 512 → Ent t → Ent (foldT l t)
  | [], _, _, h => h
  | x :: l, t, ht, h => by rw [foldT_cons]; exact foldT_ent l (by rw [fold1_len]; exact ht) (fold1_ent ht h x)
/-- Does a piece, as far as it lies below 512, hold a sector? -/
theorem fold1_entry {t : List Int} (ht : t.length = 512) {x : Rn} (hx : ¬ Skip x) (s : Int) : entry (fold1 t x) s = if x.lba ≤ s ∧ s < x.fin ∧ s < 512 then some (x.phys + (s - x.lba)) else entry t s := by
  have h1 := clip_in hx
  unfold fold1
  rw [if_neg hx, putN_entry t _ _ _ (by omega) s]
  unfold Skip at hx
  have e1 : ((x.lba.toNat : Nat) : Int) = x.lba := by omega
  have e2 : ((clipN x : Nat) : Int) = min x.len (512 - x.lba) := by unfold clipN; omega
  rw [e1, e2, if_neg (show ¬ x.phys < 0 by omega)]
  by_cases c : x.lba ≤ s ∧ s < x.fin ∧ s < 512
  · rw [if_pos (by unfold Rn.fin at c; omega), if_pos c]
  · rw [if_neg (by unfold Rn.fin at c; omega), if_neg c]
/-- Runs in their form over entries. -/
theorem form_fold : ∀ {m : List Rn} {t : List Int}, t.length = 512 → Form m → (∀ x ∈ m, x.fin ≤ 512 ∧ x.phys ≤ 1048576) → ∀ s, entry (foldT m t) s = (page m s).or (entry t s)
  | [], t, _, _, _, s => by simp [foldT_nil, page]
  | x :: m, t, ht, hf, hb, s => by
    obtain ⟨hx, -, hm⟩ := Form.cons.1 hf
    have hx1 := hb x (by simp)
    have hsk : ¬ Skip x := by unfold Skip; unfold Rn.Ok at hx; unfold Rn.fin at hx1; omega
    rw [foldT_cons, form_fold (by rw [fold1_len]; exact ht) hm (fun y hy => hb y (by simp [hy])) s, fold1_entry ht hsk s, page]
    by_cases c : x.lba ≤ s ∧ s < x.fin
    · rw [if_pos ⟨c.1, c.2, by omega⟩, if_pos c, hf.page_low c.2]; rfl
    · rw [if_neg (fun h => c ⟨h.1, h.2.1⟩), if_neg c]
/-- A map that maps nothing. -/
def blank : List Int := List.replicate 512 (-1)
theorem blank_get (i : Nat) : blank.getD i (-1) = -1 := by
  unfold blank
  simp only [List.getD_eq_getElem?_getD, List.getElem?_replicate]
  split <;> rfl
theorem blank_ent : Ent blank := fun i => by rw [blank_get]; omega
theorem blank_len : blank.length = 512 := List.length_replicate
theorem blank_entry (s : Int) : entry blank s = none := by
  unfold entry
  rw [blank_get, if_neg (by omega)]
/-- What pieces fold to. -/
def foldR (l : List Rn) : List Rn := refR (foldT l blank) 512
theorem foldR_of (l : List Rn) : Of (foldT l blank) (foldR l) := by
  have := refR_of (foldT l blank)
  rwa [foldT_len, blank_len] at this
theorem foldR_form (l : List Rn) : Form (foldR l) := (foldR_of l).1
theorem foldR_fin {l : List Rn} {x : Rn} (hx : x ∈ foldR l) : x.fin ≤ 512 := by
  have := (foldR_of l).fin hx
  rwa [foldT_len, blank_len] at this
/-- Runs in their form fold to themselves. -/
theorem fold_self {m : List Rn} (hf : Form m) (hb : ∀ x ∈ m, x.fin ≤ 512 ∧ x.phys ≤ 1048576) : foldR m = m := by
  refine Form.one (foldR_form m) hf (fun s => ?_)
  rw [(foldR_of m).2 s, form_fold blank_len hf hb s, blank_entry]
  simp
/-- A row of triples, wherever it begins. -/
def Rz (w : World) (a : Option Addr) (cap : Nat) (l : List Rn) : Prop :=
  l.length ≤ cap ∧ cap ≤ 9223372036854775807 ∧ (l = [] ∨ ∃ g o, a = some ⟨g, o, none⟩ ∧ ∀ i x, l[i]? = some x → w.cell? ⟨g, o + i * 3, none⟩ = some (.int .i64 x.lba) ∧ w.cell? ⟨g, o + i * 3 + 1, none⟩ = some (.int .i64 x.len) ∧ w.cell? ⟨g, o + i * 3 + 2, none⟩ = some (.int .i64 x.phys))
/-- Each number fits. -/
def Fits (l : List Rn) : Prop := ∀ x ∈ l, (-9223372036854775808 ≤ x.lba ∧ x.lba ≤ 9223372036854775807) ∧ (-9223372036854775808 ≤ x.len ∧ x.len ≤ 9223372036854775807) ∧ (-9223372036854775808 ≤ x.phys ∧ x.phys ≤ 9223372036854775807)
theorem Rz.keep {S : Nat → Prop} {w w' : World} {a : Option Addr} {cap : Nat} {l : List Rn} (h : Rz w a cap l) (k : Keep S w w') (hs : ∀ g o, a = some ⟨g, o, none⟩ → l ≠ [] → ¬ S g) : Rz w' a cap l := by
  obtain ⟨h1, h2, h3⟩ := h
  by_cases hl : l = []
  · exact ⟨h1, h2, Or.inl hl⟩
  refine ⟨h1, h2, h3.imp id ?_⟩
  rintro ⟨g, o, rfl, hc⟩
  refine ⟨g, o, rfl, fun i x hx => ?_⟩
  obtain ⟨c0, c1, c2⟩ := hc i x hx
  have hb := World.block_lt_of_cell? w _ c0
  have hk := k.block g hb (hs g o rfl hl)
  rw [← c0, ← c1, ← c2]
  exact ⟨World.cell?_of_block (w := w) (a := ⟨g, o + i * 3, none⟩) hk, World.cell?_of_block (w := w) (a := ⟨g, o + i * 3 + 1, none⟩) hk, World.cell?_of_block (w := w) (a := ⟨g, o + i * 3 + 2, none⟩) hk⟩
theorem Rz.more {w w' : World} {a : Option Addr} {cap : Nat} {l : List Rn} (h : Rz w a cap l) (k : Keep (fun _ => False) w w') : Rz w' a cap l := h.keep k (fun _ _ _ _ e => e)
theorem Rz.at {w : World} {a : Option Addr} {cap : Nat} {l : List Rn} (h : Rz w a cap l) {i : Nat} {x : Rn} (hx : l[i]? = some x) :
    ∃ g o, a = some ⟨g, o, none⟩ ∧ w.cell? ⟨g, o + i * 3, none⟩ = some (.int .i64 x.lba) ∧ w.cell? ⟨g, o + i * 3 + 1, none⟩ = some (.int .i64 x.len) ∧ w.cell? ⟨g, o + i * 3 + 2, none⟩ = some (.int .i64 x.phys) := by
  rcases h.2.2 with rfl | ⟨g, o, rfl, hc⟩
  · simp at hx
  · exact ⟨g, o, rfl, hc i x hx⟩
theorem Rs.rz {w : World} {a : Option Addr} {cap : Nat} {m : List Rn} (h : Rs w a cap m) : Rz w a cap m := by
  refine ⟨h.1, h.2.1, ?_⟩
  by_cases c : m = []
  · exact Or.inl c
  · right
    obtain ⟨g, hg, -⟩ := (h.2.2).resolve_left c
    refine ⟨g, 0, hg, fun i x hx => ?_⟩
    obtain ⟨g', hg', h1, h2, h3⟩ := h.at hx
    rw [hg] at hg'
    injection hg' with hg'; injection hg' with hg'; subst hg'
    rw [Nat.zero_add]
    exact ⟨h1, h2, h3⟩
theorem Rz.block {w : World} {g o cap : Nat} {l : List Rn} (h : Rz w (some ⟨g, o, none⟩) cap l) (hl : l ≠ []) : g < w.heap.size := by
  obtain ⟨x, hx⟩ : ∃ x, l[0]? = some x := ⟨_, List.getElem?_eq_getElem (List.length_pos_iff.2 hl)⟩
  obtain ⟨g', o', e, h1, -⟩ := h.at hx
  injection e with e; injection e with e1 e2; subst e1
  exact World.block_lt_of_cell? w _ h1
theorem take_more {α : Type} {l : List α} {i : Nat} {x : α} (h : l[i]? = some x) : l.take (i + 1) = l.take i ++ [x] := by
  rw [List.take_add_one, h]
  rfl
/-- May a run, by itself, be a map's? -/
def inB (x : Rn) : Bool := decide (0 ≤ x.lba) && decide (x.lba ≤ 1073741824) && decide (1 ≤ x.len) && decide (x.len ≤ 1073741824) && decide (0 ≤ x.phys) && decide (x.phys ≤ 1073741824)
theorem inB_iff {x : Rn} : inB x = true ↔ 0 ≤ x.lba ∧ x.lba ≤ 1073741824 ∧ 1 ≤ x.len ∧ x.len ≤ 1073741824 ∧ 0 ≤ x.phys ∧ x.phys ≤ 1073741824 := by
  unfold inB
  simp [and_assoc]
/-- May a run stand next behind another one? -/
def folB (a x : Rn) : Bool := if x.lba - a.lba = a.len then x.phys - a.phys != a.len else decide (a.len < x.lba - a.lba)
/-- Are runs in their form, behind one that may stand ahead? -/
def formP : Option Rn → List Rn → Bool
  | _, [] => true
  | none, x :: l => inB x && formP (some x) l
  | some a, x :: l => inB x && (folB a x && formP (some x) l)
theorem form_true : ∀ {m : List Rn} {p : Option Rn}, Form m → (∀ x ∈ m, inB x = true) → (∀ a, p = some a → ∀ x ∈ m, a.fin ≤ x.lba ∧ ¬ Glued a x) → formP p m = true
  | [], p, _, _, _ => by cases p <;> rfl
  | x :: m, p, hf, hb, hp => by
    obtain ⟨h1, h2, h3⟩ := Form.cons.1 hf
    have ih := form_true (p := some x) h3 (fun y hy => hb y (by simp [hy])) (fun a e y hy => by injection e with e; subst e; exact h2 y hy)
    cases p with
    | none => simp [formP, hb x (by simp), ih]
    | some a =>
      have h4 := hp a rfl x (by simp)
      have : folB a x = true := by
        unfold folB
        unfold Glued Rn.fin at h4
        split
        · simp; omega
        · simp; omega
      simp [formP, hb x (by simp), ih, this]
theorem inside_any (w : World) (n least : Int) : Calls Try.prog 50 #[.int .i64 n, .int .i64 least] w fun e w' => e = .returned (.bool (decide (least ≤ n) && decide (n ≤ 1073741824))) ∧ w' = w := by
  by_cases c : least ≤ n
  · go_enter Try.func50, Try.ntmps50
    go_wp2_with fail
    go_ret
    exact ⟨by simp [c], rfl⟩
  · go_enter Try.func50, Try.ntmps50
    go_wp2_with fail
    go_ret
    exact ⟨by simp; intros; omega, rfl⟩
/-- The run ahead of a place. -/
def prev (l : List Rn) : Nat → Option Rn
  | 0 => none
  | i + 1 => l[i]?
theorem prev_succ (l : List Rn) (i : Nat) : prev l (i + 1) = l[i]? := rfl
theorem drop_at {l : List Rn} {i : Nat} {x : Rn} (h : l[i]? = some x) : l.drop i = x :: l.drop (i + 1) := by
  obtain ⟨hi, e⟩ := List.getElem?_eq_some_iff.1 h
  rw [← List.getElem_cons_drop hi, e]
/-- What one place asks. -/
def okAt (p : Option Rn) (x : Rn) : Bool := inB x && (match p with | none => true | some a => folB a x)
theorem formP_at (p : Option Rn) (x : Rn) (l : List Rn) : formP p (x :: l) = (okAt p x && formP (some x) l) := by
  unfold okAt
  cases p <;> simp [formP, Bool.and_assoc]
set_option maxRecDepth 100000 in
set_option maxHeartbeats 2000000 in
theorem form9 {w : World} {a : Option Addr} {cap : Nat} {l : List Rn} (hR : Rz w a cap l) (hl : l.length ≤ 9223372036854775807) :
    Calls Try.prog 36 #[.slice a l.length cap] w fun e w' => e = .returned (.bool (formP none l)) ∧ Keep (fun _ => False) w w' := by
  have hlc := hR.1
  have hlc2 := hR.2.1
  have h0 : formP none l = formP (prev l 0) (l.drop 0) := by rw [List.drop_zero]; rfl
  go_enter Try.func36, Try.ntmps36
  go_wp2_with fail
  go_loopw [3] (fun v wx => ∃ i : Nat, i ≤ l.length ∧ v = .int .i64 (i : Int) ∧ Hid (formP none l = formP (prev l i) (l.drop i)) ∧ Hid (∀ y, prev l i = some y → inB y = true) ∧ Keep (fun _ => False) w wx) (fun v _ => l.length - (intOf v).toNat)
  case atStart => exact ⟨0, by omega, rfl, h0, (fun y e => by cases e), Keep.refl _ _⟩
  case round =>
    clear h0
    obtain ⟨i, hi, rfl, hI, hP, k1⟩ := hrel
    by_cases hlt : i < l.length
    · obtain ⟨x, hx⟩ := get_rn hlt
      have Rx := hR.more k1
      obtain ⟨g, o, rfl, c0, c1, c2⟩ := Rx.at hx
      have hstep : formP none l = (okAt (prev l i) x && formP (some x) (l.drop (i + 1))) := by
        rw [show formP none l = formP (prev l i) (l.drop i) from hI, drop_at hx, formP_at]
      have hP2 := show ∀ y, prev l i = some y → inB y = true from hP
      have di : (i : Int) < (l.length : Int) := by omega
      have dw := wrapI (x := (i : Int) + 1) (by omega) (by omega)
      have hlt' : Hid (i < l.length) := hlt
      have hx' : Hid (l[i]? = some x) := hx
      have i0 := fun w => inside_any w x.lba 0
      have i1 := fun w => inside_any w x.phys 0
      have i2 := fun w => inside_any w x.len 1
      clear hI hP hlt hx
      by_cases b0 : 0 ≤ x.lba ∧ x.lba ≤ 1073741824
      · rw [show (decide (0 ≤ x.lba) && decide (x.lba ≤ 1073741824)) = true by simp [b0.1, b0.2]] at i0
        by_cases b1 : 0 ≤ x.phys ∧ x.phys ≤ 1073741824
        · rw [show (decide (0 ≤ x.phys) && decide (x.phys ≤ 1073741824)) = true by simp [b1.1, b1.2]] at i1
          by_cases b2 : 1 ≤ x.len ∧ x.len ≤ 1073741824
          · rw [show (decide (1 ≤ x.len) && decide (x.len ≤ 1073741824)) = true by simp [b2.1, b2.2]] at i2
            have hb : inB x = true := inB_iff.2 ⟨b0.1, b0.2, b2.1, b2.2, b1.1, b1.2⟩
            have hb' : Hid (inB x = true) := hb
            go_wp2_with fail
            refine (i0 _).mono ?_
            rintro e wz ⟨rfl, e1⟩; have e1 := e1.symm; subst e1
            go_wp2_with fail
            refine (i1 _).mono ?_
            rintro e wz ⟨rfl, e1⟩; have e1 := e1.symm; subst e1
            go_wp2_with fail
            refine (i2 _).mono ?_
            rintro e wz ⟨rfl, e1⟩; have e1 := e1.symm; subst e1
            cases i with
            | zero =>
              have hF : Hid (formP none l = formP (some x) (l.drop (0 + 1))) := by
                show formP none l = _
                rw [hstep]; unfold okAt prev; rw [hb]; rfl
              clear hstep hP2 hR Rx hb b0 b1 b2
              go_wp2_with fail
              go_roundw
              case rel => exact ⟨0 + 1, hlt', by go_num, by show formP none l = _; rw [show formP none l = formP (some x) (l.drop (0 + 1)) from hF, prev_succ, show l[0]? = some x from hx'], (fun z e => by rw [prev_succ, show l[0]? = some x from hx'] at e; injection e with e; subst e; exact hb'), k1⟩
              case measure => have : 0 < l.length := hlt'; simp [intOf]; omega
            | succ j =>
              obtain ⟨y, hy⟩ := get_rn (m := l) (i := j) (by have : j + 1 < l.length := hlt'; omega)
              have hyb := inB_iff.1 (hP2 y hy)
              obtain ⟨g', o', eg, h1, h2, h3⟩ := Rx.at hy
              injection eg with eg; injection eg with eg1 eg2; subst eg1; subst eg2
              have hst2 : formP none l = (folB y x && formP (some x) (l.drop (j + 1 + 1))) := by rw [hstep]; unfold okAt; rw [prev_succ, hb, hy]; simp
              have dj1 : IntKind.i64.wrap (((j + 1 : Nat) : Int) - 1) = (j : Int) := by rw [wrapI (by omega) (by omega)]; omega
              have dj4 := wrapI (x := (j : Int)) (by omega) (by omega)
              have dj3 : (j : Int) < (l.length : Int) := by omega
              have dj5 : (((j + 1 : Nat) : Int) == 0) = false := by simp; omega
              have da := wrapI (x := y.lba + y.len) (by omega) (by omega)
              have db := wrapI (x := y.phys + y.len) (by omega) (by omega)
              have K2 : Keep (fun _ => False) wr (wr.alloc (.cells #[.int .i64 y.lba, .int .i64 y.len, .int .i64 y.phys] 45)) := (Keep.refl _ _).alloc _
              have L1 : Blk (wr.alloc (.cells #[.int .i64 y.lba, .int .i64 y.len, .int .i64 y.phys] 45)) wr.heap.size 3 (rcell y) := blk_alloc wr _ 45 3 _ (fun i hi => by
                have : i = 0 ∨ i = 1 ∨ i = 2 := by omega
                rcases this with rfl | rfl | rfl <;> rfl)
              have R2 := Rx.more K2
              clear hstep hP2 hR Rx i0 i1 i2
              go_upto_region 8 with fail
              generalize wr.alloc (.cells #[.int .i64 y.lba, .int .i64 y.len, .int .i64 y.phys] 45) = w2 at K2 L1 R2 ⊢
              generalize wr.heap.size = G at L1 ⊢
              have k2 := k1.trans K2
              obtain ⟨g2, o2, eg, u0, u1, u2⟩ := R2.at (show l[j + 1]? = some x from hx')
              injection eg with eg; injection eg with eg1 eg2; subst eg1; subst eg2
              have v0 : w2.cell? ⟨G, 0, none⟩ = some (.int .i64 y.lba) := (L1 0 (by omega)).1
              have v1 : w2.cell? ⟨G, 1, none⟩ = some (.int .i64 y.len) := (L1 1 (by omega)).1
              have v2 : w2.cell? ⟨G, 2, none⟩ = some (.int .i64 y.phys) := (L1 2 (by omega)).1
              clear K2 k1 R2 L1
              by_cases t0 : x.lba < y.lba + y.len
              · have hF : Hid (formP none l = false) := by
                  show formP none l = false
                  have : folB y x = false := by
                    unfold folB
                    split
                    · omega
                    · simp; omega
                  rw [hst2, this]; rfl
                have tb : decide (x.lba < y.lba + y.len) = true := decide_eq_true t0
                clear hst2 hyb hb b0 b1 b2
                go_quiet (fail)
                go_wp2_with fail
                go_ret
                exact ⟨by rw [show formP none l = false from hF]; rfl, k2.drewN _⟩
              · have tb : decide (x.lba < y.lba + y.len) = false := decide_eq_false t0
                by_cases t1 : y.lba + y.len = x.lba
                · have tb1 : (y.lba + y.len == x.lba) = true := by simp [t1]
                  by_cases t2 : y.phys + y.len = x.phys
                  · have tb2 : (y.phys + y.len == x.phys) = true := by simp [t2]
                    have hF : Hid (formP none l = false) := by
                      show formP none l = false
                      have : folB y x = false := by
                        unfold folB
                        rw [if_pos (by omega)]
                        simp; omega
                      rw [hst2, this]; rfl
                    clear hst2 t1 t2 hyb hb b0 b1 b2
                    go_quiet (fail)
                    go_wp2_with fail
                    go_ret
                    exact ⟨by rw [show formP none l = false from hF]; rfl, k2.drewN _⟩
                  · have tb2 : (y.phys + y.len == x.phys) = false := by simp [t2]
                    have hF : Hid (formP none l = formP (some x) (l.drop (j + 1 + 1))) := by
                      show formP none l = _
                      have : folB y x = true := by
                        unfold folB
                        rw [if_pos (by omega)]
                        simp; omega
                      rw [hst2, this]; rfl
                    clear hst2 t1 t2 hyb hb b0 b1 b2
                    go_quiet (fail)
                    go_wp2_with fail
                    go_roundw
                    case rel => exact ⟨j + 1 + 1, hlt', by go_num, by show formP none l = _; rw [show formP none l = formP (some x) (l.drop (j + 1 + 1)) from hF, prev_succ, show l[j + 1]? = some x from hx'], (fun z e => by rw [prev_succ, show l[j + 1]? = some x from hx'] at e; injection e with e; subst e; exact hb'), k2.drewN _⟩
                    case measure => have : j + 1 < l.length := hlt'; simp [intOf]; omega
                · have tb1 : (y.lba + y.len == x.lba) = false := by simp [t1]
                  have hF : Hid (formP none l = formP (some x) (l.drop (j + 1 + 1))) := by
                    show formP none l = _
                    have : folB y x = true := by
                      unfold folB
                      rw [if_neg (by omega)]
                      simp; omega
                    rw [hst2, this]; rfl
                  clear hst2 t1 hyb hb b0 b1 b2
                  go_quiet (fail)
                  go_wp2_with fail
                  go_roundw
                  case rel => exact ⟨j + 1 + 1, hlt', by go_num, by show formP none l = _; rw [show formP none l = formP (some x) (l.drop (j + 1 + 1)) from hF, prev_succ, show l[j + 1]? = some x from hx'], (fun z e => by rw [prev_succ, show l[j + 1]? = some x from hx'] at e; injection e with e; subst e; exact hb'), k2.drewN _⟩
                  case measure => have : j + 1 < l.length := hlt'; simp [intOf]; omega
          · rw [show (decide (1 ≤ x.len) && decide (x.len ≤ 1073741824)) = false by simp; omega] at i2
            have hF : Hid (formP none l = false) := by
              show formP none l = false
              have : inB x = false := by rw [Bool.eq_false_iff]; intro e; rw [inB_iff] at e; omega
              rw [hstep]; unfold okAt; rw [this]; rfl
            clear hstep hP2 b0 b1 b2 hR Rx
            go_wp2_with fail
            refine (i0 _).mono ?_
            rintro e wz ⟨rfl, e1⟩; have e1 := e1.symm; subst e1
            go_wp2_with fail
            refine (i1 _).mono ?_
            rintro e wz ⟨rfl, e1⟩; have e1 := e1.symm; subst e1
            go_wp2_with fail
            refine (i2 _).mono ?_
            rintro e wz ⟨rfl, e1⟩; have e1 := e1.symm; subst e1
            go_wp2_with fail
            go_ret
            exact ⟨by rw [show formP none l = false from hF]; rfl, k1⟩
        · rw [show (decide (0 ≤ x.phys) && decide (x.phys ≤ 1073741824)) = false by simp; omega] at i1
          have hF : Hid (formP none l = false) := by
            show formP none l = false
            have : inB x = false := by rw [Bool.eq_false_iff]; intro e; rw [inB_iff] at e; omega
            rw [hstep]; unfold okAt; rw [this]; rfl
          clear hstep hP2 b0 b1 hR Rx
          go_wp2_with fail
          refine (i0 _).mono ?_
          rintro e wz ⟨rfl, e1⟩; have e1 := e1.symm; subst e1
          go_wp2_with fail
          refine (i1 _).mono ?_
          rintro e wz ⟨rfl, e1⟩; have e1 := e1.symm; subst e1
          go_wp2_with fail
          go_ret
          exact ⟨by rw [show formP none l = false from hF]; rfl, k1⟩
      · rw [show (decide (0 ≤ x.lba) && decide (x.lba ≤ 1073741824)) = false by simp; omega] at i0
        have hF : Hid (formP none l = false) := by
          show formP none l = false
          have : inB x = false := by rw [Bool.eq_false_iff]; intro e; rw [inB_iff] at e; omega
          rw [hstep]; unfold okAt; rw [this]; rfl
        clear hstep hP2 b0 hR Rx
        go_wp2_with fail
        refine (i0 _).mono ?_
        rintro e wz ⟨rfl, e1⟩; have e1 := e1.symm; subst e1
        go_wp2_with fail
        go_ret
        exact ⟨by rw [show formP none l = false from hF]; rfl, k1⟩
    · have di : ¬ (i : Int) < (l.length : Int) := by omega
      have he : Hid (formP none l = true) := by
        show formP none l = true
        rw [show formP none l = formP (prev l i) (l.drop i) from hI, List.drop_of_length_le (by omega)]
        cases prev l i <;> rfl
      clear hlt hR hI hP
      go_wp2_with fail
      go_ret
      exact ⟨by rw [show formP none l = true from he]; rfl, k1⟩
set_option maxRecDepth 100000 in
set_option maxHeartbeats 2000000 in
theorem fold9 {w : World} {a : Option Addr} {cap : Nat} {l : List Rn} (hR : Rz w a cap l) (hf : Fits l) :
    Calls Try.prog 16 #[.slice a l.length cap] w fun e w' => ∃ a' c', e = .returned (.slice a' (foldR l).length c') ∧ Rr w w' a' c' (foldR l) := by
  have hlc := hR.1
  have hlc2 := hR.2.1
  have hnew := new9 (w := w) (C := 512) (by omega)
  rw [show ((512 : Nat) : Int) = 512 from rfl] at hnew
  have hend : l.take l.length = l := List.take_length
  go_enter Try.func16, Try.ntmps16
  go_upto_region 2 with (go_at_call 34; refine hnew.mono ?_; rintro e w1 ⟨a1, c, rfl, R1⟩)
  clear hnew
  obtain ⟨G, rfl, -⟩ := R1.is.at (i := 0) (by simp)
  have hc := R1.is.1
  rw [List.length_replicate] at hc
  go_wp2_with fail
  go_loopw [4] (fun v wx => ∃ i : Nat, i ≤ l.length ∧ v = .int .i64 (i : Int) ∧ Ri w wx (some ⟨G, 0, none⟩) c (foldT (l.take i) blank)) (fun v _ => l.length - (intOf v).toNat)
  case atStart => exact ⟨0, by omega, rfl, R1⟩
  case round =>
    clear R1
    obtain ⟨i, hi, rfl, R2⟩ := hrel
    by_cases hlt : i < l.length
    · obtain ⟨x, hx⟩ := get_rn hlt
      obtain ⟨g, o, rfl, c0, c1, c2⟩ := (hR.more R2.keep).at hx
      have hfx := hf x (List.mem_of_getElem? hx)
      have K2 : Keep (fun _ => False) wr (wr.alloc (.cells #[.int .i64 x.lba, .int .i64 x.len, .int .i64 x.phys] 64)) := (Keep.refl _ _).alloc _
      have L1 : Blk (wr.alloc (.cells #[.int .i64 x.lba, .int .i64 x.len, .int .i64 x.phys] 64)) wr.heap.size 3 (rcell x) := blk_alloc wr _ 64 3 _ (fun i hi => by
        have : i = 0 ∨ i = 1 ∨ i = 2 := by omega
        rcases this with rfl | rfl | rfl <;> rfl)
      have R3 := R2.more K2
      have hGp : Hid (¬ wr.heap.size = G) := by
        show ¬ wr.heap.size = G
        have := (R2.block rfl).2
        omega
      have hnext : foldT (l.take (i + 1)) blank = fold1 (foldT (l.take i) blank) x := by
        rw [take_more hx, foldT_app]; rfl
      have htl : (foldT (l.take i) blank).length = 512 := by rw [foldT_len, blank_len]
      have di : (i : Int) < (l.length : Int) := by omega
      have dw := wrapI (x := (i : Int) + 1) (by omega) (by omega)
      have hlt' : Hid (i < l.length) := hlt
      go_upto_region 6 with fail
      generalize wr.alloc (.cells #[.int .i64 x.lba, .int .i64 x.len, .int .i64 x.phys] 64) = w2 at K2 L1 R3 ⊢
      generalize wr.heap.size = Gp at L1 hGp ⊢
      have l0 : w2.cell? ⟨Gp, 0, none⟩ = some (.int .i64 x.lba) := (L1 0 (by omega)).1
      have l1 : w2.cell? ⟨Gp, 1, none⟩ = some (.int .i64 x.len) := (L1 1 (by omega)).1
      have l2 : w2.cell? ⟨Gp, 2, none⟩ = some (.int .i64 x.phys) := (L1 2 (by omega)).1
      clear c0 c1 c2 K2 R2 hlt hf hend hR hx
      generalize foldT (l.take i) blank = t at R3 hnext htl
      by_cases hs : Skip x
      · have hn : fold1 t x = t := by unfold fold1; rw [if_pos hs]
        rw [hn] at hnext
        unfold Skip at hs
        have R4 : Hid (Ri w w2 (some ⟨G, 0, none⟩) c (foldT (l.take (i + 1)) blank)) := by show Ri w w2 _ c _; rw [hnext]; exact R3
        clear hnext hn L1 R3 htl
        by_cases s1 : x.phys < 0
        · clear hs
          go_wp2_with fail
          go_roundw
          case rel => exact ⟨i + 1, hlt', by go_num, R4⟩
          case measure => have : i < l.length := hlt'; simp [intOf]; omega
        by_cases s2 : 1048576 < x.phys
        · clear hs
          go_wp2_with fail
          go_roundw
          case rel => exact ⟨i + 1, hlt', by go_num, R4⟩
          case measure => have : i < l.length := hlt'; simp [intOf]; omega
        by_cases s3 : x.len < 1
        · clear hs
          go_wp2_with fail
          go_roundw
          case rel => exact ⟨i + 1, hlt', by go_num, R4⟩
          case measure => have : i < l.length := hlt'; simp [intOf]; omega
        by_cases s4 : x.lba < 0
        · clear hs
          go_wp2_with fail
          go_roundw
          case rel => exact ⟨i + 1, hlt', by go_num, R4⟩
          case measure => have : i < l.length := hlt'; simp [intOf]; omega
        have s5 : 512 < x.lba := by omega
        clear hs
        go_wp2_with fail
        go_roundw
        case rel => exact ⟨i + 1, hlt', by go_num, R4⟩
        case measure => have : i < l.length := hlt'; simp [intOf]; omega
      · have hn : fold1 t x = putN t x.lba.toNat x.phys (clipN x) := by unfold fold1; rw [if_neg hs]
        rw [hn] at hnext
        have hcl := clip_in hs
        unfold Skip at hs
        have s1 : ¬ x.phys < 0 := by omega
        have s2 : ¬ 1048576 < x.phys := by omega
        have s3 : ¬ x.len < 1 := by omega
        have s4 : ¬ x.lba < 0 := by omega
        have s5 : ¬ 512 < x.lba := by omega
        have hcn : (clipN x : Int) = min x.len (512 - x.lba) := by unfold clipN; omega
        obtain ⟨L, eL⟩ : ∃ L : Nat, x.lba = (L : Int) := ⟨x.lba.toNat, by omega⟩
        have hLt : x.lba.toNat = L := by omega
        rw [hLt] at hnext hcl
        have hput : ∀ k, putN t L x.phys (k + 1) = (putN t L x.phys k).set (L + k) (x.phys + k) := fun k => by rw [putN, if_neg s1]
        have hnext' : Hid (foldT (l.take (i + 1)) blank = putN t L x.phys (clipN x)) := hnext
        have hpl : ∀ k, (putN t L x.phys k).length = 512 := fun k => by rw [putN_len]; exact htl
        clear hn hs hLt hnext
        generalize clipN x = M at hcn hcl hnext'
        go_wp2_with fail
        go_loopw [6] (fun v wx => ∃ k : Nat, k ≤ M ∧ v = .int .i64 (k : Int) ∧ Ri w wx (some ⟨G, 0, none⟩) c (putN t L x.phys k) ∧ Blk wx Gp 3 (rcell x)) (fun v _ => M - (intOf v).toNat)
        case atStart => exact ⟨0, by omega, rfl, R3, L1⟩
        case round =>
          clear R3 L1 l0 l1 l2
          obtain ⟨k, hk, rfl, R4, L4⟩ := hrel
          have l0 : wr.cell? ⟨Gp, 0, none⟩ = some (.int .i64 x.lba) := (L4 0 (by omega)).1
          have l1 : wr.cell? ⟨Gp, 1, none⟩ = some (.int .i64 x.len) := (L4 1 (by omega)).1
          have l2 : wr.cell? ⟨Gp, 2, none⟩ = some (.int .i64 x.phys) := (L4 2 (by omega)).1
          have dlk := wrapI (x := x.lba + (k : Int)) (by omega) (by omega)
          by_cases hkl : k < M
          · obtain ⟨g', eg, y0⟩ := R4.is.at (i := L + k) (by rw [hpl]; omega)
            injection eg with eg; injection eg with eg; subst eg
            have z0 := R4.fz (L + k)
            have R5 := R4.set (L + k) (x.phys + k)
            rw [← hput] at R5
            have L5 : Blk (wr.setCell ⟨G, L + k, none⟩ (.int .i64 (x.phys + k))) Gp 3 (rcell x) := L4.other (a := ⟨G, L + k, none⟩) hGp _
            have dk1 : (k : Int) < x.len := by omega
            have dk2 : x.lba + (k : Int) < 512 := by omega
            have dk3 : ¬ x.lba + (k : Int) < 0 := by omega
            have dk4 : (x.lba + (k : Int)).toNat = L + k := by omega
            have dk5 : (0 : Int) ≤ x.lba + (k : Int) := by omega
            have dwk := wrapI (x := (k : Int) + 1) (by omega) (by omega)
            have dp := wrapI (x := x.phys + (k : Int)) (by omega) (by omega)
            have hkl' : Hid (k < M) := hkl
            clear R4 L4 hkl hput hpl
            go_wp2_with fail
            go_roundw
            case rel => exact ⟨k + 1, hkl', by go_num, R5, L5⟩
            case measure => have : k < M := hkl'; simp [intOf]; omega
          · have ek : k = M := by omega
            rw [ek, ← show foldT (l.take (i + 1)) blank = putN t L x.phys M from hnext'] at R4
            by_cases dk1 : (k : Int) < x.len
            · have dk2 : ¬ x.lba + (k : Int) < 512 := by omega
              clear hkl ek hput hpl L4
              go_wp2_with fail
              go_roundw
              case rel => exact ⟨i + 1, hlt', by go_num, R4⟩
              case measure => have : i < l.length := hlt'; simp [intOf]; omega
            · clear hkl ek hput hpl L4
              go_wp2_with fail
              go_roundw
              case rel => exact ⟨i + 1, hlt', by go_num, R4⟩
              case measure => have : i < l.length := hlt'; simp [intOf]; omega
    · have di : ¬ (i : Int) < (l.length : Int) := by omega
      have ei : i = l.length := by omega
      rw [ei, hend] at R2
      have c9 := runs9 R2.is (by rw [foldT_len, blank_len]; omega) (foldT_ent _ blank_len blank_ent)
      rw [foldT_len, blank_len, show refR (foldT l blank) 512 = foldR l from rfl] at c9
      have HK := R2.keep
      clear hlt ei hend R2 hf hR
      go_wp2_with (go_at_call 35; refine c9.mono ?_; rintro e w3 ⟨a', c', rfl, R3⟩)
      go_ret
      exact ⟨a', c', rfl, R3.older HK⟩
/-- A row of triples that came in. -/
def Rows3 (W : World) (a : Option Addr) (len cap : Nat) : Prop := ∃ l : List Rn, l.length = len ∧ Rz W a cap l ∧ Fits l
theorem three3 {j : Nat} (h : j < 3) : j = 0 ∨ j = 1 ∨ j = 2 := by omega
/-- A number by three. -/
def trip (a0 a1 a2 : Int) (j : Nat) : Int := if j = 0 then a0 else if j = 1 then a1 else a2
/-- A row of triples, told as a list. -/
theorem rows3_of {W : World} {b o len cap : Nat} (h1 : len ≤ cap) (h2 : cap ≤ 9223372036854775807) (h : ∀ i, i < len → ∃ f : Nat → Int, (∀ j, -9223372036854775808 ≤ f j ∧ f j ≤ 9223372036854775807) ∧ ∀ j, j < 3 → W.cell? ⟨b, o + i * 3 + j, none⟩ = some (.int .i64 (f j))) :
    ∀ n, n ≤ len → ∃ l : List Rn, l.length = n ∧ Fits l ∧ ∀ i x, l[i]? = some x → W.cell? ⟨b, o + i * 3, none⟩ = some (.int .i64 x.lba) ∧ W.cell? ⟨b, o + i * 3 + 1, none⟩ = some (.int .i64 x.len) ∧ W.cell? ⟨b, o + i * 3 + 2, none⟩ = some (.int .i64 x.phys)
  | 0, _ => ⟨[], rfl, (fun x hx => by cases hx), (fun i x hx => by simp at hx)⟩
  | n + 1, hn => by
    obtain ⟨l, hl, hf, hc⟩ := rows3_of h1 h2 h n (by omega)
    obtain ⟨f, hb, hv⟩ := h n (by omega)
    refine ⟨l ++ [⟨f 0, f 1, f 2⟩], by simp [hl], fun x hx => ?_, fun i x hx => ?_⟩
    · rcases List.mem_append.1 hx with hx | hx
      · exact hf x hx
      · simp at hx; subst hx; exact ⟨hb 0, hb 1, hb 2⟩
    · by_cases c : i < l.length
      · rw [List.getElem?_append_left c] at hx
        exact hc i x hx
      · rw [List.getElem?_append_right (by omega)] at hx
        have e : i - l.length = 0 := by
          by_cases c2 : i - l.length = 0
          · exact c2
          · rw [List.getElem?_eq_none (by simp; omega)] at hx; cases hx
        rw [e] at hx
        simp at hx
        subst hx
        have ei : i = n := by omega
        subst ei
        exact ⟨hv 0 (by omega), hv 1 (by omega), hv 2 (by omega)⟩
theorem cells30 : Try.prog.cellsOf 28 = 3 := by kernel_rfl
set_option maxRecDepth 100000 in
theorem trip_of_trod30 {H : Type} {enc : TypeId × Value → H} {w : World} {base fuel : Nat} {spare : Nat → Bool} {held : Bool} {cs : List Value} {x : DataW H × List MemPlace}
    (h : DataW.trod enc Try.prog w base spare held fuel 28 cs = some x) :
    ∃ a : Nat → Int, cs = [.int .i64 (a 0), .int .i64 (a 1), .int .i64 (a 2)] ∧ ∀ j, -9223372036854775808 ≤ a j ∧ a j ≤ 9223372036854775807 := by
  obtain ⟨xs, n, rfl, _, hl, hxl, hf⟩ := DataW.trod_struct Try.underlying28 h
  rw [cells30] at hl
  obtain ⟨v0, v1, v2, rfl⟩ : ∃ v0 v1 v2, cs = [v0, v1, v2] := by
    match cs, hl with
    | [v0, v1, v2], _ => exact ⟨v0, v1, v2, rfl⟩
  have hx : ∀ i, i < 3 → ∃ y, xs[i]? = some y := fun i hi => ⟨xs[i]'(by rw [hxl]; exact hi), List.getElem?_eq_getElem _⟩
  obtain ⟨y0, e0⟩ := hx 0 (by omega)
  obtain ⟨y1, e1⟩ := hx 1 (by omega)
  obtain ⟨y2, e2⟩ := hx 2 (by omega)
  have k0 : DataW.trod enc Try.prog w base spare held n 3 (List.take (Try.prog.cellsOf 3) (List.drop 0 [v0, v1, v2])) = xs[0]? := hf 0 _ rfl
  have k1 : DataW.trod enc Try.prog w base spare held n 3 (List.take (Try.prog.cellsOf 3) (List.drop 1 [v0, v1, v2])) = xs[1]? := hf 1 _ rfl
  have k2 : DataW.trod enc Try.prog w base spare held n 3 (List.take (Try.prog.cellsOf 3) (List.drop 2 [v0, v1, v2])) = xs[2]? := hf 2 _ rfl
  rw [e0, cells3] at k0
  rw [e1, cells3] at k1
  rw [e2, cells3] at k2
  obtain ⟨n0, q0, _, w0⟩ := DataW.trod_int Try.underlying3 k0
  obtain ⟨n1, q1, _, w1⟩ := DataW.trod_int Try.underlying3 k1
  obtain ⟨n2, q2, _, w2⟩ := DataW.trod_int Try.underlying3 k2
  simp at q0 q1 q2
  subst q0 q1 q2
  have r0 := int_fits w0
  have r1 := int_fits w1
  have r2 := int_fits w2
  exact ⟨trip n0 n1 n2, rfl, fun j => by unfold trip; split; exact r0; split; exact r1; exact r2⟩
set_option maxRecDepth 100000 in
/-- Cells that read as such a row. -/
theorem rows_of_trod31 {H : Type} {enc : TypeId × Value → H} {W : World} {spare : Nat → Bool} {held : Bool} {a : Option Addr} {len cap fuel : Nat} {x : DataW H × List MemPlace}
    (hf : DataW.trod enc Try.prog W 0 spare held fuel 29 [.slice a len cap] = some x) : Rows3 W a len cap := by
  rcases Deep.open_slice Try.underlying29 hf with ⟨hcs, hx⟩ | ⟨ad, l, c, m, n, D, Pl, hcs, _, hl, hm, hmm, _, hi⟩
  · simp at hcs
    obtain ⟨rfl, rfl, rfl⟩ := hcs
    exact ⟨[], rfl, ⟨by simp, by omega, Or.inl rfl⟩, fun x hx => by cases hx⟩
  · simp at hcs
    obtain ⟨rfl, rfl, rfl⟩ := hcs
    unfold maxLen at hm
    have hmm' : len ≤ m := by
      rw [hmm]; split <;> omega
    by_cases h0 : len = 0
    · subst h0
      exact ⟨[], rfl, ⟨by simp, by omega, Or.inl rfl⟩, fun x hx => by cases hx⟩
    · obtain ⟨b, off, spot⟩ := ad
      have hall : ∀ i, i < len → ∃ f : Nat → Int, (∀ j, -9223372036854775808 ≤ f j ∧ f j ≤ 9223372036854775807) ∧ ∀ j, j < 3 → W.cell? (((⟨b, off, spot⟩ : Addr).add (i * 3)).add j) = some (.int .i64 (f j)) := by
        intro i hil
        obtain ⟨cs', hc, ht⟩ := hi i (by omega)
        rw [cells30] at hc
        obtain ⟨f, rfl, hfr⟩ := trip_of_trod30 ht
        have g := cells_get hc
        refine ⟨f, hfr, fun j hj => ?_⟩
        rw [g j hj]
        rcases three3 hj with rfl | rfl | rfl <;> rfl
      have hspot : spot = none := by
        obtain ⟨f, -, h1⟩ := hall 0 (by omega)
        simpa [Addr.add] using World.cell?_spot (h1 0 (by omega))
      subst hspot
      obtain ⟨rows, hr1, hr2, hr3⟩ := rows3_of (W := W) (b := b) (o := off) (len := len) (cap := cap) hl (by omega) (fun i hil => by
        obtain ⟨f, hfr, h1⟩ := hall i hil
        refine ⟨f, hfr, fun j hj => ?_⟩
        have := h1 j hj
        rwa [Addr.add_lit, Addr.add_lit] at this) len (Nat.le_refl _)
      exact ⟨rows, hr1, ⟨by omega, by omega, Or.inr ⟨b, off, rfl, hr3⟩⟩, hr2⟩
theorem open_rows31 {H : Type} {enc : TypeId × Value → H} {W : World} {a : Option Addr} {len cap : Nat} {d : DataW H} {p : List MemPlace}
    (h : DataW.Trod enc Try.prog W 0 (fun _ => true) true 29 (.slice a len cap) d p) : Rows3 W a len cap := by
  obtain ⟨fuel, hf⟩ := h
  exact rows_of_trod31 (by simpa [Value.cells] using hf)
theorem cells34 : Try.prog.cellsOf 45 = 3 := by kernel_rfl
set_option maxRecDepth 100000 in
theorem trip_of_trod34 {H : Type} {enc : TypeId × Value → H} {w : World} {base fuel : Nat} {spare : Nat → Bool} {held : Bool} {cs : List Value} {x : DataW H × List MemPlace}
    (h : DataW.trod enc Try.prog w base spare held fuel 45 cs = some x) :
    ∃ a : Nat → Int, cs = [.int .i64 (a 0), .int .i64 (a 1), .int .i64 (a 2)] ∧ ∀ j, -9223372036854775808 ≤ a j ∧ a j ≤ 9223372036854775807 := by
  obtain ⟨xs, n, rfl, _, hl, hxl, hf⟩ := DataW.trod_struct Try.underlying45 h
  rw [cells34] at hl
  obtain ⟨v0, v1, v2, rfl⟩ : ∃ v0 v1 v2, cs = [v0, v1, v2] := by
    match cs, hl with
    | [v0, v1, v2], _ => exact ⟨v0, v1, v2, rfl⟩
  have hx : ∀ i, i < 3 → ∃ y, xs[i]? = some y := fun i hi => ⟨xs[i]'(by rw [hxl]; exact hi), List.getElem?_eq_getElem _⟩
  obtain ⟨y0, e0⟩ := hx 0 (by omega)
  obtain ⟨y1, e1⟩ := hx 1 (by omega)
  obtain ⟨y2, e2⟩ := hx 2 (by omega)
  have k0 : DataW.trod enc Try.prog w base spare held n 3 (List.take (Try.prog.cellsOf 3) (List.drop 0 [v0, v1, v2])) = xs[0]? := hf 0 _ rfl
  have k1 : DataW.trod enc Try.prog w base spare held n 3 (List.take (Try.prog.cellsOf 3) (List.drop 1 [v0, v1, v2])) = xs[1]? := hf 1 _ rfl
  have k2 : DataW.trod enc Try.prog w base spare held n 3 (List.take (Try.prog.cellsOf 3) (List.drop 2 [v0, v1, v2])) = xs[2]? := hf 2 _ rfl
  rw [e0, cells3] at k0
  rw [e1, cells3] at k1
  rw [e2, cells3] at k2
  obtain ⟨n0, q0, _, w0⟩ := DataW.trod_int Try.underlying3 k0
  obtain ⟨n1, q1, _, w1⟩ := DataW.trod_int Try.underlying3 k1
  obtain ⟨n2, q2, _, w2⟩ := DataW.trod_int Try.underlying3 k2
  simp at q0 q1 q2
  subst q0 q1 q2
  have r0 := int_fits w0
  have r1 := int_fits w1
  have r2 := int_fits w2
  exact ⟨trip n0 n1 n2, rfl, fun j => by unfold trip; split; exact r0; split; exact r1; exact r2⟩
set_option maxRecDepth 100000 in
/-- Cells that read as such a row. -/
theorem rows_of_trod32 {H : Type} {enc : TypeId × Value → H} {W : World} {spare : Nat → Bool} {held : Bool} {a : Option Addr} {len cap fuel : Nat} {x : DataW H × List MemPlace}
    (hf : DataW.trod enc Try.prog W 0 spare held fuel 32 [.slice a len cap] = some x) : Rows3 W a len cap := by
  rcases Deep.open_slice Try.underlying32 hf with ⟨hcs, hx⟩ | ⟨ad, l, c, m, n, D, Pl, hcs, _, hl, hm, hmm, _, hi⟩
  · simp at hcs
    obtain ⟨rfl, rfl, rfl⟩ := hcs
    exact ⟨[], rfl, ⟨by simp, by omega, Or.inl rfl⟩, fun x hx => by cases hx⟩
  · simp at hcs
    obtain ⟨rfl, rfl, rfl⟩ := hcs
    unfold maxLen at hm
    have hmm' : len ≤ m := by
      rw [hmm]; split <;> omega
    by_cases h0 : len = 0
    · subst h0
      exact ⟨[], rfl, ⟨by simp, by omega, Or.inl rfl⟩, fun x hx => by cases hx⟩
    · obtain ⟨b, off, spot⟩ := ad
      have hall : ∀ i, i < len → ∃ f : Nat → Int, (∀ j, -9223372036854775808 ≤ f j ∧ f j ≤ 9223372036854775807) ∧ ∀ j, j < 3 → W.cell? (((⟨b, off, spot⟩ : Addr).add (i * 3)).add j) = some (.int .i64 (f j)) := by
        intro i hil
        obtain ⟨cs', hc, ht⟩ := hi i (by omega)
        rw [cells34] at hc
        obtain ⟨f, rfl, hfr⟩ := trip_of_trod34 ht
        have g := cells_get hc
        refine ⟨f, hfr, fun j hj => ?_⟩
        rw [g j hj]
        rcases three3 hj with rfl | rfl | rfl <;> rfl
      have hspot : spot = none := by
        obtain ⟨f, -, h1⟩ := hall 0 (by omega)
        simpa [Addr.add] using World.cell?_spot (h1 0 (by omega))
      subst hspot
      obtain ⟨rows, hr1, hr2, hr3⟩ := rows3_of (W := W) (b := b) (o := off) (len := len) (cap := cap) hl (by omega) (fun i hil => by
        obtain ⟨f, hfr, h1⟩ := hall i hil
        refine ⟨f, hfr, fun j hj => ?_⟩
        have := h1 j hj
        rwa [Addr.add_lit, Addr.add_lit] at this) len (Nat.le_refl _)
      exact ⟨rows, hr1, ⟨by omega, by omega, Or.inr ⟨b, off, rfl, hr3⟩⟩, hr2⟩
theorem open_rows32 {H : Type} {enc : TypeId × Value → H} {W : World} {a : Option Addr} {len cap : Nat} {d : DataW H} {p : List MemPlace}
    (h : DataW.Trod enc Try.prog W 0 (fun _ => true) true 32 (.slice a len cap) d p) : Rows3 W a len cap := by
  obtain ⟨fuel, hf⟩ := h
  exact rows_of_trod32 (by simpa [Value.cells] using hf)
theorem cells57 : Try.prog.cellsOf 64 = 3 := by kernel_rfl
set_option maxRecDepth 100000 in
theorem trip_of_trod57 {H : Type} {enc : TypeId × Value → H} {w : World} {base fuel : Nat} {spare : Nat → Bool} {held : Bool} {cs : List Value} {x : DataW H × List MemPlace}
    (h : DataW.trod enc Try.prog w base spare held fuel 64 cs = some x) :
    ∃ a : Nat → Int, cs = [.int .i64 (a 0), .int .i64 (a 1), .int .i64 (a 2)] ∧ ∀ j, -9223372036854775808 ≤ a j ∧ a j ≤ 9223372036854775807 := by
  obtain ⟨xs, n, rfl, _, hl, hxl, hf⟩ := DataW.trod_struct Try.underlying64 h
  rw [cells57] at hl
  obtain ⟨v0, v1, v2, rfl⟩ : ∃ v0 v1 v2, cs = [v0, v1, v2] := by
    match cs, hl with
    | [v0, v1, v2], _ => exact ⟨v0, v1, v2, rfl⟩
  have hx : ∀ i, i < 3 → ∃ y, xs[i]? = some y := fun i hi => ⟨xs[i]'(by rw [hxl]; exact hi), List.getElem?_eq_getElem _⟩
  obtain ⟨y0, e0⟩ := hx 0 (by omega)
  obtain ⟨y1, e1⟩ := hx 1 (by omega)
  obtain ⟨y2, e2⟩ := hx 2 (by omega)
  have k0 : DataW.trod enc Try.prog w base spare held n 3 (List.take (Try.prog.cellsOf 3) (List.drop 0 [v0, v1, v2])) = xs[0]? := hf 0 _ rfl
  have k1 : DataW.trod enc Try.prog w base spare held n 3 (List.take (Try.prog.cellsOf 3) (List.drop 1 [v0, v1, v2])) = xs[1]? := hf 1 _ rfl
  have k2 : DataW.trod enc Try.prog w base spare held n 3 (List.take (Try.prog.cellsOf 3) (List.drop 2 [v0, v1, v2])) = xs[2]? := hf 2 _ rfl
  rw [e0, cells3] at k0
  rw [e1, cells3] at k1
  rw [e2, cells3] at k2
  obtain ⟨n0, q0, _, w0⟩ := DataW.trod_int Try.underlying3 k0
  obtain ⟨n1, q1, _, w1⟩ := DataW.trod_int Try.underlying3 k1
  obtain ⟨n2, q2, _, w2⟩ := DataW.trod_int Try.underlying3 k2
  simp at q0 q1 q2
  subst q0 q1 q2
  have r0 := int_fits w0
  have r1 := int_fits w1
  have r2 := int_fits w2
  exact ⟨trip n0 n1 n2, rfl, fun j => by unfold trip; split; exact r0; split; exact r1; exact r2⟩
set_option maxRecDepth 100000 in
/-- Cells that read as such a row. -/
theorem rows_of_trod55 {H : Type} {enc : TypeId × Value → H} {W : World} {spare : Nat → Bool} {held : Bool} {a : Option Addr} {len cap fuel : Nat} {x : DataW H × List MemPlace}
    (hf : DataW.trod enc Try.prog W 0 spare held fuel 38 [.slice a len cap] = some x) : Rows3 W a len cap := by
  rcases Deep.open_slice Try.underlying38 hf with ⟨hcs, hx⟩ | ⟨ad, l, c, m, n, D, Pl, hcs, _, hl, hm, hmm, _, hi⟩
  · simp at hcs
    obtain ⟨rfl, rfl, rfl⟩ := hcs
    exact ⟨[], rfl, ⟨by simp, by omega, Or.inl rfl⟩, fun x hx => by cases hx⟩
  · simp at hcs
    obtain ⟨rfl, rfl, rfl⟩ := hcs
    unfold maxLen at hm
    have hmm' : len ≤ m := by
      rw [hmm]; split <;> omega
    by_cases h0 : len = 0
    · subst h0
      exact ⟨[], rfl, ⟨by simp, by omega, Or.inl rfl⟩, fun x hx => by cases hx⟩
    · obtain ⟨b, off, spot⟩ := ad
      have hall : ∀ i, i < len → ∃ f : Nat → Int, (∀ j, -9223372036854775808 ≤ f j ∧ f j ≤ 9223372036854775807) ∧ ∀ j, j < 3 → W.cell? (((⟨b, off, spot⟩ : Addr).add (i * 3)).add j) = some (.int .i64 (f j)) := by
        intro i hil
        obtain ⟨cs', hc, ht⟩ := hi i (by omega)
        rw [cells57] at hc
        obtain ⟨f, rfl, hfr⟩ := trip_of_trod57 ht
        have g := cells_get hc
        refine ⟨f, hfr, fun j hj => ?_⟩
        rw [g j hj]
        rcases three3 hj with rfl | rfl | rfl <;> rfl
      have hspot : spot = none := by
        obtain ⟨f, -, h1⟩ := hall 0 (by omega)
        simpa [Addr.add] using World.cell?_spot (h1 0 (by omega))
      subst hspot
      obtain ⟨rows, hr1, hr2, hr3⟩ := rows3_of (W := W) (b := b) (o := off) (len := len) (cap := cap) hl (by omega) (fun i hil => by
        obtain ⟨f, hfr, h1⟩ := hall i hil
        refine ⟨f, hfr, fun j hj => ?_⟩
        have := h1 j hj
        rwa [Addr.add_lit, Addr.add_lit] at this) len (Nat.le_refl _)
      exact ⟨rows, hr1, ⟨by omega, by omega, Or.inr ⟨b, off, rfl, hr3⟩⟩, hr2⟩
theorem open_rows55 {H : Type} {enc : TypeId × Value → H} {W : World} {a : Option Addr} {len cap : Nat} {d : DataW H} {p : List MemPlace}
    (h : DataW.Trod enc Try.prog W 0 (fun _ => true) true 38 (.slice a len cap) d p) : Rows3 W a len cap := by
  obtain ⟨fuel, hf⟩ := h
  exact rows_of_trod55 (by simpa [Value.cells] using hf)
set_option maxRecDepth 100000 in
theorem info30p : (Try.prog.info? 28).map (fun i => (i.zero, i.size, i.bytes)) = some (some (.agg #[.int .i64 0, .int .i64 0, .int .i64 0]), 3, 24) := by kernel_rfl
/-- A list of changes of one's own, in memory made since w0. -/
structure Rp (w0 w : World) (a : Option Addr) (cap : Nat) (m : List Rn) : Prop where
  own : w.ownsRow w0.heap.size 28 3 (.slice a m.length cap) m.length (rcells m)
  keep : Keep (fun _ => False) w0 w
theorem Rp.nil (w : World) : Rp w w none 0 [] := ⟨World.ownsRow_nil _ _ _ _, Keep.refl _ _⟩
theorem Rp.more {w0 w w' : World} {a : Option Addr} {cap : Nat} {m : List Rn} (h : Rp w0 w a cap m) (k : Keep (fun _ => False) w w') : Rp w0 w' a cap m := by
  refine ⟨⟨h.own.1, h.own.2.imp id ?_⟩, h.keep.trans k⟩
  rintro ⟨g, c, cur, e, hb, hh, h1, h2, h3, h4⟩
  exact ⟨g, c, cur, e, hb, by rw [k.block g (by by_cases hg : g < w.heap.size; exact hg; simp [Array.getElem?_eq_none (Nat.le_of_not_lt hg)] at hh) (fun e => e)]; exact hh, h1, h2, h3, h4⟩
theorem Rp.other {S : Nat → Prop} {w0 w w' : World} {a : Option Addr} {cap : Nat} {m : List Rn} (h : Rp w0 w a cap m) (k : Keep S w w') (hs : ∀ g, a = some ⟨g, 0, none⟩ → ¬ S g) (h0 : ∀ x, S x → w0.heap.size ≤ x) : Rp w0 w' a cap m := by
  refine ⟨⟨h.own.1, h.own.2.imp id ?_⟩, h.keep.next k (fun x hx e => by have := h0 x e; omega)⟩
  rintro ⟨g, c, cur, e, hb, hh, h1, h2, h3, h4⟩
  injection e with e1 e2 e3
  exact ⟨g, c, cur, by rw [e1, e3], hb, by rw [k.block g (by by_cases hg : g < w.heap.size; exact hg; simp [Array.getElem?_eq_none (Nat.le_of_not_lt hg)] at hh) (hs g e1)]; exact hh, h1, h2, h3, h4⟩
set_option maxRecDepth 100000 in
theorem Rp.block {w0 w : World} {a : Option Addr} {cap : Nat} {m : List Rn} (h : Rp w0 w a cap m) {g : Nat} (e : a = some ⟨g, 0, none⟩) : w0.heap.size ≤ g ∧ g < w.heap.size := by
  have := h.own.lt g (by rw [e]; rfl)
  exact this
set_option maxRecDepth 100000 in
theorem Rp.rs {w0 w : World} {a : Option Addr} {cap : Nat} {m : List Rn} (h : Rp w0 w a cap m) : Rs w a cap m := by
  obtain ⟨h1, h2⟩ := h.own
  rcases h2 with ⟨e, hn⟩ | ⟨g, c, cur, e, hb, hh, hn, hm, hs, ht⟩
  · injection e with e1 e2 e3
    exact ⟨by omega, by omega, Or.inl (List.eq_nil_of_length_eq_zero hn)⟩
  · injection e with e1 e2 e3
    subst e1 e3
    unfold maxLen at hm
    refine ⟨hn, by omega, Or.inr ⟨g, rfl, fun j u hu => ?_⟩⟩
    have := h.own.cells (g := g) rfl j u hu
    rwa [Addr.add_lit, Nat.zero_add] at this
set_option maxRecDepth 100000 in
theorem Rp.appN {w0 w : World} {a : Option Addr} {cap : Nat} {m : List Rn} (h : Rp w0 w a cap m) (x : Addr) (c : Nat) (ns : List Rn) (hl : m.length + ns.length ≤ 1000000) (hnews : ∀ j u, (rcells ns)[j]? = some u → w.cell? (x.add j) = some u) :
    ∃ a' cap' w', (Builtin.append_ #[29, 29] 29 #[.slice a m.length cap, .slice (some x) ns.length c]).run Try.prog w = .ok (.slice a' (m.length + ns.length) cap') w' ∧ Rp w0 w' a' cap' (m ++ ns) ∧ Keep (fun b => w0.heap.size ≤ b) w w' := by
  obtain ⟨i, hi, hz0, hz1, hz2⟩ := info_parts info30p
  have hs := h.keep.size
  obtain ⟨v', w', hrun, hown, hgrow, hnil⟩ := run_append_own (P := Try.prog) w w0.heap.size 29 29 28 i _ 3 24 Try.underlying29 hi hz0 hz1 hz2 rfl (by decide) (.slice a m.length cap) m.length (rcells m) h.own
    x ns.length c (rcells ns) (rcells_len ns) hnews (by intro u hu; obtain ⟨y, _, hy⟩ := List.mem_flatMap.1 hu; simp [rcs] at hy; rcases hy with rfl | rfl | rfl <;> rfl) (by unfold maxLen; omega) (by omega) hs
  have hk : Keep (fun b => w0.heap.size ≤ b) w w' := (keep_grown hgrow).mono (fun b _ e => (h.own.lt b e.symm).1)
  have hK : Keep (fun _ => False) w0 w' := h.keep.next hk (fun y hy e => by omega)
  rw [← rcells_app, ← List.length_append] at hown
  have hshape : ∃ a' cap', v' = .slice a' (m ++ ns).length cap' := by
    rcases hown.2 with ⟨e, hn⟩ | ⟨g, c', cur, e, -⟩
    · exact ⟨none, 0, by rw [hn]; exact e⟩
    · exact ⟨_, _, e⟩
  obtain ⟨a', cap', rfl⟩ := hshape
  exact ⟨a', cap', w', by rw [hrun, List.length_append], ⟨hown, hK⟩, hk⟩
theorem Rp.app1 {w0 w : World} {a : Option Addr} {cap : Nat} {m : List Rn} (h : Rp w0 w a cap m) (hl : m.length ≤ 100000) (x : Rn) :
    ∃ a' cap' w', (Builtin.append_ #[29, 29] 29 #[.slice a m.length cap, .slice (some ⟨w.heap.size, 0, none⟩) 1 1]).run Try.prog (w.alloc (.cells #[.int .i64 x.lba, .int .i64 x.len, .int .i64 x.phys] 28)) = .ok (.slice a' (m.length + 1) cap') w' ∧ Rp w0 w' a' cap' (m ++ [x]) := by
  obtain ⟨a', cap', w', h1, h2, -⟩ := (h.more ((Keep.refl (fun _ => False) w).alloc (.cells #[.int .i64 x.lba, .int .i64 x.len, .int .i64 x.phys] 28))).appN ⟨w.heap.size, 0, none⟩ 1 [x] (by simp; omega) (fun j u hu => cells_new w _ 28 j u (by simpa [rcells, rcs] using hu))
  exact ⟨a', cap', w', h1, h2⟩
theorem rp_made (w : World) : Rp w (w.alloc (.cells #[] 28)) (some ⟨w.heap.size, 0, none⟩) 0 [] :=
  ⟨World.ownsRow_lit (e := 28) (size := 3) (base := w.heap.size) w #[] 0 (Nat.le_refl _) (by unfold maxLen; omega) rfl, (Keep.refl _ _).alloc _⟩
set_option maxRecDepth 100000 in
theorem run_app_none (a : Addr) (c : Nat) (w : World) : (Builtin.append_ #[29, 29] 29 #[.slice (some a) 0 0, .slice none 0 c]).run Try.prog w = .ok (.slice (some a) 0 0) w := by kernel_rfl
theorem step_append_run {P : Program} {ops : Array Oper} {o : Oper} {a : Act} {w : World} {K : Act → World → Prop} {Q : Exit → Act → World → Prop} {E : Prop}
    (hw : Region.wanted o (yielded ops a.tmps) = true) (s x : Operand) (t : TypeId) (hop : o.op = Op.call { callee := Callee.builtin Builtin.append, args := #[s, x], argTypes := #[t, t] })
    {v1 v2 v' : Value} {w' : World} (hs : a.eval s = v1) (hx : a.eval x = v2) (hrun : (Builtin.append_ #[t, t] o.type #[v1, v2]).run P w = .ok v' w')
    (hK : K (a.put o.dst v') w') : if Region.wanted o (yielded ops a.tmps) = true then Oper.wp P o a w K Q else E := by
  rw [if_pos hw]
  unfold Oper.wp
  simp [execOp, hop, resolve, invoke, builtin, hs, hx, hrun, Result.andThen]
  exact hK
/-- Does a run begin above 2^20? -/
def farL (m : List Rn) : Bool := m.any (fun x => decide (1048576 < x.phys))
theorem farL_snoc (m : List Rn) (x : Rn) : farL (m ++ [x]) = (farL m || decide (1048576 < x.phys)) := by simp [farL]
theorem farL_no {m : List Rn} (h : farL m = false) : ∀ x ∈ m, x.phys ≤ 1048576 := fun x hx => by
  unfold farL at h
  rw [List.any_eq_false] at h
  have := h x hx
  simp at this
  exact this
theorem foldR_in {l : List Rn} {x : Rn} (hx : x ∈ foldR l) : inB x = true := by
  have hok := (foldR_form l).1 x hx
  have hfin := foldR_fin hx
  have hp := (foldR_form l).page_of hx (s := x.lba) (by omega) (by unfold Rn.fin; unfold Rn.Ok at hok; omega)
  rw [(foldR_of l).2] at hp
  have he := foldT_ent l blank_len blank_ent x.lba.toNat
  unfold Rn.Ok at hok
  unfold Rn.fin at hfin
  rw [inB_iff]
  unfold entry at hp
  split at hp
  · injection hp with hp
    omega
  · cases hp
theorem foldR_formP (l : List Rn) : formP none (foldR l) = true := form_true (foldR_form l) (fun x hx => foldR_in hx) (fun a e => by cases e)
theorem foldR_len (l : List Rn) : (foldR l).length ≤ 512 := refR_len _ 512
theorem foldR_fits (l : List Rn) : Fits (foldR l) := fun x hx => by
  have h := inB_iff.1 (foldR_in hx)
  omega
theorem foldR_self {l : List Rn} (h : farL (foldR l) = false) : foldR (foldR l) = foldR l := fold_self (foldR_form l) (fun x hx => ⟨foldR_fin hx, farL_no h x hx⟩)
theorem sameL_refl (m : List Rn) : sameL m m = true := sameL_iff.2 rfl
/-- A row that the call has just made. -/
theorem rs_new (w : World) (A : Array Value) (ty : TypeId) (l : List Rn) (hA : A.toList = rcells l) (hl : l.length ≤ 100000) : Rs (w.alloc (.cells A ty)) (some ⟨w.heap.size, 0, none⟩) l.length l := by
  refine ⟨Nat.le_refl _, by omega, Or.inr ⟨_, rfl, fun j u hu => ?_⟩⟩
  rw [← hA] at hu
  obtain ⟨hj, e⟩ := List.getElem?_eq_some_iff.1 hu
  exact (blk_alloc w A ty (j + 1) (fun i => A[i]?.getD undef) (fun i hi => by
    have : i < A.size := by simp at hj; omega
    simp [this]) j (by omega)).1.trans (by
    have : j < A.size := by simpa using hj
    simp at e
    simp [this, e])
/-- A row's cells, from its first on. -/
theorem Rz.hcells {w : World} {ad : Addr} {cap : Nat} {l : List Rn} (h : Rz w (some ad) cap l) : ∀ j u, (rcells l)[j]? = some u → w.cell? (ad.add j) = some u := fun j u hu => by
  have hj := (List.getElem?_eq_some_iff.1 hu).1
  rw [rcells_len] at hj
  obtain ⟨x, hx⟩ := get_rn (m := l) (i := j / 3) (by omega)
  obtain ⟨g', o', e, c0, c1, c2⟩ := h.at hx
  injection e with e
  subst e
  have hr := rcells_at hx (j % 3) (by omega)
  rw [show j / 3 * 3 + j % 3 = j by omega, hu] at hr
  rw [Addr.add_lit]
  have h3 : j % 3 = 0 ∨ j % 3 = 1 ∨ j % 3 = 2 := by omega
  rcases h3 with h3 | h3 | h3
  · rw [h3] at hr; rw [show o' + j = o' + j / 3 * 3 by omega, hr]; exact c0
  · rw [h3] at hr; rw [show o' + j = o' + j / 3 * 3 + 1 by omega, hr]; exact c1
  · rw [h3] at hr; rw [show o' + j = o' + j / 3 * 3 + 2 by omega, hr]; exact c2
/-- A row copied. -/
theorem copy_ops {w : World} {a : Option Addr} {c : Nat} {x : List Rn} (h : Rz w a c x) (hx : x.length ≤ 12) : ∃ a1 c1 w1, (Builtin.append_ #[29, 29] 29 #[.slice (some ⟨w.heap.size, 0, none⟩) 0 0, .slice a x.length c]).run Try.prog (w.alloc (.cells #[] 28)) = .ok (.slice a1 x.length c1) w1 ∧ Rp w w1 a1 c1 x := by
  cases a with
  | none =>
    have : x = [] := by
      rcases h.2.2 with e | ⟨g, o, e, -⟩
      · exact e
      · cases e
    subst this
    exact ⟨_, _, _, run_app_none _ _ _, rp_made w⟩
  | some ad =>
    obtain ⟨a1, c1, w1, h1, h2, -⟩ := (rp_made w).appN ad c x (by simp; omega) (h.more ((Keep.refl _ _).alloc _)).hcells
    rw [List.length_nil, Nat.zero_add] at h1
    exact ⟨a1, c1, w1, h1, h2⟩
end Tg
end Go.Proofs.Ytlekapfhbceibaa
