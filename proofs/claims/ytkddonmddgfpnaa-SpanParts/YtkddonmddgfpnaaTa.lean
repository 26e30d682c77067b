/-
  Blocks of memory: what they hold, what a store leaves, what is kept. An arena as mathematics (its nodes' cells, its free list), how it lies in memory, and what each store makes of it. A node's six cells and a place's eight: written, read, held against each other. Balanced ordered trees as mathematics: rotations, insertion, deletion; what each leaves in order, and that the rule holds. A tree that hangs in an arena: its nodes are live, their fields are the tree's; what a call on the arena leaves of it. What the program's calls on an arena answer and do: walked over any memory in which an arena lies. What Give, Put and Get answer and do: walked over any memory in which an arena lies. What New and Free answer and lay: walked over any memory.
-/
import Derived.Test.YtkddonmddgfpnaaRows
import Derived.WalkKit
import Derived.ProofKit
import Derived.OpenShut
import Derived.ShutString
import Derived.ChangeOld
import Derived.Below
import Derived.Deep.OwnRows
import Derived.Laws.IdiomCopy
import Derived.Lib.SlBytesConst
import Derived.Lib.ConvBytes
import Derived.Laws.BytesArg
import Derived.SizedLaws
import Derived.ArgAppend
import Derived.BigQuiet
import Derived.BigRegion
import Derived.Deep.MidRow
import Derived.ChangeKeysEq
import Derived.Laws.ResultCell
namespace Go.Proofs.Ytkddonmddgfpnaa
open Go.ChangeShapes Go.WideShapes Go.ChangeAt Go.RowKit
namespace Tg

/-- Block b's first n cells, none frozen. -/
def Blk (w : World) (b n : Nat) (f : Nat → Value) : Prop := ∀ i, i < n → w.cell? ⟨b, i, none⟩ = some (f i) ∧ w.frozen? ⟨b, i, none⟩ = false

theorem Blk.lt {w : World} {b n : Nat} {f : Nat → Value} (h : Blk w b n f) (hn : 0 < n) : b < w.heap.size := World.block_lt_of_cell? w _ (h 0 hn).1

theorem Blk.congr {w : World} {b n : Nat} {f g : Nat → Value} (h : Blk w b n f) (e : ∀ i, i < n → f i = g i) : Blk w b n g := fun i hi => by rw [← e i hi]; exact h i hi

theorem Blk.of_block {w w' : World} {b n : Nat} {f : Nat → Value} (h : Blk w b n f) (e : w'.heap[b]? = w.heap[b]?) : Blk w' b n f := fun i hi =>
  ⟨by rw [World.cell?_of_block (w := w) (a := ⟨b, i, none⟩) e]; exact (h i hi).1, by rw [World.frozen?_of_block (w := w) (a := ⟨b, i, none⟩) e]; exact (h i hi).2⟩

theorem Blk.set {w : World} {b n : Nat} {f : Nat → Value} (h : Blk w b n f) (j : Nat) (v : Value) : Blk (w.setCell ⟨b, j, none⟩ v) b n (fun i => if i = j then v else f i) := by
  intro i hi
  refine ⟨?_, by rw [World.frozen?_setCell]; exact (h i hi).2⟩
  by_cases e : i = j
  · subst e; simp only [if_true]; exact World.cell?_setCell_same w _ _ (h i hi).1
  · simp only [if_neg e]; rw [World.cell?_setCell_other (h := fun x => e (congrArg Addr.off x).symm)]; exact (h i hi).1

theorem Blk.other {w : World} {b n : Nat} {f : Nat → Value} (h : Blk w b n f) {a : Addr} (ha : b ≠ a.block) (v : Value) : Blk (w.setCell a v) b n f := h.of_block (Below.heap_setCell _ _ _ _ ha)

theorem Blk.alloc {w : World} {b n : Nat} {f : Nat → Value} (h : Blk w b n f) (o : Obj) : Blk (w.alloc o) b n f := by
  intro i hi
  have hl := h.lt (by omega)
  exact h.of_block (Below.heap_alloc w o b hl) i hi

theorem Blk.drew {w : World} {b n : Nat} {f : Nat → Value} (h : Blk w b n f) : Blk w.drew b n f := h

theorem Blk.setCells {w : World} {b n : Nat} {f : Nat → Value} (h : Blk w b n f) (o m : Nat) (g : Nat → Value) (hm : o + m ≤ n) :
    Blk (w.setCells b o ((List.range m).map g)) b n (fun i => if o ≤ i ∧ i < o + m then g (i - o) else f i) := by
  intro i hi
  refine ⟨?_, by rw [World.frozen?_setCells]; exact (h i hi).2⟩
  by_cases e : o ≤ i ∧ i < o + m
  · simp only [if_pos e]
    have := World.cell?_setCells_in b ((List.range m).map g) o w (fun j hj => by rw [(h (o + j) (by simp at hj; omega)).1]; rfl) (i - o) (by simp; omega)
    rw [show o + (i - o) = i by omega] at this
    rw [this]
    simp
  · simp only [if_neg e]
    rw [World.cell?_setCells_out b _ o w ⟨b, i, none⟩ (fun _ _ => by simp; omega)]
    exact (h i hi).1

theorem heap_setCells (b : Nat) : ∀ (vs : List Value) (o : Nat) (w : World) (k : Nat), k ≠ b → (w.setCells b o vs).heap[k]? = w.heap[k]?
  | [], _, _, _, _ => rfl
  | v :: r, o, w, k, h => by rw [World.setCells, heap_setCells b r (o + 1) _ k h, Below.heap_setCell _ _ _ _ h]

theorem setCells_same (b : Nat) : ∀ (vs : List Value) (o : Nat) (w : World), (w.setCells b o vs).os = w.os ∧ (w.setCells b o vs).tape = w.tape ∧ (w.setCells b o vs).output = w.output ∧ (w.setCells b o vs).heap.size = w.heap.size
  | [], _, _ => ⟨rfl, rfl, rfl, rfl⟩
  | v :: r, o, w => by
    have := setCells_same b r (o + 1) (w.setCell ⟨b, o, none⟩ v)
    rw [World.setCells]
    refine ⟨this.1, this.2.1, this.2.2.1, ?_⟩
    rw [this.2.2.2]; simp [World.setCell]

theorem Blk.otherCells {w : World} {b n : Nat} {f : Nat → Value} (h : Blk w b n f) {x : Nat} (hx : b ≠ x) (o : Nat) (vs : List Value) : Blk (w.setCells x o vs) b n f := h.of_block (heap_setCells x vs o w b hx)

/-- All blocks but those of S are as they were. -/
structure Keep (S : Nat → Prop) (w w' : World) : Prop where
  os : w'.os = w.os
  tape : w'.tape = w.tape
  output : w'.output = w.output
  size : w.heap.size ≤ w'.heap.size
  block : ∀ k, k < w.heap.size → ¬ S k → w'.heap[k]? = w.heap[k]?

theorem Keep.refl (S : Nat → Prop) (w : World) : Keep S w w := ⟨rfl, rfl, rfl, Nat.le_refl _, fun _ _ _ => rfl⟩
theorem Keep.trans {S : Nat → Prop} {a b c : World} (h : Keep S a b) (k : Keep S b c) : Keep S a c :=
  ⟨k.os.trans h.os, k.tape.trans h.tape, k.output.trans h.output, Nat.le_trans h.size k.size, fun i hi hs => (k.block i (Nat.lt_of_lt_of_le hi h.size) hs).trans (h.block i hi hs)⟩
theorem Keep.mono {S T : Nat → Prop} {a b : World} (h : Keep S a b) (e : ∀ k, k < a.heap.size → S k → T k) : Keep T a b :=
  ⟨h.os, h.tape, h.output, h.size, fun i hi hs => h.block i hi (fun x => hs (e i hi x))⟩
theorem Keep.drew {S : Nat → Prop} {a w : World} (h : Keep S a w) : Keep S a w.drew := ⟨h.os, h.tape, h.output, h.size, h.block⟩
theorem Keep.alloc {S : Nat → Prop} {a w : World} (h : Keep S a w) (o : Obj) : Keep S a (w.alloc o) :=
  h.trans ⟨rfl, rfl, rfl, by simp, fun k hk _ => Below.heap_alloc _ _ _ hk⟩
theorem Keep.setCell {S : Nat → Prop} {a w : World} (h : Keep S a w) {p : Addr} (hp : S p.block ∨ a.heap.size ≤ p.block) (u : Value) : Keep S a (w.setCell p u) :=
  ⟨h.os, h.tape, h.output, by simp [World.setCell]; exact h.size, fun k hk hs => by
    rw [Below.heap_setCell _ _ _ _ (fun e => by rcases hp with hp | hp; exact hs (e ▸ hp); omega)]; exact h.block k hk hs⟩
theorem Keep.setCells {S : Nat → Prop} {a w : World} (h : Keep S a w) {b : Nat} (hp : S b ∨ a.heap.size ≤ b) (o : Nat) (vs : List Value) : Keep S a (w.setCells b o vs) := by
  obtain ⟨h1, h2, h3, h4⟩ := setCells_same b vs o w
  exact ⟨h1.trans h.os, h2.trans h.tape, h3.trans h.output, by rw [h4]; exact h.size, fun k hk hs => by
    rw [heap_setCells b vs o w k (fun e => by rcases hp with hp | hp; exact hs (e ▸ hp); omega)]; exact h.block k hk hs⟩
theorem Keep.below {S : Nat → Prop} {w w' : World} (h : Keep S w w') {B : Nat} (hB : B ≤ w.heap.size) (hS : ∀ k, S k → B ≤ k) : Below B w w' :=
  ⟨h.os, h.tape, h.output, h.size, fun k hk => h.block k (by omega) (fun e => by have := hS k e; omega)⟩
theorem Keep.of_below {S : Nat → Prop} {w w' : World} (h : Below w.heap.size w w') : Keep S w w' := ⟨h.os, h.tape, h.output, h.size, fun k hk _ => h.block k hk⟩
theorem Blk.keep {S : Nat → Prop} {w w' : World} {b n : Nat} {f : Nat → Value} (h : Blk w b n f) (k : Keep S w w') (hs : ¬ S b) : Blk w' b n f := fun i hi =>
  h.of_block (k.block b (h.lt (by omega)) hs) i hi

theorem Keep.of_grown {S : Nat → Prop} {w w' : World} (hg : w.grownBy w' none) : Keep S w w' := ⟨hg.os, hg.tape, hg.output, hg.size, fun k hk _ => hg.block k hk (by simp)⟩

theorem Keep.next {S T : Nat → Prop} {a b c : World} (h : Keep S a b) (k : Keep T b c) (e : ∀ x, x < a.heap.size → T x → S x) : Keep S a c :=
  ⟨k.os.trans h.os, k.tape.trans h.tape, k.output.trans h.output, Nat.le_trans h.size k.size, fun i hi hs => (k.block i (Nat.lt_of_lt_of_le hi h.size) (fun t => hs (e i hi t))).trans (h.block i hi hs)⟩

theorem blk_alloc (w : World) (A : Array Value) (t : TypeId) (n : Nat) (f : Nat → Value) (h : ∀ i, i < n → A[i]? = some (f i)) : Blk (w.alloc (.cells A t)) w.heap.size n f := by
  intro i hi
  refine ⟨?_, ?_⟩
  · rw [World.cell?_alloc_mark]; exact h i hi
  · exact World.frozen?_alloc_new w A t i

theorem ret_bool {a b : Bool} (h : a = b) : Ending.returned (.bool a) = .returned (.bool b) := by rw [h]
theorem ret_i64 {a b : Int} (h : a = b) : Ending.returned (.int .i64 a) = .returned (.int .i64 b) := by rw [h]

/-- A fact that the walk does not look into. -/
def Hid (p : Prop) : Prop := p

/-- The walk's step at an append whose run is known. -/
theorem wpList_append_run {P : Program} {w : World} {ops : Array Oper} {rest : List Oper} {o : Oper} {a : Act} {Q : Exit → Act → World → Prop}
    (hw : Region.wanted o (yielded ops a.tmps) = true) (s x : Operand) (t : TypeId) (hop : o.op = Op.call { callee := Callee.builtin Builtin.append, args := #[s, x], argTypes := #[t, t] })
    {v1 v2 v' : Value} {w' : World} (hs : a.eval s = v1) (hx : a.eval x = v2) (hrun : (Builtin.append_ #[t, t] o.type #[v1, v2]).run P w = .ok v' w')
    (hK : wpList P ops Q rest (a.put o.dst v') w') : wpList P ops Q (o :: rest) a w := by
  refine BigFrame.wpList_want hw fun K hK' => ?_
  unfold Oper.wp
  simp [execOp, hop, resolve, invoke, builtin, hs, hx, hrun, Result.andThen]
  exact hK' _ _ hK


end Tg
end Go.Proofs.Ytkddonmddgfpnaa
namespace Go.Proofs.Ytkddonmddgfpnaa
open Go.ChangeShapes Go.WideShapes Go.ChangeAt Go.RowKit
namespace Tg

/-- An arena: nodes are numbered from 1 on. -/
structure Ar where
  N : Nat
  first : Nat
  count : Nat
  fld : Nat → Nat → Int
  live : Nat → Bool
  next : Nat → Nat

/-- The list that hangs on a link. -/
def Lnk (next : Nat → Nat) : Nat → List Nat → Prop
  | f, [] => f = 0
  | f, x :: r => f = x ∧ Lnk next (next x) r

theorem Lnk.congr {n m : Nat → Nat} : ∀ {l : List Nat} {f : Nat}, Lnk n f l → (∀ x ∈ l, n x = m x) → Lnk m f l
  | [], _, h, _ => h
  | x :: r, f, h, e => ⟨h.1, by rw [← e x (by simp)]; exact h.2.congr (fun y hy => e y (by simp [hy]))⟩

/-- The free list is l; all else is live. -/
structure Ar.Ok (s : Ar) (l : List Nat) : Prop where
  small : s.N ≤ 512
  one : 1 ≤ s.N
  nodup : l.Nodup
  range : ∀ x ∈ l, 1 ≤ x ∧ x ≤ s.N
  live : ∀ x, 1 ≤ x → x ≤ s.N → (s.live x = true ↔ x ∉ l)
  lnk : Lnk s.next s.first l
  count : s.count + l.length = s.N
  nx : ∀ x, s.next x ≤ 512

/-- A node's field as a value. -/
def nval (j : Nat) (v : Int) : Value := if j < 2 then .int .u32 v else .int .i64 v

/-- The cells of the nodes' places. -/
def Ar.cell (s : Ar) (i : Nat) : Value :=
  if i % 8 < 6 then nval (i % 8) (s.fld (i / 8 + 1) (i % 8)) else if i % 8 = 6 then .bool (s.live (i / 8 + 1)) else .int .u32 (s.next (i / 8 + 1))

def Ar.top (k : Nat) (s : Ar) : Nat → Value
  | 0 => .slice (some ⟨k, 0, none⟩) s.N s.N
  | 1 => .int .u32 s.first
  | _ => .int .i64 s.count

/-- The arena lies in blocks p (the struct) and k (the nodes' places). -/
structure Mem (w : World) (p k : Nat) (s : Ar) : Prop where
  top : Blk w p 3 (s.top k)
  blk : Blk w k (s.N * 8) s.cell
  ne : p ≠ k

/-- The blocks of an arena. -/
def Own (p k : Nat) : Nat → Prop := fun b => b = p ∨ b = k

theorem Mem.drew {w : World} {p k : Nat} {s : Ar} (h : Mem w p k s) : Mem w.drew p k s := ⟨h.top, h.blk, h.ne⟩
theorem Mem.alloc {w : World} {p k : Nat} {s : Ar} (h : Mem w p k s) (o : Obj) : Mem (w.alloc o) p k s := ⟨h.top.alloc o, h.blk.alloc o, h.ne⟩
theorem Mem.keep {S : Nat → Prop} {w w' : World} {p k : Nat} {s : Ar} (h : Mem w p k s) (e : Keep S w w') (hp : ¬ S p) (hk : ¬ S k) : Mem w' p k s := ⟨h.top.keep e hp, h.blk.keep e hk, h.ne⟩
theorem Mem.congr {w : World} {p k : Nat} {s t : Ar} (h : Mem w p k s) (e : s = t) : Mem w p k t := e ▸ h
theorem Mem.tops {w : World} {p k : Nat} {s : Ar} (h : Mem w p k s) :
    w.cell? ⟨p, 0, none⟩ = some (.slice (some ⟨k, 0, none⟩) s.N s.N) ∧ w.cell? ⟨p, 1, none⟩ = some (.int .u32 s.first) ∧ w.cell? ⟨p, 2, none⟩ = some (.int .i64 s.count) ∧
    w.frozen? ⟨p, 1, none⟩ = false ∧ w.frozen? ⟨p, 2, none⟩ = false :=
  ⟨(h.top 0 (by omega)).1, (h.top 1 (by omega)).1, (h.top 2 (by omega)).1, (h.top 1 (by omega)).2, (h.top 2 (by omega)).2⟩

theorem Ar.cell_fld (s : Ar) (q j : Nat) (hj : j < 6) : s.cell (q * 8 + j) = nval j (s.fld (q + 1) j) := by
  unfold Ar.cell; rw [show (q * 8 + j) % 8 = j by omega, show (q * 8 + j) / 8 = q by omega, if_pos hj]
theorem Ar.cell_live (s : Ar) (q : Nat) : s.cell (q * 8 + 6) = .bool (s.live (q + 1)) := by
  unfold Ar.cell; rw [show (q * 8 + 6) % 8 = 6 by omega, show (q * 8 + 6) / 8 = q by omega]; rfl
theorem Ar.cell_next (s : Ar) (q : Nat) : s.cell (q * 8 + 7) = .int .u32 (s.next (q + 1)) := by
  unfold Ar.cell; rw [show (q * 8 + 7) % 8 = 7 by omega, show (q * 8 + 7) / 8 = q by omega]; rfl

/-- What the walk wants of a node's place. -/
theorem Mem.at {w : World} {p k : Nat} {s : Ar} (h : Mem w p k s) {q : Nat} (hq : q < s.N) :
    w.cell? ⟨k, q * 8 + 6, none⟩ = some (.bool (s.live (q + 1))) ∧ w.cell? ⟨k, q * 8 + 7, none⟩ = some (.int .u32 (s.next (q + 1))) ∧ w.frozen? ⟨k, q * 8 + 7, none⟩ = false := by
  have h6 := h.blk (q * 8 + 6) (by omega)
  have h7 := h.blk (q * 8 + 7) (by omega)
  rw [s.cell_live] at h6
  rw [s.cell_next] at h7
  exact ⟨h6.1, h7.1, h7.2⟩

/-- A place as 'Take' and 'Give' leave it. -/
def Ar.wipe (s : Ar) (x : Nat) (v : Bool) (n : Nat) : Ar := { s with fld := fun y j => if y = x then 0 else s.fld y j, live := fun y => if y = x then v else s.live y, next := fun y => if y = x then n else s.next y }
def Ar.set (s : Ar) (x : Nat) (n : Nat → Int) : Ar := { s with fld := fun y j => if y = x then n j else s.fld y j }

theorem eighth {i q : Nat} (h : i / 8 + 1 = q + 1) : i = q * 8 ∨ i = q * 8 + 1 ∨ i = q * 8 + 2 ∨ i = q * 8 + 3 ∨ i = q * 8 + 4 ∨ i = q * 8 + 5 ∨ i = q * 8 + 6 ∨ i = q * 8 + 7 := by omega

def wiped (v : Bool) (n : Nat) (j : Nat) : Value := if j < 2 then .int .u32 0 else if j < 6 then .int .i64 0 else if j = 6 then .bool v else .int .u32 n
theorem wiped_list (v : Bool) (n : Nat) : (List.range 8).map (wiped v n) = [.int .u32 0, .int .u32 0, .int .i64 0, .int .i64 0, .int .i64 0, .int .i64 0, .bool v, .int .u32 n] := rfl
theorem Ar.cell_wipe (s : Ar) (q : Nat) (v : Bool) (n : Nat) (i : Nat) : (if q * 8 ≤ i ∧ i < q * 8 + 8 then wiped v n (i - q * 8) else s.cell i) = (s.wipe (q + 1) v n).cell i := by
  by_cases h : q * 8 ≤ i ∧ i < q * 8 + 8
  · rw [if_pos h]
    unfold Ar.cell Ar.wipe wiped nval
    rw [show i % 8 = i - q * 8 by omega, show i / 8 + 1 = q + 1 by omega]
    simp only [if_true]
    by_cases h2 : i - q * 8 < 2
    · rw [if_pos h2, if_pos (by omega), if_pos h2]
    · rw [if_neg h2]
      by_cases h6 : i - q * 8 < 6
      · rw [if_pos h6, if_pos h6, if_neg h2]
      · rw [if_neg h6, if_neg h6]
  · rw [if_neg h]
    unfold Ar.cell Ar.wipe
    simp only [if_neg (show ¬ i / 8 + 1 = q + 1 by omega)]

theorem Ar.cell_set (s : Ar) (q : Nat) (n : Nat → Int) (i : Nat) : (if q * 8 ≤ i ∧ i < q * 8 + 6 then nval (i - q * 8) (n (i - q * 8)) else s.cell i) = (s.set (q + 1) n).cell i := by
  by_cases h : q * 8 ≤ i ∧ i < q * 8 + 6
  · rw [if_pos h]
    unfold Ar.cell Ar.set
    rw [show i % 8 = i - q * 8 by omega, show i / 8 + 1 = q + 1 by omega]
    simp only [if_true]
    rw [if_pos (by omega)]
  · rw [if_neg h]
    unfold Ar.cell Ar.set
    by_cases h6 : i % 8 < 6
    · simp only [if_pos h6, if_neg (show ¬ i / 8 + 1 = q + 1 by omega)]
    · simp only [if_neg h6]

theorem Mem.wipe {w : World} {p k : Nat} {s : Ar} (h : Mem w p k s) {q : Nat} (hq : q < s.N) (v : Bool) (n : Nat) :
    Mem (w.setCells k (q * 8) [.int .u32 0, .int .u32 0, .int .i64 0, .int .i64 0, .int .i64 0, .int .i64 0, .bool v, .int .u32 n]) p k (s.wipe (q + 1) v n) := by
  rw [← wiped_list]
  exact ⟨h.top.otherCells h.ne _ _, (h.blk.setCells (q * 8) 8 _ (by omega)).congr (fun i _ => s.cell_wipe q v n i), h.ne⟩
theorem nvals (n : Nat → Int) : (List.range 6).map (fun j => nval j (n j)) = [.int .u32 (n 0), .int .u32 (n 1), .int .i64 (n 2), .int .i64 (n 3), .int .i64 (n 4), .int .i64 (n 5)] := rfl
theorem Mem.set {w : World} {p k : Nat} {s : Ar} (h : Mem w p k s) {q : Nat} (hq : q < s.N) (n : Nat → Int) :
    Mem (w.setCells k (q * 8) [.int .u32 (n 0), .int .u32 (n 1), .int .i64 (n 2), .int .i64 (n 3), .int .i64 (n 4), .int .i64 (n 5)]) p k (s.set (q + 1) n) := by
  rw [← nvals]
  exact ⟨h.top.otherCells h.ne _ _, (h.blk.setCells (q * 8) 6 _ (by omega)).congr (fun i _ => s.cell_set q n i), h.ne⟩
theorem three {i : Nat} (h : i < 3) : i = 0 ∨ i = 1 ∨ i = 2 := by omega
theorem Mem.setFirst {w : World} {p k : Nat} {s : Ar} (h : Mem w p k s) (v : Nat) : Mem (w.setCell ⟨p, 1, none⟩ (.int .u32 v)) p k { s with first := v } :=
  ⟨(h.top.set 1 _).congr (fun i hi => by rcases three hi with rfl | rfl | rfl <;> simp [Ar.top]), h.blk.other (a := ⟨p, 1, none⟩) (Ne.symm h.ne) _, h.ne⟩
theorem Mem.setCount {w : World} {p k : Nat} {s : Ar} (h : Mem w p k s) (v : Nat) : Mem (w.setCell ⟨p, 2, none⟩ (.int .i64 v)) p k { s with count := v } :=
  ⟨(h.top.set 2 _).congr (fun i hi => by rcases three hi with rfl | rfl | rfl <;> simp [Ar.top]), h.blk.other (a := ⟨p, 2, none⟩) (Ne.symm h.ne) _, h.ne⟩

theorem Keep.p {p k : Nat} {a w : World} (h : Keep (Own p k) a w) (j : Nat) (v : Value) : Keep (Own p k) a (w.setCell ⟨p, j, none⟩ v) := h.setCell (Or.inl (Or.inl rfl)) v
theorem Keep.k {p k : Nat} {a w : World} (h : Keep (Own p k) a w) (j : Nat) (v : Value) : Keep (Own p k) a (w.setCell ⟨k, j, none⟩ v) := h.setCell (Or.inl (Or.inr rfl)) v
theorem Keep.ks {p k : Nat} {a w : World} (h : Keep (Own p k) a w) (j : Nat) (v : List Value) : Keep (Own p k) a (w.setCells k j v) := h.setCells (Or.inl (Or.inr rfl)) j v

/-- The calls on an arena. -/
def Ar.take (s : Ar) : Ar := { (s.wipe s.first true 0) with first := s.next s.first, count := s.count + 1 }
def Ar.give (s : Ar) (x : Nat) : Ar := { (s.wipe x false s.first) with first := x, count := s.count - 1 }
def Ar.new (n : Nat) : Ar := { N := n, first := 1, count := 0, fld := fun _ _ => 0, live := fun _ => false, next := fun x => if x < n then x + 1 else 0 }

theorem Ar.Ok.take {s : Ar} {x : Nat} {r : List Nat} (h : s.Ok (x :: r)) : s.take.Ok r := by
  have hx : s.first = x := h.lnk.1
  have hnd := List.nodup_cons.1 h.nodup
  have hc := h.count
  have hr := h.range x (by simp)
  refine ⟨h.small, h.one, hnd.2, fun y hy => h.range y (by simp [hy]), fun y h1 h2 => ?_, ?_, ?_, fun y => ?_⟩
  · simp only [Ar.take, Ar.wipe, hx]
    by_cases e : y = x
    · subst e; simp [hnd.1]
    · simp only [if_neg e]
      rw [h.live y h1 h2]
      simp [e]
  · simp only [Ar.take, Ar.wipe, hx]
    refine h.lnk.2.congr (fun y hy => ?_)
    rw [if_neg (by rintro rfl; exact hnd.1 hy)]
  · simp only [Ar.take, Ar.wipe, List.length_cons] at *
    omega
  · simp only [Ar.take, Ar.wipe]
    split
    · omega
    · exact h.nx y

theorem Ar.Ok.give {s : Ar} {x : Nat} {l : List Nat} (h : s.Ok l) (h1 : 1 ≤ x) (h2 : x ≤ s.N) (hl : s.live x = true) : (s.give x).Ok (x :: l) := by
  have hx := (h.live x h1 h2).1 hl
  have hc := h.count
  have hlen : l.length + 1 ≤ s.N := by
    have : (x :: l).length ≤ (List.range' 1 s.N).length := by
      refine List.Nodup.length_le_of_subset (List.nodup_cons.2 ⟨hx, h.nodup⟩) (fun y hy => ?_)
      rw [List.mem_range'_1]
      rcases List.mem_cons.1 hy with rfl | hy
      · omega
      · have := h.range y hy; omega
    simpa using this
  refine ⟨h.small, h.one, List.nodup_cons.2 ⟨hx, h.nodup⟩, fun y hy => ?_, fun y k1 k2 => ?_, ⟨rfl, ?_⟩, ?_, fun y => ?_⟩
  · rcases List.mem_cons.1 hy with rfl | hy
    · exact ⟨h1, h2⟩
    · exact h.range y hy
  · simp only [Ar.give, Ar.wipe]
    by_cases e : y = x
    · subst e; simp
    · simp only [if_neg e]
      rw [h.live y k1 k2]
      simp [e]
  · simp only [Ar.give, Ar.wipe, if_true]
    refine h.lnk.congr (fun y hy => ?_)
    rw [if_neg (by rintro rfl; exact hx hy)]
  · simp only [Ar.give, Ar.wipe, List.length_cons] at *
    omega
  · simp only [Ar.give, Ar.wipe]
    split
    · cases l with
      | nil => have := h.lnk; simp only [Lnk] at this; omega
      | cons z r => have := h.lnk.1; have := h.range z (by simp); have := h.small; omega
    · exact h.nx y

theorem Ar.Ok.set {s : Ar} {l : List Nat} (h : s.Ok l) (x : Nat) (n : Nat → Int) : (s.set x n).Ok l := ⟨h.small, h.one, h.nodup, h.range, h.live, h.lnk, h.count, h.nx⟩

theorem new_lnk (n : Nat) : ∀ m a, a + m = n + 1 → 1 ≤ a → Lnk (fun x => if x < n then x + 1 else 0) (if m = 0 then 0 else a) (List.range' a m)
  | 0, a, _, _ => by simp [Lnk]
  | m + 1, a, h, h1 => by
    rw [List.range'_succ, if_neg (by omega)]
    refine ⟨rfl, ?_⟩
    have := new_lnk n m (a + 1) (by omega) (by omega)
    by_cases e : m = 0
    · subst e; simp [Lnk]; omega
    · rw [if_neg e] at this; simp only [if_pos (show a < n by omega)]; exact this

theorem Ar.new_ok {n : Nat} (h1 : 1 ≤ n) (h2 : n ≤ 512) : (Ar.new n).Ok (List.range' 1 n) := by
  refine ⟨h2, h1, List.nodup_range', fun x hx => ?_, fun x k1 k2 => ?_, ?_, ?_, fun x => ?_⟩
  · rw [List.mem_range'_1] at hx; simp only [Ar.new]; omega
  · simp only [Ar.new] at k2 ⊢
    simp [List.mem_range'_1]; omega
  · have := new_lnk n n 1 (by omega) (by omega)
    rw [if_neg (by omega)] at this
    exact this
  · simp [Ar.new]
  · simp only [Ar.new]; split <;> omega

end Tg
end Go.Proofs.Ytkddonmddgfpnaa
namespace Go.Proofs.Ytkddonmddgfpnaa
open Go.ChangeShapes Go.WideShapes Go.ChangeAt Go.RowKit
namespace Tg

/-- The walk's step at a store, and at a load, whose run is known. -/
theorem wpList_store_run {P : Program} {w : World} {ops : Array Oper} {rest : List Oper} {o : Oper} {a : Act} {Q : Exit → Act → World → Prop}
    (hg : o.guard = none) (t : TypeId) (x y : Operand) (hop : o.op = Op.store t x y) {v1 v2 : Value} {w' : World} (hx : a.eval x = v1) (hy : a.eval y = v2) (hrun : (Instr.storeAt t v1 v2).run P w = .ok () w')
    (hK : wpList P ops Q rest (a.put o.dst undef) w') : wpList P ops Q (o :: rest) a w := by
  refine BigFrame.wpList_want (by simp [Region.wanted, hg]) fun K hK' => ?_
  unfold Oper.wp
  simp [execOp, hop, hx, hy, hrun, Result.andThen]
  exact hK' _ _ hK
theorem wpList_load_run {P : Program} {w : World} {ops : Array Oper} {rest : List Oper} {o : Oper} {a : Act} {Q : Exit → Act → World → Prop}
    (hw : Region.wanted o (yielded ops a.tmps) = true) (t : TypeId) (x : Operand) (hop : o.op = Op.load t x) {v1 v' : Value} {w' : World} (hx : a.eval x = v1) (hrun : (Instr.loadAt t v1).run P w = .ok v' w')
    (hK : wpList P ops Q rest (a.put o.dst v') w') : wpList P ops Q (o :: rest) a w := by
  refine BigFrame.wpList_want hw fun K hK' => ?_
  unfold Oper.wp
  simp [execOp, hop, hx, hrun, Result.andThen]
  exact hK' _ _ hK

/-- A node's six cells. -/
def nodeA (n : Nat → Int) : Array Value := ((List.range 6).map fun j => nval j (n j)).toArray
theorem nodeA_size (n : Nat → Int) : (nodeA n).size = 6 := by simp [nodeA]
theorem nodeA_get (n : Nat → Int) (i : Nat) (hi : i < 6) : (nodeA n)[i]? = some (nval i (n i)) := by simp [nodeA, hi]
theorem nodeA_lit (n : Nat → Int) : nodeA n = #[.int .u32 (n 0), .int .u32 (n 1), .int .i64 (n 2), .int .i64 (n 3), .int .i64 (n 4), .int .i64 (n 5)] := rfl
theorem node0 : nodeA (fun _ => 0) = #[.int .u32 0, .int .u32 0, .int .i64 0, .int .i64 0, .int .i64 0, .int .i64 0] := rfl
theorem nodeA_congr {n m : Nat → Int} (h : ∀ j, j < 6 → n j = m j) : nodeA n = nodeA m := by
  rw [nodeA_lit, nodeA_lit, h 0 (by omega), h 1 (by omega), h 2 (by omega), h 3 (by omega), h 4 (by omega), h 5 (by omega)]
theorem size40 : (Try.prog.info? 100).map (·.size) = some 6 := by kernel_rfl
theorem size53 : (Try.prog.info? 102).map (·.size) = some 8 := by kernel_rfl
theorem under40 : ∃ d, Try.prog.underlying 100 = some d ∧ d.isRow = true := ⟨_, Try.underlying100, rfl⟩
theorem nval_one (j : Nat) (v : Int) : (nval j v).oneCell' = true := by unfold nval; split <;> rfl

/-- A node is written into a block's cells from place o on. -/
theorem store_node {w : World} {p o N : Nat} {f : Nat → Value} (h : Blk w p N f) (ho : o + 6 ≤ N) (n : Nat → Int) :
    (Instr.storeAt 100 (.pointer (some ⟨p, o, none⟩)) (.agg (nodeA n))).run Try.prog w = .ok () (w.setCells p o ((List.range 6).map fun j => nval j (n j))) := by
  have ht : w.there p o (nodeA n).size := fun j hj => by rw [nodeA_size] at hj; exact ⟨by rw [(h (o + j) (by omega)).1]; rfl, (h (o + j) (by omega)).2⟩
  exact run_storeAt_mid w p o 100 (nodeA n) ht (by rw [nodeA_size]; exact size40) (all_oneCell_toArray (fun x hx => by simp at hx; obtain ⟨i, _, rfl⟩ := hx; exact nval_one _ _))
theorem range_node {w : World} {p o N : Nat} {f : Nat → Value} {n : Nat → Int} (h : Blk w p N f) (ho : o + 6 ≤ N) (hf : ∀ i, i < 6 → f (o + i) = nval i (n i)) : w.rangeAt p o (nodeA n).toList := by
  intro j x hx
  have hj : j < 6 := by have := (List.getElem?_eq_some_iff.1 hx).1; simpa [nodeA] using this
  rw [(h (o + j) (by omega)).1, hf j hj, ← hx]
  simp [nodeA, hj]
theorem load_node {w : World} {p o N : Nat} {f : Nat → Value} {n : Nat → Int} (h : Blk w p N f) (ho : o + 6 ≤ N) (hf : ∀ i, i < 6 → f (o + i) = nval i (n i)) : (loadVar 100 ⟨p, o, none⟩).run Try.prog w = .ok (.agg (nodeA n)) w := by
  obtain ⟨t, h1, h2⟩ := under40
  have := run_loadVar_mid (P := Try.prog) w p o 100 (nodeA n).toList t (range_node h ho hf) h1 h2 (by rw [size40]; simp [nodeA])
  simpa using this
theorem loadAt_node {w : World} {p o N : Nat} {f : Nat → Value} {n : Nat → Int} (h : Blk w p N f) (ho : o + 6 ≤ N) (hf : ∀ i, i < 6 → f (o + i) = nval i (n i)) : (Instr.loadAt 100 (.pointer (some ⟨p, o, none⟩))).run Try.prog w = .ok (.agg (nodeA n)) w := by
  obtain ⟨t, h1, h2⟩ := under40
  have := run_loadAt_mid (P := Try.prog) w p o 100 (nodeA n).toList t (range_node h ho hf) h1 h2 (by rw [size40]; simp [nodeA])
  simpa using this

/-- A place is written. -/
theorem store_slot {w : World} {p o N : Nat} {f : Nat → Value} (h : Blk w p N f) (ho : o + 8 ≤ N) (v : Bool) (n : Nat) :
    (Instr.storeAt 102 (.pointer (some ⟨p, o, none⟩)) (.agg #[.int .u32 0, .int .u32 0, .int .i64 0, .int .i64 0, .int .i64 0, .int .i64 0, .bool v, .int .u32 (n : Int)])).run Try.prog w =
      .ok () (w.setCells p o [.int .u32 0, .int .u32 0, .int .i64 0, .int .i64 0, .int .i64 0, .int .i64 0, .bool v, .int .u32 (n : Int)]) := by
  refine run_storeAt_mid w p o 102 _ (fun j hj => ?_) size53 (all_oneCell_toArray (fun x hx => ?_))
  · have hj : j < 8 := hj
    exact ⟨by rw [(h (o + j) (by omega)).1]; rfl, (h (o + j) (by omega)).2⟩
  · simp at hx
    rcases hx with rfl | rfl | rfl | rfl <;> rfl

/-- Are two nodes alike? -/
def sameN (n m : Nat → Int) : Bool := n 0 == m 0 && (n 1 == m 1 && (n 2 == m 2 && (n 3 == m 3 && (n 4 == m 4 && n 5 == m 5))))
theorem sameN_of {n m : Nat → Int} (h : ∀ j, j < 6 → n j = m j) : sameN n m = true := by
  unfold sameN
  rw [h 0 (by omega), h 1 (by omega), h 2 (by omega), h 3 (by omega), h 4 (by omega), h 5 (by omega)]
  simp

theorem fields_cons {fu : Nat} {xs ys : Array Value} {f : Field} {fs : List Field} {a b : Value} {r q : Bool} {w : World} {t o : Nat} (h : (f.name == "_", f.type, f.offset) = (false, t, o)) (ha : (Go.part t xs o).run Try.prog w = .ok a w) (hb : (Go.part t ys o).run Try.prog w = .ok b w)
    (he : (Op.equalIn fu t a b).run Try.prog w = .ok r w) (hr : (Op.eqFields fu xs ys fs).run Try.prog w = .ok q w) : (Op.eqFields fu xs ys (f :: fs)).run Try.prog w = .ok (r && q) w := by
  simp only [Prod.mk.injEq] at h
  obtain ⟨hn, rfl, rfl⟩ := h
  have hn' : f.name ≠ "_" := by simpa using hn
  simp only [Op.eqFields, hn', ne_eq, not_false_eq_true, if_true, Sem.run_bind, ha, hb, he, Result.andThen_ok]
  cases r <;> simp [hr]
theorem part_cell (t : TypeId) (ht : ∀ w, (isAgg t).run Try.prog w = .ok false w) (A : Array Value) (i : Nat) (v : Value) (h : A[i]? = some v) (w : World) : (Go.part t A i).run Try.prog w = .ok v w := by
  simp [Go.part, ht w, h]
def runA (n : Nat → Int) : Array Value := #[.int .i64 (n 3), .int .i64 (n 4), .int .i64 (n 5)]
theorem part_run (n : Nat → Int) (w : World) : (Go.part 34 (nodeA n) 3).run Try.prog w = .ok (.agg (runA n)) w := by
  have ha : (isAgg 34).run Try.prog w = .ok true w := by kernel_rfl
  have he : (nodeA n).extract 3 6 = runA n := by kernel_rfl
  simp [Go.part, ha, he]
theorem eq38 (n m : Nat → Int) (w : World) : (Op.equalIn 9999 34 (.agg (runA n)) (.agg (runA m))).run Try.prog w = .ok (n 3 == m 3 && (n 4 == m 4 && n 5 == m 5)) w := by
  rw [run_equalIn_struct w 9998 34 _ _ (by kernel_rfl) (by kernel_rfl)]
  have hf : (Try.prog.fieldsOf 34).toList.map (fun f => (f.name == "_", f.type, f.offset)) = [(false, 3, 0), (false, 3, 1), (false, 3, 2)] := by kernel_rfl
  have a3 : ∀ w, (isAgg 3).run Try.prog w = .ok false w := fun w => by kernel_rfl
  generalize (Try.prog.fieldsOf 34).toList = fs at hf ⊢
  rcases fs with _ | ⟨f0, _ | ⟨f1, _ | ⟨f2, _ | ⟨f3, fs⟩⟩⟩⟩
  all_goals simp only [List.map_nil, List.map_cons, List.cons.injEq, List.nil_eq, reduceCtorEq, and_false, and_true] at hf
  obtain ⟨h0, h1, h2⟩ := hf
  refine fields_cons h0 (part_cell 3 a3 _ 0 _ rfl w) (part_cell 3 a3 _ 0 _ rfl w) (run_equalIn_int w 9997 3 .i64 .i64 _ _ Try.underlying3) ?_
  refine fields_cons h1 (part_cell 3 a3 _ 1 _ rfl w) (part_cell 3 a3 _ 1 _ rfl w) (run_equalIn_int w 9997 3 .i64 .i64 _ _ Try.underlying3) ?_
  have := fields_cons (fs := []) h2 (part_cell 3 a3 (runA n) 2 _ rfl w) (part_cell 3 a3 (runA m) 2 _ rfl w) (run_equalIn_int w 9997 3 .i64 .i64 _ _ Try.underlying3) (q := true) (by simp [Op.eqFields])
  rwa [Bool.and_true] at this
theorem eq40 (n m : Nat → Int) (w : World) : (Op.equalIn 10000 100 (.agg (nodeA n)) (.agg (nodeA m))).run Try.prog w = .ok (sameN n m) w := by
  rw [run_equalIn_struct w 9999 100 _ _ (by kernel_rfl) (by kernel_rfl)]
  have hf : (Try.prog.fieldsOf 100).toList.map (fun f => (f.name == "_", f.type, f.offset)) = [(false, 88, 0), (false, 88, 1), (false, 3, 2), (false, 34, 3)] := by kernel_rfl
  have a3 : ∀ w, (isAgg 3).run Try.prog w = .ok false w := fun w => by kernel_rfl
  have a27 : ∀ w, (isAgg 88).run Try.prog w = .ok false w := fun w => by kernel_rfl
  have e27 : ∀ (x y : Int), (Op.equalIn 9999 88 (.int .u32 x) (.int .u32 y)).run Try.prog w = .ok (x == y) w := fun x y => run_equalIn_int w 9998 88 .u32 .u32 _ _ Try.underlying88
  generalize (Try.prog.fieldsOf 100).toList = fs at hf ⊢
  rcases fs with _ | ⟨f0, _ | ⟨f1, _ | ⟨f2, _ | ⟨f3, _ | ⟨f4, fs⟩⟩⟩⟩⟩
  all_goals simp only [List.map_nil, List.map_cons, List.cons.injEq, List.nil_eq, reduceCtorEq, and_false, and_true] at hf
  obtain ⟨h0, h1, h2, h3⟩ := hf
  unfold sameN
  refine fields_cons h0 (part_cell 88 a27 _ 0 _ (nodeA_get n 0 (by omega)) w) (part_cell 88 a27 _ 0 _ (nodeA_get m 0 (by omega)) w) (e27 _ _) ?_
  refine fields_cons h1 (part_cell 88 a27 _ 1 _ (nodeA_get n 1 (by omega)) w) (part_cell 88 a27 _ 1 _ (nodeA_get m 1 (by omega)) w) (e27 _ _) ?_
  refine fields_cons h2 (part_cell 3 a3 _ 2 _ (nodeA_get n 2 (by omega)) w) (part_cell 3 a3 _ 2 _ (nodeA_get m 2 (by omega)) w) (run_equalIn_int w 9998 3 .i64 .i64 _ _ Try.underlying3) ?_
  have := fields_cons (fs := []) h3 (part_run n w) (part_run m w) (eq38 n m w) (q := true) (by simp [Op.eqFields])
  rwa [Bool.and_true] at this
theorem guard40 : Try.prog.eqGuardType Try.prog.depth 100 = false := by kernel_rfl
/-- The walk's step where two nodes are held against each other. -/
theorem wpList_neq_node {w : World} {ops : Array Oper} {rest : List Oper} {o : Oper} {a : Act} {Q : Exit → Act → World → Prop}
    (hw : Region.wanted o (yielded ops a.tmps) = true) (x y : Operand) (hop : o.op = Op.binOp .neq 100 x y 100) {n m : Nat → Int} (hx : a.eval x = .agg (nodeA n)) (hy : a.eval y = .agg (nodeA m))
    {r : Bool} (hr : (!sameN n m) = r) (hK : wpList Try.prog ops Q rest (a.put o.dst (.bool r)) w) : wpList Try.prog ops Q (o :: rest) a w := by
  subst hr
  refine BigFrame.wpList_want hw fun K hK' => ?_
  unfold Oper.wp
  have h1 := run_eqGuard_agg (P := Try.prog) w .neq 100 x y (nodeA n) (nodeA m) guard40
  have h2 := run_neq_struct (P := Try.prog) w 100 (nodeA n) (nodeA m)
  rw [eq40] at h2
  simp only [Result.andThen_ok] at h2
  simp only [execOp, hop, hx, hy]
  simp only [Sem.run_bind, h1, h2, Result.andThen_ok, Sem.run_pure]
  exact hK' _ _ hK

end Tg
end Go.Proofs.Ytkddonmddgfpnaa
namespace Go.Proofs.Ytkddonmddgfpnaa
namespace Tg

/-- A run. -/
structure Rn where
  lba : Int
  len : Int
  phys : Int

/-- A tree: each node has its number and its run. -/
inductive Tr where
  | nil : Tr
  | node (i : Nat) (l : Tr) (x : Rn) (r : Tr) : Tr

namespace Tr
def h : Tr → Nat
  | nil => 0
  | node _ l _ r => max l.h r.h + 1
/-- In order: the nodes with their runs. -/
def seq : Tr → List (Nat × Rn)
  | nil => []
  | node i l x r => l.seq ++ (i, x) :: r.seq
/-- The rule. -/
def Bal : Tr → Prop
  | nil => True
  | node _ l _ r => l.Bal ∧ r.Bal ∧ l.h ≤ r.h + 1 ∧ r.h ≤ l.h + 1
/-- Rising by Lba. -/
def Ord (t : Tr) : Prop := t.seq.Pairwise (fun a b => a.2.lba < b.2.lba)

def rotR : Tr → Tr
  | node i (node j a x b) y c => node j a x (node i b y c)
  | t => t
def rotL : Tr → Tr
  | node i a x (node j b y c) => node j (node i a x b) y c
  | t => t
theorem rotR_seq (t : Tr) : t.rotR.seq = t.seq := by
  unfold rotR
  split
  · simp [seq]
  · rfl
theorem rotL_seq (t : Tr) : t.rotL.seq = t.seq := by
  unfold rotL
  split
  · simp [seq]
  · rfl

/-- Is the right branch higher than the left one, the left one than the right one? -/
def rightHigh : Tr → Bool
  | nil => false
  | node _ l _ r => l.h < r.h
def leftHigh : Tr → Bool
  | nil => false
  | node _ l _ r => r.h < l.h

/-- A node is brought back to the rule. -/
def fix : Tr → Tr
  | nil => nil
  | node i l x r => if r.h + 1 < l.h then (node i (if l.rightHigh then l.rotL else l) x r).rotR else if l.h + 1 < r.h then (node i l x (if r.leftHigh then r.rotR else r)).rotL else node i l x r

theorem fix_seq (t : Tr) : t.fix.seq = t.seq := by
  cases t with
  | nil => rfl
  | node i l x r =>
    rw [fix]
    split
    · rw [rotR_seq]
      simp only [seq]
      split
      · rw [rotL_seq]
      · rfl
    · split
      · rw [rotL_seq]
        simp only [seq]
        split
        · rw [rotR_seq]
        · rfl
      · rfl

theorem fix_bal {i : Nat} {l : Tr} {x : Rn} {r : Tr} (hl : l.Bal) (hr : r.Bal) (h1 : l.h ≤ r.h + 2) (h2 : r.h ≤ l.h + 2) :
    (node i l x r).fix.Bal ∧ max l.h r.h ≤ (node i l x r).fix.h ∧ (node i l x r).fix.h ≤ max l.h r.h + 1 ∧ (l.h ≤ r.h + 1 → r.h ≤ l.h + 1 → (node i l x r).fix.h = max l.h r.h + 1) := by
  rw [fix]
  by_cases e1 : r.h + 1 < l.h
  · rw [if_pos e1]
    cases l with
    | nil => simp [h] at e1
    | node j a y b =>
      simp only [Bal] at hl
      simp only [h] at h1 h2 e1
      by_cases e2 : a.h < b.h
      · have : (node j a y b).rightHigh = true := by simp [rightHigh, e2]
        rw [if_pos this]
        cases b with
        | nil => simp [h] at e2
        | node k b1 z b2 =>
          simp only [Bal, h] at hl e2 h1 h2 e1
          simp only [rotL, rotR, Bal, h]
          refine ⟨⟨⟨hl.1, hl.2.1.1, by omega, by omega⟩, ⟨hl.2.1.2.1, hr, by omega, by omega⟩, by omega, by omega⟩, by omega, by omega, by omega⟩
      · have : (node j a y b).rightHigh = false := by simp [rightHigh]; omega
        rw [if_neg (by rw [this]; decide)]
        simp only [rotR, Bal, h]
        refine ⟨⟨hl.1, ⟨hl.2.1, hr, by omega, by omega⟩, by omega, by omega⟩, by omega, by omega, by omega⟩
  · rw [if_neg e1]
    by_cases e3 : l.h + 1 < r.h
    · rw [if_pos e3]
      cases r with
      | nil => simp [h] at e3
      | node j a y b =>
        simp only [Bal] at hr
        simp only [h] at h1 h2 e1 e3
        by_cases e2 : b.h < a.h
        · have : (node j a y b).leftHigh = true := by simp [leftHigh, e2]
          rw [if_pos this]
          cases a with
          | nil => simp [h] at e2
          | node k a1 z a2 =>
            simp only [Bal, h] at hr e2 h1 h2 e1 e3
            simp only [rotL, rotR, Bal, h]
            refine ⟨⟨⟨hl, hr.1.1, by omega, by omega⟩, ⟨hr.1.2.1, hr.2.1, by omega, by omega⟩, by omega, by omega⟩, by omega, by omega, by omega⟩
        · have : (node j a y b).leftHigh = false := by simp [leftHigh]; omega
          rw [if_neg (by rw [this]; decide)]
          simp only [rotL, Bal, h]
          refine ⟨⟨⟨hl, hr.1, by omega, by omega⟩, hr.2.1, by omega, by omega⟩, by omega, by omega, by omega⟩
    · rw [if_neg e3]
      simp only [Bal, h]
      exact ⟨⟨hl, hr, by omega, by omega⟩, by omega, by omega, by simp⟩

/-- One more node. -/
def ins (n : Nat) (v : Rn) : Tr → Tr
  | nil => node n nil v nil
  | node i l x r => if v.lba < x.lba then fix (node i (ins n v l) x r) else fix (node i l x (ins n v r))

theorem ins_bal (n : Nat) (v : Rn) : ∀ t : Tr, t.Bal → (t.ins n v).Bal ∧ t.h ≤ (t.ins n v).h ∧ (t.ins n v).h ≤ t.h + 1
  | nil, _ => by simp [ins, Bal, h]
  | node i l x r, hb => by
    simp only [Bal] at hb
    rw [ins]
    split
    · obtain ⟨k1, k2, k3⟩ := ins_bal n v l hb.1
      have := fix_bal (i := i) (x := x) k1 hb.2.1 (by omega) (by omega)
      refine ⟨this.1, ?_, ?_⟩
      · simp only [h]
        by_cases e : (ins n v l).h ≤ r.h + 1
        · have := this.2.2.2 e (by omega); omega
        · have := this.2.1; omega
      · simp only [h]
        by_cases e : (ins n v l).h ≤ r.h + 1
        · have := this.2.2.2 e (by omega); omega
        · have := this.2.2.1; omega
    · obtain ⟨k1, k2, k3⟩ := ins_bal n v r hb.2.1
      have := fix_bal (i := i) (x := x) hb.1 k1 (by omega) (by omega)
      refine ⟨this.1, ?_, ?_⟩
      · simp only [h]
        by_cases e : (ins n v r).h ≤ l.h + 1
        · have := this.2.2.2 (by omega) e; omega
        · have := this.2.1; omega
      · simp only [h]
        by_cases e : (ins n v r).h ≤ l.h + 1
        · have := this.2.2.2 (by omega) e; omega
        · have := this.2.2.1; omega

/-- A row of nodes with one more, ahead of the first that is not less. -/
def putL (n : Nat) (v : Rn) : List (Nat × Rn) → List (Nat × Rn)
  | [] => [(n, v)]
  | y :: r => if v.lba < y.2.lba then (n, v) :: y :: r else y :: putL n v r

theorem putL_left {n : Nat} {v : Rn} {y : Nat × Rn} (hy : v.lba < y.2.lba) : ∀ (a b : List (Nat × Rn)), putL n v (a ++ y :: b) = putL n v a ++ y :: b
  | [], b => by simp [putL, hy]
  | z :: a, b => by
    simp only [List.cons_append, putL]
    split
    · rfl
    · rw [putL_left hy a b]; rfl
theorem putL_right {n : Nat} {v : Rn} {y : Nat × Rn} (hy : ¬ v.lba < y.2.lba) : ∀ (a b : List (Nat × Rn)), (∀ z ∈ a, z.2.lba < y.2.lba) → putL n v (a ++ y :: b) = a ++ y :: putL n v b
  | [], b, _ => by simp [putL, hy]
  | z :: a, b, hz => by
    have := hz z (by simp)
    simp only [List.cons_append, putL, if_neg (show ¬ v.lba < z.2.lba by omega)]
    rw [putL_right hy a b (fun q hq => hz q (by simp [hq]))]

theorem ins_seq (n : Nat) (v : Rn) : ∀ t : Tr, t.Ord → (t.ins n v).seq = putL n v t.seq
  | nil, _ => rfl
  | node i l x r, ho => by
    have ho' := List.pairwise_append.1 (show (l.seq ++ (i, x) :: r.seq).Pairwise _ from ho)
    rw [ins]
    split
    · next e =>
      rw [fix_seq]
      simp only [seq]
      rw [ins_seq n v l ho'.1, putL_left (y := (i, x)) e]
    · next e =>
      rw [fix_seq]
      simp only [seq]
      rw [ins_seq n v r (List.pairwise_cons.1 ho'.2.1).2, putL_right (y := (i, x)) e _ _ (fun z hz => ho'.2.2 z hz (i, x) (by simp))]

/-- The first node in order, and the tree without it. -/
def pop : Tr → Tr → Nat × Rn × Tr
  | nil, d => (0, ⟨0, 0, 0⟩, d)
  | node i nil x r, _ => (i, x, r)
  | node i (node j a y b) x r, _ => let p := pop (node j a y b) nil; (p.1, p.2.1, fix (node i p.2.2 x r))
theorem pop_seq : ∀ (i : Nat) (l : Tr) (x : Rn) (r d : Tr), (node i l x r).seq = ((pop (node i l x r) d).1, (pop (node i l x r) d).2.1) :: (pop (node i l x r) d).2.2.seq
  | i, nil, x, r, d => by simp [pop, seq]
  | i, node j a y b, x, r, d => by
    have := pop_seq j a y b nil
    simp only [pop, fix_seq]
    rw [seq, this]
    simp [seq]
theorem pop_bal : ∀ (i : Nat) (l : Tr) (x : Rn) (r d : Tr), (node i l x r).Bal → (pop (node i l x r) d).2.2.Bal ∧ (node i l x r).h ≤ (pop (node i l x r) d).2.2.h + 1 ∧ (pop (node i l x r) d).2.2.h ≤ (node i l x r).h
  | i, nil, x, r, d, hb => by
    simp only [Bal] at hb
    simp only [pop, h] at *
    refine ⟨hb.2.1, by omega, by omega⟩
  | i, node j a y b, x, r, d, hb => by
    rw [Bal] at hb
    obtain ⟨k1, k2, k3⟩ := pop_bal j a y b nil hb.1
    simp only [pop]
    have := fix_bal (i := i) (x := x) k1 hb.2.1 (by omega) (by omega)
    refine ⟨this.1, ?_, ?_⟩
    · rw [h]
      by_cases e : r.h ≤ (pop (node j a y b) nil).2.2.h + 1
      · have := this.2.2.2 (by omega) e; omega
      · have := this.2.1; omega
    · rw [h]
      by_cases e : r.h ≤ (pop (node j a y b) nil).2.2.h + 1
      · have := this.2.2.2 (by omega) e; omega
      · have := this.2.2.1; omega

/-- The least number of nodes of a tree of a height. -/
def least : Nat → Nat
  | 0 => 0
  | 1 => 1
  | n + 2 => least (n + 1) + least n + 1
theorem least_mono : ∀ n, least n ≤ least (n + 1)
  | 0 => by decide
  | n + 1 => by show least (n + 1) ≤ least (n + 1) + least n + 1; omega
theorem least_le {t : Tr} : t.Bal → least t.h ≤ t.seq.length := by
  induction t with
  | nil => intro _; simp [h, least]
  | node i l x r il ir =>
    intro hb
    simp only [Bal] at hb
    have k1 := il hb.1
    have k2 := ir hb.2.1
    simp only [h, seq, List.length_append, List.length_cons]
    rcases Nat.le_total l.h r.h with e | e
    · rw [Nat.max_eq_right e]
      cases hr : r.h with
      | zero => simp [least]; omega
      | succ m =>
        rw [hr] at k2 e
        show least (m + 1) + least m + 1 ≤ _
        have : least m ≤ least l.h := by
          have : l.h = m ∨ l.h = m + 1 := by omega
          rcases this with q | q <;> rw [q]
          · exact Nat.le_refl _
          · exact least_mono m
        omega
    · rw [Nat.max_eq_left e]
      cases hl : l.h with
      | zero => simp [least]; omega
      | succ m =>
        rw [hl] at k1 e
        show least (m + 1) + least m + 1 ≤ _
        have : least m ≤ least r.h := by
          have : r.h = m ∨ r.h = m + 1 := by omega
          rcases this with q | q <;> rw [q]
          · exact Nat.le_refl _
          · exact least_mono m
        omega
/-- The last node in order, and the tree without it. -/
def popR : Tr → Tr → Nat × Rn × Tr
  | nil, d => (0, ⟨0, 0, 0⟩, d)
  | node i l x nil, _ => (i, x, l)
  | node i l x (node j a y b), _ => let p := popR (node j a y b) nil; (p.1, p.2.1, fix (node i l x p.2.2))
theorem popR_seq : ∀ (i : Nat) (l : Tr) (x : Rn) (r d : Tr), (node i l x r).seq = (popR (node i l x r) d).2.2.seq ++ [((popR (node i l x r) d).1, (popR (node i l x r) d).2.1)]
  | i, l, x, nil, d => by simp [popR, seq]
  | i, l, x, node j a y b, d => by
    have := popR_seq j a y b nil
    simp only [popR, fix_seq]
    rw [seq, this]
    simp [seq]
theorem popR_bal : ∀ (i : Nat) (l : Tr) (x : Rn) (r d : Tr), (node i l x r).Bal → (popR (node i l x r) d).2.2.Bal ∧ (node i l x r).h ≤ (popR (node i l x r) d).2.2.h + 1 ∧ (popR (node i l x r) d).2.2.h ≤ (node i l x r).h
  | i, l, x, nil, d, hb => by
    simp only [Bal] at hb
    simp only [popR, h] at *
    refine ⟨hb.1, by omega, by omega⟩
  | i, l, x, node j a y b, d, hb => by
    rw [Bal] at hb
    obtain ⟨k1, k2, k3⟩ := popR_bal j a y b nil hb.2.1
    simp only [popR]
    have := fix_bal (i := i) (x := x) hb.1 k1 (by omega) (by omega)
    refine ⟨this.1, ?_, ?_⟩
    · rw [h]
      by_cases e : l.h ≤ (popR (node j a y b) nil).2.2.h + 1
      · have := this.2.2.2 e (by omega); omega
      · have := this.2.1; omega
    · rw [h]
      by_cases e : l.h ≤ (popR (node j a y b) nil).2.2.h + 1
      · have := this.2.2.2 e (by omega); omega
      · have := this.2.2.1; omega

/-- The run with that Lba; the greatest that is at most lba; the least that is at least lba. -/
def find (k : Int) : Tr → Option Rn
  | nil => none
  | node _ l x r => if k < x.lba then find k l else if x.lba < k then find k r else some x
def floor (k : Int) : Tr → Option Rn → Option Rn
  | nil, d => d
  | node _ l x r, d => if k < x.lba then floor k l d else floor k r (some x)
def ceil (k : Int) : Tr → Option Rn → Option Rn
  | nil, d => d
  | node _ l x r, d => if x.lba < k then ceil k r d else ceil k l (some x)
def runs (t : Tr) : List Rn := t.seq.map (·.2)
theorem runs_node (i : Nat) (l : Tr) (x : Rn) (r : Tr) : (node i l x r).runs = l.runs ++ x :: r.runs := by simp [runs, seq]
/-- The last of a row that is at most k, the first that is at least k. -/
def floorL (k : Int) : List Rn → Option Rn → Option Rn
  | [], d => d
  | y :: m, d => floorL k m (if y.lba ≤ k then some y else d)
def ceilL (k : Int) : List Rn → Option Rn → Option Rn
  | [], d => d
  | y :: m, d => if k ≤ y.lba then some y else ceilL k m d
theorem floorL_high {k : Int} : ∀ (m : List Rn) (d : Option Rn), (∀ y ∈ m, k < y.lba) → floorL k m d = d
  | [], _, _ => rfl
  | y :: m, d, hm => by
    have := hm y (by simp)
    rw [floorL, if_neg (by omega)]
    exact floorL_high m d (fun z hz => hm z (by simp [hz]))
theorem floorL_app {k : Int} : ∀ (a b : List Rn) (d : Option Rn), floorL k (a ++ b) d = floorL k b (floorL k a d)
  | [], _, _ => rfl
  | y :: a, b, d => by simp only [List.cons_append, floorL]; exact floorL_app a b _
theorem ceilL_low {k : Int} : ∀ (a b : List Rn) (d : Option Rn), (∀ y ∈ a, y.lba < k) → ceilL k (a ++ b) d = ceilL k b d
  | [], _, _, _ => rfl
  | y :: a, b, d, ha => by
    have := ha y (by simp)
    simp only [List.cons_append, ceilL]
    rw [if_neg (by omega)]
    exact ceilL_low a b d (fun z hz => ha z (by simp [hz]))
theorem ceilL_app {k : Int} : ∀ (a b : List Rn) (d : Option Rn), ceilL k (a ++ b) d = ceilL k a (ceilL k b d)
  | [], _, _ => rfl
  | y :: a, b, d => by
    simp only [List.cons_append, ceilL]
    split
    · rfl
    · exact ceilL_app a b d
/-- Rising by Lba, told of the runs alone. -/
def Up (m : List Rn) : Prop := m.Pairwise (fun a b => a.lba < b.lba)
theorem ord_up {t : Tr} : t.Ord ↔ Up t.runs := by unfold Ord Up runs; rw [List.pairwise_map]
theorem up_parts {a b : List Rn} {x : Rn} (hu : Up (a ++ x :: b)) : Up a ∧ Up b ∧ (∀ y ∈ a, y.lba < x.lba) ∧ (∀ y ∈ b, x.lba < y.lba) := by
  have h1 := List.pairwise_append.1 hu
  have h2 := List.pairwise_cons.1 h1.2.1
  exact ⟨h1.1, h2.2, fun y hy => h1.2.2 y hy x (by simp), h2.1⟩
theorem floor_eq (k : Int) : ∀ (t : Tr) (d : Option Rn), Up t.runs → t.floor k d = floorL k t.runs d
  | nil, _, _ => rfl
  | node i l x r, d, hu => by
    rw [runs_node] at hu ⊢
    obtain ⟨u1, u2, u3, u4⟩ := up_parts hu
    rw [floor, floorL_app, floorL]
    split
    · next e =>
      rw [if_neg (by omega), floorL_high _ _ (fun y hy => by have := u4 y hy; omega), floor_eq k l d u1]
    · next e => rw [if_pos (by omega), floor_eq k r _ u2]
theorem ceil_eq (k : Int) : ∀ (t : Tr) (d : Option Rn), Up t.runs → t.ceil k d = ceilL k t.runs d
  | nil, _, _ => rfl
  | node i l x r, d, hu => by
    rw [runs_node] at hu ⊢
    obtain ⟨u1, u2, u3, u4⟩ := up_parts hu
    rw [ceil]
    split
    · next e =>
      rw [ceilL_low _ _ _ (fun y hy => by have := u3 y hy; omega), ceilL, if_neg (by omega), ceil_eq k r d u2]
    · next e =>
      rw [ceilL_app, ceilL, if_pos (by omega), ceil_eq k l _ u1]
def findL (k : Int) : List Rn → Option Rn
  | [] => none
  | y :: m => if y.lba = k then some y else findL k m
theorem findL_none {k : Int} : ∀ (a b : List Rn), (∀ y ∈ a, y.lba ≠ k) → findL k (a ++ b) = findL k b
  | [], _, _ => rfl
  | y :: a, b, ha => by
    simp only [List.cons_append, findL]
    rw [if_neg (ha y (by simp))]
    exact findL_none a b (fun z hz => ha z (by simp [hz]))
theorem findL_left {k : Int} : ∀ (a b : List Rn), (∀ y ∈ b, y.lba ≠ k) → findL k (a ++ b) = findL k a
  | [], b, hb => by
    have := findL_none b [] hb
    simpa [findL] using this
  | y :: a, b, hb => by
    simp only [List.cons_append, findL]
    split
    · rfl
    · exact findL_left a b hb
theorem find_eq (k : Int) : ∀ (t : Tr), Up t.runs → t.find k = findL k t.runs
  | nil, _ => rfl
  | node i l x r, hu => by
    rw [runs_node] at hu ⊢
    obtain ⟨u1, u2, u3, u4⟩ := up_parts hu
    rw [find]
    split
    · next e =>
      rw [findL_left _ _ (fun y hy => by rcases List.mem_cons.1 hy with rfl | hy; (omega); (have := u4 y hy; omega)), find_eq k l u1]
    · next e =>
      split
      · next e2 => rw [findL_none _ _ (fun y hy => by have := u3 y hy; omega), findL, if_neg (by omega), find_eq k r u2]
      · next e2 => rw [findL_none _ _ (fun y hy => by have := u3 y hy; omega), findL, if_pos (by omega)]
end Tr
end Tg
end Go.Proofs.Ytkddonmddgfpnaa
namespace Go.Proofs.Ytkddonmddgfpnaa
namespace Tg

/-- The number that a link to a tree says. -/
def Tr.link : Tr → Nat
  | .nil => 0
  | .node i _ _ _ => i
/-- What the root's fields say. -/
def Tr.flds : Tr → Nat → Int
  | .nil, _ => 0
  | .node _ l x r, j => if j = 0 then (l.link : Int) else if j = 1 then (r.link : Int) else if j = 2 then ((max l.h r.h + 1 : Nat) : Int) else if j = 3 then x.lba else if j = 4 then x.len else x.phys
def Tr.ids (t : Tr) : List Nat := t.seq.map (·.1)
theorem Tr.ids_node (i : Nat) (l : Tr) (x : Rn) (r : Tr) : (Tr.node i l x r).ids = l.ids ++ i :: r.ids := by simp [Tr.ids, Tr.seq]

def Hang (s : Ar) : Tr → Prop
  | .nil => True
  | .node i l x r => (1 ≤ i ∧ i ≤ s.N ∧ s.live i = true ∧ ∀ j, j < 6 → s.fld i j = (Tr.node i l x r).flds j) ∧ Hang s l ∧ Hang s r

theorem Hang.congr {s t : Ar} (hN : t.N = s.N) : ∀ {u : Tr}, Hang s u → (∀ i ∈ u.ids, t.live i = s.live i ∧ ∀ j, j < 6 → t.fld i j = s.fld i j) → Hang t u
  | .nil, _, _ => trivial
  | .node i l x r, h, e => by
    rw [Tr.ids_node] at e
    obtain ⟨⟨h1, h2, h3, h4⟩, h5, h6⟩ := h
    have ei := e i (by simp)
    refine ⟨⟨h1, by omega, by rw [ei.1]; exact h3, fun j hj => by rw [ei.2 j hj]; exact h4 j hj⟩, h5.congr hN (fun k hk => e k (by simp [hk])), h6.congr hN (fun k hk => e k (by simp [hk]))⟩
theorem Hang.live {s : Ar} : ∀ {u : Tr}, Hang s u → ∀ i ∈ u.ids, 1 ≤ i ∧ i ≤ s.N ∧ s.live i = true
  | .nil, _, i, hi => by simp [Tr.ids, Tr.seq] at hi
  | .node k l x r, h, i, hi => by
    rw [Tr.ids_node] at hi
    obtain ⟨⟨h1, h2, h3, _⟩, h5, h6⟩ := h
    rcases List.mem_append.1 hi with hi | hi
    · exact h5.live i hi
    · rcases List.mem_cons.1 hi with rfl | hi
      · exact ⟨h1, h2, h3⟩
      · exact h6.live i hi
theorem Hang.set {s : Ar} {u : Tr} (h : Hang s u) {x : Nat} (hx : x ∉ u.ids) (n : Nat → Int) : Hang (s.set x n) u :=
  Hang.congr (s := s) (t := s.set x n) rfl h (fun i hi => ⟨rfl, fun j _ => by simp only [Ar.set]; rw [if_neg (by rintro rfl; exact hx hi)]⟩)
/-- A free node is none of the tree's. -/
theorem Hang.free {s : Ar} {l : List Nat} {u : Tr} (h : Hang s u) (ok : s.Ok l) {x : Nat} (hx : x ∈ l) : x ∉ u.ids := fun e => by
  obtain ⟨h1, h2, h3⟩ := h.live x e
  exact (ok.live x h1 h2).1 h3 hx
theorem Hang.take {s : Ar} {x : Nat} {r : List Nat} {u : Tr} (h : Hang s u) (ok : s.Ok (x :: r)) : Hang s.take u := by
  have hx := h.free ok (x := x) (by simp)
  have hf : s.first = x := ok.lnk.1
  refine Hang.congr (s := s) (t := s.take) rfl h (fun i hi => ?_)
  have e : ¬ i = x := by rintro rfl; exact hx hi
  simp only [Ar.take, Ar.wipe, hf, if_neg e]
  exact ⟨trivial, fun _ _ => trivial⟩
theorem Hang.give {s : Ar} {u : Tr} (h : Hang s u) {x : Nat} (hx : x ∉ u.ids) : Hang (s.give x) u := by
  refine Hang.congr (s := s) (t := s.give x) rfl h (fun i hi => ?_)
  have e : ¬ i = x := by rintro rfl; exact hx hi
  simp only [Ar.give, Ar.wipe, if_neg e]
  exact ⟨trivial, fun _ _ => trivial⟩
/-- A node is laid above two trees. -/
theorem Hang.above {s : Ar} {l r : Tr} (hl : Hang s l) (hr : Hang s r) {i : Nat} (h1 : 1 ≤ i) (h2 : i ≤ s.N) (h3 : s.live i = true) (hil : i ∉ l.ids) (hir : i ∉ r.ids) (x : Rn) : Hang (s.set i (Tr.node i l x r).flds) (.node i l x r) :=
  ⟨⟨h1, h2, h3, fun j _ => by simp [Ar.set]⟩, hl.set hil _, hr.set hir _⟩
end Tg
end Go.Proofs.Ytkddonmddgfpnaa
namespace Go.Proofs.Ytkddonmddgfpnaa
open Go.ChangeShapes Go.WideShapes Go.ChangeAt Go.RowKit
namespace Tg

set_option maxHeartbeats 600000 in
theorem find_yes {w : World} {p k : Nat} {s : Ar} (h : Mem w p k s) {q : Nat} (hq : q < s.N) (hN : s.N ≤ 512) (hl : s.live (q + 1) = true) :
    Calls Try.prog 82 #[.pointer (some ⟨p, 0, none⟩), .int .u32 ((q : Int) + 1)] w fun e w' => e = .returned (.pointer (some ⟨k, q * 8, none⟩)) ∧ w' = w := by
  obtain ⟨t0, t1, t2, f1, f2⟩ := h.tops
  obtain ⟨c6, c7, g7⟩ := h.at hq
  rw [hl] at c6
  clear h hl
  have d0 : ((q : Int) + 1 == 0) = false := by simp; omega
  have d1 : ¬ (s.N : Int) < (q : Int) + 1 := by omega
  go_enter Try.func82, Try.ntmps82
  go_wp2
  go_ret
  exact ⟨rfl, rfl⟩

set_option maxHeartbeats 600000 in
theorem find_no {w : World} {p k : Nat} {s : Ar} (h : Mem w p k s) {x : Nat} (hx : x ≤ 4294967295) (hN : s.N ≤ 512) (hl : ¬ (1 ≤ x ∧ x ≤ s.N ∧ s.live x = true)) :
    Calls Try.prog 82 #[.pointer (some ⟨p, 0, none⟩), .int .u32 (x : Int)] w fun e w' => e = .returned (.pointer none) ∧ w' = w := by
  obtain ⟨t0, t1, t2, f1, f2⟩ := h.tops
  by_cases h0 : x = 0
  · subst h0
    clear h hl
    go_enter Try.func82, Try.ntmps82
    go_wp2
    go_ret
    exact ⟨rfl, rfl⟩
  by_cases h1 : x ≤ s.N
  · obtain ⟨q, rfl⟩ : ∃ q, x = q + 1 := ⟨x - 1, by omega⟩
    obtain ⟨c6, c7, g7⟩ := h.at (q := q) (by omega)
    have hl' : s.live (q + 1) = false := by
      cases e : s.live (q + 1)
      · rfl
      · exact absurd ⟨by omega, h1, e⟩ hl
    rw [hl'] at c6
    clear h hl hl'
    have d0 : ((q : Int) + 1 == 0) = false := by simp; omega
    have d1 : ¬ (s.N : Int) < (q : Int) + 1 := by omega
    rw [show ((q + 1 : Nat) : Int) = (q : Int) + 1 from rfl]
    go_enter Try.func82, Try.ntmps82
    go_wp2
    go_ret
    exact ⟨rfl, rfl⟩
  · clear h hl
    have d0 : ((x : Int) == 0) = false := by simp; omega
    have d1 : (s.N : Int) < (x : Int) := by omega
    go_enter Try.func82, Try.ntmps82
    go_wp2
    go_ret
    exact ⟨rfl, rfl⟩

set_option maxHeartbeats 600000 in
theorem take_any {w : World} {p k : Nat} {s : Ar} (h : Mem w p k s) {x : Nat} {r : List Nat} (ok : s.Ok (x :: r)) :
    Calls Try.prog 80 #[.pointer (some ⟨p, 0, none⟩)] w fun e w' => e = .returned (.tuple #[.int .u32 (x : Int), .int .i64 0]) ∧ Mem w' p k s.take ∧ Keep (Own p k) w w' := by
  have hf : s.first = x := ok.lnk.1
  have hr := ok.range x (by simp)
  have hN := ok.small
  have hc := ok.count
  obtain ⟨q, rfl⟩ : ∃ q, x = q + 1 := ⟨x - 1, by omega⟩
  obtain ⟨t0, t1, t2, f1, f2⟩ := h.tops
  obtain ⟨c6, c7, g7⟩ := h.at (q := q) (by omega)
  rw [hf] at t1
  rw [show ((q + 1 : Nat) : Int) = (q : Int) + 1 from rfl] at t1 ⊢
  have d0 : ((q : Int) + 1 == 0) = false := by simp; omega
  have dN : (q : Int) < s.N := by omega
  have dc : IntKind.i64.wrap ((s.count : Int) + 1) = (s.count : Int) + 1 := by rw [IntKind.wrap_i64] <;> omega
  have h1 := h.setFirst (s.next (q + 1))
  have hst := store_slot h1.blk (o := q * 8) (by show q * 8 + 8 ≤ s.N * 8; omega) true 0
  have h2 := h1.wipe (q := q) (by show q < s.N; omega) true 0
  have hk2 : Keep (Own p k) w ((w.setCell ⟨p, 1, none⟩ (.int .u32 (s.next (q + 1) : Int))).setCells k (q * 8) [.int .u32 0, .int .u32 0, .int .i64 0, .int .i64 0, .int .i64 0, .int .i64 0, .bool true, .int .u32 ((0 : Nat) : Int)]) := ((Keep.refl _ _).p _ _).ks _ _
  generalize (w.setCell ⟨p, 1, none⟩ (.int .u32 (s.next (q + 1) : Int))).setCells k (q * 8) [.int .u32 0, .int .u32 0, .int .i64 0, .int .i64 0, .int .i64 0, .int .i64 0, .bool true, .int .u32 ((0 : Nat) : Int)] = w2 at hst h2 hk2
  have u2 : w2.cell? ⟨p, 2, none⟩ = some (.int .i64 s.count) := (h2.top 2 (by omega)).1
  have uf : w2.frozen? ⟨p, 2, none⟩ = false := (h2.top 2 (by omega)).2
  have h3 := h2.setCount (s.count + 1)
  have hk3 := hk2.p 2 (.int .i64 ((s.count + 1 : Nat) : Int))
  rw [show ((s.count + 1 : Nat) : Int) = (s.count : Int) + 1 from rfl] at h3 hk3
  clear h h1 h2 hk2
  have hf' : Hid (s.first = q + 1) := hf
  clear hf hc ok hr
  go_enter Try.func80, Try.ntmps80
  go_wp2_with (guard_target =~ wpList _ _ _ (Oper.mk _ (Op.store 102 _ _) _ _ _ _ :: _) _ _; refine wpList_store_run rfl 102 (.tmp 28) (.tmp 27) rfl (by rfl) (by rfl) hst ?_)
  go_ret2
  refine ⟨rfl, h3.congr ?_, hk3⟩
  have hf : s.first = q + 1 := hf'
  simp [Ar.take, Ar.wipe, hf]

set_option maxHeartbeats 600000 in
theorem take_none {w : World} {p k : Nat} {s : Ar} (h : Mem w p k s) (ok : s.Ok []) :
    Calls Try.prog 80 #[.pointer (some ⟨p, 0, none⟩)] w fun e w' => e = .returned (.tuple #[.int .u32 0, .int .i64 5]) ∧ w' = w := by
  have hf : s.first = 0 := ok.lnk
  obtain ⟨t0, t1, t2, f1, f2⟩ := h.tops
  rw [hf] at t1
  rw [show ((0 : Nat) : Int) = 0 from rfl] at t1
  clear h ok hf
  go_enter Try.func80, Try.ntmps80
  go_wp2
  go_ret2
  exact ⟨rfl, rfl⟩
end Tg
end Go.Proofs.Ytkddonmddgfpnaa
namespace Go.Proofs.Ytkddonmddgfpnaa
open Go.ChangeShapes Go.WideShapes Go.ChangeAt Go.RowKit
namespace Tg

set_option maxHeartbeats 600000 in
theorem give_any {w : World} {p k : Nat} {s : Ar} (h : Mem w p k s) {q : Nat} (hq : q < s.N) (hN : s.N ≤ 512) (hl : s.live (q + 1) = true) (hc : 1 ≤ s.count ∧ s.count ≤ 512) :
    Calls Try.prog 78 #[.pointer (some ⟨p, 0, none⟩), .int .u32 ((q : Int) + 1)] w fun e w' => e = .returned (.int .i64 0) ∧ Mem w' p k (s.give (q + 1)) ∧ Keep (Own p k) w w' := by
  have hfind := find_yes h hq hN hl
  obtain ⟨t0, t1, t2, f1, f2⟩ := h.tops
  have hst := store_slot h.blk (o := q * 8) (by omega) false s.first
  have h2 := h.wipe hq false s.first
  have hk2 : Keep (Own p k) w (w.setCells k (q * 8) [.int .u32 0, .int .u32 0, .int .i64 0, .int .i64 0, .int .i64 0, .int .i64 0, .bool false, .int .u32 (s.first : Int)]) := (Keep.refl _ _).ks _ _
  generalize w.setCells k (q * 8) [.int .u32 0, .int .u32 0, .int .i64 0, .int .i64 0, .int .i64 0, .int .i64 0, .bool false, .int .u32 (s.first : Int)] = w2 at hst h2 hk2
  have h3 := h2.setFirst (q + 1)
  have hk3 := hk2.p 1 (.int .u32 ((q + 1 : Nat) : Int))
  rw [show ((q + 1 : Nat) : Int) = (q : Int) + 1 from rfl] at h3 hk3
  have u1 : w2.cell? ⟨p, 1, none⟩ = some (.int .u32 s.first) := (h2.top 1 (by omega)).1
  have uf : w2.frozen? ⟨p, 1, none⟩ = false := (h2.top 1 (by omega)).2
  have u2 : w2.cell? ⟨p, 2, none⟩ = some (.int .i64 s.count) := (h2.top 2 (by omega)).1
  have ug : w2.frozen? ⟨p, 2, none⟩ = false := (h2.top 2 (by omega)).2
  have h4 := h3.setCount (s.count - 1)
  have hk4 := hk3.p 2 (.int .i64 ((s.count - 1 : Nat) : Int))
  have dc : ((s.count - 1 : Nat) : Int) = (s.count : Int) - 1 := by omega
  rw [dc] at h4 hk4
  have dw : IntKind.i64.wrap ((s.count : Int) - 1) = (s.count : Int) - 1 := by rw [IntKind.wrap_i64]; omega
  clear h h2 h3 hk2 hk3 dc
  go_enter Try.func78, Try.ntmps78
  go_wp2_with (first | (go_at_call 82; refine hfind.mono ?_; rintro e w' ⟨rfl, rfl⟩) | (guard_target =~ wpList _ _ _ (Oper.mk _ (Op.store 102 _ _) _ _ _ _ :: _) _ _; refine wpList_store_run rfl 102 (.tmp 17) (.tmp 16) rfl (by rfl) (by rfl) hst ?_))
  go_ret
  exact ⟨rfl, h4.congr (by simp [Ar.give, Ar.wipe]), hk4⟩

set_option maxHeartbeats 600000 in
theorem give_no {w : World} {p k : Nat} {s : Ar} (h : Mem w p k s) {x : Nat} (hx : x ≤ 4294967295) (hN : s.N ≤ 512) (hl : ¬ (1 ≤ x ∧ x ≤ s.N ∧ s.live x = true)) :
    Calls Try.prog 78 #[.pointer (some ⟨p, 0, none⟩), .int .u32 (x : Int)] w fun e w' => e = .returned (.int .i64 1) ∧ w' = w := by
  have hfind := find_no h hx hN hl
  clear h hl
  go_enter Try.func78, Try.ntmps78
  go_wp2_with (go_at_call 82; refine hfind.mono ?_; rintro e w' ⟨rfl, rfl⟩)
  go_ret
  exact ⟨rfl, rfl⟩

theorem node_new (w : World) (n : Nat → Int) : Blk (w.alloc (.cells (nodeA n) 100)) w.heap.size 6 (fun j => nval j (n j)) := blk_alloc w _ 100 6 _ (nodeA_get n)

set_option maxHeartbeats 600000 in
theorem put_any {w : World} {p k : Nat} {s : Ar} (h : Mem w p k s) {q : Nat} (hq : q < s.N) (hN : s.N ≤ 512) (hl : s.live (q + 1) = true) (n : Nat → Int) :
    Calls Try.prog 79 #[.pointer (some ⟨p, 0, none⟩), .int .u32 ((q : Int) + 1), .agg (nodeA n)] w fun e w' => e = .returned (.int .i64 0) ∧ Mem w' p k (s.set (q + 1) n) ∧ Keep (Own p k) w w' := by
  have hb := node_new w n
  have h1 := h.alloc (.cells (nodeA n) 100)
  have hk1 : Keep (Own p k) w (w.alloc (.cells (nodeA n) 100)) := (Keep.refl _ _).alloc _
  have hfind := find_yes h1 hq hN hl
  have hld := loadAt_node hb (o := 0) (by omega) (n := n) (fun i _ => by rw [Nat.zero_add])
  have hst := store_node h1.blk (o := q * 8) (by omega) n
  rw [nvals] at hst
  have h2 := h1.set hq n
  have hk2 := hk1.ks (q * 8) [.int .u32 (n 0), .int .u32 (n 1), .int .i64 (n 2), .int .i64 (n 3), .int .i64 (n 4), .int .i64 (n 5)]
  generalize (w.alloc (.cells (nodeA n) 100)).setCells k (q * 8) [.int .u32 (n 0), .int .u32 (n 1), .int .i64 (n 2), .int .i64 (n 3), .int .i64 (n 4), .int .i64 (n 5)] = w2 at hst h2 hk2
  have hsz := nodeA_size n
  clear h h1 hb hk1
  generalize nodeA n = A at hsz hfind hld hst ⊢
  go_enter Try.func79, Try.ntmps79
  go_wp2_with (first | (go_at_call 82; refine hfind.mono ?_; rintro e w' ⟨rfl, rfl⟩) | (guard_target =~ wpList _ _ _ (Oper.mk _ (Op.store 100 _ _) _ _ _ _ :: _) _ _; refine wpList_store_run rfl 100 (.tmp 16) (.tmp 14) rfl (by rfl) (by rfl) hst ?_) | (guard_target =~ wpList _ _ _ (Oper.mk _ (Op.load 100 _) _ _ _ _ :: _) _ _; refine wpList_load_run rfl 100 (.tmp 5) rfl (by rfl) hld ?_))
  go_ret
  exact ⟨rfl, h2, hk2⟩

set_option maxHeartbeats 600000 in
theorem put_no {w : World} {p k : Nat} {s : Ar} (h : Mem w p k s) {x : Nat} (hx : x ≤ 4294967295) (hN : s.N ≤ 512) (hl : ¬ (1 ≤ x ∧ x ≤ s.N ∧ s.live x = true)) (n : Nat → Int) :
    Calls Try.prog 79 #[.pointer (some ⟨p, 0, none⟩), .int .u32 (x : Int), .agg (nodeA n)] w fun e w' => e = .returned (.int .i64 1) ∧ Keep (fun _ => False) w w' := by
  have h1 := h.alloc (.cells (nodeA n) 100)
  have hk1 : Keep (fun _ => False) w (w.alloc (.cells (nodeA n) 100)) := (Keep.refl _ _).alloc _
  have hfind := find_no h1 hx hN hl
  have hsz := nodeA_size n
  clear h h1 hl
  generalize nodeA n = A at hsz hfind hk1 ⊢
  go_enter Try.func79, Try.ntmps79
  go_wp2_with (go_at_call 82; refine hfind.mono ?_; rintro e w' ⟨rfl, rfl⟩)
  go_ret
  exact ⟨rfl, hk1⟩

set_option maxHeartbeats 600000 in
theorem get_any {w : World} {p k : Nat} {s : Ar} (h : Mem w p k s) {q : Nat} (hq : q < s.N) (hN : s.N ≤ 512) (hl : s.live (q + 1) = true) :
    Calls Try.prog 74 #[.pointer (some ⟨p, 0, none⟩), .int .u32 ((q : Int) + 1)] w fun e w' => e = .returned (.tuple #[.agg (nodeA (s.fld (q + 1))), .int .i64 0]) ∧ Keep (fun _ => False) w w' := by
  have hb := node_new w (fun _ => 0)
  have h1 := h.alloc (.cells (nodeA (fun _ => 0)) 100)
  have hk1 : Keep (fun _ => False) w (w.alloc (.cells (nodeA (fun _ => 0)) 100)) := (Keep.refl _ _).alloc _
  have hfind := find_yes h1 hq hN hl
  have hld := loadAt_node h1.blk (o := q * 8) (by omega) (n := s.fld (q + 1)) (fun i hi => s.cell_fld q i hi)
  have hst := store_node hb (o := 0) (by omega) (s.fld (q + 1))
  have hb2 := hb.setCells 0 6 (fun j => nval j (s.fld (q + 1) j)) (by omega)
  have hld2 := load_node hb2 (o := 0) (by omega) (n := s.fld (q + 1)) (fun i hi => by rw [if_pos (by omega), Nat.zero_add, Nat.sub_zero])
  have hk2 : Keep (fun _ => False) w ((w.alloc (.cells (nodeA (fun _ => 0)) 100)).setCells w.heap.size 0 ((List.range 6).map fun j => nval j (s.fld (q + 1) j))) := hk1.setCells (Or.inr (Nat.le_refl _)) _ _
  generalize (w.alloc (.cells (nodeA (fun _ => 0)) 100)).setCells w.heap.size 0 ((List.range 6).map fun j => nval j (s.fld (q + 1) j)) = w2 at hst hld2 hk2
  clear h h1 hb hk1 hb2
  rw [node0] at hfind hld hst
  generalize nodeA (s.fld (q + 1)) = A at hld hst hld2 ⊢
  go_enter Try.func74, Try.ntmps74
  go_wp2_with (first | (go_at_call 82; refine hfind.mono ?_; rintro e w' ⟨rfl, rfl⟩) | (guard_target =~ wpList _ _ _ (Oper.mk _ (Op.store 100 _ _) _ _ _ _ :: _) _ _; refine wpList_store_run rfl 100 (.tmp 4) (.tmp 16) rfl (by rfl) (by rfl) hst ?_) | (guard_target =~ wpList _ _ _ (Oper.mk _ (Op.load 100 _) _ _ _ _ :: _) _ _; refine wpList_load_run rfl 100 (.tmp 15) rfl (by rfl) hld ?_))
  refine bodyPost_ret (v := .tuple #[.agg A, .int .i64 0]) ?_ rfl ⟨rfl, hk2⟩
  rw [results_cell_tmp rfl]
  simp [asAddr, Result.andThen, hld2]

set_option maxHeartbeats 600000 in
theorem get_no {w : World} {p k : Nat} {s : Ar} (h : Mem w p k s) {x : Nat} (hx : x ≤ 4294967295) (hN : s.N ≤ 512) (hl : ¬ (1 ≤ x ∧ x ≤ s.N ∧ s.live x = true)) :
    Calls Try.prog 74 #[.pointer (some ⟨p, 0, none⟩), .int .u32 (x : Int)] w fun e w' => e = .returned (.tuple #[.agg (nodeA (fun _ => 0)), .int .i64 1]) ∧ Keep (fun _ => False) w w' := by
  have hb := node_new w (fun _ => 0)
  have h1 := h.alloc (.cells (nodeA (fun _ => 0)) 100)
  have hk1 : Keep (fun _ => False) w (w.alloc (.cells (nodeA (fun _ => 0)) 100)) := (Keep.refl _ _).alloc _
  have hfind := find_no h1 hx hN hl
  have hst := store_node hb (o := 0) (by omega) (fun _ => 0)
  have hb2 := hb.setCells 0 6 (fun j => nval j 0) (by omega)
  have hld2 := load_node hb2 (o := 0) (by omega) (n := fun _ => 0) (fun i hi => by rw [if_pos (by omega), Nat.zero_add, Nat.sub_zero])
  have hk2 : Keep (fun _ => False) w ((w.alloc (.cells (nodeA (fun _ => 0)) 100)).setCells w.heap.size 0 ((List.range 6).map fun j => nval j 0)) := hk1.setCells (Or.inr (Nat.le_refl _)) _ _
  generalize (w.alloc (.cells (nodeA (fun _ => 0)) 100)).setCells w.heap.size 0 ((List.range 6).map fun j => nval j 0) = w2 at hst hld2 hk2
  clear h h1 hb hk1 hb2 hl
  rw [node0] at hfind hst
  go_enter Try.func74, Try.ntmps74
  go_wp2_with (first | (go_at_call 82; refine hfind.mono ?_; rintro e w' ⟨rfl, rfl⟩) | (guard_target =~ wpList _ _ _ (Oper.mk _ (Op.store 100 _ _) _ _ _ _ :: _) _ _; refine wpList_store_run rfl 100 (.tmp 4) (.tmp 12) rfl (by rfl) (by rfl) hst ?_))
  refine bodyPost_ret (v := .tuple #[.agg (nodeA (fun _ => 0)), .int .i64 1]) ?_ rfl ⟨rfl, hk2⟩
  rw [results_cell_tmp rfl]
  simp [asAddr, Result.andThen, hld2]
end Tg
end Go.Proofs.Ytkddonmddgfpnaa
namespace Go.Proofs.Ytkddonmddgfpnaa
open Go.ChangeShapes Go.WideShapes Go.ChangeAt Go.RowKit
namespace Tg

theorem info53 : (Try.prog.info? 102).map (fun i => (i.zero, i.size, i.bytes)) = some (some (.agg #[.int .u32 0, .int .u32 0, .int .i64 0, .int .i64 0, .int .i64 0, .int .i64 0, .bool false, .int .u32 0]), 8, 48) := by kernel_rfl

def slot0 : Array Value := #[.int .u32 0, .int .u32 0, .int .i64 0, .int .i64 0, .int .i64 0, .int .i64 0, .bool false, .int .u32 0]

theorem make_slots (n : Nat) (hn : n ≤ 512) (w : World) : (Instr.makeSlice 96 (.int .i64 (n : Int)) (.int .i64 (n : Int))).run Try.prog w =
    .ok (.slice (some ⟨w.heap.size, 0, none⟩) n n) (w.alloc (.cells (madeCells slot0 (n * 8)) 102)) := by
  obtain ⟨i, hi, hz0, hz1, hz2⟩ := info_parts info53
  have := run_make (P := Try.prog) w 96 102 i _ Try.underlying96 hi hz0 .i64 .i64 n n (by omega) (by omega) (by rw [hz2]; omega) (by omega)
  rw [this, hz1]
  simp [Value.cells, slot0]

/-- An arena whose first q nodes are linked. -/
def Ar.part (n q : Nat) : Ar := { N := n, first := 1, count := 0, fld := fun _ _ => 0, live := fun _ => false, next := fun x => if x ≤ q then x + 1 else 0 }

theorem blk_slots (w : World) (n : Nat) : Blk (w.alloc (.cells (madeCells slot0 (n * 8)) 102)) w.heap.size (n * 8) (Ar.part n 0).cell := by
  refine blk_alloc _ _ _ _ _ (fun i hi => ?_)
  simp [madeCells, hi, slot0]
  have h8 : i % 8 = 0 ∨ i % 8 = 1 ∨ i % 8 = 2 ∨ i % 8 = 3 ∨ i % 8 = 4 ∨ i % 8 = 5 ∨ i % 8 = 6 ∨ i % 8 = 7 := by omega
  rcases h8 with h | h | h | h | h | h | h | h <;> simp [h, Ar.cell, Ar.part, nval]

theorem Mem.setNext {w : World} {p k : Nat} {s : Ar} (h : Mem w p k s) (q v : Nat) : Mem (w.setCell ⟨k, q * 8 + 7, none⟩ (.int .u32 v)) p k { s with next := fun y => if y = q + 1 then v else s.next y } := by
  refine ⟨h.top.other (a := ⟨k, _, none⟩) h.ne _, (h.blk.set _ _).congr (fun i _ => ?_), h.ne⟩
  unfold Ar.cell
  by_cases e : i = q * 8 + 7
  · subst e
    rw [if_pos rfl, if_neg (by omega), if_neg (by omega)]
    simp only [if_pos (show (q * 8 + 7) / 8 + 1 = q + 1 by omega)]
  · rw [if_neg e]
    by_cases h6 : i % 8 < 6
    · rw [if_pos h6, if_pos h6]
    · by_cases h7 : i % 8 = 6
      · rw [if_neg h6, if_neg h6, if_pos h7, if_pos h7]
      · rw [if_neg h6, if_neg h6, if_neg h7, if_neg h7]
        simp only [if_neg (show ¬ i / 8 + 1 = q + 1 by omega)]

theorem new_no {w : World} {n : Int} (h : n < 1 ∨ 512 < n) :
    Calls Try.prog 47 #[.int .i64 n] w fun e w' => e = .returned (.tuple #[.pointer none, .int .i64 1]) ∧ w' = w := by
  by_cases h1 : n < 1
  · go_enter Try.func47, Try.ntmps47
    go_wp2_with fail
    go_ret2
    exact ⟨rfl, rfl⟩
  · have h2 : 512 < n := by omega
    go_enter Try.func47, Try.ntmps47
    go_wp2_with fail
    go_ret2
    exact ⟨rfl, rfl⟩

set_option maxHeartbeats 600000 in
theorem new_any {w : World} {n : Nat} (h1 : 1 ≤ n) (h2 : n ≤ 512) :
    Calls Try.prog 47 #[.int .i64 (n : Int)] w fun e w' => ∃ p k, e = .returned (.tuple #[.pointer (some ⟨p, 0, none⟩), .int .i64 0]) ∧ Mem w' p k (Ar.new n) ∧ w.heap.size ≤ p ∧ w.heap.size ≤ k ∧ Keep (fun _ => False) w w' := by
  have hmk := make_slots n h2 w
  have hk := (blk_slots w n).alloc (.cells #[.slice (some ⟨w.heap.size, 0, none⟩) n n, .int .u32 1, .int .i64 0] 98)
  have hp : Blk ((w.alloc (.cells (madeCells slot0 (n * 8)) 102)).alloc (.cells #[.slice (some ⟨w.heap.size, 0, none⟩) n n, .int .u32 1, .int .i64 0] 98)) (w.heap.size + 1) 3 ((Ar.part n 0).top w.heap.size) := by
    have := blk_alloc (w.alloc (.cells (madeCells slot0 (n * 8)) 102)) #[.slice (some ⟨w.heap.size, 0, none⟩) n n, .int .u32 1, .int .i64 0] 98 3 ((Ar.part n 0).top w.heap.size) (fun i hi => by rcases three hi with rfl | rfl | rfl <;> rfl)
    simpa using this
  have hm : Mem _ (w.heap.size + 1) w.heap.size (Ar.part n 0) := ⟨hp, hk, by omega⟩
  have hK : Keep (fun b => b = w.heap.size) w ((w.alloc (.cells (madeCells slot0 (n * 8)) 102)).alloc (.cells #[.slice (some ⟨w.heap.size, 0, none⟩) n n, .int .u32 1, .int .i64 0] 98)) := ((Keep.refl _ _).alloc _).alloc _
  have n1 : ¬ (n : Int) < 1 := by omega
  have n2 : ¬ (512 : Int) < n := by omega
  have dn : IntKind.i64.wrap ((n : Int) - 1) = (n : Int) - 1 := by rw [IntKind.wrap_i64]; omega
  clear hp hk
  go_enter Try.func47, Try.ntmps47
  go_wp2_with fail
  go_loopw [18] (fun i wr => ∃ q : Nat, q + 1 ≤ n ∧ i = .int .i64 q ∧ Mem wr (w.heap.size + 1) w.heap.size (Ar.part n q) ∧ Keep (fun b => b = w.heap.size) w wr) (fun i _ => n - (intOf i).toNat)
  case atStart => exact ⟨0, by omega, rfl, hm, hK⟩
  case round =>
    obtain ⟨q, hq, rfl, hmq, hkq⟩ := hrel
    clear hm hK hmk
    have t0 : wr.cell? ⟨w.heap.size + 1, 0, none⟩ = some (.slice (some ⟨w.heap.size, 0, none⟩) n n) := hmq.tops.1
    by_cases hlt : q + 1 < n
    · have c7 : wr.cell? ⟨w.heap.size, q * 8 + 7, none⟩ = some (.int .u32 ((Ar.part n q).next (q + 1))) := (hmq.at (q := q) (by show q < n; omega)).2.1
      have g7 : wr.frozen? ⟨w.heap.size, q * 8 + 7, none⟩ = false := (hmq.at (q := q) (by show q < n; omega)).2.2
      have hm2 := hmq.setNext q (q + 2)
      have hk2 : Keep (fun b => b = w.heap.size) w (wr.setCell ⟨w.heap.size, q * 8 + 7, none⟩ (.int .u32 ((q + 2 : Nat) : Int))) := hkq.setCell (Or.inl rfl) _
      rw [show ((q + 2 : Nat) : Int) = (q : Int) + 2 from rfl] at hm2 hk2
      have d1 : (q : Int) < (n : Int) - 1 := by omega
      have d2 : (q : Int) < (n : Int) := by omega
      clear hmq hkq
      go_wp2_with fail
      go_roundw
      case rel => exact ⟨q + 1, by omega, by go_num, hm2.congr (by simp only [Ar.part]; congr 1; funext y; by_cases e : y = q + 1; (rw [if_pos e, if_pos (by omega)]; omega); (rw [if_neg e]; by_cases e2 : y ≤ q; (rw [if_pos e2, if_pos (by omega)]); (rw [if_neg e2, if_neg (by omega)]))), hk2⟩
      case measure => simp [intOf]; omega
    · obtain rfl : n = q + 1 := by omega
      have d1 : ¬ (q : Int) < ((q + 1 : Nat) : Int) - 1 := by omega
      clear hlt t0
      go_wp2_with fail
      go_ret2
      refine ⟨_, rfl, _, hmq.congr ?_, by omega, by omega, hkq.mono (fun x hx e => by omega)⟩
      simp only [Ar.part, Ar.new]
      congr 1
      funext y
      by_cases e : y ≤ q
      · rw [if_pos e, if_pos (by omega)]
      · rw [if_neg e, if_neg (by omega)]
end Tg
end Go.Proofs.Ytkddonmddgfpnaa
