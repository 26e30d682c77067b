/-
  How a flash lies in memory, and what a store makes of it; each block's cells are told by their number.
-/
import Derived.Test.YtjafjofonckaaaaRows
import Derived.Test.YtjafjofonckaaaaFlash
import Derived.WalkKit
import Derived.ProofKit
import Derived.OpenShut
import Derived.ShutString
import Derived.ChangeOld
import Derived.Below
import Derived.Deep.OwnRows
import Derived.Laws.IdiomCopy
namespace Go.Proofs.Ytjafjofonckaaaa
open Go.ChangeShapes Go.WideShapes Go.ChangeAt Go.RowKit
namespace Nd

/-- Block b's first n cells, none frozen. -/
def Blk (w : World) (b n : Nat) (f : Nat → Value) : Prop := ∀ i, i < n → w.cell? ⟨b, i, none⟩ = some (f i) ∧ w.frozen? ⟨b, i, none⟩ = false

theorem Blk.lt {w : World} {b n : Nat} {f : Nat → Value} (h : Blk w b n f) (hn : 0 < n) : b < w.heap.size := World.block_lt_of_cell? w _ (h 0 hn).1

theorem Blk.congr {w : World} {b n : Nat} {f g : Nat → Value} (h : Blk w b n f) (e : ∀ i, i < n → f i = g i) : Blk w b n g := fun i hi => by rw [← e i hi]; exact h i hi

theorem Blk.of_block {w w' : World} {b n : Nat} {f : Nat → Value} (h : Blk w b n f) (e : w'.heap[b]? = w.heap[b]?) : Blk w' b n f := fun i hi =>
  ⟨by rw [World.cell?_of_block (w := w) (a := ⟨b, i, none⟩) e]; exact (h i hi).1, by rw [World.frozen?_of_block (w := w) (a := ⟨b, i, none⟩) e]; exact (h i hi).2⟩

theorem Blk.set {w : World} {b n : Nat} {f : Nat → Value} (h : Blk w b n f) (j : Nat) (v : Value) : Blk (w.setCell ⟨b, j, none⟩ v) b n (fun i => if i = j then v else f i) := by
  intro i hi
  refine ⟨?_, by rw [World.frozen?_setCell]; exact (h i hi).2⟩
  by_cases e : i = j
  · subst e; simp only [if_true]; exact World.cell?_setCell_same w _ _ (h i hi).1
  · simp only [if_neg e]; rw [World.cell?_setCell_other (h := fun x => e (congrArg Addr.off x).symm)]; exact (h i hi).1

theorem Blk.other {w : World} {b n : Nat} {f : Nat → Value} (h : Blk w b n f) {a : Addr} (ha : b ≠ a.block) (v : Value) : Blk (w.setCell a v) b n f := h.of_block (Below.heap_setCell _ _ _ _ ha)

theorem Blk.alloc {w : World} {b n : Nat} {f : Nat → Value} (h : Blk w b n f) (o : Obj) : Blk (w.alloc o) b n f := by
  intro i hi
  have hl := h.lt (by omega)
  exact h.of_block (Below.heap_alloc w o b hl) i hi

theorem Blk.drew {w : World} {b n : Nat} {f : Nat → Value} (h : Blk w b n f) : Blk w.drew b n f := h

theorem Blk.setCells {w : World} {b n : Nat} {f : Nat → Value} (h : Blk w b n f) (o m : Nat) (g : Nat → Value) (hm : o + m ≤ n) :
    Blk (w.setCells b o ((List.range m).map g)) b n (fun i => if o ≤ i ∧ i < o + m then g (i - o) else f i) := by
  intro i hi
  refine ⟨?_, by rw [World.frozen?_setCells]; exact (h i hi).2⟩
  by_cases e : o ≤ i ∧ i < o + m
  · simp only [if_pos e]
    have := World.cell?_setCells_in b ((List.range m).map g) o w (fun j hj => by rw [(h (o + j) (by simp at hj; omega)).1]; rfl) (i - o) (by simp; omega)
    rw [show o + (i - o) = i by omega] at this
    rw [this]
    simp
  · simp only [if_neg e]
    rw [World.cell?_setCells_out b _ o w ⟨b, i, none⟩ (fun _ _ => by simp; omega)]
    exact (h i hi).1

theorem heap_setCells (b : Nat) : ∀ (vs : List Value) (o : Nat) (w : World) (k : Nat), k ≠ b → (w.setCells b o vs).heap[k]? = w.heap[k]?
  | [], _, _, _, _ => rfl
  | v :: r, o, w, k, h => by rw [World.setCells, heap_setCells b r (o + 1) _ k h, Below.heap_setCell _ _ _ _ h]

theorem setCells_same (b : Nat) : ∀ (vs : List Value) (o : Nat) (w : World), (w.setCells b o vs).os = w.os ∧ (w.setCells b o vs).tape = w.tape ∧ (w.setCells b o vs).output = w.output ∧ (w.setCells b o vs).heap.size = w.heap.size
  | [], _, _ => ⟨rfl, rfl, rfl, rfl⟩
  | v :: r, o, w => by
    have := setCells_same b r (o + 1) (w.setCell ⟨b, o, none⟩ v)
    rw [World.setCells]
    refine ⟨this.1, this.2.1, this.2.2.1, ?_⟩
    rw [this.2.2.2]; simp [World.setCell]

theorem Blk.otherCells {w : World} {b n : Nat} {f : Nat → Value} (h : Blk w b n f) {x : Nat} (hx : b ≠ x) (o : Nat) (vs : List Value) : Blk (w.setCells x o vs) b n f := h.of_block (heap_setCells x vs o w b hx)

/-- All blocks but those of S are as they were. -/
structure Keep (S : Nat → Prop) (w w' : World) : Prop where
  os : w'.os = w.os
  tape : w'.tape = w.tape
  output : w'.output = w.output
  size : w.heap.size ≤ w'.heap.size
  block : ∀ k, k < w.heap.size → ¬ S k → w'.heap[k]? = w.heap[k]?

theorem Keep.refl (S : Nat → Prop) (w : World) : Keep S w w := ⟨rfl, rfl, rfl, Nat.le_refl _, fun _ _ _ => rfl⟩
theorem Keep.trans {S : Nat → Prop} {a b c : World} (h : Keep S a b) (k : Keep S b c) : Keep S a c :=
  ⟨k.os.trans h.os, k.tape.trans h.tape, k.output.trans h.output, Nat.le_trans h.size k.size, fun i hi hs => (k.block i (Nat.lt_of_lt_of_le hi h.size) hs).trans (h.block i hi hs)⟩
theorem Keep.mono {S T : Nat → Prop} {a b : World} (h : Keep S a b) (e : ∀ k, k < a.heap.size → S k → T k) : Keep T a b :=
  ⟨h.os, h.tape, h.output, h.size, fun i hi hs => h.block i hi (fun x => hs (e i hi x))⟩
theorem Keep.drew {S : Nat → Prop} {a w : World} (h : Keep S a w) : Keep S a w.drew := ⟨h.os, h.tape, h.output, h.size, h.block⟩
theorem Keep.alloc {S : Nat → Prop} {a w : World} (h : Keep S a w) (o : Obj) : Keep S a (w.alloc o) :=
  h.trans ⟨rfl, rfl, rfl, by simp, fun k hk _ => Below.heap_alloc _ _ _ hk⟩
theorem Keep.setCell {S : Nat → Prop} {a w : World} (h : Keep S a w) {p : Addr} (hp : S p.block ∨ a.heap.size ≤ p.block) (u : Value) : Keep S a (w.setCell p u) :=
  ⟨h.os, h.tape, h.output, by simp [World.setCell]; exact h.size, fun k hk hs => by
    rw [Below.heap_setCell _ _ _ _ (fun e => by rcases hp with hp | hp; exact hs (e ▸ hp); omega)]; exact h.block k hk hs⟩
theorem Keep.setCells {S : Nat → Prop} {a w : World} (h : Keep S a w) {b : Nat} (hp : S b ∨ a.heap.size ≤ b) (o : Nat) (vs : List Value) : Keep S a (w.setCells b o vs) := by
  obtain ⟨h1, h2, h3, h4⟩ := setCells_same b vs o w
  exact ⟨h1.trans h.os, h2.trans h.tape, h3.trans h.output, by rw [h4]; exact h.size, fun k hk hs => by
    rw [heap_setCells b vs o w k (fun e => by rcases hp with hp | hp; exact hs (e ▸ hp); omega)]; exact h.block k hk hs⟩
theorem Keep.below {S : Nat → Prop} {w w' : World} (h : Keep S w w') {B : Nat} (hB : B ≤ w.heap.size) (hS : ∀ k, S k → B ≤ k) : Below B w w' :=
  ⟨h.os, h.tape, h.output, h.size, fun k hk => h.block k (by omega) (fun e => by have := hS k e; omega)⟩
theorem Keep.of_below {S : Nat → Prop} {w w' : World} (h : Below w.heap.size w w') : Keep S w w' := ⟨h.os, h.tape, h.output, h.size, fun k hk _ => h.block k hk⟩
theorem Blk.keep {S : Nat → Prop} {w w' : World} {b n : Nat} {f : Nat → Value} (h : Blk w b n f) (k : Keep S w w') (hs : ¬ S b) : Blk w' b n f := fun i hi =>
  h.of_block (k.block b (h.lt (by omega)) hs) i hi

/-- The flash's own nine cells. -/
def topCell (c k : Nat) (s : Fl) : Nat → Value
  | 0 => .int .i64 s.P
  | 1 => .slice (some ⟨c, 0, none⟩) (s.B * s.P * 68) (s.B * s.P * 68)
  | 2 => .slice (some ⟨k, 0, none⟩) s.B s.B
  | 3 => .bool (!s.on)
  | 4 => .int .i64 s.cut
  | 5 => .int .i64 s.fail
  | 6 => .int .i64 s.reads
  | 7 => .int .i64 s.progs
  | _ => .int .i64 s.erases

/-- The four cells of each block's state. -/
def blkCell (s : Fl) (i : Nat) : Value :=
  if i % 4 = 0 then .bool (s.bad (i / 4)) else if i % 4 = 1 then .bool (s.torn (i / 4)) else if i % 4 = 2 then .int .i64 (s.next (i / 4)) else .int .i64 (s.wear (i / 4))

theorem blk_bad (s : Fl) (b : Nat) (v : Bool) (i : Nat) : (if i = b * 4 then .bool v else blkCell s i) = blkCell { s with bad := fun x => if x = b then v else s.bad x } i := by
  unfold blkCell
  by_cases e : i = b * 4
  · rw [if_pos e, if_pos (by omega)]; simp only [if_pos (show i / 4 = b by omega)]
  · rw [if_neg e]
    by_cases h : i % 4 = 0
    · rw [if_pos h, if_pos h]; simp only [if_neg (show ¬ i / 4 = b by omega)]
    · rw [if_neg h, if_neg h]
theorem blk_torn (s : Fl) (b : Nat) (v : Bool) (i : Nat) : (if i = b * 4 + 1 then .bool v else blkCell s i) = blkCell { s with torn := fun x => if x = b then v else s.torn x } i := by
  unfold blkCell
  by_cases e : i = b * 4 + 1
  · rw [if_pos e, if_neg (by omega), if_pos (by omega)]; simp only [if_pos (show i / 4 = b by omega)]
  · rw [if_neg e]
    by_cases h : i % 4 = 1
    · rw [if_neg (by omega), if_pos h, if_neg (by omega), if_pos h]; simp only [if_neg (show ¬ i / 4 = b by omega)]
    · rw [if_neg h, if_neg h]
theorem blk_next (s : Fl) (b v : Nat) (i : Nat) : (if i = b * 4 + 2 then .int .i64 v else blkCell s i) = blkCell { s with next := fun x => if x = b then v else s.next x } i := by
  unfold blkCell
  by_cases e : i = b * 4 + 2
  · rw [if_pos e, if_neg (by omega), if_neg (by omega), if_pos (by omega)]; simp only [if_pos (show i / 4 = b by omega)]
  · rw [if_neg e]
    by_cases h : i % 4 = 2
    · rw [if_neg (by omega), if_neg (by omega), if_pos h, if_neg (by omega), if_neg (by omega), if_pos h]; simp only [if_neg (show ¬ i / 4 = b by omega)]
    · rw [if_neg h, if_neg h]
theorem blk_wear (s : Fl) (b v : Nat) (i : Nat) : (if i = b * 4 + 3 then .int .i64 v else blkCell s i) = blkCell { s with wear := fun x => if x = b then v else s.wear x } i := by
  unfold blkCell
  by_cases e : i = b * 4 + 3
  · rw [if_pos e, if_neg (by omega), if_neg (by omega), if_neg (by omega)]; simp only [if_pos (show i / 4 = b by omega)]
  · rw [if_neg e]
    by_cases h : i % 4 = 3
    · rw [if_neg (by omega), if_neg (by omega), if_neg (by omega), if_neg (by omega), if_neg (by omega), if_neg (by omega)]; simp only [if_neg (show ¬ i / 4 = b by omega)]
    · have : i % 4 = 0 ∨ i % 4 = 1 ∨ i % 4 = 2 := by omega
      rcases this with h | h | h <;> simp [h]

/-- The flash lies in blocks p (the struct), c (the bytes) and k (the blocks' states). -/
structure Mem (w : World) (p c k : Nat) (s : Fl) : Prop where
  top : Blk w p 9 (topCell c k s)
  cel : Blk w c (s.B * s.P * 68) (fun i => .int .u8 (s.cell i))
  blk : Blk w k (s.B * 4) (blkCell s)
  pc : p ≠ c
  pk : p ≠ k
  ck : c ≠ k

/-- The blocks of a flash. -/
def Own (p c k : Nat) : Nat → Prop := fun b => b = p ∨ b = c ∨ b = k

theorem Mem.drew {w : World} {p c k : Nat} {s : Fl} (h : Mem w p c k s) : Mem w.drew p c k s := ⟨h.top, h.cel, h.blk, h.pc, h.pk, h.ck⟩
theorem Mem.alloc {w : World} {p c k : Nat} {s : Fl} (h : Mem w p c k s) (o : Obj) : Mem (w.alloc o) p c k s := ⟨h.top.alloc o, h.cel.alloc o, h.blk.alloc o, h.pc, h.pk, h.ck⟩
theorem Mem.keep {S : Nat → Prop} {w w' : World} {p c k : Nat} {s : Fl} (h : Mem w p c k s) (e : Keep S w w') (hp : ¬ S p) (hc : ¬ S c) (hk : ¬ S k) : Mem w' p c k s := ⟨h.top.keep e hp, h.cel.keep e hc, h.blk.keep e hk, h.pc, h.pk, h.ck⟩
theorem Mem.setTop {w : World} {p c k : Nat} {s t : Fl} (h : Mem w p c k s) (j : Nat) (v : Value) (e : ∀ i, i < 9 → (if i = j then v else topCell c k s i) = topCell c k t i)
    (hB : t.B = s.B) (hP : t.P = s.P) (hc : t.cell = s.cell) (hk : ∀ i, blkCell s i = blkCell t i) : Mem (w.setCell ⟨p, j, none⟩ v) p c k t :=
  ⟨(h.top.set j v).congr e, by rw [hB, hP, hc]; exact h.cel.other (a := ⟨p, j, none⟩) (Ne.symm h.pc) v, by rw [hB]; exact (h.blk.other (a := ⟨p, j, none⟩) (Ne.symm h.pk) v).congr (fun i _ => hk i), h.pc, h.pk, h.ck⟩
theorem Mem.setBad {w : World} {p c k : Nat} {s : Fl} (h : Mem w p c k s) (b : Nat) (v : Bool) : Mem (w.setCell ⟨k, b * 4, none⟩ (.bool v)) p c k { s with bad := fun x => if x = b then v else s.bad x } :=
  ⟨h.top.other (a := ⟨k, _, none⟩) h.pk _, h.cel.other (a := ⟨k, _, none⟩) h.ck _, (h.blk.set _ _).congr (fun i _ => blk_bad s b v i), h.pc, h.pk, h.ck⟩
theorem Mem.setTorn {w : World} {p c k : Nat} {s : Fl} (h : Mem w p c k s) (b : Nat) (v : Bool) : Mem (w.setCell ⟨k, b * 4 + 1, none⟩ (.bool v)) p c k { s with torn := fun x => if x = b then v else s.torn x } :=
  ⟨h.top.other (a := ⟨k, _, none⟩) h.pk _, h.cel.other (a := ⟨k, _, none⟩) h.ck _, (h.blk.set _ _).congr (fun i _ => blk_torn s b v i), h.pc, h.pk, h.ck⟩
theorem Mem.setNext {w : World} {p c k : Nat} {s : Fl} (h : Mem w p c k s) (b v : Nat) : Mem (w.setCell ⟨k, b * 4 + 2, none⟩ (.int .i64 v)) p c k { s with next := fun x => if x = b then v else s.next x } :=
  ⟨h.top.other (a := ⟨k, _, none⟩) h.pk _, h.cel.other (a := ⟨k, _, none⟩) h.ck _, (h.blk.set _ _).congr (fun i _ => blk_next s b v i), h.pc, h.pk, h.ck⟩
theorem Mem.setWear {w : World} {p c k : Nat} {s : Fl} (h : Mem w p c k s) (b v : Nat) : Mem (w.setCell ⟨k, b * 4 + 3, none⟩ (.int .i64 v)) p c k { s with wear := fun x => if x = b then v else s.wear x } :=
  ⟨h.top.other (a := ⟨k, _, none⟩) h.pk _, h.cel.other (a := ⟨k, _, none⟩) h.ck _, (h.blk.set _ _).congr (fun i _ => blk_wear s b v i), h.pc, h.pk, h.ck⟩

theorem top_split {i : Nat} (h : i < 9) : i = 0 ∨ i = 1 ∨ i = 2 ∨ i = 3 ∨ i = 4 ∨ i = 5 ∨ i = 6 ∨ i = 7 ∨ i = 8 := by omega
theorem Mem.setOff {w : World} {p c k : Nat} {s : Fl} (h : Mem w p c k s) (v : Bool) : Mem (w.setCell ⟨p, 3, none⟩ (.bool v)) p c k { s with on := !v } :=
  h.setTop 3 _ (fun i hi => by rcases top_split hi with rfl | rfl | rfl | rfl | rfl | rfl | rfl | rfl | rfl <;> simp [topCell]) rfl rfl rfl (fun _ => rfl)
theorem Mem.setCut {w : World} {p c k : Nat} {s : Fl} (h : Mem w p c k s) (v : Int) : Mem (w.setCell ⟨p, 4, none⟩ (.int .i64 v)) p c k { s with cut := v } :=
  h.setTop 4 _ (fun i hi => by rcases top_split hi with rfl | rfl | rfl | rfl | rfl | rfl | rfl | rfl | rfl <;> simp [topCell]) rfl rfl rfl (fun _ => rfl)
theorem Mem.setFail {w : World} {p c k : Nat} {s : Fl} (h : Mem w p c k s) (v : Int) : Mem (w.setCell ⟨p, 5, none⟩ (.int .i64 v)) p c k { s with fail := v } :=
  h.setTop 5 _ (fun i hi => by rcases top_split hi with rfl | rfl | rfl | rfl | rfl | rfl | rfl | rfl | rfl <;> simp [topCell]) rfl rfl rfl (fun _ => rfl)
theorem Mem.setReads {w : World} {p c k : Nat} {s : Fl} (h : Mem w p c k s) (v : Nat) : Mem (w.setCell ⟨p, 6, none⟩ (.int .i64 v)) p c k { s with reads := v } :=
  h.setTop 6 _ (fun i hi => by rcases top_split hi with rfl | rfl | rfl | rfl | rfl | rfl | rfl | rfl | rfl <;> simp [topCell]) rfl rfl rfl (fun _ => rfl)
theorem Mem.setProgs {w : World} {p c k : Nat} {s : Fl} (h : Mem w p c k s) (v : Nat) : Mem (w.setCell ⟨p, 7, none⟩ (.int .i64 v)) p c k { s with progs := v } :=
  h.setTop 7 _ (fun i hi => by rcases top_split hi with rfl | rfl | rfl | rfl | rfl | rfl | rfl | rfl | rfl <;> simp [topCell]) rfl rfl rfl (fun _ => rfl)
theorem Mem.setErases {w : World} {p c k : Nat} {s : Fl} (h : Mem w p c k s) (v : Nat) : Mem (w.setCell ⟨p, 8, none⟩ (.int .i64 v)) p c k { s with erases := v } :=
  h.setTop 8 _ (fun i hi => by rcases top_split hi with rfl | rfl | rfl | rfl | rfl | rfl | rfl | rfl | rfl <;> simp [topCell]) rfl rfl rfl (fun _ => rfl)
theorem Mem.congr {w : World} {p c k : Nat} {s t : Fl} (h : Mem w p c k s) (e : s = t) : Mem w p c k t := e ▸ h
/-- Bytes from place o on are written. -/
theorem Mem.setCells {w : World} {p c k : Nat} {s : Fl} (h : Mem w p c k s) (o m : Nat) (g : Nat → Int) (hm : o + m ≤ s.B * s.P * 68) :
    Mem (w.setCells c o ((List.range m).map fun i => .int .u8 (g i))) p c k { s with cell := fun i => if o ≤ i ∧ i < o + m then g (i - o) else s.cell i } :=
  ⟨h.top.otherCells h.pc _ _, (h.cel.setCells o m _ hm).congr (fun i _ => by simp only []; split <;> simp_all), h.blk.otherCells (Ne.symm h.ck) _ _, h.pc, h.pk, h.ck⟩

theorem Mem.setCel {w : World} {p c k : Nat} {s t : Fl} (h : Mem w p c k s) (j : Nat) (x : Int) (e : ∀ i, (if i = j then x else s.cell i) = t.cell i)
    (hB : t.B = s.B) (hP : t.P = s.P) (hk : ∀ i, blkCell s i = blkCell t i) (ht : ∀ i, topCell c k s i = topCell c k t i) : Mem (w.setCell ⟨c, j, none⟩ (.int .u8 x)) p c k t :=
  ⟨(h.top.other (a := ⟨c, j, none⟩) h.pc _).congr (fun i _ => ht i), by rw [hB, hP]; refine (h.cel.set j _).congr (fun i _ => ?_); rw [← e i]; split <;> rfl, by rw [hB]; exact (h.blk.other (a := ⟨c, j, none⟩) (Ne.symm h.ck) _).congr (fun i _ => hk i), h.pc, h.pk, h.ck⟩

/-- What the walk wants of block b: its four cells. -/
theorem Mem.at {w : World} {p c k : Nat} {s : Fl} (h : Mem w p c k s) {b : Nat} (hb : b < s.B) :
    w.cell? ⟨k, b * 4, none⟩ = some (.bool (s.bad b)) ∧ w.cell? ⟨k, b * 4 + 1, none⟩ = some (.bool (s.torn b)) ∧ w.cell? ⟨k, b * 4 + 2, none⟩ = some (.int .i64 (s.next b)) ∧ w.cell? ⟨k, b * 4 + 3, none⟩ = some (.int .i64 (s.wear b)) ∧
    w.frozen? ⟨k, b * 4, none⟩ = false ∧ w.frozen? ⟨k, b * 4 + 1, none⟩ = false ∧ w.frozen? ⟨k, b * 4 + 2, none⟩ = false ∧ w.frozen? ⟨k, b * 4 + 3, none⟩ = false := by
  have h0 := h.blk (b * 4) (by omega)
  have h1 := h.blk (b * 4 + 1) (by omega)
  have h2 := h.blk (b * 4 + 2) (by omega)
  have h3 := h.blk (b * 4 + 3) (by omega)
  have d0 : b * 4 / 4 = b ∧ b * 4 % 4 = 0 := by omega
  have d1 : (b * 4 + 1) / 4 = b ∧ (b * 4 + 1) % 4 = 1 := by omega
  have d2 : (b * 4 + 2) / 4 = b ∧ (b * 4 + 2) % 4 = 2 := by omega
  have d3 : (b * 4 + 3) / 4 = b ∧ (b * 4 + 3) % 4 = 3 := by omega
  have e0 : blkCell s (b * 4) = .bool (s.bad b) := by unfold blkCell; rw [d0.1, d0.2]; rfl
  have e1 : blkCell s (b * 4 + 1) = .bool (s.torn b) := by unfold blkCell; rw [d1.1, d1.2]; rfl
  have e2 : blkCell s (b * 4 + 2) = .int .i64 (s.next b) := by unfold blkCell; rw [d2.1, d2.2]; rfl
  have e3 : blkCell s (b * 4 + 3) = .int .i64 (s.wear b) := by unfold blkCell; rw [d3.1, d3.2]; rfl
  rw [e0] at h0; rw [e1] at h1; rw [e2] at h2; rw [e3] at h3
  exact ⟨h0.1, h1.1, h2.1, h3.1, h0.2, h1.2, h2.2, h3.2⟩

theorem Mem.tops {w : World} {p c k : Nat} {s : Fl} (h : Mem w p c k s) :
    w.cell? ⟨p, 0, none⟩ = some (.int .i64 s.P) ∧ w.cell? ⟨p, 1, none⟩ = some (.slice (some ⟨c, 0, none⟩) (s.B * s.P * 68) (s.B * s.P * 68)) ∧ w.cell? ⟨p, 2, none⟩ = some (.slice (some ⟨k, 0, none⟩) s.B s.B) ∧
    w.cell? ⟨p, 3, none⟩ = some (.bool (!s.on)) ∧ w.cell? ⟨p, 4, none⟩ = some (.int .i64 s.cut) ∧ w.cell? ⟨p, 5, none⟩ = some (.int .i64 s.fail) :=
  ⟨(h.top 0 (by omega)).1, (h.top 1 (by omega)).1, (h.top 2 (by omega)).1, (h.top 3 (by omega)).1, (h.top 4 (by omega)).1, (h.top 5 (by omega)).1⟩
theorem Mem.stats {w : World} {p c k : Nat} {s : Fl} (h : Mem w p c k s) :
    w.cell? ⟨p, 6, none⟩ = some (.int .i64 s.reads) ∧ w.cell? ⟨p, 7, none⟩ = some (.int .i64 s.progs) ∧ w.cell? ⟨p, 8, none⟩ = some (.int .i64 s.erases) :=
  ⟨(h.top 6 (by omega)).1, (h.top 7 (by omega)).1, (h.top 8 (by omega)).1⟩
theorem Mem.free {w : World} {p c k : Nat} {s : Fl} (h : Mem w p c k s) : ∀ i, i < 9 → w.frozen? ⟨p, i, none⟩ = false := fun i hi => (h.top i hi).2

end Nd
end Go.Proofs.Ytjafjofonckaaaa
