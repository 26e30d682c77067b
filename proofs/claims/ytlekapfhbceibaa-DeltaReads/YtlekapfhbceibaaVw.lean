/-
  Rows of bytes, numbers of variable length: the calls of vint and the documents own, walked.
-/
import Derived.Test.YtlekapfhbceibaaSl
import Derived.Test.YtlekapfhbceibaaVm
import Derived.WalkKit
import Derived.ProofKit
import Derived.OpenShut
import Derived.ShutString
import Derived.ChangeOld
import Derived.Below
import Derived.Deep.OwnRows
import Derived.Laws.IdiomCopy
import Derived.Lib.SlBytesConst
import Derived.Lib.ConvBytes
import Derived.Laws.BytesArg
import Derived.SizedLaws
import Derived.ArgAppend
import Derived.BigQuiet
import Derived.Deep.RegionHeld3
namespace Go.Proofs.Ytlekapfhbceibaa
open Go.ChangeShapes Go.WideShapes Go.ChangeAt Go.RowKit
namespace Tg
open Vi
theorem Blk.congr {w : World} {b n : Nat} {f g : Nat → Value} (h : Blk w b n f) (e : ∀ i, i < n → f i = g i) : Blk w b n g := fun i hi => by rw [← e i hi]; exact h i hi
theorem Blk.drew {w : World} {b n : Nat} {f : Nat → Value} (h : Blk w b n f) : Blk w.drew b n f := h
theorem Blk.setCells {w : World} {b n : Nat} {f : Nat → Value} (h : Blk w b n f) (o m : Nat) (g : Nat → Value) (hm : o + m ≤ n) :
    Blk (w.setCells b o ((List.range m).map g)) b n (fun i => if o ≤ i ∧ i < o + m then g (i - o) else f i) := by
  intro i hi
  refine ⟨?_, by rw [World.frozen?_setCells]; exact (h i hi).2⟩
  by_cases e : o ≤ i ∧ i < o + m
  · simp only [if_pos e]
    have := World.cell?_setCells_in b ((List.range m).map g) o w (fun j hj => by rw [(h (o + j) (by simp at hj; omega)).1]; rfl) (i - o) (by simp; omega)
    rw [show o + (i - o) = i by omega] at this
    rw [this]
    simp
  · simp only [if_neg e]
    rw [World.cell?_setCells_out b _ o w ⟨b, i, none⟩ (fun _ _ => by simp; omega)]
    exact (h i hi).1
theorem heap_setCells (b : Nat) : ∀ (vs : List Value) (o : Nat) (w : World) (k : Nat), k ≠ b → (w.setCells b o vs).heap[k]? = w.heap[k]?
  | [], _, _, _, _ => rfl
  | v :: r, o, w, k, h => by rw [World.setCells, heap_setCells b r (o + 1) _ k h, Below.heap_setCell _ _ _ _ h]
theorem setCells_same (b : Nat) : ∀ (vs : List Value) (o : Nat) (w : World), (w.setCells b o vs).os = w.os ∧ (w.setCells b o vs).tape = w.tape ∧ (w.setCells b o vs).output = w.output ∧ (w.setCells b o vs).heap.size = w.heap.size
  | [], _, _ => ⟨rfl, rfl, rfl, rfl⟩
  | v :: r, o, w => by
    have := setCells_same b r (o + 1) (w.setCell ⟨b, o, none⟩ v)
    rw [World.setCells]
    refine ⟨this.1, this.2.1, this.2.2.1, ?_⟩
    rw [this.2.2.2]; simp [World.setCell]
theorem Blk.otherCells {w : World} {b n : Nat} {f : Nat → Value} (h : Blk w b n f) {x : Nat} (hx : b ≠ x) (o : Nat) (vs : List Value) : Blk (w.setCells x o vs) b n f := h.of_block (heap_setCells x vs o w b hx)
theorem Keep.drew {S : Nat → Prop} {a w : World} (h : Keep S a w) : Keep S a w.drew := ⟨h.os, h.tape, h.output, h.size, h.block⟩
theorem Keep.setCells {S : Nat → Prop} {a w : World} (h : Keep S a w) {b : Nat} (hp : S b ∨ a.heap.size ≤ b) (o : Nat) (vs : List Value) : Keep S a (w.setCells b o vs) := by
  obtain ⟨h1, h2, h3, h4⟩ := setCells_same b vs o w
  exact ⟨h1.trans h.os, h2.trans h.tape, h3.trans h.output, by rw [h4]; exact h.size, fun k hk hs => by
    rw [heap_setCells b vs o w k (fun e => by rcases hp with hp | hp; exact hs (e ▸ hp); omega)]; exact h.block k hk hs⟩
theorem Keep.below {S : Nat → Prop} {w w' : World} (h : Keep S w w') {B : Nat} (hB : B ≤ w.heap.size) (hS : ∀ k, S k → B ≤ k) : Below B w w' :=
  ⟨h.os, h.tape, h.output, h.size, fun k hk => h.block k (by omega) (fun e => by have := hS k e; omega)⟩
theorem Keep.of_below {S : Nat → Prop} {w w' : World} (h : Below w.heap.size w w') : Keep S w w' := ⟨h.os, h.tape, h.output, h.size, fun k hk _ => h.block k hk⟩
/-- A row of bytes in memory: nil, or cells that hold the numbers. -/
def Row (w : World) (a : Option Addr) (len cap : Nat) (l : List Int) : Prop :=
  l.length = len ∧ len ≤ cap ∧ cap ≤ 9223372036854775807 ∧ (∀ n ∈ l, 0 ≤ n ∧ n ≤ 255) ∧
  (len = 0 ∨ ∃ b o, a = some ⟨b, o, none⟩ ∧ ∀ i, i < len → w.cell? ⟨b, o + i, none⟩ = some (.int .u8 (l.getD i 0)))
theorem getD_bound {l : List Int} (h : ∀ n ∈ l, 0 ≤ n ∧ n ≤ 255) (k : Nat) : 0 ≤ l.getD k 0 ∧ l.getD k 0 ≤ 255 := by
  by_cases hk : k < l.length
  · have : l.getD k 0 = l[k] := by simp [List.getD, hk]
    rw [this]; exact h _ (List.getElem_mem hk)
  · have : l.getD k 0 = 0 := by simp [List.getD, hk]
    omega
/-- A row that has just been laid. -/
theorem row_new (w : World) (l : List Int) (fr : Nat × Nat) (g cap : Nat) (hg : g = w.heap.size) (hc : l.length ≤ cap) (hm : cap ≤ 9223372036854775807) (hb : ∀ n ∈ l, 0 ≤ n ∧ n ≤ 255) :
    Row (w.alloc (.cells (l.map (Value.int .u8)).toArray 5 fr)) (some ⟨g, 0, none⟩) l.length cap l := by
  subst hg
  refine ⟨rfl, hc, hm, hb, Or.inr ⟨_, _, rfl, fun i hi => ?_⟩⟩
  rw [Nat.zero_add, World.cell?_alloc_mark]
  simp [List.getD, hi]
theorem Row.keep {S : Nat → Prop} {w w' : World} {a : Option Addr} {len cap : Nat} {l : List Int} (h : Row w a len cap l) (k : Keep S w w') (hs : ∀ b o, a = some ⟨b, o, none⟩ → ¬ S b) : Row w' a len cap l := by
  obtain ⟨h1, h2, h3, h4, h5⟩ := h
  refine ⟨h1, h2, h3, h4, h5.imp id ?_⟩
  rintro ⟨b, o, rfl, hc⟩
  refine ⟨b, o, rfl, fun i hi => ?_⟩
  have := hc i hi
  rw [← this]
  exact World.cell?_of_block (w := w) (a := ⟨b, o + i, none⟩) (k.block b (World.block_lt_of_cell? w _ this) (hs b o rfl))
/-- Bytes become a text. -/
theorem Row.text {w : World} {a : Option Addr} {len cap : Nat} {l : List Int} (h : Row w a len cap l) : (convert 23 9 (.slice a len cap)).run Try.prog w = .ok (.string (strOfNums l)) w := by
  obtain ⟨h1, h2, h3, h4, h5⟩ := h
  rcases h5 with h0 | ⟨b, o, rfl, hc⟩
  · subst h0
    obtain rfl := List.eq_nil_of_length_eq_zero h1
    rw [run_convert_bytes_string w 23 9 5 _ _ _ Try.underlying23 Try.underlying5 Try.underlying9]
    cases a with
    | none => simp [Conv.bytesToString]; rfl
    | some x =>
      rw [run_bytesToString w x 0 cap [] (by simp [loadCells, loadCellsFrom])]
      rfl
  · exact run_convert_bytes_arg w 23 5 Try.underlying23 Try.underlying5 b o len cap l h1 hc 9 Try.underlying9
/-- A text becomes bytes, in a new row. -/
theorem text_row (w : World) (l : List Int) (hb : ∀ n ∈ l, 0 ≤ n ∧ n ≤ 255) (hl : l.length ≤ 9223372036854775807) :
    ∃ cap w1, (convert 9 23 (.string (strOfNums l))).run Try.prog w = .ok (.slice (some ⟨w.heap.size, 0, none⟩) l.length cap) w1 ∧
      Row w1 (some ⟨w.heap.size, 0, none⟩) l.length cap l ∧ Below w.heap.size w w1 ∧ w1.heap.size = w.heap.size + 1 ∧
      (∀ i, i < cap → (w1.cell? ⟨w.heap.size, i, none⟩).isSome = true ∧ w1.frozen? ⟨w.heap.size, i, none⟩ = false) := by
  have hsz : (strOfNums l).size = l.length := strOfNums_size l
  have hge := grownCap_ge w (strOfNums l).size 0 5
  have hle := grownCap_le_maxLen w (strOfNums l).size 0 5 (by rw [hsz]; exact hl)
  have hcs : (Lib.bytesCells w 5 (strOfNums l)).size = grownCap w (strOfNums l).size 0 5 := by
    simp [Lib.bytesCells]
    have := hsz
    simp only [ByteArray.size] at this
    omega
  refine ⟨grownCap w (strOfNums l).size 0 5, Lib.bytesWorld w 5 (strOfNums l), ?_, ?_, ?_, Lib.bytesWorld_size w 5 _, ?_⟩
  · rw [Lib.run_convert_string_bytes w 9 23 5 _ Try.underlying9 Try.underlying23 Try.underlying5, hsz]
  · refine ⟨rfl, by omega, hle, hb, Or.inr ⟨_, _, rfl, fun i hi => ?_⟩⟩
    rw [Nat.zero_add, Lib.bytesWorld_cell w 5 _ i (by omega), strOfNums_data]
    have hbd := hb l[i] (List.getElem_mem hi)
    simp [List.getD, hi]
    omega
  · exact ⟨rfl, rfl, rfl, by rw [Lib.bytesWorld_size]; omega, fun k hk => Lib.bytesWorld_at_old w 5 _ k hk⟩
  · intro i hi
    have hh := Lib.bytesWorld_at_new w 5 (strOfNums l)
    constructor
    · simp [World.cell?, hh, hcs, hi]
    · simp [World.frozen?, hh, hcs]
      omega
theorem info5 : (Try.prog.info? 5).map (fun i => (i.zero, i.size, i.bytes)) = some (some (.int .u8 0), 1, 1) := by kernel_rfl
/-- The row's whole room is there and may be written. -/
def Free (w : World) (g cap : Nat) : Prop := ∀ i, i < cap → (w.cell? ⟨g, i, none⟩).isSome = true ∧ w.frozen? ⟨g, i, none⟩ = false
theorem Free.keep {S : Nat → Prop} {w w' : World} {g cap : Nat} (h : Free w g cap) (k : Keep S w w') (hs : ¬ S g) : Free w' g cap := by
  intro i hi
  obtain ⟨h1, h2⟩ := h i hi
  obtain ⟨v, hv⟩ := Option.isSome_iff_exists.1 h1
  have e := k.block g (World.block_lt_of_cell? w _ hv) hs
  exact ⟨by rw [World.cell?_of_block (w := w) (a := ⟨g, i, none⟩) e]; exact h1, by rw [World.frozen?_of_block (w := w) (a := ⟨g, i, none⟩) e]; exact h2⟩
theorem Keep.of_grown {S : Nat → Prop} {w w' : World} (hg : w.grownBy w' none) : Keep S w w' := ⟨hg.os, hg.tape, hg.output, hg.size, fun k hk _ => hg.block k hk (by simp)⟩
theorem cells_at {w : World} {a : Addr} {l : List Int} (h : ∀ i, i < l.length → w.cell? (a.add i) = some (.int .u8 (l.getD i 0))) :
    ∀ j u, (l.map (Value.int .u8))[j]? = some u → w.cell? (a.add j) = some u := by
  intro j u hu
  have hj : j < l.length := by
    have := (List.getElem?_eq_some_iff.1 hu).1
    simpa using this
  rw [h j hj, ← hu]
  simp [List.getD, hj]
theorem getD_append_left (l m : List Int) (i : Nat) (h : i < l.length) : (l ++ m).getD i 0 = l.getD i 0 := by
  simp [List.getD, List.getElem?_append_left h]
theorem getD_append_right (l m : List Int) (i : Nat) : (l ++ m).getD (l.length + i) 0 = m.getD i 0 := by
  simp only [List.getD]
  rw [List.getElem?_append_right (by omega)]
  congr 2
  omega
/-- 'append' on a row of bytes of the call's own. -/
theorem append_rows (w : World) (g cap len : Nat) (l : List Int) (hr : Row w (some ⟨g, 0, none⟩) len cap l) (hfree : Free w g cap) 
    (a2 : Option Addr) (m c : Nat) (l2 : List Int) (hr2 : Row w a2 m c l2) (hlen : len + m ≤ 140737488355323) :
    ∃ g' cap' w2, (Builtin.append_ #[23, 23] 23 #[.slice (some ⟨g, 0, none⟩) len cap, .slice a2 m c]).run Try.prog w = .ok (.slice (some ⟨g', 0, none⟩) (len + m) cap') w2 ∧
      Row w2 (some ⟨g', 0, none⟩) (len + m) cap' (l ++ l2) ∧ Keep (fun b => b = g) w w2 ∧ (g' = g ∨ w.heap.size ≤ g') ∧ Free w2 g' cap' := by
  obtain ⟨i, hi, hz0, hz1, hz2⟩ := info_parts info5
  obtain ⟨h1, h2, h3, h4, h5⟩ := hr
  obtain ⟨k1, k2, k3, k4, k5⟩ := hr2
  have hcell : ∀ i, i < len → w.cell? ⟨g, i, none⟩ = some (.int .u8 (l.getD i 0)) := by
    rcases h5 with h0 | ⟨b, o, e, hc⟩
    · intro i hi; omega
    · simp only [Option.some.injEq, Addr.mk.injEq, and_true] at e
      obtain ⟨rfl, rfl⟩ := e
      intro i hi
      have := hc i hi
      rwa [Nat.zero_add] at this
  have hbd : ∀ n ∈ l ++ l2, 0 ≤ n ∧ n ≤ 255 := by
    intro n hn
    rcases List.mem_append.1 hn with h | h
    · exact h4 n h
    · exact k4 n h
  rcases k5 with hm0 | ⟨b2, o2, rfl, hc2⟩
  · subst hm0
    obtain rfl := List.eq_nil_of_length_eq_zero k1
    refine ⟨g, cap, w, ?_, ⟨by simp [h1], by omega, h3, hbd, Or.inr ⟨_, _, rfl, fun i hi => ?_⟩⟩, Keep.refl _ _, Or.inl rfl, hfree⟩
    · cases a2 with
      | none => simp [Builtin.append_, run_underlying Try.underlying23, sizeOf, typeInfo, hi, Builtin.lenOf, h2, Builtin.firstCells, Addr.add_lit, storeCells]
      | some x => simp [Builtin.append_, run_underlying Try.underlying23, sizeOf, typeInfo, hi, Builtin.lenOf, h2, Builtin.firstCells, loadCells, loadCellsFrom, Addr.add_lit, storeCells]
    · rw [Nat.zero_add, hcell i (by omega)]; simp
  · have hnews : ∀ j u, (l2.map (Value.int .u8))[j]? = some u → w.cell? ((⟨b2, o2, none⟩ : Addr).add j) = some u :=
      cells_at (a := ⟨b2, o2, none⟩) fun i hi => by rw [Addr.add_lit]; exact hc2 i (by omega)
    have holds : ∀ j u, (l.map (Value.int .u8))[j]? = some u → w.cell? ((⟨g, 0, none⟩ : Addr).add j) = some u :=
      cells_at (a := ⟨g, 0, none⟩) fun i hi => by rw [Addr.add_lit, Nat.zero_add]; exact hcell i (by omega)
    by_cases hroom : len + m ≤ cap
    · have hrun := run_append_room_cells (P := Try.prog) w 23 23 5 i Try.underlying23 hi g 0 len cap ⟨b2, o2, none⟩ m c (l2.map (Value.int .u8)) (by simp [k1, hz1]) hnews (ints_oneCell _ _) hroom
        (fun j hj => by rw [hz1, Nat.zero_add, Nat.mul_one]; exact (hfree (len + j) (by simp at hj; omega)).1)
        (fun j hj => by rw [hz1, Nat.zero_add, Nat.mul_one]; exact (hfree (len + j) (by simp at hj; omega)).2)
      rw [hz1, Nat.zero_add, Nat.mul_one] at hrun
      have hin := World.cell?_setCells_in g (l2.map (Value.int .u8)) len w (fun j hj => (hfree (len + j) (by simp at hj; omega)).1)
      refine ⟨g, cap, _, hrun, ⟨by simp [h1, k1], hroom, h3, hbd, Or.inr ⟨_, _, rfl, fun i hi => ?_⟩⟩, (Keep.refl (fun b => b = g) w).setCells (b := g) (Or.inl rfl) _ _, Or.inl rfl, fun i hi => ?_⟩
      · rw [Nat.zero_add]
        by_cases hil : i < len
        · rw [World.cell?_setCells_out g _ len w ⟨g, i, none⟩ (fun _ _ => Or.inl hil), hcell i hil, getD_append_left _ _ _ (by omega)]
        · have hj : i - len < l2.length := by omega
          have := hin (i - len) (by simpa using hj)
          have e : len + (i - len) = i := by omega
          rw [e] at this
          rw [this]
          have e2 : (l ++ l2).getD i 0 = l2.getD (i - len) 0 := by
            have := getD_append_right l l2 (i - len)
            rw [h1, e] at this
            exact this
          rw [e2]
          simp [List.getD, hj]
      · obtain ⟨f1, f2⟩ := hfree i hi
        refine ⟨?_, by rw [World.frozen?_setCells]; exact f2⟩
        by_cases hil : len ≤ i ∧ i < len + l2.length
        · have := hin (i - len) (by simp; omega)
          have e : len + (i - len) = i := by omega
          rw [e] at this
          rw [this]; rfl
        · rw [World.cell?_setCells_out g _ len w ⟨g, i, none⟩ (fun _ _ => by simp; omega)]; exact f1
    · obtain ⟨v', w', hrun, hown, hgrow⟩ := run_append_arg_grows (P := Try.prog) w 23 23 5 i (.int .u8 0) 1 1 Try.underlying23 hi hz0 hz1 hz2 rfl (by decide) ⟨g, 0, none⟩ len cap (l.map (Value.int .u8)) (by simp [h1]) holds
        ⟨b2, o2, none⟩ m c (l2.map (Value.int .u8)) (by simp [k1]) hnews (by omega) (by unfold maxLen; omega) (by omega)
      obtain ⟨hol, hcase⟩ := hown
      rcases hcase with ⟨_, h0⟩ | ⟨g', cap', cur, rfl, hg', hh, hn, hcm, hsz, htake⟩
      · omega
      · unfold maxLen at hcm
        have hcur : ∀ j, j < len + m → cur[j]? = some (.int .u8 ((l ++ l2).getD j 0)) := by
          intro j hj
          have e1 : (cur.toList.take ((len + m) * 1))[j]? = cur.toList[j]? := by rw [List.getElem?_take]; rw [if_pos (by omega)]
          rw [htake, ← List.map_append] at e1
          rw [← Array.getElem?_toList, ← e1]
          have : j < (l ++ l2).length := by simp; omega
          simp only [List.getElem?_map, List.getElem?_eq_getElem this, Option.map_some, List.getD, Option.getD_some]
        refine ⟨g', cap', w', hrun, ⟨by simp [h1, k1], hn, by omega, hbd, Or.inr ⟨_, _, rfl, fun i hi => ?_⟩⟩, Keep.of_grown hgrow, Or.inr (by omega), fun i hi => ?_⟩
        · rw [Nat.zero_add]
          simp only [World.cell?, hh]
          simpa using hcur i hi
        · have hi' : i < cur.size := by omega
          constructor
          · simp [World.cell?, hh, hi']
          · simp [World.frozen?, hh]
theorem Row.init {w : World} {a : Option Addr} {len cap : Nat} {l m : List Int} (h : Row w a (len + m.length) cap (l ++ m)) : Row w a len cap l := by
  obtain ⟨h1, h2, h3, h4, h5⟩ := h
  have hl : l.length = len := by simp at h1; omega
  refine ⟨hl, by omega, h3, fun n hn => h4 n (by simp [hn]), ?_⟩
  rcases h5 with h0 | ⟨b, o, rfl, hc⟩
  · left; omega
  · right
    exact ⟨b, o, rfl, fun i hi => by rw [hc i (by omega), getD_append_left _ _ _ (by omega)]⟩
theorem Row.cellAt {w : World} {g len cap : Nat} {l : List Int} (h : Row w (some ⟨g, 0, none⟩) len cap l) {i : Nat} (hi : i < len) : w.cell? ⟨g, i, none⟩ = some (.int .u8 (l.getD i 0)) := by
  rcases h.2.2.2.2 with h0 | ⟨b, o, e, hc⟩
  · omega
  · simp only [Option.some.injEq, Addr.mk.injEq, and_true] at e
    obtain ⟨rfl, rfl⟩ := e
    have := hc i hi
    rwa [Nat.zero_add] at this
/-- One byte is stored. -/
theorem Row.set {w : World} {g len cap : Nat} {l : List Int} (h : Row w (some ⟨g, 0, none⟩) len cap l) {i : Nat} (hi : i < len) {n : Int} (hn : 0 ≤ n ∧ n ≤ 255) :
    Row (w.setCell ⟨g, i, none⟩ (.int .u8 n)) (some ⟨g, 0, none⟩) len cap (l.set i n) := by
  have hc := fun j (hj : j < len) => h.cellAt hj
  obtain ⟨h1, h2, h3, h4, h5⟩ := h
  refine ⟨by simp [h1], h2, h3, fun m hm => ?_, Or.inr ⟨_, _, rfl, fun j hj => ?_⟩⟩
  · rcases List.mem_or_eq_of_mem_set hm with h | h
    · exact h4 m h
    · subst h; exact hn
  · rw [Nat.zero_add]
    by_cases e : j = i
    · subst e
      rw [World.cell?_setCell_same w _ _ (hc j hj)]
      simp [List.getD, h1, hj]
    · rw [World.cell?_setCell_other (h := fun x => e (congrArg Addr.off x).symm), hc j hj]
      simp [List.getD, Ne.symm e]
theorem Free.set {w : World} {g cap : Nat} (h : Free w g cap) (a : Addr) (v : Value) : Free (w.setCell a v) g cap := by
  intro i hi
  obtain ⟨h1, h2⟩ := h i hi
  constructor
  · by_cases e : a = ⟨g, i, none⟩
    · subst e
      rw [World.cell?_setCell_same' w _ v h1]; rfl
    · rw [World.cell?_setCell_other (h := e)]; exact h1
  · rw [World.frozen?_setCell]; exact h2
/-- The first n of a function's numbers. -/
def tab (n : Nat) (d : Nat → Int) : List Int := (List.range n).map d
theorem tab_len (n : Nat) (d : Nat → Int) : (tab n d).length = n := by simp [tab]
theorem tab_get {n i : Nat} (d : Nat → Int) (h : i < n) : (tab n d).getD i 0 = d i := by simp [tab, List.getD, h]
theorem tab_byte {n : Nat} {d : Nat → Int} (h : ∀ i, 0 ≤ d i ∧ d i ≤ 255) : ∀ x ∈ tab n d, 0 ≤ x ∧ x ≤ 255 := by
  intro x hx
  simp [tab] at hx
  obtain ⟨i, _, rfl⟩ := hx
  exact h i
theorem tab_append (n m : Nat) (d e : Nat → Int) : tab n d ++ tab m e = tab (n + m) (fun i => if i < n then d i else e (i - n)) := by
  unfold tab
  rw [List.range_add, List.map_append, List.map_map]
  congr 1
  · apply List.map_congr_left; intro i hi; simp at hi; simp [hi]
  · apply List.map_congr_left; intro i hi; simp; omega
theorem tab_congr {n : Nat} {d e : Nat → Int} (h : ∀ i, i < n → d i = e i) : tab n d = tab n e := by
  unfold tab; apply List.map_congr_left; intro i hi; exact h i (by simpa using hi)
/-- A row of a block's bytes. -/
theorem Blk.row {w : World} {b N : Nat} {d : Nat → Int} (h : Blk w b N (fun i => .int .u8 (d i))) (hd : ∀ i, 0 ≤ d i ∧ d i ≤ 255) (o n cap : Nat) (hn : o + n ≤ N) (hc : n ≤ cap) (hm : cap ≤ 9223372036854775807) :
    Row w (some ⟨b, o, none⟩) n cap (tab n (fun i => d (o + i))) :=
  ⟨tab_len _ _, hc, hm, tab_byte (fun i => hd _), Or.inr ⟨b, o, rfl, fun i hi => by rw [tab_get _ hi]; exact (h (o + i) (by omega)).1⟩⟩
theorem Row.blk {w : World} {g n cap : Nat} {d : Nat → Int} (h : Row w (some ⟨g, 0, none⟩) n cap (tab n d)) (f : Free w g cap) : Blk w g n (fun i => .int .u8 (d i)) := fun i hi =>
  ⟨by rw [h.cellAt hi, tab_get d hi], (f i (by have := h.2.1; omega)).2⟩
theorem len_any {v : Int} (hv : 0 ≤ v ∧ v ≤ 18446744073709551615) (w : World) : Calls Try.prog 52 #[.int .u64 v] w fun e w' => e = .returned (.int .i64 (vb v).length) ∧ w' = w := by
  go_enter Try.func52, Try.ntmps52
  go_wp2
  go_loop [0, 3] (fun u n => ∃ (x : Int) (k : Nat), 0 ≤ x ∧ x ≤ 18446744073709551615 ∧ u = .int .u64 x ∧ n = .int .i64 (k + 1) ∧ (vb v).length = k + (vb x).length) (fun u _ => (intOf u).toNat)
  case atStart => exact ⟨v, 0, hv.1, hv.2, rfl, rfl, by omega⟩
  case round =>
    obtain ⟨x, k, h0, h1, rfl, rfl, hl⟩ := hrel
    have hten := vb_ten hv.2
    by_cases hx : 128 ≤ x
    · rw [vb_big hx] at hl
      rw [List.length_cons] at hl
      have hk : (k : Int) ≤ 10 := by omega
      have HL : Go.RowKit.Hid ((vb v).length = k + ((vb (x / 128)).length + 1)) := hl
      clear hl hten
      go_wp2_with fail
      go_round
      case rel => exact ⟨x / 128, k + 1, by omega, by omega, rfl, by go_num, by have := HL.out; omega⟩
      case measure => simp [intOf]; omega
    · rw [vb_small hx] at hl
      have e : (k : Int) + 1 = (vb v).length := by simp at hl; omega
      have HL : Go.RowKit.Hid ((k : Int) + 1 = (vb v).length) := e
      clear hl hten e
      go_wp2_with fail
      go_ret
      exact ⟨by rw [← HL.out]; rfl, rfl⟩
theorem bnot {v : Int} (h : -9223372036854775808 ≤ v ∧ v ≤ 9223372036854775807) : bits .xor .i64 (-1) v = -v - 1 := by
  show IntKind.i64.wrap ((BitVec.ofInt 64 (-1) ^^^ BitVec.ofInt 64 v).toNat : Int) = _
  rw [show BitVec.ofInt 64 (-1) = BitVec.allOnes 64 by decide, BitVec.allOnes_xor, BitVec.toNat_not, BitVec.toNat_ofInt, IntKind.wrap_i64]
  omega
theorem fold_any {v : Int} (hv : -9223372036854775808 ≤ v ∧ v ≤ 9223372036854775807) (w : World) : Calls Try.prog 53 #[.int .i64 v] w fun e w' => e = .returned (.int .u64 (fold v)) ∧ w' = w := by
  unfold fold
  by_cases hneg : v < 0
  · rw [if_pos hneg]
    have hx := bnot hv
    have h1 : IntKind.u64.wrap (-v - 1) = -v - 1 := by rw [IntKind.wrap_u64]; omega
    have h2 : -2 * v - 1 = 2 * (-v - 1) + 1 := by omega
    rw [h2]
    clear h2
    have h0 : 0 ≤ -v - 1 ∧ -v - 1 ≤ 9223372036854775807 := by omega
    generalize -v - 1 = y at *
    have h3 : IntKind.u64.wrap (2 * y) = 2 * y := by rw [IntKind.wrap_u64]; omega
    have h4 : IntKind.u64.wrap (2 * y + 1) = 2 * y + 1 := by rw [IntKind.wrap_u64]; omega
    go_enter Try.func53, Try.ntmps53
    go_wp2
    go_ret
    exact ⟨rfl, rfl⟩
  · rw [if_neg hneg]
    have hpos : 0 ≤ v := by omega
    go_enter Try.func53, Try.ntmps53
    go_wp2
    go_ret
    exact ⟨rfl, rfl⟩
theorem unfold_any {u : Int} (hu : 0 ≤ u ∧ u ≤ 18446744073709551615) (w : World) : Calls Try.prog 59 #[.int .u64 u] w fun e w' => e = .returned (.int .i64 (Vi.unfold u)) ∧ w' = w := by
  unfold Vi.unfold
  by_cases hodd : u % 2 = 1
  · rw [if_pos hodd]
    have hx := bnot (v := u / 2) (by omega)
    go_enter Try.func59, Try.ntmps59
    go_wp2
    go_ret
    exact ⟨rfl, rfl⟩
  · rw [if_neg hodd]
    have hodd' : (u % 2 == 1) = false := by simpa using hodd
    go_enter Try.func59, Try.ntmps59
    go_wp2
    go_ret
    exact ⟨rfl, rfl⟩
theorem Keep.undrew' {S : Nat → Prop} {a w : World} (h : Keep S a.drew w) : Keep S a w := ⟨h.os, h.tape, h.output, h.size, h.block⟩
/-- A row of bytes of one's own that may grow. -/
structure Gr (w0 w : World) (g cap : Nat) (l : List Int) : Prop where
  row : Row w (some ⟨g, 0, none⟩) l.length cap l
  free : Free w g cap
  new : w0.heap.size ≤ g
  keep : Keep (fun _ => False) w0 w
theorem Gr.app {w0 w : World} {g cap : Nat} {l : List Int} (h : Gr w0 w g cap l) {n : Nat} (hn : l.length = n) {a2 : Option Addr} {m c : Nat} {l2 : List Int} (hr2 : Row w a2 m c l2) (hlen : n + m ≤ 140737488355323) :
    ∃ g' cap' w2, (Builtin.append_ #[23, 23] 23 #[.slice (some ⟨g, 0, none⟩) n cap, .slice a2 m c]).run Try.prog w = .ok (.slice (some ⟨g', 0, none⟩) (n + m) cap') w2 ∧ Gr w0 w2 g' cap' (l ++ l2) := by
  subst hn
  obtain ⟨g', cap', w2, hrun, hrow, hk, hg, hf⟩ := append_rows w g cap l.length l h.row h.free a2 m c l2 hr2 hlen
  have hm : (l ++ l2).length = l.length + m := by rw [List.length_append, hr2.1]
  have hn := h.new
  refine ⟨g', cap', w2, hrun, by rw [hm]; exact hrow, hf, ?_, h.keep.next hk (fun x hx e => by omega)⟩
  rcases hg with rfl | hg
  · exact hn
  · have := h.keep.size; omega
theorem Gr.drew {w0 w : World} {g cap : Nat} {l : List Int} (h : Gr w0 w g cap l) : Gr w0 w.drew g cap l := ⟨h.row.keep ((Keep.refl (fun _ => False) w).drew) (fun _ _ _ e => e), h.free.keep ((Keep.refl (fun _ => False) w).drew) (fun e => e), h.new, h.keep.drew⟩
theorem Gr.more {w0 w w' : World} {g cap : Nat} {l : List Int} (h : Gr w0 w g cap l) (k : Keep (fun _ => False) w w') : Gr w0 w' g cap l := ⟨h.row.keep k (fun _ _ _ e => e), h.free.keep k (fun e => e), h.new, h.keep.trans k⟩
theorem Gr.one {w0 w : World} {g cap : Nat} {l : List Int} (h : Gr w0 w g cap l) {n : Nat} (hn : l.length = n) {x : Int} (hx : 0 ≤ x ∧ x ≤ 255) (hlen : n + 1 ≤ 140737488355323) :
    ∃ g' cap' w2, (Builtin.append_ #[23, 23] 23 #[.slice (some ⟨g, 0, none⟩) n cap, .slice (some ⟨w.heap.size, 0, none⟩) 1 1]).run Try.prog (w.alloc (.cells #[.int .u8 x] 5)) = .ok (.slice (some ⟨g', 0, none⟩) (n + 1) cap') w2 ∧ Gr w0 w2 g' cap' (l ++ [x]) :=
  (h.more ((Keep.refl _ _).alloc _)).app hn (row_new w [x] (0, 0) w.heap.size 1 rfl (by simp) (by omega) (by simpa using hx)) hlen
/-- Room that has just been made. -/
theorem make_room (n : Nat) (hn : n ≤ 140737488355323) (w : World) : ∃ w', (Instr.makeSlice 23 (.int .i64 0) (.int .i64 (n : Int))).run Try.prog w = .ok (.slice (some ⟨w.heap.size, 0, none⟩) 0 n) w' ∧ Gr w w' w.heap.size n [] := by
  obtain ⟨i, hi, hz0, hz1, hz2⟩ := info_parts info5
  have hr := run_make (P := Try.prog) w 23 5 i (.int .u8 0) Try.underlying23 hi hz0 .i64 .i64 0 n (by omega) (by omega) (by rw [hz2]; omega) (by omega)
  rw [hz1, Nat.mul_one, Int.toNat_natCast] at hr
  refine ⟨_, hr, ⟨rfl, by simp, by omega, by simp, Or.inl rfl⟩, fun j hj => ?_, Nat.le_refl _, (Keep.refl _ _).alloc _⟩
  exact ⟨Option.isSome_iff_exists.2 ⟨_, (World.rowIs_made w (.int .u8 0) n 5).cell hj⟩, (World.rowIs_made w (.int .u8 0) n 5).frozen j⟩
theorem bor8 {x : Int} (h : 0 ≤ x ∧ x < 128) : bits .or .u8 x 128 = x + 128 := by
  obtain ⟨a, rfl⟩ := Int.eq_ofNat_of_zero_le h.1
  show IntKind.u8.wrap ((BitVec.ofInt 8 (a : Int) ||| BitVec.ofInt 8 128).toNat : Int) = _
  have h1 : a < 2 ^ 7 := by omega
  have e : (2 ^ 7 * 1 + a) = (2 ^ 7 * 1 ||| a) := Nat.two_pow_add_eq_or_of_lt h1 1
  rw [IntKind.wrap_u8, BitVec.toNat_or, BitVec.ofInt_natCast, BitVec.toNat_ofNat, Nat.mod_eq_of_lt (by omega), show (BitVec.ofInt 8 128).toNat = 2 ^ 7 * 1 by decide, Nat.or_comm, ← e]
  omega
/-- Put. -/
theorem put_any {w : World} {a : Option Addr} {len cap : Nat} {l : List Int} (hr : Row w a len cap l) {v : Int} (hv : 0 ≤ v ∧ v ≤ 18446744073709551615) (hl : len ≤ 140737488355300) :
    Calls Try.prog 40 #[.slice a len cap, .int .u64 v] w fun e w' => ∃ g cap', e = .returned (.slice (some ⟨g, 0, none⟩) (len + (vb v).length) cap') ∧ Gr w w' g cap' (l ++ vb v) := by
  have hten := vb_ten hv.2
  obtain ⟨w1, hmk, hG1⟩ := make_room (len + (vb v).length) (by omega) w
  obtain ⟨g2, cap2, w2, hrun2, hG2⟩ := hG1.app rfl (hr.keep hG1.keep (fun _ _ _ e => e)) (by simp; omega)
  rw [List.nil_append] at hG2
  simp only [List.length_nil, Nat.zero_add] at hrun2
  have hvl := len_any hv w
  go_enter Try.func40, Try.ntmps40
  go_wp2_with fail
  refine hvl.mono ?_
  rintro e w' ⟨rfl, rfl⟩
  rw [Int.natCast_add] at hmk
  go_wp2_with (at_builtin; refine wpList_append_run rfl (.tmp 12) (.tmp 13) 23 rfl (by rfl) (by rfl) hrun2 ?_)
  clear hrun2 hmk hvl hG1
  have hlen := hr.1
  go_loopw [1, 5] (fun u c wr => ∃ (x : Int) (g' cap' : Nat) (m : List Int), 0 ≤ x ∧ x ≤ 18446744073709551615 ∧ u = .int .u64 x ∧ c = .slice (some ⟨g', 0, none⟩) (len + m.length) cap' ∧ Gr w' wr g' cap' (l ++ m) ∧ vb v = m ++ vb x) (fun u _ _ => (intOf u).toNat)
  case atStart => exact ⟨v, g2, cap2, [], hv.1, hv.2, rfl, by simp, by simpa using hG2, by simp⟩
  case round =>
    obtain ⟨x, g', cap', m, h0, h1, rfl, rfl, hG, hm⟩ := hrel
    have hml : m.length ≤ 9 := by
      have h1 := congrArg List.length hm
      have h2 := vb_pos x
      rw [List.length_append] at h1
      omega
    have hll : (l ++ m).length = len + m.length := by rw [List.length_append, hlen]
    by_cases hx : 128 ≤ x
    · obtain ⟨g3, cap3, w3, hrun3, hG3⟩ := hG.one hll (x := x % 128 + 128) (by omega) (by omega)
      rw [vb_big hx] at hm
      have HM : Go.RowKit.Hid (vb v = m ++ (x % 128 + 128) :: vb (x / 128)) := hm
      have HL : Go.RowKit.Hid (l.length = len) := hlen
      have hb8 := bor8 (x := x % 128) (by omega)
      have hq : x % 128 % 256 = x % 128 := by omega
      clear hm hlen hll hG2
      go_wp2_with (at_builtin; refine wpList_append_run rfl (.tmp 17) (.tmp 22) 23 rfl (by rfl) (by rfl) hrun3 ?_)
      refine ⟨⟨x / 128, g3, cap3, m ++ [x % 128 + 128], by omega, by omega, rfl, by simp [Nat.add_assoc], by rw [← List.append_assoc]; exact hG3, by rw [HM.out]; simp⟩, by simp [intOf]; omega⟩
    · obtain ⟨g3, cap3, w3, hrun3, hG3⟩ := hG.one hll (x := x) (by omega) (by omega)
      rw [vb_small hx] at hm
      have HM : Go.RowKit.Hid (vb v = m ++ [x]) := hm
      have HL : Go.RowKit.Hid (l.length = len) := hlen
      have hq : x % 256 = x := by omega
      clear hm hlen hll hG2
      go_wp2_with (at_builtin; refine wpList_append_run rfl (.tmp 26) (.tmp 29) 23 rfl (by rfl) (by rfl) hrun3 ?_)
      go_ret
      rw [HM.out, ← List.append_assoc]
      refine ⟨g3, cap3, ?_, hG3⟩
      rw [List.length_append, ← Nat.add_assoc]
      rfl
theorem Gr.at {w0 w : World} {g cap : Nat} {l : List Int} (h : Gr w0 w g cap l) {n : Nat} (hn : l.length = n) : Row w (some ⟨g, 0, none⟩) n cap l := hn ▸ h.row
/-- PutInt. -/
theorem putint_any {w : World} {a : Option Addr} {len cap : Nat} {l : List Int} (hr : Row w a len cap l) {v : Int} (hv : -9223372036854775808 ≤ v ∧ v ≤ 9223372036854775807) (hl : len ≤ 140737488355300) :
    Calls Try.prog 41 #[.slice a len cap, .int .i64 v] w fun e w' => ∃ g cap', e = .returned (.slice (some ⟨g, 0, none⟩) (len + (vb (fold v)).length) cap') ∧ Gr w w' g cap' (l ++ vb (fold v)) := by
  have hf := fold_any hv w
  have hp := put_any hr (fold_bd hv) hl
  go_enter Try.func41, Try.ntmps41
  go_wp2_with fail
  refine hf.mono ?_
  rintro e w' ⟨rfl, rfl⟩
  go_wp2_with fail
  refine hp.mono ?_
  rintro e w2 ⟨g, cap', rfl, hG⟩
  go_wp2_with fail
  go_ret
  exact ⟨g, cap', rfl, hG⟩
theorem pow7 (k : Nat) : (2 : Int) ^ (7 * k) = 128 ^ k := by rw [Int.pow_mul]; rfl
theorem bor64 (a b : Nat) (ha : a < 18446744073709551616) (hb : b < 18446744073709551616) : bits .or .u64 (a : Int) (b : Int) = ((a ||| b : Nat) : Int) := by
  show IntKind.u64.wrap ((BitVec.ofInt 64 (a : Int) ||| BitVec.ofInt 64 (b : Int)).toNat : Int) = _
  have h1 : (a ||| b) < 2 ^ 64 := Nat.or_lt_two_pow ha hb
  rw [IntKind.wrap_u64, BitVec.toNat_or, BitVec.ofInt_natCast, BitVec.ofInt_natCast, BitVec.toNat_ofNat, BitVec.toNat_ofNat, Nat.mod_eq_of_lt ha, Nat.mod_eq_of_lt hb]
  omega
theorem digit_bd {x : Int} {k : Nat} (hx : 0 ≤ x ∧ x ≤ 127) (hk : k ≤ 9) (h9 : k = 9 → x ≤ 1) : 0 ≤ x * 128 ^ k ∧ x * 128 ^ k + 128 ^ k ≤ 18446744073709551616 := by
  have hp := pow_pos' k
  refine ⟨Int.mul_nonneg hx.1 (by omega), ?_⟩
  by_cases e : k = 9
  · have := h9 e
    rw [e, nine]; omega
  · have hle : (128 : Int) ^ k ≤ 128 ^ 8 := by
      have : (128 : Nat) ^ k ≤ 128 ^ 8 := Nat.pow_le_pow_right (by omega) (by omega)
      exact_mod_cast this
    have h8 : (128 : Int) ^ 8 = 72057594037927936 := by decide
    have : x * 128 ^ k ≤ 127 * 128 ^ k := Int.mul_le_mul_of_nonneg_right (by omega) (by omega)
    omega
theorem or_digit {s x : Int} {k : Nat} (h0 : 0 ≤ s) (h1 : s < 128 ^ k) (hx : 0 ≤ x ∧ x ≤ 127) (hk : k ≤ 9) (h9 : k = 9 → x ≤ 1) : bits .or .u64 s (IntKind.u64.wrap (x * 2 ^ (7 * k))) = s + x * 128 ^ k := by
  have hd := digit_bd hx hk h9
  have hp := pow_pos' k
  rw [IntKind.wrap_u64, pow7, Int.emod_eq_of_lt hd.1 (by omega)]
  obtain ⟨a, rfl⟩ := Int.eq_ofNat_of_zero_le h0
  obtain ⟨b, rfl⟩ := Int.eq_ofNat_of_zero_le hx.1
  have e : ((b : Int) * 128 ^ k) = ((2 ^ (7 * k) * b : Nat) : Int) := by
    rw [← pow7]; push_cast; rw [Int.mul_comm]
  have ha : a < 2 ^ (7 * k) := by
    rw [← pow7] at h1
    exact_mod_cast h1
  rw [e] at hd ⊢
  rw [bor64 a _ (by omega) (by omega), Nat.or_comm, ← Nat.two_pow_add_eq_or_of_lt ha]
  push_cast; omega
theorem drop_atV {l : List Int} {k : Nat} (h : k < l.length) : l.drop k = l.getD k 0 :: l.drop (k + 1) := by
  rw [List.drop_eq_getElem_cons h]; simp [List.getD, h]
theorem gv_none {l : List Int} (h : vg 0 0 l = none) : gv l = 0 ∧ gn l = 0 ∧ ge l = 11 := by simp [gv, gn, ge, h]
theorem gv_some {l : List Int} {v : Int} {n : Nat} (h : vg 0 0 l = some (v, n)) : gv l = v ∧ gn l = n ∧ ge l = 0 := by simp [gv, gn, ge, h]
theorem get_any {w : World} {a : Option Addr} {len cap : Nat} {l : List Int} (hr : Row w a len cap l) :
    Calls Try.prog 56 #[.slice a len cap] w fun e w' => e = .returned (.tuple #[.int .u64 (gv l), .int .i64 (gn l), .int .i64 (ge l)]) ∧ w' = w := by
  obtain ⟨h1, h2, h3, h4, h5⟩ := hr
  have hlen : (len : Int) ≤ 9223372036854775807 := by omega
  go_enter Try.func56, Try.ntmps56
  go_wp2
  go_loop [5, 10] (fun c i => ∃ (k : Nat) (s : Int), k ≤ len ∧ k ≤ 9 ∧ i = .int .i64 k ∧ c = .int .u64 s ∧ 0 ≤ s ∧ s < 128 ^ k ∧ vg 0 0 l = vg k s (l.drop k)) (fun _ i => len - (intOf i).toNat)
  case atStart => exact ⟨0, 0, by omega, by omega, rfl, rfl, by omega, by simp, by simp⟩
  case round =>
    obtain ⟨k, s, hk, hk9, rfl, rfl, s0, s1, hg⟩ := hrel
    by_cases hlt : k < len
    · rcases h5 with h0 | ⟨b, o, rfl, hc⟩
      · omega
      have hck := hc k hlt
      rw [drop_atV (by omega)] at hg
      have hb := getD_bound h4 k
      generalize l.getD k 0 = x at hck hg hb
      have HS : Go.RowKit.Hid (s < 128 ^ k) := s1
      clear hc s1 h1 h4
      simp only [vg] at hg
      by_cases c1 : k = 9 ∧ 1 < x
      · rw [if_pos c1] at hg
        obtain ⟨rfl, c1⟩ := c1
        have HE : Go.RowKit.Hid (gv l = 0 ∧ gn l = 0 ∧ ge l = 11) := gv_none hg
        clear hg
        go_wp2_with fail
        go_ret3
        exact ⟨by rw [HE.out.1, HE.out.2.1, HE.out.2.2]; rfl, rfl⟩
      · rw [if_neg c1] at hg
        have h9 : k = 9 → x % 128 ≤ 1 := fun e => by omega
        have HO : Go.RowKit.Hid (bits .or .u64 s (IntKind.u64.wrap (x % 128 * 2 ^ (7 * k))) = s + x % 128 * 128 ^ k) := or_digit s0 HS.out (by omega) hk9 h9
        have HD := digit_bd (x := x % 128) (k := k) (by omega) hk9 h9
        have HP : Go.RowKit.Hid (0 ≤ x % 128 * 128 ^ k ∧ x % 128 * 128 ^ k + 128 ^ k ≤ 18446744073709551616) := HD
        have HC : Go.RowKit.Hid (¬ (k = 9 ∧ 1 < x)) := c1
        clear h9 HD
        by_cases c2 : 128 ≤ x
        · rw [if_pos c2] at hg
          have hk8 : (k : Int) < 9 := by omega
          have HG : Go.RowKit.Hid (vg 0 0 l = vg (k + 1) (s + x % 128 * 128 ^ k) (l.drop (k + 1))) := hg
          clear hg c1
          have hk9' : ¬ (k : Int) = 9 := by omega
          go_wp2_with fail
          go_round
          case rel =>
            refine ⟨k + 1, s + x % 128 * 128 ^ k, by omega, by omega, by go_num, by rw [← HO.out], ?_, ?_, HG.out⟩
            · have := HP.out; omega
            · have hs := HS.out
              have hm : x % 128 * 128 ^ k ≤ 127 * 128 ^ k := Int.mul_le_mul_of_nonneg_right (by omega) (by have := pow_pos' k; omega)
              rw [Int.pow_succ]; omega
          case measure => simp [intOf]; omega
        · rw [if_neg c2] at hg
          by_cases c3 : x = 0 ∧ 0 < k
          · rw [if_pos c3] at hg
            obtain ⟨rfl, c3⟩ := c3
            have HE : Go.RowKit.Hid (gv l = 0 ∧ gn l = 0 ∧ ge l = 11) := gv_none hg
            clear hg c1
            by_cases hk9' : k = 9
            · subst hk9'
              go_wp2_with fail
              go_ret3
              exact ⟨by rw [HE.out.1, HE.out.2.1, HE.out.2.2]; rfl, rfl⟩
            · have hk9'' : ¬ (k : Int) = 9 := by omega
              have hkp : (0 : Int) < k := by omega
              go_wp2_with fail
              go_ret3
              exact ⟨by rw [HE.out.1, HE.out.2.1, HE.out.2.2]; rfl, rfl⟩
          · rw [if_neg c3] at hg
            have HE : Go.RowKit.Hid (gv l = s + x % 128 * 128 ^ k ∧ gn l = ((k + 1 : Nat) : Int) ∧ ge l = 0) := gv_some hg
            clear hg c1
            by_cases hk9' : k = 9
            · subst hk9'
              obtain rfl : x = 1 := by have := HC.out; omega
              have HO2 : Go.RowKit.Hid (bits .or .u64 s 9223372036854775808 = s + 1 % 128 * 128 ^ 9) := HO.out
              go_wp2_with fail
              go_ret3
              exact ⟨by rw [HE.out.1, HE.out.2.1, HE.out.2.2, ← HO2.out]; rfl, rfl⟩
            · have hk9'' : ¬ (k : Int) = 9 := by omega
              by_cases hx0 : x = 0
              · obtain rfl : k = 0 := by omega
                subst hx0
                obtain rfl : s = 0 := by have := HS.out; simp at this; omega
                rw [Nat.add_zero] at hck
                go_wp2_with fail
                go_ret3
                exact ⟨by rw [HE.out.1, HE.out.2.1, HE.out.2.2]; rfl, rfl⟩
              · go_wp2_with fail
                go_ret3
                exact ⟨by rw [HE.out.1, HE.out.2.1, HE.out.2.2, ← HO.out]; rfl, rfl⟩
    · obtain rfl : k = len := by omega
      rw [List.drop_eq_nil_of_le (by omega)] at hg
      have HE : Go.RowKit.Hid (gv l = 0 ∧ gn l = 0 ∧ ge l = 11) := gv_none (by rw [hg]; rfl)
      clear hg
      go_wp2_with fail
      go_ret3
      exact ⟨by rw [HE.out.1, HE.out.2.1, HE.out.2.2]; rfl, rfl⟩
/-- The int that bytes begin with (0: none). -/
def gi (l : List Int) : Int := if (vg 0 0 l).isSome then Vi.unfold (gv l) else 0
theorem gi_none {l : List Int} (h : vg 0 0 l = none) : gi l = 0 := by simp [gi, h]
theorem gi_some {l : List Int} {v : Int} {n : Nat} (h : vg 0 0 l = some (v, n)) : gi l = Vi.unfold v := by simp [gi, h, gv]
theorem getint_any {w : World} {a : Option Addr} {len cap : Nat} {l : List Int} (hr : Row w a len cap l) :
    Calls Try.prog 54 #[.slice a len cap] w fun e w' => e = .returned (.tuple #[.int .i64 (gi l), .int .i64 (gn l), .int .i64 (ge l)]) ∧ w' = w := by
  have hg := get_any hr
  cases h : vg 0 0 l with
  | none =>
    obtain ⟨e1, e2, e3⟩ := gv_none h
    rw [gi_none h, e2, e3]
    rw [e1, e2, e3] at hg
    clear h e1 e2 e3
    go_enter Try.func54, Try.ntmps54
    go_wp2_with fail
    refine hg.mono ?_
    rintro e w' ⟨rfl, rfl⟩
    go_wp2_with fail
    go_ret3
    exact ⟨rfl, rfl⟩
  | some p =>
    obtain ⟨v, n⟩ := p
    obtain ⟨e1, e2, e3⟩ := gv_some h
    obtain ⟨b1, b2, b3, b4⟩ := put_get hr.2.2.2.1 h
    have hu := unfold_any ⟨b1, b2⟩ w
    rw [gi_some h, e2, e3]
    rw [e1, e2, e3] at hg
    clear h e1 e2 e3 b3 b4
    go_enter Try.func54, Try.ntmps54
    go_wp2_with fail
    refine hg.mono ?_
    rintro e w' ⟨rfl, rfl⟩
    go_wp2_with fail
    refine hu.mono ?_
    rintro e w' ⟨rfl, rfl⟩
    go_wp2_with fail
    go_ret3
    exact ⟨rfl, rfl⟩
theorem rof_any {v : Int} (hv : -9223372036854775808 ≤ v ∧ v ≤ 9223372036854775807) (w : World) : Calls Try.prog 46 #[.int .i64 v] w fun e w' => e = .returned (.int .u64 (fold v)) ∧ w' = w := by
  unfold fold
  by_cases hneg : v < 0
  · rw [if_pos hneg]
    have hneg' : ¬ 0 ≤ v := by omega
    have h2 : -2 * v - 1 = 2 * (-(v + 1)) + 1 := by omega
    rw [h2]
    have h0 : -9223372036854775807 ≤ v + 1 ∧ v + 1 ≤ 0 := by omega
    clear h2
    have e1 : IntKind.i64.wrap (v + 1) = v + 1 := by rw [IntKind.wrap_i64]; omega
    have e2 : IntKind.i64.wrap (-(v + 1)) = -(v + 1) := by rw [IntKind.wrap_i64]; omega
    have e3 : IntKind.u64.wrap (-(v + 1)) = -(v + 1) := by rw [IntKind.wrap_u64]; omega
    have e4 : IntKind.u64.wrap (2 * -(v + 1)) = 2 * -(v + 1) := by rw [IntKind.wrap_u64]; omega
    have e5 : IntKind.u64.wrap (2 * -(v + 1) + 1) = 2 * -(v + 1) + 1 := by rw [IntKind.wrap_u64]; omega
    go_enter Try.func46, Try.ntmps46
    go_wp2
    go_ret
    exact ⟨rfl, rfl⟩
  · rw [if_neg hneg]
    have hpos : 0 ≤ v := by omega
    go_enter Try.func46, Try.ntmps46
    go_wp2
    go_ret
    exact ⟨rfl, rfl⟩
theorem rint_any {u : Int} (hu : 0 ≤ u ∧ u ≤ 18446744073709551615) (w : World) : Calls Try.prog 58 #[.int .u64 u] w fun e w' => e = .returned (.int .i64 (Vi.unfold u)) ∧ w' = w := by
  unfold Vi.unfold
  by_cases hodd : u % 2 = 1
  · rw [if_pos hodd]
    go_enter Try.func58, Try.ntmps58
    go_wp2
    go_ret
    exact ⟨rfl, rfl⟩
  · rw [if_neg hodd]
    have hodd' : u % 2 = 0 := by omega
    go_enter Try.func58, Try.ntmps58
    go_wp2
    go_ret
    exact ⟨rfl, rfl⟩
theorem Gr.lit (w : World) {x : Int} (hx : 0 ≤ x ∧ x ≤ 255) : Gr w (w.alloc (.cells #[.int .u8 x] 5)) w.heap.size 1 [x] := by
  refine ⟨row_new w [x] (0, 0) w.heap.size 1 rfl (by simp) (by omega) (by simpa using hx), fun i hi => ?_, Nat.le_refl _, (Keep.refl _ _).alloc _⟩
  obtain rfl : i = 0 := by omega
  exact ⟨by rw [World.cell?_alloc_mark]; rfl, World.frozen?_alloc_new w _ 5 0⟩
theorem rput_any (v : Int) : ∀ (w : World), (0 ≤ v ∧ v ≤ 18446744073709551615) → Calls Try.prog 30 #[.int .u64 v] w fun e w' => ∃ g cap, e = .returned (.slice (some ⟨g, 0, none⟩) (vb v).length cap) ∧ Gr w w' g cap (vb v) := by
  refine vb_ind (P := fun v => ∀ (w : World), (0 ≤ v ∧ v ≤ 18446744073709551615) → Calls Try.prog 30 #[.int .u64 v] w fun e w' => ∃ g cap, e = .returned (.slice (some ⟨g, 0, none⟩) (vb v).length cap) ∧ Gr w w' g cap (vb v)) ?_ ?_ v
  · intro v hs w hv
    rw [vb_small hs]
    have hq : v % 256 = v := by omega
    have hlt : v < 128 := by omega
    have hL := Gr.lit w (x := v) (by omega)
    go_enter Try.func30, Try.ntmps30
    go_wp2
    go_ret
    exact ⟨_, _, rfl, hL⟩
  · intro v hb ih w hv
    have hge : ¬ v < 128 := by omega
    have hL := Gr.lit w (x := v % 128 + 128) (by omega)
    have hi := ih (w.alloc (.cells #[.int .u8 (v % 128 + 128)] 5)) (by omega)
    have hq : v % 128 % 256 = v % 128 := by omega
    have hw8 : IntKind.u8.wrap (v % 128 + 128) = v % 128 + 128 := by rw [IntKind.wrap_u8]; omega
    rw [vb_big hb]
    have hten := vb_ten (v := v / 128) (by omega)
    clear ih
    go_enter Try.func30, Try.ntmps30
    go_wp2_with fail
    refine hi.mono ?_
    rintro e w2 ⟨g, cap, rfl, hG⟩
    obtain ⟨g3, cap3, w3, hrun, hG3⟩ := (hL.more hG.keep).app rfl hG.row (by simp; omega)
    clear hi
    simp only [List.length_cons, List.length_nil, Nat.zero_add] at hrun
    go_wp2_with (at_builtin; refine wpList_append_run rfl (.tmp 12) (.tmp 15) 23 rfl (by rfl) (by rfl) hrun ?_)
    go_ret
    exact ⟨g3, cap3, congrArg (fun n => Ending.returned (.slice (some ⟨g3, 0, none⟩) n cap3)) (Nat.add_comm 1 _), hG3⟩
theorem add_digit {s x : Int} {k : Nat} (h0 : 0 ≤ s) (h1 : s < 128 ^ k) (hx : 0 ≤ x ∧ x ≤ 127) (hk : k ≤ 9) (h9 : k = 9 → x ≤ 1) : IntKind.u64.wrap (s + IntKind.u64.wrap (x * 2 ^ (7 * k))) = s + x * 128 ^ k := by
  have hd := digit_bd hx hk h9
  have hp := pow_pos' k
  rw [IntKind.wrap_u64, IntKind.wrap_u64, pow7, Int.emod_eq_of_lt hd.1 (by omega), Int.emod_eq_of_lt (by omega) (by omega)]
theorem rget_any {w : World} {a : Option Addr} {len cap : Nat} {l : List Int} (hr : Row w a len cap l) :
    Calls Try.prog 57 #[.slice a len cap] w fun e w' => (∃ (x m : Int), e = .returned (.tuple #[.int .u64 x, .int .i64 m, .bool (vg 0 0 l).isSome]) ∧ ((vg 0 0 l).isSome = true → x = gv l ∧ m = gn l)) ∧ w' = w := by
  obtain ⟨h1, h2, h3, h4, h5⟩ := hr
  have hlen : (len : Int) ≤ 9223372036854775807 := by omega
  go_enter Try.func57, Try.ntmps57
  go_wp2
  go_loop [5, 6] (fun c i => ∃ (k : Nat) (s : Int), k ≤ len ∧ k ≤ 10 ∧ i = .int .i64 k ∧ ((k = 10 ∧ vg 0 0 l = none ∧ ∃ s', c = .int .u64 s') ∨ (k ≤ 9 ∧ c = .int .u64 s ∧ 0 ≤ s ∧ s < 128 ^ k ∧ vg 0 0 l = vg k s (l.drop k)))) (fun _ i => len - (intOf i).toNat)
  case atStart => exact ⟨0, 0, by omega, by omega, rfl, Or.inr ⟨by omega, rfl, by omega, by simp, by simp⟩⟩
  case round =>
    obtain ⟨k, s, hk, hk10, rfl, hcase⟩ := hrel
    rcases hcase with ⟨rfl, hg, s', rfl⟩ | ⟨hk9, rfl, s0, s1, hg⟩
    · have HG : Go.RowKit.Hid (vg 0 0 l = none) := hg
      clear hg
      by_cases hlt : (10 : Int) < len
      · go_wp2_with fail
        go_ret3
        exact ⟨⟨0, 0, by rw [HG.out]; rfl, fun e => by rw [HG.out] at e; cases e⟩, rfl⟩
      · have hlt' : decide ((10 : Int) < len) = false := by simpa using hlt
        go_wp2_with fail
        go_ret3
        exact ⟨⟨0, 0, by rw [HG.out]; rfl, fun e => by rw [HG.out] at e; cases e⟩, rfl⟩
    have hk10' : (k : Int) < 10 := by omega
    by_cases hlt : k < len
    · rcases h5 with h0 | ⟨b, o, rfl, hc⟩
      · omega
      have hck := hc k hlt
      rw [drop_atV (by omega)] at hg
      have hb := getD_bound h4 k
      generalize l.getD k 0 = x at hck hg hb
      have HS : Go.RowKit.Hid (s < 128 ^ k) := s1
      clear hc s1 h1 h4
      simp only [vg] at hg
      have hlt' : (k : Int) < len := by omega
      by_cases c0 : k = 9 ∧ 1 < x % 128
      · rw [if_pos (by omega)] at hg
        have HG : Go.RowKit.Hid (vg 0 0 l = none) := hg
        clear hg
        obtain ⟨rfl, c0⟩ := c0
        go_wp2_with fail
        go_ret3
        exact ⟨⟨0, 0, by rw [HG.out]; rfl, fun e => by rw [HG.out] at e; cases e⟩, rfl⟩
      have h9 : k = 9 → x % 128 ≤ 1 := fun e => by omega
      have HO : Go.RowKit.Hid (IntKind.u64.wrap (s + IntKind.u64.wrap (x % 128 * 2 ^ (7 * k))) = s + x % 128 * 128 ^ k) := add_digit s0 HS.out (by omega) hk9 h9
      have HP : Go.RowKit.Hid (0 ≤ x % 128 * 128 ^ k ∧ x % 128 * 128 ^ k + 128 ^ k ≤ 18446744073709551616) := digit_bd (x := x % 128) (k := k) (by omega) hk9 h9
      have HC : Go.RowKit.Hid (¬ (k = 9 ∧ 1 < x % 128)) := c0
      clear h9
      by_cases c1 : k = 9 ∧ 1 < x
      · rw [if_pos c1] at hg
        have HG : Go.RowKit.Hid (vg 0 0 l = none) := hg
        clear hg
        obtain ⟨rfl, c1⟩ := c1
        have c2 : 128 ≤ x := by have := HC.out; omega
        have c3 : x % 128 ≤ 1 := by have := HC.out; omega
        clear c0
        go_wp2_with fail
        go_round
        case rel => exact ⟨10, 0, by omega, by omega, rfl, Or.inl ⟨rfl, HG.out, _, rfl⟩⟩
        case measure => simp [intOf]; omega
      · rw [if_neg c1] at hg
        clear c0
        by_cases c2 : 128 ≤ x
        · rw [if_pos c2] at hg
          have hk9' : ¬ (k : Int) = 9 := by omega
          have HG : Go.RowKit.Hid (vg 0 0 l = vg (k + 1) (s + x % 128 * 128 ^ k) (l.drop (k + 1))) := hg
          clear hg c1
          go_wp2_with fail
          go_round
          case rel =>
            refine ⟨k + 1, s + x % 128 * 128 ^ k, by omega, by omega, by go_num, Or.inr ⟨by omega, by rw [← HO.out], ?_, ?_, HG.out⟩⟩
            · have := HP.out; omega
            · have hs := HS.out
              have hm : x % 128 * 128 ^ k ≤ 127 * 128 ^ k := Int.mul_le_mul_of_nonneg_right (by omega) (by have := pow_pos' k; omega)
              rw [Int.pow_succ]; omega
          case measure => simp [intOf]; omega
        · rw [if_neg c2] at hg
          by_cases c3 : x = 0 ∧ 0 < k
          · rw [if_pos c3] at hg
            obtain ⟨rfl, c3⟩ := c3
            have HG : Go.RowKit.Hid (vg 0 0 l = none) := hg
            clear hg c1
            by_cases hk9' : k = 9
            · subst hk9'
              go_wp2_with fail
              go_ret3
              exact ⟨⟨_, _, by rw [HG.out]; rfl, fun e => by rw [HG.out] at e; cases e⟩, rfl⟩
            · have hk9'' : ¬ (k : Int) = 9 := by omega
              have hkp : ¬ (k : Int) = 0 := by omega
              have hkb : ((k : Int) == 0) = false := by simpa using hkp
              go_wp2_with fail
              go_ret3
              exact ⟨⟨_, _, by rw [HG.out]; rfl, fun e => by rw [HG.out] at e; cases e⟩, rfl⟩
          · rw [if_neg c3] at hg
            have HE : Go.RowKit.Hid (gv l = s + x % 128 * 128 ^ k ∧ gn l = ((k + 1 : Nat) : Int) ∧ ge l = 0) := gv_some hg
            have HG : Go.RowKit.Hid ((vg 0 0 l).isSome = true) := by show (vg 0 0 l).isSome = true; rw [hg]; rfl
            clear hg c1
            by_cases hk9' : k = 9
            · subst hk9'
              obtain rfl : x = 1 := by have := HC.out; omega
              go_wp2_with fail
              go_ret3
              exact ⟨⟨_, _, by rw [HG.out]; rfl, fun _ => ⟨by rw [HE.out.1, ← HO.out]; rfl, by rw [HE.out.2.1]; rfl⟩⟩, rfl⟩
            · have hk9'' : ¬ (k : Int) = 9 := by omega
              by_cases hx0 : x = 0
              · obtain rfl : k = 0 := by omega
                subst hx0
                obtain rfl : s = 0 := by have := HS.out; simp at this; omega
                rw [Nat.add_zero] at hck
                go_wp2_with fail
                go_ret3
                exact ⟨⟨_, _, by rw [HG.out]; rfl, fun _ => ⟨by rw [HE.out.1]; rfl, by rw [HE.out.2.1]; rfl⟩⟩, rfl⟩
              · have hxp : 0 < x := by omega
                go_wp2_with fail
                go_ret3
                exact ⟨⟨_, _, by rw [HG.out]; rfl, fun _ => ⟨by rw [HE.out.1, ← HO.out], by rw [HE.out.2.1]; rfl⟩⟩, rfl⟩
    · obtain rfl : k = len := by omega
      rw [List.drop_eq_nil_of_le (by omega)] at hg
      have HG : Go.RowKit.Hid (vg 0 0 l = none) := hg
      clear hg
      go_wp2_with fail
      go_ret3
      exact ⟨⟨0, 0, by rw [HG.out]; rfl, fun e => by rw [HG.out] at e; cases e⟩, rfl⟩
theorem enters {P : Program} {f : FuncId} {fn : Func} (hf : P.funcs[f]? = some fn) (hname : (fn.name == "runtime.NumGoroutine") = false) (hb : fn.body.isSome = true) (args : Array Value) (w : World) :
    (callFunc f args).run P w = .ok (.enter f args) w := by
  obtain ⟨c, hc⟩ := Option.isSome_iff_exists.1 hb
  simp [callFunc, go_sem, hf, hc]
  intro h; simp [h] at hname
theorem step_call_want {P : Program} {ops : Array Oper} {o : Oper} {a : Act} {w : World} {K : Act → World → Prop} {Q : Exit → Act → World → Prop} {E : Prop}
    (hw : Region.wanted o (yielded ops a.tmps) = true) (f : FuncId) (xs : Array Operand) (ts : Array TypeId) (hop : o.op = Op.call { callee := Callee.value (.func f), args := xs, argTypes := ts })
    {vs : Array Value} {R : Value → World → Prop} (hx : xs.map a.eval = vs) (he : ∀ args w, (callFunc f args).run P w = .ok (.enter f args) w) (hc : Calls P f vs w fun e w2 => ∃ v, e = .returned v ∧ R v w2)
    (hK : ∀ v w', R v w' → K (a.put o.dst v) w') : if Region.wanted o (yielded ops a.tmps) = true then Oper.wp P o a w K Q else E := by
  rw [if_pos hw]
  subst hx
  obtain ⟨dst, op, ty, pos, after, guard⟩ := o
  simp only at hop
  subst hop
  unfold Oper.wp
  rw [execOp_call_go, he, Oper.upon_enter]
  simp only [Array.empty_append, Array.append_empty]
  exact hc.mono (by rintro e w2 ⟨v, rfl, hr⟩; exact hK v w2 hr)
theorem step_conv_run {P : Program} {ops : Array Oper} {o : Oper} {a : Act} {w : World} {K : Act → World → Prop} {Q : Exit → Act → World → Prop} {E : Prop}
    (hw : Region.wanted o (yielded ops a.tmps) = true) (s t : TypeId) (x : Operand) (hop : o.op = Op.convert s t x) {v1 v' : Value} {w' : World} (hx : a.eval x = v1) (hrun : (convert s t v1).run P w = .ok v' w')
    (hK : K (a.put o.dst v') w') : if Region.wanted o (yielded ops a.tmps) = true then Oper.wp P o a w K Q else E := by
  rw [if_pos hw]
  unfold Oper.wp
  simp [execOp, hop, hx, hrun, Result.andThen]
  exact hK
theorem yields_conv {P : Program} {ops : Array Oper} {S : World → Prop} {o : Oper} {a : Act} {v v1 : Value} (hw : Region.wanted o (yielded ops a.tmps) = true) (s t : TypeId) (x : Operand) (hop : o.op = Op.convert s t x) (hx : a.eval x = v1) (h : ∀ w, S w → (convert s t v1).run P w = .ok v w) : YieldsIf P ops S o v a := by
  refine Or.inl ⟨hw, fun w hS => ?_⟩
  simp [execOp, hop, hx, h w hS]
theorem call11 (args : Array Value) (w : World) : (callFunc 40 args).run Try.prog w = .ok (.enter 40 args) w := enters Try.func40 (by kernel_rfl) (by kernel_rfl) args w
theorem call12 (args : Array Value) (w : World) : (callFunc 30 args).run Try.prog w = .ok (.enter 30 args) w := enters Try.func30 (by kernel_rfl) (by kernel_rfl) args w
theorem call13 (args : Array Value) (w : World) : (callFunc 46 args).run Try.prog w = .ok (.enter 46 args) w := enters Try.func46 (by kernel_rfl) (by kernel_rfl) args w
theorem call17 (args : Array Value) (w : World) : (callFunc 58 args).run Try.prog w = .ok (.enter 58 args) w := enters Try.func58 (by kernel_rfl) (by kernel_rfl) args w
/-- A call that leaves the world, as a step of a region. -/
theorem post_same {f : FuncId} {vs : Array Value} {v : Value} {w0 w : World} (h : Calls Try.prog f vs w fun e w' => e = .returned v ∧ w' = w) (hk : Keep (fun _ => False) w0 w) : Calls Try.prog f vs w fun e w2 => ∃ u, e = .returned u ∧ (fun u w2 => u = v ∧ w2 = w) u w2 :=
  h.mono (by rintro e w' ⟨rfl, rfl⟩; exact ⟨_, rfl, rfl, rfl⟩)
/-- A call that answers a row of its own, as a step of a region. -/
theorem post_row {f : FuncId} {vs : Array Value} {n : Nat} {l : List Int} {w0 w : World} (hn : l.length = n) (h : Calls Try.prog f vs w fun e w' => ∃ g cap, e = .returned (.slice (some ⟨g, 0, none⟩) n cap) ∧ Gr w w' g cap l) (hk : Keep (fun _ => False) w0 w) :
    Calls Try.prog f vs w fun e w2 => ∃ u, e = .returned u ∧ (fun u w2 => ∃ g cap, u = Value.slice (some ⟨g, 0, none⟩) n cap ∧ Row w2 (some ⟨g, 0, none⟩) n cap l ∧ Keep (fun _ => False) w0 w2) u w2 :=
  h.mono (by rintro e w' ⟨g, cap, rfl, hG⟩; exact ⟨_, rfl, g, cap, rfl, hG.at hn, hk.trans hG.keep⟩)
theorem Row.first {w : World} {a : Option Addr} {len cap n : Nat} {l : List Int} (h : Row w a len cap l) (hn : n ≤ len) : Row w a n cap (l.take n) :=
  Row.init (m := l.drop n) (by
    have e1 : n + (l.drop n).length = len := by rw [List.length_drop, h.1]; omega
    rw [e1, List.take_append_drop]; exact h)
end Tg
end Go.Proofs.Ytlekapfhbceibaa
