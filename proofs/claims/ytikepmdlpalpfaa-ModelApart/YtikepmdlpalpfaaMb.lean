/-
  Rows of bytes, texts of bytes.
-/
import Derived.Test.YtikepmdlpalpfaaSa
import Derived.WalkKit
import Derived.ProofKit
import Derived.OpenShut
import Derived.ShutString
import Derived.ChangeOld
import Derived.Below
import Derived.Deep.OwnRows
import Derived.Laws.IdiomCopy
import Derived.Lib.SlBytesConst
import Derived.Lib.ConvBytes
import Derived.Laws.BytesArg
import Derived.SizedLaws
import Derived.ArgAppend
namespace Go.Proofs.Ytikepmdlpalpfaa
open Go.ChangeShapes Go.WideShapes Go.ChangeAt Go.RowKit
namespace Tg
/-- A row of bytes in memory: nil, or cells that hold the numbers. -/
def Row (w : World) (a : Option Addr) (len cap : Nat) (l : List Int) : Prop :=
  l.length = len ∧ len ≤ cap ∧ cap ≤ 9223372036854775807 ∧ (∀ n ∈ l, 0 ≤ n ∧ n ≤ 255) ∧
  (len = 0 ∨ ∃ b o, a = some ⟨b, o, none⟩ ∧ ∀ i, i < len → w.cell? ⟨b, o + i, none⟩ = some (.int .u8 (l.getD i 0)))

theorem getD_bound {l : List Int} (h : ∀ n ∈ l, 0 ≤ n ∧ n ≤ 255) (k : Nat) : 0 ≤ l.getD k 0 ∧ l.getD k 0 ≤ 255 := by
  by_cases hk : k < l.length
  · have : l.getD k 0 = l[k] := by simp [List.getD, hk]
    rw [this]; exact h _ (List.getElem_mem hk)
  · have : l.getD k 0 = 0 := by simp [List.getD, hk]
    omega

/-- A row that has just been laid. -/
theorem row_new (w : World) (l : List Int) (fr : Nat × Nat) (g cap : Nat) (hg : g = w.heap.size) (hc : l.length ≤ cap) (hm : cap ≤ 9223372036854775807) (hb : ∀ n ∈ l, 0 ≤ n ∧ n ≤ 255) :
    Row (w.alloc (.cells (l.map (Value.int .u8)).toArray 5 fr)) (some ⟨g, 0, none⟩) l.length cap l := by
  subst hg
  refine ⟨rfl, hc, hm, hb, Or.inr ⟨_, _, rfl, fun i hi => ?_⟩⟩
  rw [Nat.zero_add, World.cell?_alloc_mark]
  simp [List.getD, hi]

theorem Row.keep {S : Nat → Prop} {w w' : World} {a : Option Addr} {len cap : Nat} {l : List Int} (h : Row w a len cap l) (k : Keep S w w') (hs : ∀ b o, a = some ⟨b, o, none⟩ → ¬ S b) : Row w' a len cap l := by
  obtain ⟨h1, h2, h3, h4, h5⟩ := h
  refine ⟨h1, h2, h3, h4, h5.imp id ?_⟩
  rintro ⟨b, o, rfl, hc⟩
  refine ⟨b, o, rfl, fun i hi => ?_⟩
  have := hc i hi
  rw [← this]
  exact World.cell?_of_block (w := w) (a := ⟨b, o + i, none⟩) (k.block b (World.block_lt_of_cell? w _ this) (hs b o rfl))

/-- Bytes become a text. -/
theorem Row.text {w : World} {a : Option Addr} {len cap : Nat} {l : List Int} (h : Row w a len cap l) : (convert 45 9 (.slice a len cap)).run Try.prog w = .ok (.string (strOfNums l)) w := by
  obtain ⟨h1, h2, h3, h4, h5⟩ := h
  rcases h5 with h0 | ⟨b, o, rfl, hc⟩
  · subst h0
    obtain rfl := List.eq_nil_of_length_eq_zero h1
    rw [run_convert_bytes_string w 45 9 5 _ _ _ Try.underlying45 Try.underlying5 Try.underlying9]
    cases a with
    | none => simp [Conv.bytesToString]; rfl
    | some x =>
      rw [run_bytesToString w x 0 cap [] (by simp [loadCells, loadCellsFrom])]
      rfl
  · exact run_convert_bytes_arg w 45 5 Try.underlying45 Try.underlying5 b o len cap l h1 hc 9 Try.underlying9

/-- A text becomes bytes, in a new row. -/
theorem text_row (w : World) (l : List Int) (hb : ∀ n ∈ l, 0 ≤ n ∧ n ≤ 255) (hl : l.length ≤ 9223372036854775807) :
    ∃ cap w1, (convert 9 45 (.string (strOfNums l))).run Try.prog w = .ok (.slice (some ⟨w.heap.size, 0, none⟩) l.length cap) w1 ∧
      Row w1 (some ⟨w.heap.size, 0, none⟩) l.length cap l ∧ Below w.heap.size w w1 ∧ w1.heap.size = w.heap.size + 1 ∧
      (∀ i, i < cap → (w1.cell? ⟨w.heap.size, i, none⟩).isSome = true ∧ w1.frozen? ⟨w.heap.size, i, none⟩ = false) := by
  have hsz : (strOfNums l).size = l.length := strOfNums_size l
  have hge := grownCap_ge w (strOfNums l).size 0 5
  have hle := grownCap_le_maxLen w (strOfNums l).size 0 5 (by rw [hsz]; exact hl)
  have hcs : (Lib.bytesCells w 5 (strOfNums l)).size = grownCap w (strOfNums l).size 0 5 := by
    simp [Lib.bytesCells]
    have := hsz
    simp only [ByteArray.size] at this
    omega
  refine ⟨grownCap w (strOfNums l).size 0 5, Lib.bytesWorld w 5 (strOfNums l), ?_, ?_, ?_, Lib.bytesWorld_size w 5 _, ?_⟩
  · rw [Lib.run_convert_string_bytes w 9 45 5 _ Try.underlying9 Try.underlying45 Try.underlying5, hsz]
  · refine ⟨rfl, by omega, hle, hb, Or.inr ⟨_, _, rfl, fun i hi => ?_⟩⟩
    rw [Nat.zero_add, Lib.bytesWorld_cell w 5 _ i (by omega), strOfNums_data]
    have hbd := hb l[i] (List.getElem_mem hi)
    simp [List.getD, hi]
    omega
  · exact ⟨rfl, rfl, rfl, by rw [Lib.bytesWorld_size]; omega, fun k hk => Lib.bytesWorld_at_old w 5 _ k hk⟩
  · intro i hi
    have hh := Lib.bytesWorld_at_new w 5 (strOfNums l)
    constructor
    · simp [World.cell?, hh, hcs, hi]
    · simp [World.frozen?, hh, hcs]
      omega

theorem info5 : (Try.prog.info? 5).map (fun i => (i.zero, i.size, i.bytes)) = some (some (.int .u8 0), 1, 1) := by kernel_rfl

/-- The row's whole room is there and may be written. -/
def Free (w : World) (g cap : Nat) : Prop := ∀ i, i < cap → (w.cell? ⟨g, i, none⟩).isSome = true ∧ w.frozen? ⟨g, i, none⟩ = false

theorem Free.keep {S : Nat → Prop} {w w' : World} {g cap : Nat} (h : Free w g cap) (k : Keep S w w') (hs : ¬ S g) : Free w' g cap := by
  intro i hi
  obtain ⟨h1, h2⟩ := h i hi
  obtain ⟨v, hv⟩ := Option.isSome_iff_exists.1 h1
  have e := k.block g (World.block_lt_of_cell? w _ hv) hs
  exact ⟨by rw [World.cell?_of_block (w := w) (a := ⟨g, i, none⟩) e]; exact h1, by rw [World.frozen?_of_block (w := w) (a := ⟨g, i, none⟩) e]; exact h2⟩

theorem cells_at {w : World} {a : Addr} {l : List Int} (h : ∀ i, i < l.length → w.cell? (a.add i) = some (.int .u8 (l.getD i 0))) :
    ∀ j u, (l.map (Value.int .u8))[j]? = some u → w.cell? (a.add j) = some u := by
  intro j u hu
  have hj : j < l.length := by
    have := (List.getElem?_eq_some_iff.1 hu).1
    simpa using this
  rw [h j hj, ← hu]
  simp [List.getD, hj]

theorem getD_append_left (l m : List Int) (i : Nat) (h : i < l.length) : (l ++ m).getD i 0 = l.getD i 0 := by
  simp [List.getD, List.getElem?_append_left h]
theorem getD_append_right (l m : List Int) (i : Nat) : (l ++ m).getD (l.length + i) 0 = m.getD i 0 := by
  simp only [List.getD]
  rw [List.getElem?_append_right (by omega)]
  congr 2
  omega

/-- 'append' on a row of bytes of the call's own. -/
theorem append_rows (w : World) (g cap len : Nat) (l : List Int) (hr : Row w (some ⟨g, 0, none⟩) len cap l) (hfree : Free w g cap) 
    (a2 : Option Addr) (m c : Nat) (l2 : List Int) (hr2 : Row w a2 m c l2) (hlen : len + m ≤ 140737488355323) :
    ∃ g' cap' w2, (Builtin.append_ #[45, 45] 45 #[.slice (some ⟨g, 0, none⟩) len cap, .slice a2 m c]).run Try.prog w = .ok (.slice (some ⟨g', 0, none⟩) (len + m) cap') w2 ∧
      Row w2 (some ⟨g', 0, none⟩) (len + m) cap' (l ++ l2) ∧ Keep (fun b => b = g) w w2 ∧ (g' = g ∨ w.heap.size ≤ g') ∧ Free w2 g' cap' := by
  obtain ⟨i, hi, hz0, hz1, hz2⟩ := info_parts info5
  obtain ⟨h1, h2, h3, h4, h5⟩ := hr
  obtain ⟨k1, k2, k3, k4, k5⟩ := hr2
  have hcell : ∀ i, i < len → w.cell? ⟨g, i, none⟩ = some (.int .u8 (l.getD i 0)) := by
    rcases h5 with h0 | ⟨b, o, e, hc⟩
    · intro i hi; omega
    · simp only [Option.some.injEq, Addr.mk.injEq, and_true] at e
      obtain ⟨rfl, rfl⟩ := e
      intro i hi
      have := hc i hi
      rwa [Nat.zero_add] at this
  have hbd : ∀ n ∈ l ++ l2, 0 ≤ n ∧ n ≤ 255 := by
    intro n hn
    rcases List.mem_append.1 hn with h | h
    · exact h4 n h
    · exact k4 n h
  rcases k5 with hm0 | ⟨b2, o2, rfl, hc2⟩
  · subst hm0
    obtain rfl := List.eq_nil_of_length_eq_zero k1
    refine ⟨g, cap, w, ?_, ⟨by simp [h1], by omega, h3, hbd, Or.inr ⟨_, _, rfl, fun i hi => ?_⟩⟩, Keep.refl _ _, Or.inl rfl, hfree⟩
    · cases a2 with
      | none => simp [Builtin.append_, run_underlying Try.underlying45, sizeOf, typeInfo, hi, Builtin.lenOf, h2, Builtin.firstCells, Addr.add_lit, storeCells]
      | some x => simp [Builtin.append_, run_underlying Try.underlying45, sizeOf, typeInfo, hi, Builtin.lenOf, h2, Builtin.firstCells, loadCells, loadCellsFrom, Addr.add_lit, storeCells]
    · rw [Nat.zero_add, hcell i (by omega)]; simp
  · have hnews : ∀ j u, (l2.map (Value.int .u8))[j]? = some u → w.cell? ((⟨b2, o2, none⟩ : Addr).add j) = some u :=
      cells_at (a := ⟨b2, o2, none⟩) fun i hi => by rw [Addr.add_lit]; exact hc2 i (by omega)
    have holds : ∀ j u, (l.map (Value.int .u8))[j]? = some u → w.cell? ((⟨g, 0, none⟩ : Addr).add j) = some u :=
      cells_at (a := ⟨g, 0, none⟩) fun i hi => by rw [Addr.add_lit, Nat.zero_add]; exact hcell i (by omega)
    by_cases hroom : len + m ≤ cap
    · have hrun := run_append_room_cells (P := Try.prog) w 45 45 5 i Try.underlying45 hi g 0 len cap ⟨b2, o2, none⟩ m c (l2.map (Value.int .u8)) (by simp [k1, hz1]) hnews (ints_oneCell _ _) hroom
        (fun j hj => by rw [hz1, Nat.zero_add, Nat.mul_one]; exact (hfree (len + j) (by simp at hj; omega)).1)
        (fun j hj => by rw [hz1, Nat.zero_add, Nat.mul_one]; exact (hfree (len + j) (by simp at hj; omega)).2)
      rw [hz1, Nat.zero_add, Nat.mul_one] at hrun
      have hin := World.cell?_setCells_in g (l2.map (Value.int .u8)) len w (fun j hj => (hfree (len + j) (by simp at hj; omega)).1)
      refine ⟨g, cap, _, hrun, ⟨by simp [h1, k1], hroom, h3, hbd, Or.inr ⟨_, _, rfl, fun i hi => ?_⟩⟩, (Keep.refl (fun b => b = g) w).setCells (b := g) (Or.inl rfl) _ _, Or.inl rfl, fun i hi => ?_⟩
      · rw [Nat.zero_add]
        by_cases hil : i < len
        · rw [World.cell?_setCells_out g _ len w ⟨g, i, none⟩ (fun _ _ => Or.inl hil), hcell i hil, getD_append_left _ _ _ (by omega)]
        · have hj : i - len < l2.length := by omega
          have := hin (i - len) (by simpa using hj)
          have e : len + (i - len) = i := by omega
          rw [e] at this
          rw [this]
          have e2 : (l ++ l2).getD i 0 = l2.getD (i - len) 0 := by
            have := getD_append_right l l2 (i - len)
            rw [h1, e] at this
            exact this
          rw [e2]
          simp [List.getD, hj]
      · obtain ⟨f1, f2⟩ := hfree i hi
        refine ⟨?_, by rw [World.frozen?_setCells]; exact f2⟩
        by_cases hil : len ≤ i ∧ i < len + l2.length
        · have := hin (i - len) (by simp; omega)
          have e : len + (i - len) = i := by omega
          rw [e] at this
          rw [this]; rfl
        · rw [World.cell?_setCells_out g _ len w ⟨g, i, none⟩ (fun _ _ => by simp; omega)]; exact f1
    · obtain ⟨v', w', hrun, hown, hgrow⟩ := run_append_arg_grows (P := Try.prog) w 45 45 5 i (.int .u8 0) 1 1 Try.underlying45 hi hz0 hz1 hz2 rfl (by decide) ⟨g, 0, none⟩ len cap (l.map (Value.int .u8)) (by simp [h1]) holds
        ⟨b2, o2, none⟩ m c (l2.map (Value.int .u8)) (by simp [k1]) hnews (by omega) (by unfold maxLen; omega) (by omega)
      obtain ⟨hol, hcase⟩ := hown
      rcases hcase with ⟨_, h0⟩ | ⟨g', cap', cur, rfl, hg', hh, hn, hcm, hsz, htake⟩
      · omega
      · unfold maxLen at hcm
        have hcur : ∀ j, j < len + m → cur[j]? = some (.int .u8 ((l ++ l2).getD j 0)) := by
          intro j hj
          have e1 : (cur.toList.take ((len + m) * 1))[j]? = cur.toList[j]? := by rw [List.getElem?_take]; rw [if_pos (by omega)]
          rw [htake, ← List.map_append] at e1
          rw [← Array.getElem?_toList, ← e1]
          have : j < (l ++ l2).length := by simp; omega
          simp only [List.getElem?_map, List.getElem?_eq_getElem this, Option.map_some, List.getD, Option.getD_some]
        refine ⟨g', cap', w', hrun, ⟨by simp [h1, k1], hn, by omega, hbd, Or.inr ⟨_, _, rfl, fun i hi => ?_⟩⟩, Keep.of_grown hgrow, Or.inr (by omega), fun i hi => ?_⟩
        · rw [Nat.zero_add]
          simp only [World.cell?, hh]
          simpa using hcur i hi
        · have hi' : i < cur.size := by omega
          constructor
          · simp [World.cell?, hh, hi']
          · simp [World.frozen?, hh]

theorem Row.init {w : World} {a : Option Addr} {len cap : Nat} {l m : List Int} (h : Row w a (len + m.length) cap (l ++ m)) : Row w a len cap l := by
  obtain ⟨h1, h2, h3, h4, h5⟩ := h
  have hl : l.length = len := by simp at h1; omega
  refine ⟨hl, by omega, h3, fun n hn => h4 n (by simp [hn]), ?_⟩
  rcases h5 with h0 | ⟨b, o, rfl, hc⟩
  · left; omega
  · right
    exact ⟨b, o, rfl, fun i hi => by rw [hc i (by omega), getD_append_left _ _ _ (by omega)]⟩

theorem Row.cellAt {w : World} {g len cap : Nat} {l : List Int} (h : Row w (some ⟨g, 0, none⟩) len cap l) {i : Nat} (hi : i < len) : w.cell? ⟨g, i, none⟩ = some (.int .u8 (l.getD i 0)) := by
  rcases h.2.2.2.2 with h0 | ⟨b, o, e, hc⟩
  · omega
  · simp only [Option.some.injEq, Addr.mk.injEq, and_true] at e
    obtain ⟨rfl, rfl⟩ := e
    have := hc i hi
    rwa [Nat.zero_add] at this

/-- One byte is stored. -/
theorem Row.set {w : World} {g len cap : Nat} {l : List Int} (h : Row w (some ⟨g, 0, none⟩) len cap l) {i : Nat} (hi : i < len) {n : Int} (hn : 0 ≤ n ∧ n ≤ 255) :
    Row (w.setCell ⟨g, i, none⟩ (.int .u8 n)) (some ⟨g, 0, none⟩) len cap (l.set i n) := by
  have hc := fun j (hj : j < len) => h.cellAt hj
  obtain ⟨h1, h2, h3, h4, h5⟩ := h
  refine ⟨by simp [h1], h2, h3, fun m hm => ?_, Or.inr ⟨_, _, rfl, fun j hj => ?_⟩⟩
  · rcases List.mem_or_eq_of_mem_set hm with h | h
    · exact h4 m h
    · subst h; exact hn
  · rw [Nat.zero_add]
    by_cases e : j = i
    · subst e
      rw [World.cell?_setCell_same w _ _ (hc j hj)]
      simp [List.getD, h1, hj]
    · rw [World.cell?_setCell_other (h := fun x => e (congrArg Addr.off x).symm), hc j hj]
      simp [List.getD, Ne.symm e]

theorem Free.set {w : World} {g cap : Nat} (h : Free w g cap) (a : Addr) (v : Value) : Free (w.setCell a v) g cap := by
  intro i hi
  obtain ⟨h1, h2⟩ := h i hi
  constructor
  · by_cases e : a = ⟨g, i, none⟩
    · subst e
      rw [World.cell?_setCell_same' w _ v h1]; rfl
    · rw [World.cell?_setCell_other (h := e)]; exact h1
  · rw [World.frozen?_setCell]; exact h2

/-- The first n of a function's numbers. -/
def tab (n : Nat) (d : Nat → Int) : List Int := (List.range n).map d
theorem tab_len (n : Nat) (d : Nat → Int) : (tab n d).length = n := by simp [tab]
theorem tab_get {n i : Nat} (d : Nat → Int) (h : i < n) : (tab n d).getD i 0 = d i := by simp [tab, List.getD, h]
theorem tab_byte {n : Nat} {d : Nat → Int} (h : ∀ i, 0 ≤ d i ∧ d i ≤ 255) : ∀ x ∈ tab n d, 0 ≤ x ∧ x ≤ 255 := by
  intro x hx
  simp [tab] at hx
  obtain ⟨i, _, rfl⟩ := hx
  exact h i
theorem tab_append (n m : Nat) (d e : Nat → Int) : tab n d ++ tab m e = tab (n + m) (fun i => if i < n then d i else e (i - n)) := by
  unfold tab
  rw [List.range_add, List.map_append, List.map_map]
  congr 1
  · apply List.map_congr_left; intro i hi; simp at hi; simp [hi]
  · apply List.map_congr_left; intro i hi; simp; omega
theorem tab_congr {n : Nat} {d e : Nat → Int} (h : ∀ i, i < n → d i = e i) : tab n d = tab n e := by
  unfold tab; apply List.map_congr_left; intro i hi; exact h i (by simpa using hi)

/-- A row of a block's bytes. -/
theorem Blk.row {w : World} {b N : Nat} {d : Nat → Int} (h : Blk w b N (fun i => .int .u8 (d i))) (hd : ∀ i, 0 ≤ d i ∧ d i ≤ 255) (o n cap : Nat) (hn : o + n ≤ N) (hc : n ≤ cap) (hm : cap ≤ 9223372036854775807) :
    Row w (some ⟨b, o, none⟩) n cap (tab n (fun i => d (o + i))) :=
  ⟨tab_len _ _, hc, hm, tab_byte (fun i => hd _), Or.inr ⟨b, o, rfl, fun i hi => by rw [tab_get _ hi]; exact (h (o + i) (by omega)).1⟩⟩

theorem Row.blk {w : World} {g n cap : Nat} {d : Nat → Int} (h : Row w (some ⟨g, 0, none⟩) n cap (tab n d)) (f : Free w g cap) : Blk w g n (fun i => .int .u8 (d i)) := fun i hi =>
  ⟨by rw [h.cellAt hi, tab_get d hi], (f i (by have := h.2.1; omega)).2⟩

end Tg
end Go.Proofs.Ytikepmdlpalpfaa
