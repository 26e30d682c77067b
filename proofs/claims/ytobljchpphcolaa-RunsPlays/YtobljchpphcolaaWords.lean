/-
  Rows of numbers of 32 bits: what they hold, put one behind the other.
-/
import Derived.Test.YtobljchpphcolaaBase
namespace Go.Proofs.Ytobljchpphcolaa
open Go.ChangeShapes Go.WideShapes Go.ChangeAt Go.RowKit
namespace Tw
open Tg (Keep)
/-- A row of numbers in memory: nil, or cells that hold the numbers. -/
def Row (w : World) (a : Option Addr) (len cap : Nat) (l : List Int) : Prop :=
  l.length = len ∧ len ≤ cap ∧ cap ≤ 9223372036854775807 ∧ (∀ n ∈ l, 0 ≤ n ∧ n ≤ 4294967295) ∧
  (len = 0 ∨ ∃ b o, a = some ⟨b, o, none⟩ ∧ ∀ i, i < len → w.cell? ⟨b, o + i, none⟩ = some (.int .u32 (l.getD i 0)))

theorem getD_bound {l : List Int} (h : ∀ n ∈ l, 0 ≤ n ∧ n ≤ 4294967295) (k : Nat) : 0 ≤ l.getD k 0 ∧ l.getD k 0 ≤ 4294967295 := by
  by_cases hk : k < l.length
  · have : l.getD k 0 = l[k] := by simp [List.getD, hk]
    rw [this]; exact h _ (List.getElem_mem hk)
  · have : l.getD k 0 = 0 := by simp [List.getD, hk]
    omega

/-- A row that has just been laid. -/
theorem row_new (w : World) (l : List Int) (fr : Nat × Nat) (g cap : Nat) (hg : g = w.heap.size) (hc : l.length ≤ cap) (hm : cap ≤ 9223372036854775807) (hb : ∀ n ∈ l, 0 ≤ n ∧ n ≤ 4294967295) :
    Row (w.alloc (.cells (l.map (Value.int .u32)).toArray 74 fr)) (some ⟨g, 0, none⟩) l.length cap l := by
  subst hg
  refine ⟨rfl, hc, hm, hb, Or.inr ⟨_, _, rfl, fun i hi => ?_⟩⟩
  rw [Nat.zero_add, World.cell?_alloc_mark]
  simp [List.getD, hi]

theorem Row.keep {S : Nat → Prop} {w w' : World} {a : Option Addr} {len cap : Nat} {l : List Int} (h : Row w a len cap l) (k : Keep S w w') (hs : ∀ b o, a = some ⟨b, o, none⟩ → ¬ S b) : Row w' a len cap l := by
  obtain ⟨h1, h2, h3, h4, h5⟩ := h
  refine ⟨h1, h2, h3, h4, h5.imp id ?_⟩
  rintro ⟨b, o, rfl, hc⟩
  refine ⟨b, o, rfl, fun i hi => ?_⟩
  have := hc i hi
  rw [← this]
  exact World.cell?_of_block (w := w) (a := ⟨b, o + i, none⟩) (k.block b (World.block_lt_of_cell? w _ this) (hs b o rfl))

theorem info27 : (Try.prog.info? 74).map (fun i => (i.zero, i.size, i.bytes)) = some (some (.int .u32 0), 1, 4) := by kernel_rfl

/-- The row's whole room is there and may be written. -/
def Free (w : World) (g cap : Nat) : Prop := ∀ i, i < cap → (w.cell? ⟨g, i, none⟩).isSome = true ∧ w.frozen? ⟨g, i, none⟩ = false

theorem Free.keep {S : Nat → Prop} {w w' : World} {g cap : Nat} (h : Free w g cap) (k : Keep S w w') (hs : ¬ S g) : Free w' g cap := by
  intro i hi
  obtain ⟨h1, h2⟩ := h i hi
  obtain ⟨v, hv⟩ := Option.isSome_iff_exists.1 h1
  have e := k.block g (World.block_lt_of_cell? w _ hv) hs
  exact ⟨by rw [World.cell?_of_block (w := w) (a := ⟨g, i, none⟩) e]; exact h1, by rw [World.frozen?_of_block (w := w) (a := ⟨g, i, none⟩) e]; exact h2⟩

theorem keep_of_grown {S : Nat → Prop} {w w' : World} (hg : w.grownBy w' none) : Keep S w w' := ⟨hg.os, hg.tape, hg.output, hg.size, fun k hk _ => hg.block k hk (by simp)⟩

theorem cells_at {w : World} {a : Addr} {l : List Int} (h : ∀ i, i < l.length → w.cell? (a.add i) = some (.int .u32 (l.getD i 0))) :
    ∀ j u, (l.map (Value.int .u32))[j]? = some u → w.cell? (a.add j) = some u := by
  intro j u hu
  have hj : j < l.length := by
    have := (List.getElem?_eq_some_iff.1 hu).1
    simpa using this
  rw [h j hj, ← hu]
  simp [List.getD, hj]

theorem getD_append_left (l m : List Int) (i : Nat) (h : i < l.length) : (l ++ m).getD i 0 = l.getD i 0 := by
  simp [List.getD, List.getElem?_append_left h]
theorem getD_append_right (l m : List Int) (i : Nat) : (l ++ m).getD (l.length + i) 0 = m.getD i 0 := by
  simp only [List.getD]
  rw [List.getElem?_append_right (by omega)]
  congr 2
  omega

/-- 'append' on a row of numbers of the call's own. -/
theorem append_rows (w : World) (g cap len : Nat) (l : List Int) (hr : Row w (some ⟨g, 0, none⟩) len cap l) (hfree : Free w g cap) 
    (a2 : Option Addr) (m c : Nat) (l2 : List Int) (hr2 : Row w a2 m c l2) (hlen : len + m ≤ 35184372088832) :
    ∃ g' cap' w2, (Builtin.append_ #[72, 72] 72 #[.slice (some ⟨g, 0, none⟩) len cap, .slice a2 m c]).run Try.prog w = .ok (.slice (some ⟨g', 0, none⟩) (len + m) cap') w2 ∧
      Row w2 (some ⟨g', 0, none⟩) (len + m) cap' (l ++ l2) ∧ Keep (fun b => b = g) w w2 ∧ (g' = g ∨ w.heap.size ≤ g') ∧ Free w2 g' cap' := by
  obtain ⟨i, hi, hz0, hz1, hz2⟩ := info_parts info27
  obtain ⟨h1, h2, h3, h4, h5⟩ := hr
  obtain ⟨k1, k2, k3, k4, k5⟩ := hr2
  have hcell : ∀ i, i < len → w.cell? ⟨g, i, none⟩ = some (.int .u32 (l.getD i 0)) := by
    rcases h5 with h0 | ⟨b, o, e, hc⟩
    · intro i hi; omega
    · simp only [Option.some.injEq, Addr.mk.injEq, and_true] at e
      obtain ⟨rfl, rfl⟩ := e
      intro i hi
      have := hc i hi
      rwa [Nat.zero_add] at this
  have hbd : ∀ n ∈ l ++ l2, 0 ≤ n ∧ n ≤ 4294967295 := by
    intro n hn
    rcases List.mem_append.1 hn with h | h
    · exact h4 n h
    · exact k4 n h
  rcases k5 with hm0 | ⟨b2, o2, rfl, hc2⟩
  · subst hm0
    obtain rfl := List.eq_nil_of_length_eq_zero k1
    refine ⟨g, cap, w, ?_, ⟨by simp [h1], by omega, h3, hbd, Or.inr ⟨_, _, rfl, fun i hi => ?_⟩⟩, Keep.refl _ _, Or.inl rfl, hfree⟩
    · cases a2 with
      | none => simp [Builtin.append_, run_underlying Try.underlying72, sizeOf, typeInfo, hi, Builtin.lenOf, h2, Builtin.firstCells, Addr.add_lit, storeCells]
      | some x => simp [Builtin.append_, run_underlying Try.underlying72, sizeOf, typeInfo, hi, Builtin.lenOf, h2, Builtin.firstCells, loadCells, loadCellsFrom, Addr.add_lit, storeCells]
    · rw [Nat.zero_add, hcell i (by omega)]; simp
  · have hnews : ∀ j u, (l2.map (Value.int .u32))[j]? = some u → w.cell? ((⟨b2, o2, none⟩ : Addr).add j) = some u :=
      cells_at (a := ⟨b2, o2, none⟩) fun i hi => by rw [Addr.add_lit]; exact hc2 i (by omega)
    have holds : ∀ j u, (l.map (Value.int .u32))[j]? = some u → w.cell? ((⟨g, 0, none⟩ : Addr).add j) = some u :=
      cells_at (a := ⟨g, 0, none⟩) fun i hi => by rw [Addr.add_lit, Nat.zero_add]; exact hcell i (by omega)
    by_cases hroom : len + m ≤ cap
    · have hrun := run_append_room_cells (P := Try.prog) w 72 72 74 i Try.underlying72 hi g 0 len cap ⟨b2, o2, none⟩ m c (l2.map (Value.int .u32)) (by simp [k1, hz1]) hnews (ints_oneCell _ _) hroom
        (fun j hj => by rw [hz1, Nat.zero_add, Nat.mul_one]; exact (hfree (len + j) (by simp at hj; omega)).1)
        (fun j hj => by rw [hz1, Nat.zero_add, Nat.mul_one]; exact (hfree (len + j) (by simp at hj; omega)).2)
      rw [hz1, Nat.zero_add, Nat.mul_one] at hrun
      have hin := World.cell?_setCells_in g (l2.map (Value.int .u32)) len w (fun j hj => (hfree (len + j) (by simp at hj; omega)).1)
      refine ⟨g, cap, _, hrun, ⟨by simp [h1, k1], hroom, h3, hbd, Or.inr ⟨_, _, rfl, fun i hi => ?_⟩⟩, (Keep.refl (fun b => b = g) w).setCells (b := g) (Or.inl rfl) _ _, Or.inl rfl, fun i hi => ?_⟩
      · rw [Nat.zero_add]
        by_cases hil : i < len
        · rw [World.cell?_setCells_out g _ len w ⟨g, i, none⟩ (fun _ _ => Or.inl hil), hcell i hil, getD_append_left _ _ _ (by omega)]
        · have hj : i - len < l2.length := by omega
          have := hin (i - len) (by simpa using hj)
          have e : len + (i - len) = i := by omega
          rw [e] at this
          rw [this]
          have e2 : (l ++ l2).getD i 0 = l2.getD (i - len) 0 := by
            have := getD_append_right l l2 (i - len)
            rw [h1, e] at this
            exact this
          rw [e2]
          simp [List.getD, hj]
      · obtain ⟨f1, f2⟩ := hfree i hi
        refine ⟨?_, by rw [World.frozen?_setCells]; exact f2⟩
        by_cases hil : len ≤ i ∧ i < len + l2.length
        · have := hin (i - len) (by simp; omega)
          have e : len + (i - len) = i := by omega
          rw [e] at this
          rw [this]; rfl
        · rw [World.cell?_setCells_out g _ len w ⟨g, i, none⟩ (fun _ _ => by simp; omega)]; exact f1
    · obtain ⟨v', w', hrun, hown, hgrow⟩ := run_append_arg_grows (P := Try.prog) w 72 72 74 i (.int .u32 0) 1 4 Try.underlying72 hi hz0 hz1 hz2 rfl (by decide) ⟨g, 0, none⟩ len cap (l.map (Value.int .u32)) (by simp [h1]) holds
        ⟨b2, o2, none⟩ m c (l2.map (Value.int .u32)) (by simp [k1]) hnews (by omega) (by unfold maxLen; omega) (by omega)
      obtain ⟨hol, hcase⟩ := hown
      rcases hcase with ⟨_, h0⟩ | ⟨g', cap', cur, rfl, hg', hh, hn, hcm, hsz, htake⟩
      · omega
      · unfold maxLen at hcm
        have hcur : ∀ j, j < len + m → cur[j]? = some (.int .u32 ((l ++ l2).getD j 0)) := by
          intro j hj
          have e1 : (cur.toList.take ((len + m) * 1))[j]? = cur.toList[j]? := by rw [List.getElem?_take]; rw [if_pos (by omega)]
          rw [htake, ← List.map_append] at e1
          rw [← Array.getElem?_toList, ← e1]
          have : j < (l ++ l2).length := by simp; omega
          simp only [List.getElem?_map, List.getElem?_eq_getElem this, Option.map_some, List.getD, Option.getD_some]
        refine ⟨g', cap', w', hrun, ⟨by simp [h1, k1], hn, by omega, hbd, Or.inr ⟨_, _, rfl, fun i hi => ?_⟩⟩, keep_of_grown hgrow, Or.inr (by omega), fun i hi => ?_⟩
        · rw [Nat.zero_add]
          simp only [World.cell?, hh]
          simpa using hcur i hi
        · have hi' : i < cur.size := by omega
          constructor
          · simp [World.cell?, hh, hi']
          · simp [World.frozen?, hh]

theorem Row.init {w : World} {a : Option Addr} {len cap : Nat} {l m : List Int} (h : Row w a (len + m.length) cap (l ++ m)) : Row w a len cap l := by
  obtain ⟨h1, h2, h3, h4, h5⟩ := h
  have hl : l.length = len := by simp at h1; omega
  refine ⟨hl, by omega, h3, fun n hn => h4 n (by simp [hn]), ?_⟩
  rcases h5 with h0 | ⟨b, o, rfl, hc⟩
  · left; omega
  · right
    exact ⟨b, o, rfl, fun i hi => by rw [hc i (by omega), getD_append_left _ _ _ (by omega)]⟩

theorem Row.cellAt {w : World} {g len cap : Nat} {l : List Int} (h : Row w (some ⟨g, 0, none⟩) len cap l) {i : Nat} (hi : i < len) : w.cell? ⟨g, i, none⟩ = some (.int .u32 (l.getD i 0)) := by
  rcases h.2.2.2.2 with h0 | ⟨b, o, e, hc⟩
  · omega
  · simp only [Option.some.injEq, Addr.mk.injEq, and_true] at e
    obtain ⟨rfl, rfl⟩ := e
    have := hc i hi
    rwa [Nat.zero_add] at this

end Tw
end Go.Proofs.Ytobljchpphcolaa
