/-
  A text put behind a row of one's own.
-/
import Derived.Test.YtgilagmgepogbaaDoorParse
import Derived.Lib.AppendStr
namespace Go.Proofs.YtgilagmgepogbaaDoor
open Go.ChangeShapes Go.WideShapes Go.ChangeAt Go.RowKit
namespace Tg
open Qm

set_option maxRecDepth 100000 in
theorem strCells_str {l : List Nat} (h : ∀ x ∈ l, x < 256) : Lib.strCells (str l) = (ints l).map (Value.int .u8) := by
  unfold Lib.strCells str ints
  simp only [List.map_map]
  apply List.map_congr_left
  intro x hx
  have := h x hx
  simp
  omega

set_option maxRecDepth 100000 in
/-- 'append' of a text on a row of bytes of the call's own. -/
theorem append_text (w : World) (g cap len : Nat) (l : List Int) (hr : Row w (some ⟨g, 0, none⟩) len cap l) (hfree : Free w g cap)
    (n2 : List Nat) (hb2 : ∀ x ∈ n2, x < 256) (hlen : len + n2.length ≤ 140737488355323) :
    ∃ g' cap' w2, (Builtin.append_ #[67, 9] 67 #[.slice (some ⟨g, 0, none⟩) len cap, .string (str n2)]).run Tryd.prog w = .ok (.slice (some ⟨g', 0, none⟩) (len + n2.length) cap') w2 ∧
      Row w2 (some ⟨g', 0, none⟩) (len + n2.length) cap' (l ++ ints n2) ∧ Keep (fun b => b = g) w w2 ∧ (g' = g ∨ w.heap.size ≤ g') ∧ Free w2 g' cap' := by
  obtain ⟨i, hi, hz0, hz1, hz2⟩ := info_parts info5
  obtain ⟨h1, h2, h3, h4, h5⟩ := hr
  have hsz := str_size n2
  have hsc := strCells_str hb2
  have k4 := ints_byte hb2
  have k1 := ints_len n2
  generalize ints n2 = l2 at *
  generalize n2.length = m at *
  generalize str n2 = s2 at *
  have hcell : ∀ i, i < len → w.cell? ⟨g, i, none⟩ = some (.int .u8 (l.getD i 0)) := by
    rcases h5 with h0 | ⟨b, o, e, hc⟩
    · intro i hi; omega
    · simp only [Option.some.injEq, Addr.mk.injEq, and_true] at e
      obtain ⟨rfl, rfl⟩ := e
      intro i hi
      have := hc i hi
      rwa [Nat.zero_add] at this
  have hbd : ∀ n ∈ l ++ l2, 0 ≤ n ∧ n ≤ 255 := by
    intro n hn
    rcases List.mem_append.1 hn with h | h
    · exact h4 n h
    · exact k4 n h
  have holds : ∀ j u, (l.map (Value.int .u8))[j]? = some u → w.cell? ((⟨g, 0, none⟩ : Addr).add j) = some u :=
    cells_at (a := ⟨g, 0, none⟩) fun i hi => by rw [Addr.add_lit, Nat.zero_add]; exact hcell i (by omega)
  by_cases hroom : len + m ≤ cap
  · have hrun : (Builtin.append_ #[67, 9] 67 #[.slice (some ⟨g, 0, none⟩) len cap, .string s2]).run Tryd.prog w = .ok (.slice (some ⟨g, 0, none⟩) (len + m) cap) (w.setCells g len (l2.map (Value.int .u8))) := by
      have hf := Lib.run_firstCells_string (P := Tryd.prog) w 1 s2
      rw [hsc, hsz] at hf
      have hst := run_storeCells_cells (P := Tryd.prog) g len (l2.map (Value.int .u8)) 0 w (fun j hj => by rw [Nat.add_zero]; exact (hfree (len + j) (by simp at hj; omega)).1) (fun j hj => by rw [Nat.add_zero]; exact (hfree (len + j) (by simp at hj; omega)).2) (ints_oneCell _ _)
      simp only [Nat.add_zero] at hst
      simp [Builtin.append_, run_underlying Tryd.underlying67, run_underlying Tryd.underlying9, sizeOf, typeInfo, hi, hz1, Builtin.lenOf, hroom, hf, Addr.add_lit, hst, hsz]
    have hin := World.cell?_setCells_in g (l2.map (Value.int .u8)) len w (fun j hj => (hfree (len + j) (by simp at hj; omega)).1)
    refine ⟨g, cap, _, hrun, ⟨by simp [h1, k1], hroom, h3, hbd, Or.inr ⟨_, _, rfl, fun i hi => ?_⟩⟩, (Keep.refl (fun b => b = g) w).setCells (b := g) (Or.inl rfl) _ _, Or.inl rfl, fun i hi => ?_⟩
    · rw [Nat.zero_add]
      by_cases hil : i < len
      · rw [World.cell?_setCells_out g _ len w ⟨g, i, none⟩ (fun _ _ => Or.inl hil), hcell i hil, getD_append_left _ _ _ (by omega)]
      · have hj : i - len < l2.length := by omega
        have := hin (i - len) (by simpa using hj)
        have e : len + (i - len) = i := by omega
        rw [e] at this
        rw [this]
        have e2 : (l ++ l2).getD i 0 = l2.getD (i - len) 0 := by
          have := getD_append_right l l2 (i - len)
          rw [h1, e] at this
          exact this
        rw [e2]
        simp [List.getD, hj]
    · obtain ⟨f1, f2⟩ := hfree i hi
      refine ⟨?_, by rw [World.frozen?_setCells]; exact f2⟩
      by_cases hil : len ≤ i ∧ i < len + l2.length
      · have := hin (i - len) (by simp; omega)
        have e : len + (i - len) = i := by omega
        rw [e] at this
        rw [this]; rfl
      · rw [World.cell?_setCells_out g _ len w ⟨g, i, none⟩ (fun _ _ => by simp; omega)]; exact f1
  · have hgr : ∃ v' w', (Builtin.append_ #[67, 9] 67 #[.slice (some ⟨g, 0, none⟩) len cap, .string s2]).run Tryd.prog w = .ok v' w' ∧ w'.ownsRow w.heap.size 5 1 v' (len + m) (l.map (Value.int .u8) ++ l2.map (Value.int .u8)) ∧ w.grownBy w' none := by
      have hrun := Lib.run_append_grow_string (P := Tryd.prog) w 67 9 67 5 i (.int .u8 0) Tryd.underlying67 Tryd.underlying9 hi hz0 ⟨g, 0, none⟩ len cap (l.map (Value.int .u8)) (by simp [h1, hz1]) holds s2 (by omega) (by omega) (by rw [hz2]; exact growslice_fits (by omega) (by omega))
      rw [hsc, hsz] at hrun
      have hge := grownCap_ge w (len + m) cap 5
      have hcm : grownCap w (len + m) cap 5 ≤ maxLen := grownCap_le_maxLen w (len + m) cap 5 (by unfold maxLen; omega)
      refine ⟨_, _, hrun, ⟨by simp [h1, k1], .inr ⟨w.heap.size, _, _, rfl, Nat.le_refl _, heap_alloc_new w.drew _, hge, hcm, ?_, ?_⟩⟩, ⟨rfl, rfl, rfl, by simp, fun k hk _ => Below.heap_alloc w.drew _ k hk⟩⟩
      · have hz1' : (Value.int IntKind.u8 0).cells.size = 1 := rfl
        simp only [Array.size_append, List.size_toArray, size_zeroCells, hz1', List.length_map, h1, k1]
        omega
      · simp only [Array.toList_append, List.append_assoc]
        rw [← List.append_assoc]
        rw [show (len + m) * 1 = (l.map (Value.int .u8) ++ l2.map (Value.int .u8)).length by simp [h1, k1]]
        exact List.take_left
    obtain ⟨v', w', hrun, hown, hgrow⟩ := hgr
    obtain ⟨hol, hcase⟩ := hown
    rcases hcase with ⟨_, h0⟩ | ⟨g', cap', cur, rfl, hg', hh, hn, hcm, hsz, htake⟩
    · omega
    · unfold maxLen at hcm
      have hcur : ∀ j, j < len + m → cur[j]? = some (.int .u8 ((l ++ l2).getD j 0)) := by
        intro j hj
        have e1 : (cur.toList.take ((len + m) * 1))[j]? = cur.toList[j]? := by rw [List.getElem?_take]; rw [if_pos (by omega)]
        rw [htake, ← List.map_append] at e1
        rw [← Array.getElem?_toList, ← e1]
        have : j < (l ++ l2).length := by simp; omega
        simp only [List.getElem?_map, List.getElem?_eq_getElem this, Option.map_some, List.getD, Option.getD_some]
      refine ⟨g', cap', w', hrun, ⟨by simp [h1, k1], hn, by omega, hbd, Or.inr ⟨_, _, rfl, fun i hi => ?_⟩⟩, Keep.of_grown hgrow, Or.inr (by omega), fun i hi => ?_⟩
      · rw [Nat.zero_add]
        simp only [World.cell?, hh]
        simpa using hcur i hi
      · have hi' : i < cur.size := by omega
        constructor
        · simp [World.cell?, hh, hi']
        · simp [World.frozen?, hh]


set_option maxRecDepth 100000 in
theorem Ow.puts {w : World} {g cap : Nat} {l : List Nat} (h : Ow w g cap l) (l2 : List Nat) (hb : ∀ x ∈ l2, x < 256) (hlen : l.length + l2.length ≤ 140737488355323) :
    ∃ g' cap' w2, (Builtin.append_ #[67, 9] 67 #[.slice (some ⟨g, 0, none⟩) l.length cap, .string (str l2)]).run Tryd.prog w = .ok (.slice (some ⟨g', 0, none⟩) (l.length + l2.length) cap') w2 ∧ Up w w2 g g' cap' (l ++ l2) := by
  obtain ⟨g', cap', w2, hrun, hr, hk, hg, hf⟩ := append_text w g cap l.length (ints l) h.row h.free l2 hb hlen
  exact ⟨g', cap', w2, hrun, ⟨⟨by rw [List.length_append, ints_append]; exact hr, hf⟩, hk, hg⟩⟩
end Tg
end Go.Proofs.YtgilagmgepogbaaDoor
