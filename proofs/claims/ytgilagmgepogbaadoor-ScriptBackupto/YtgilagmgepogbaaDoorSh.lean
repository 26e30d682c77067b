/-
  The builder's writing methods, over any memory: a builder is the library's own 'BuilderAt', its block the first of what the call made.
-/
import Derived.Test.YtgilagmgepogbaaDoorSw
import Derived.Test.YtgilagmgepogbaaDoorSteps
import Derived.Shelf.Strings.Builder1
set_option linter.unusedVariables false
namespace Go.Proofs.YtgilagmgepogbaaDoor
open Go.ChangeShapes Go.WideShapes Go.ChangeAt Go.RowKit Go.Shelf
namespace Tg
open Qm Km

/-- A builder in block b that holds the bytes l; p: what its own field of its address holds. -/
def Bu (w : World) (b : Nat) (p : Option Addr) (l : List Nat) : Prop := Lib.BuilderAt 69 5 b b (.pointer p) (l.map fun n : Nat => Value.int .u8 (n : Int)) w
theorem Bu.keep {S : Nat → Prop} {w w' : World} {b : Nat} {p : Option Addr} {l : List Nat} (h : Bu w b p l) (k : Keep S w w') (hS : ∀ x, b ≤ x → ¬ S x) : Bu w' b p l := by
  have hlt : b < w.heap.size := h.lt
  obtain ⟨h1, v, h2, h3, h4⟩ := h
  exact ⟨h1, v, by rw [k.block b hlt (hS b (Nat.le_refl _))]; exact h2, own_keep h3 k hS, h4⟩
theorem Bu.fresh (w : World) : Bu (w.alloc (.cells #[.pointer none, .slice none 0 0] 69)) w.heap.size none [] :=
  ⟨Nat.le_refl _, _, heap_alloc_new w _, World.ownsRow_nil _ _ _ _, by simp [Value.ownBlock]⟩

theorem infoB : (Tryd.prog.info? 69).map (·.size) = some 2 := by kernel_rfl
theorem liesB : liesAt Tryd.prog Tryd.prog.depth 69 (2 / Tryd.prog.cellsOf 69) 0 69 1 = true := by kernel_rfl

set_option maxHeartbeats 1000000 in
set_option maxRecDepth 100000 in
/-- copyCheck: behind it the builder knows its own address. -/
theorem check_any (b : Nat) (p : Option Addr) (hp : p = none ∨ p = some ⟨b, 0, none⟩) (l : List Nat) (w : World) (h : Bu w b p l) :
    Calls Tryd.prog 35 #[.pointer (some ⟨b, 0, none⟩)] w fun e w' => e = .returned (.tuple #[]) ∧ Bu w' b (some ⟨b, 0, none⟩) l ∧ Keep (fun x => x = b) w w' := by
  obtain ⟨j, hj, hjs⟩ := Option.map_eq_some_iff.1 infoB
  have c0 : w.cell? ⟨b, 0, none⟩ = some (.pointer p) := Lib.BuilderAt.cell0 h
  have H : Hid (Bu w b p l) := h
  rcases hp with rfl | rfl
  · have sh : w.shape? b = some (69, 2) := Lib.BuilderAt.shape h
    have fz : w.frozen? ⟨b, 0, none⟩ = false := Lib.BuilderAt.frozen0 h
    clear h
    go_enter Tryd.func35, Tryd.ntmps35
    go_wp2
    rw [Lib.run_to_unsafe w ⟨b, 0, none⟩ Tryd.underlying66 Tryd.underlying91 hj (by rw [hjs]; decide) sh (Nat.zero_lt_succ 1)]
    simp only [Result.andThen]
    rw [Oper.upon_value]
    go_wp2
    rw [run_callFunc_extern Tryd.func43 (by kernel_rfl) (by kernel_rfl) (by kernel_rfl) (e := Extern.AbiNoEscape.same) (by kernel_rfl), Lib.run_noEscape]
    simp only [Result.andThen]
    rw [Oper.upon_value]
    go_wp2
    rw [Lib.run_from_unsafe w ⟨b, 0, none⟩ Tryd.underlying91 Tryd.underlying66 hj sh liesB]
    simp only [Result.andThen]
    rw [Oper.upon_value]
    go_wp2
    go_end0
    exact ⟨rfl, Lib.BuilderAt.used H.out _, (Keep.refl (fun x => x = b) _).setCell (Or.inl rfl) _⟩
  · clear h
    go_enter Tryd.func35, Tryd.ntmps35
    go_wp2
    rw [Lib.run_neq_ptr_same w _ Tryd.underlying66 hj]
    go_wp2
    go_end0
    exact ⟨rfl, H.out, Keep.refl _ _⟩
/-- What an append to the buffer leaves in the builder. -/
theorem Bu.put {w1 w2 : World} {b : Nat} {v v' : Value} {m : List Nat} (hbk : w1.heap[b]? = some (.cells #[.pointer (some ⟨b, 0, none⟩), v] 69 (0, 0))) (hk : Keep (fun x => v.ownBlock = some x) w1 w2) (hne : v.ownBlock ≠ some b)
    (hown : w2.ownsRow b 5 1 v' m.length (m.map fun n : Nat => Value.int .u8 (n : Int))) :
    w2.cell? ⟨b, 0, none⟩ = some (.pointer (some ⟨b, 0, none⟩)) ∧ w2.cell? ⟨b, 1, none⟩ = some v ∧ w2.frozen? ⟨b, 1, none⟩ = false ∧ Bu (w2.setCell ⟨b, 1, none⟩ v') b (some ⟨b, 0, none⟩) m := by
  have hlt : b < w1.heap.size := by
    rcases Nat.lt_or_ge b w1.heap.size with h' | h'
    · exact h'
    · simp [Array.getElem?_eq_none h'] at hbk
  have hb2 : w2.heap[b]? = some (.cells #[.pointer (some ⟨b, 0, none⟩), v] 69 (0, 0)) := by rw [hk.block b hlt hne]; exact hbk
  exact ⟨by rw [Lib.cell_of_heap hb2]; rfl, by rw [Lib.cell_of_heap hb2]; rfl, Lib.frozen_of_heap hb2 1, Lib.BuilderAt.put (T := 69) (e := 5) (Nat.le_refl _) hb2 (by rw [List.length_map]; exact hown) (by decide)⟩
theorem str_cells {x : List Nat} (hx : ∀ y ∈ x, y < 256) : Lib.strCells (str x) = x.map fun n : Nat => Value.int .u8 (n : Int) := by
  rw [strCells_str hx]
  simp [ints]

set_option maxHeartbeats 2000000 in
set_option maxRecDepth 100000 in
/-- WriteString. -/
theorem puts_any (b : Nat) (p : Option Addr) (hp : p = none ∨ p = some ⟨b, 0, none⟩) (l x : List Nat) (hx : ∀ y ∈ x, y < 256) (hl : l.length + x.length ≤ 100000000000000) (w : World) (h : Bu w b p l) :
    Calls Tryd.prog 21 #[.pointer (some ⟨b, 0, none⟩), .string (str x)] w fun e w' => ∃ v, e = .returned v ∧ Bu w' b (some ⟨b, 0, none⟩) (l ++ x) ∧ Keep (fun z => b ≤ z) w w' := by
  obtain ⟨i0, hi, hz0, hz1, hz2⟩ := info_parts info5
  have hc := check_any b p hp l w h
  have hsc := str_cells hx
  have hss := str_size x
  clear h hp
  go_enter Tryd.func21, Tryd.ntmps21
  go_wp2_with fail
  refine hc.mono ?_
  rintro e w1 ⟨rfl, ⟨_, v, hbk, hown, hne⟩, k1⟩
  have hlt : b < w1.heap.size := by
    rcases Nat.lt_or_ge b w1.heap.size with h' | h'
    · exact h'
    · simp [Array.getElem?_eq_none h'] at hbk
  obtain ⟨v', w2, hrun, hown', hgrow, _⟩ := Lib.run_append_own_string (P := Tryd.prog) w1 b 67 9 67 5 i0 Tryd.underlying67 Tryd.underlying9 hi hz0 hz1 hz2 v _ _ hown (str x) (by rw [List.length_map, hss]; unfold maxLen; omega) (by rw [List.length_map, hss]; omega) (by omega)
  rw [hsc, hss, List.length_map] at hown'
  have hob : ∀ z, v.ownBlock = some z → b ≤ z := fun z e => by
    rcases hown.2 with ⟨e', -⟩ | ⟨g, c, cur, e', hb, -⟩
    · rw [e'] at e; cases e
    · rw [e'] at e; injection e with e; subst e; exact hb
  have hkg : Keep (fun z => v.ownBlock = some z) w1 w2 := (grown_keep hgrow).mono fun _ _ e => e.symm
  obtain ⟨d0, d1, f1, hB⟩ := Bu.put (m := l ++ x) hbk hkg hne (by rw [List.length_append, List.map_append]; exact hown')
  have c0 : w1.cell? ⟨b, 0, none⟩ = some (.pointer (some ⟨b, 0, none⟩)) := by rw [Lib.cell_of_heap hbk]; rfl
  have c1 : w1.cell? ⟨b, 1, none⟩ = some v := by rw [Lib.cell_of_heap hbk]; rfl
  obtain ⟨ao, n', cap, rfl⟩ : ∃ ao n' cap, v' = .slice ao n' cap := by
    rcases hown'.2 with ⟨hv, _⟩ | ⟨g, cap, cur, hv, _⟩
    · exact ⟨_, _, _, hv⟩
    · exact ⟨_, _, _, hv⟩
  have HB : Hid (Bu (w2.setCell ⟨b, 1, none⟩ (.slice ao n' cap)) b (some ⟨b, 0, none⟩) (l ++ x) ∧ Keep (fun z => b ≤ z) w (w2.setCell ⟨b, 1, none⟩ (.slice ao n' cap))) :=
    ⟨hB, ((k1.mono fun z _ e => by omega).trans (hkg.mono fun z _ e => hob z e)).setCell (Or.inl (Nat.le_refl b)) _⟩
  generalize str x = s at *
  clear hB hown hown' hgrow hkg hob hbk hne k1 hc hx hl hsc
  go_wp2_with (at_builtin; refine wpList_append_text rfl (.tmp 12) (.tmp 13) 67 9 rfl (by rfl) (by rfl) hrun ?_)
  go_ret2
  exact ⟨_, rfl, HB.out⟩

set_option maxHeartbeats 2000000 in
set_option maxRecDepth 100000 in
/-- WriteByte. -/
theorem putb_any (b : Nat) (p : Option Addr) (hp : p = none ∨ p = some ⟨b, 0, none⟩) (l : List Nat) (c : Nat) (hl : l.length ≤ 100000000) (w : World) (h : Bu w b p l) :
    Calls Tryd.prog 22 #[.pointer (some ⟨b, 0, none⟩), .int .u8 (c : Nat)] w fun e w' => ∃ v, e = .returned v ∧ Bu w' b (some ⟨b, 0, none⟩) (l ++ [c]) ∧ Keep (fun z => b ≤ z) w w' := by
  have hc := check_any b p hp l w h
  clear h hp
  go_enter Tryd.func22, Tryd.ntmps22
  go_wp2_with fail
  refine hc.mono ?_
  rintro e w1 ⟨rfl, ⟨_, v, hbk, hown, hne⟩, k1⟩
  have hlt : b < w1.heap.size := by
    rcases Nat.lt_or_ge b w1.heap.size with h' | h'
    · exact h'
    · simp [Array.getElem?_eq_none h'] at hbk
  rw [List.length_map] at hown
  obtain ⟨ao, cap, rfl⟩ : ∃ ao cap, v = .slice ao l.length cap := by
    rcases hown.2 with ⟨hv, h0⟩ | ⟨g, cap, cur, hv, _⟩
    · exact ⟨none, 0, by rw [hv, h0]⟩
    · exact ⟨_, _, hv⟩
  obtain ⟨i0, hi, hz0, hz1, hz2⟩ := info_parts info5
  have hA := (Keep.refl (fun _ => False) w1).alloc (.cells #[.int .u8 (c : Nat)] 5)
  have hownA := own_keep hown hA (fun _ _ e => e)
  have hbkA : (w1.alloc (.cells #[.int .u8 (c : Nat)] 5)).heap[b]? = some (.cells #[.pointer (some ⟨b, 0, none⟩), .slice ao l.length cap] 69 (0, 0)) := by rw [hA.block b hlt (fun e => e)]; exact hbk
  obtain ⟨v', w2, hrun, hown', hgrow, _⟩ := run_append_own (P := Tryd.prog) (w1.alloc (.cells #[.int .u8 (c : Nat)] 5)) b 67 67 5 i0 (.int .u8 0) 1 1 Tryd.underlying67 hi hz0 hz1 hz2 rfl (by decide) _ l.length _ hownA
    ⟨w1.heap.size, 0, none⟩ 1 1 [.int .u8 (c : Nat)] rfl (fun j u hu => new_cell w1 [.int .u8 (c : Nat)] 5 j u hu) (by intro u hu; simp at hu; subst hu; rfl) (by unfold maxLen; omega) (by omega) (Nat.le_trans (Nat.le_of_lt hlt) hA.size)
  have hob : ∀ z, (Value.slice ao l.length cap).ownBlock = some z → b ≤ z := fun z e => by
    rcases hown.2 with ⟨e', -⟩ | ⟨g, c, cur, e', hb, -⟩
    · rw [e'] at e; cases e
    · rw [e'] at e; injection e with e; subst e; exact hb
  have hkg : Keep (fun z => (Value.slice ao l.length cap).ownBlock = some z) (w1.alloc (.cells #[.int .u8 (c : Nat)] 5)) w2 := (grown_keep hgrow).mono fun _ _ e => e.symm
  obtain ⟨d0, d1, f1, hB⟩ := Bu.put (m := l ++ [c]) hbkA hkg hne (by rw [List.length_append, List.map_append]; exact hown')
  have c0 : w1.cell? ⟨b, 0, none⟩ = some (.pointer (some ⟨b, 0, none⟩)) := by rw [Lib.cell_of_heap hbk]; rfl
  have c1 : w1.cell? ⟨b, 1, none⟩ = some (.slice ao l.length cap) := by rw [Lib.cell_of_heap hbk]; rfl
  obtain ⟨bo, n', cap2, rfl⟩ : ∃ ao n' cap, v' = .slice ao n' cap := by
    rcases hown'.2 with ⟨hv, _⟩ | ⟨g, cap, cur, hv, _⟩
    · exact ⟨_, _, _, hv⟩
    · exact ⟨_, _, _, hv⟩
  have HB : Hid (Bu (w2.setCell ⟨b, 1, none⟩ (.slice bo n' cap2)) b (some ⟨b, 0, none⟩) (l ++ [c]) ∧ Keep (fun z => b ≤ z) w (w2.setCell ⟨b, 1, none⟩ (.slice bo n' cap2))) :=
    ⟨hB, (((k1.mono fun z _ e => by omega).trans (hA.mono fun z _ e => e.elim)).trans (hkg.mono fun z _ e => hob z e)).setCell (Or.inl (Nat.le_refl b)) _⟩
  clear hB hown hown' hownA hgrow hkg hob hbk hbkA hne k1 hc hA
  go_wp2_with (at_builtin; refine wpList_app rfl (.tmp 11) (.tmp 13) 67 67 rfl (by rfl) (by rfl) hrun ?_)
  go_ret
  exact ⟨_, rfl, HB.out⟩
end Tg
end Go.Proofs.YtgilagmgepogbaaDoor
