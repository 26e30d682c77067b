/-
  The statement's own rows as they are at first: the free list from 1 on, no node live, all fields 0.
-/
import Derived.Test.YtdeepmifolaenaaState
import Derived.Laws.AppendOwn
namespace Go.Proofs.Ytdeepmifolaenaa
open Go.ChangeShapes Go.WideShapes Go.ChangeAt Go.RowKit
namespace Tg

/-- The list of the numbers from 1 to q, in memory made since w; nil where there are none. -/
def Lst (w wr : World) (fa : Option Addr) (cap q : Nat) : Prop :=
  Keep (fun _ => False) w wr ∧ ((q = 0 ∧ fa = none ∧ cap = 0) ∨ ∃ g, fa = some ⟨g, 0, none⟩ ∧ Gw w wr g cap (ints (List.range' 1 q)))

theorem app_nil (w0 w : World) (x : Int) (hx : 0 ≤ x ∧ x ≤ 4294967295) (hk : Keep (fun _ => False) w0 w) :
    ∃ g' cap' w2, (Builtin.append_ #[32, 32] 32 #[.slice none 0 0, .slice (some ⟨w.heap.size, 0, none⟩) 1 1]).run Try.prog (w.alloc (.cells #[.int .u32 x] 27)) = .ok (.slice (some ⟨g', 0, none⟩) 1 cap') w2 ∧ Gw w0 w2 g' cap' [x] := by
  obtain ⟨i, hi, hz0, hz1, hz2⟩ := info_parts Tw.info27
  have hkA : Keep (fun _ => False) w (w.alloc (.cells #[.int .u32 x] 27)) := (Keep.refl _ _).alloc _
  have hr := Tw.row_new w [x] (0, 0) w.heap.size 1 rfl (by simp) (by omega) (by simpa using hx)
  have hnews : ∀ j u, ([Value.int .u32 x])[j]? = some u → (w.alloc (.cells #[.int .u32 x] 27)).cell? ((⟨w.heap.size, 0, none⟩ : Addr).add j) = some u := by
    intro j u hu
    have hj : j = 0 := by
      have := (List.getElem?_eq_some_iff.1 hu).1
      simp at this
      exact this
    subst hj
    have hc : (w.alloc (.cells #[.int .u32 x] 27)).cell? ⟨w.heap.size, 0, none⟩ = some (.int .u32 x) := hr.cellAt (i := 0) (by simp)
    simp at hu
    rw [Addr.add_lit, Nat.zero_add, hc, hu]
  obtain ⟨v', w', hrun, hown, hgrow, -⟩ := run_append_own (P := Try.prog) (w.alloc (.cells #[.int .u32 x] 27)) (w.heap.size + 1) 32 32 27 i (.int .u32 0) 1 4 Try.underlying32 hi hz0 hz1 hz2 rfl (by decide) (.slice none 0 0) 0 [] (World.ownsRow_nil _ _ _ _)
    ⟨w.heap.size, 0, none⟩ 1 1 [.int .u32 x] (by simp) hnews (by simp [Value.oneCell']) (by unfold maxLen; omega) (by omega) (by simp)
  obtain ⟨hol, hcase⟩ := hown
  rcases hcase with ⟨_, h0⟩ | ⟨g', cap', cur, rfl, hg', hh, hn, hcm, hsz, htake⟩
  · omega
  · unfold maxLen at hcm
    have hcur : cur[0]? = some (.int .u32 x) := by
      have e1 : (cur.toList.take ((0 + 1) * 1))[0]? = cur.toList[0]? := by rw [List.getElem?_take]; rw [if_pos (by omega)]
      rw [htake] at e1
      rw [← Array.getElem?_toList, ← e1]
      rfl
    have hs0 := hk.size
    refine ⟨g', cap', w', hrun, ⟨rfl, by simpa using hn, by omega, by simpa using hx, Or.inr ⟨_, _, rfl, fun i hi => ?_⟩⟩, fun i hi => ?_, by omega, (hk.trans hkA).next (Keep.of_grown (S := fun _ => False) (by simpa [Value.ownBlock] using hgrow)) (fun _ _ e => e)⟩
    · obtain rfl : i = 0 := by simp at hi; omega
      simp only [Nat.zero_add, World.cell?, hh]
      simpa using hcur
    · have hi' : i < cur.size := by omega
      constructor
      · simp [World.cell?, hh, hi']
      · simp [World.frozen?, hh]

theorem Lst.app {w wr : World} {fa : Option Addr} {cap q : Nat} (h : Lst w wr fa cap q) (hq : q ≤ 512) :
    ∃ g' cap' w2, (Builtin.append_ #[32, 32] 32 #[.slice fa q cap, .slice (some ⟨wr.heap.size, 0, none⟩) 1 1]).run Try.prog (wr.alloc (.cells #[.int .u32 ((q : Int) + 1)] 27)) = .ok (.slice (some ⟨g', 0, none⟩) (q + 1) cap') w2 ∧ Lst w w2 (some ⟨g', 0, none⟩) cap' (q + 1) := by
  obtain ⟨hk, hc⟩ := h
  have hl : ints (List.range' 1 (q + 1)) = ints (List.range' 1 q) ++ [(q : Int) + 1] := by
    rw [List.range'_concat, ints_app]
    simp [ints]
    omega
  rcases hc with ⟨rfl, rfl, rfl⟩ | ⟨g, rfl, hg⟩
  · obtain ⟨g', cap', w2, hrun, hg⟩ := app_nil w wr 1 (by omega) hk
    exact ⟨g', cap', w2, hrun, hg.keep, Or.inr ⟨g', rfl, hg⟩⟩
  · have hK : Keep (fun _ => False) wr (wr.alloc (.cells #[.int .u32 ((q : Int) + 1)] 27)) := (Keep.refl _ _).alloc _
    obtain ⟨g2, cap2, w2, hrun, hg2⟩ := (hg.more hK).app (n := q) (by rw [ints_len, List.length_range']) (Tw.row_new wr [(q : Int) + 1] (0, 0) wr.heap.size 1 rfl (by simp) (by omega) (by simp; omega)) (by simp; omega)
    refine ⟨g2, cap2, w2, hrun, hg2.keep, Or.inr ⟨g2, rfl, ?_⟩⟩
    rw [hl]; exact hg2

theorem info4 : (Try.prog.info? 4).map (fun i => (i.zero, i.size, i.bytes)) = some (some (.bool false), 1, 1) := by kernel_rfl
theorem info40 : (Try.prog.info? 40).map (fun i => (i.zero, i.size, i.bytes)) = some (some (.agg #[.int .u32 0, .int .u32 0, .int .i64 0, .int .i64 0, .int .i64 0, .int .i64 0]), 6, 40) := by kernel_rfl
theorem make_bools (n : Nat) (hn : n ≤ 512) (w : World) : (Instr.makeSlice 33 (.int .i64 ((n : Int) + 1)) (.int .i64 ((n : Int) + 1))).run Try.prog w = .ok (.slice (some ⟨w.heap.size, 0, none⟩) (n + 1) (n + 1)) (w.alloc (.cells (madeCells #[.bool false] (n + 1)) 4)) :=
  run_make_row' (P := Try.prog) 33 4 (.bool false) 1 Try.underlying33 info4 rfl .i64 .i64 (n + 1) (by omega) (by omega) w
theorem make_nodes (n : Nat) (hn : n ≤ 512) (w : World) : (Instr.makeSlice 34 (.int .i64 ((n : Int) + 1)) (.int .i64 ((n : Int) + 1))).run Try.prog w =
    .ok (.slice (some ⟨w.heap.size, 0, none⟩) (n + 1) (n + 1)) (w.alloc (.cells (madeCells (nodeA fun _ => 0) ((n + 1) * 6)) 40)) := by
  obtain ⟨i, hi, hz0, hz1, hz2⟩ := info_parts info40
  have := run_make (P := Try.prog) w 34 40 i _ Try.underlying34 hi hz0 .i64 .i64 (n + 1) (n + 1) (by omega) (by omega) (by rw [hz2]; omega) (by omega)
  rw [hz1] at this
  exact this
theorem blk_bools (w : World) (n : Nat) : Blk (w.alloc (.cells (madeCells #[.bool false] n) 4)) w.heap.size n (fun _ => .bool false) := fun i hi =>
  ⟨(World.rowIs_made w (.bool false) n 4).cell hi, (World.rowIs_made w (.bool false) n 4).frozen i⟩
theorem blk_nodes (w : World) (n : Nat) : Blk (w.alloc (.cells (madeCells (nodeA fun _ => 0) (n * 6)) 40)) w.heap.size (n * 6) (fun i => nval (i % 6) 0) := by
  refine blk_alloc _ _ _ _ _ (fun i hi => ?_)
  simp only [node0]
  simp [madeCells, hi]
  have h6 : i % 6 = 0 ∨ i % 6 = 1 ∨ i % 6 = 2 ∨ i % 6 = 3 ∨ i % 6 = 4 ∨ i % 6 = 5 := by omega
  rcases h6 with h | h | h | h | h | h <;> simp [h, nval]

/-- All as it is at first. -/
theorem Pl.start {w w1 wr : World} {p k n cap : Nat} {fa : Option Addr} (hm : Mk w w1 p k (Ar.new n) (List.range' 1 n)) (h1 : 1 ≤ n) (hl : Lst w1 wr fa cap n) :
    Pl w ((wr.alloc (.cells (madeCells #[.bool false] (n + 1)) 4)).alloc (.cells (madeCells (nodeA fun _ => 0) ((n + 1) * 6)) 40)) p k wr.heap.size (wr.heap.size + 1) (Ar.new n) (List.range' 1 n) (fun _ _ => 0) fa cap := by
  obtain ⟨hk, hc⟩ := hl
  rcases hc with ⟨e, _⟩ | ⟨g, rfl, hg⟩
  · omega
  have hkA : Keep (fun _ => False) wr ((wr.alloc (.cells (madeCells #[.bool false] (n + 1)) 4)).alloc (.cells (madeCells (nodeA fun _ => 0) ((n + 1) * 6)) 40)) := ((Keep.refl _ _).alloc _).alloc _
  have hB := (blk_bools wr (n + 1)).alloc (.cells (madeCells (nodeA fun _ => 0) ((n + 1) * 6)) 40)
  have hC := blk_nodes (wr.alloc (.cells (madeCells #[.bool false] (n + 1)) 4)) (n + 1)
  simp only [World.size_alloc] at hC
  have b1 := hm.mem.top.lt (by omega)
  have b2 := hm.mem.blk.lt (by show 0 < n * 8; omega)
  have b3 := hk.size
  have b4 := hm.keep.size
  have hrow := hg.row
  rw [ints_len] at hrow
  have bg : g < wr.heap.size := by
    have := hrow.cellAt (i := 0) (by simp; omega)
    exact World.block_lt_of_cell? wr _ this
  have bn := hg.new
  refine ⟨(hm.more hk).more hkA, hB, hC, fun x hx => (Bool.false_ne_true hx).elim, hrow.keep hkA (fun _ _ _ e => e), fun b o e => ?_, by omega, by omega, by omega, by omega, by omega, by omega, by omega⟩
  simp only [Option.some.injEq, Addr.mk.injEq, and_true] at e
  obtain ⟨rfl, rfl⟩ := e
  omega
end Tg
end Go.Proofs.Ytdeepmifolaenaa
