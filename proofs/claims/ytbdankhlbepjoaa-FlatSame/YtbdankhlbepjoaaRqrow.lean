/-
  Rows of pieces of one's own; variables that hold a piece.
-/
import Derived.Test.YtbdankhlbepjoaaNearW
namespace Go.Proofs.Ytbdankhlbepjoaa
open Go.ChangeShapes Go.WideShapes Go.ChangeAt Go.RowKit
namespace Tg

set_option maxRecDepth 100000 in
theorem info45 : (Try.prog.info? 56).map (fun i => (i.zero, i.size, i.bytes)) = some (some (.agg #[.int .i64 0, .int .i64 0, .int .i64 0]), 3, 24) := by kernel_rfl
theorem size45 : (Try.prog.info? 56).map (·.size) = some 3 := by kernel_rfl
theorem under45 : ∃ d, Try.prog.underlying 56 = some d ∧ d.isRow = true := ⟨_, Try.underlying56, rfl⟩
theorem Lrn.load45 {w : World} {g : Nat} {x : Rn} (h : Lrn w g x) : (loadVar 56 ⟨g, 0, none⟩).run Try.prog w = .ok (.agg (rnA x)) w := by
  obtain ⟨t, h1, h2⟩ := under45
  have := run_loadVar_mid (P := Try.prog) w g 0 56 (rnA x).toList t (range_rn h (o := 0) (by omega) (fun i _ => by rw [Nat.zero_add])) h1 h2 (by rw [size45]; simp [rnA])
  simpa using this
theorem Lrn.new45 (w : World) (x : Rn) : Lrn (w.alloc (.cells (rnA x) 56)) w.heap.size x := blk_alloc w _ 56 3 _ (fun i hi => by simp [rnA, hi])
/-- A list of pieces of one's own, in memory made since w0. -/
structure Rq (w0 w : World) (a : Option Addr) (cap : Nat) (m : List Rn) : Prop where
  own : w.ownsRow w0.heap.size 56 3 (.slice a m.length cap) m.length (rcells m)
  keep : Keep (fun _ => False) w0 w

theorem Rq.nil (w : World) : Rq w w none 0 [] := ⟨World.ownsRow_nil _ _ _ _, Keep.refl _ _⟩
theorem Rq.more {w0 w w' : World} {a : Option Addr} {cap : Nat} {m : List Rn} (h : Rq w0 w a cap m) (k : Keep (fun _ => False) w w') : Rq w0 w' a cap m := by
  refine ⟨⟨h.own.1, h.own.2.imp id ?_⟩, h.keep.trans k⟩
  rintro ⟨g, c, cur, e, hb, hh, h1, h2, h3, h4⟩
  exact ⟨g, c, cur, e, hb, by rw [k.block g (by by_cases hg : g < w.heap.size; exact hg; simp [Array.getElem?_eq_none (Nat.le_of_not_lt hg)] at hh) (fun e => e)]; exact hh, h1, h2, h3, h4⟩
theorem Rq.other {S : Nat → Prop} {w0 w w' : World} {a : Option Addr} {cap : Nat} {m : List Rn} (h : Rq w0 w a cap m) (k : Keep S w w') (hs : ∀ g, a = some ⟨g, 0, none⟩ → ¬ S g) (h0 : ∀ x, S x → w0.heap.size ≤ x) : Rq w0 w' a cap m := by
  refine ⟨⟨h.own.1, h.own.2.imp id ?_⟩, h.keep.next k (fun x hx e => by have := h0 x e; omega)⟩
  rintro ⟨g, c, cur, e, hb, hh, h1, h2, h3, h4⟩
  injection e with e1 e2 e3
  exact ⟨g, c, cur, by rw [e1, e3], hb, by rw [k.block g (by by_cases hg : g < w.heap.size; exact hg; simp [Array.getElem?_eq_none (Nat.le_of_not_lt hg)] at hh) (hs g e1)]; exact hh, h1, h2, h3, h4⟩
set_option maxRecDepth 100000 in
theorem Rq.block {w0 w : World} {a : Option Addr} {cap : Nat} {m : List Rn} (h : Rq w0 w a cap m) {g : Nat} (e : a = some ⟨g, 0, none⟩) : w0.heap.size ≤ g ∧ g < w.heap.size := by
  have := h.own.lt g (by rw [e]; rfl)
  exact this
set_option maxRecDepth 100000 in
theorem Rq.rs {w0 w : World} {a : Option Addr} {cap : Nat} {m : List Rn} (h : Rq w0 w a cap m) : Rs w a cap m := by
  obtain ⟨h1, h2⟩ := h.own
  rcases h2 with ⟨e, hn⟩ | ⟨g, c, cur, e, hb, hh, hn, hm, hs, ht⟩
  · injection e with e1 e2 e3
    exact ⟨by omega, by omega, Or.inl (List.eq_nil_of_length_eq_zero hn)⟩
  · injection e with e1 e2 e3
    subst e1 e3
    unfold maxLen at hm
    refine ⟨hn, by omega, Or.inr ⟨g, rfl, fun j u hu => ?_⟩⟩
    have := h.own.cells (g := g) rfl j u hu
    rwa [Addr.add_lit, Nat.zero_add] at this
set_option maxRecDepth 100000 in
theorem Rq.appN {w0 w : World} {a : Option Addr} {cap : Nat} {m : List Rn} (h : Rq w0 w a cap m) (x : Addr) (c : Nat) (ns : List Rn) (hl : m.length + ns.length ≤ 1000000) (hnews : ∀ j u, (rcells ns)[j]? = some u → w.cell? (x.add j) = some u) :
    ∃ a' cap' w', (Builtin.append_ #[42, 42] 42 #[.slice a m.length cap, .slice (some x) ns.length c]).run Try.prog w = .ok (.slice a' (m.length + ns.length) cap') w' ∧ Rq w0 w' a' cap' (m ++ ns) ∧ Keep (fun b => w0.heap.size ≤ b) w w' := by
  obtain ⟨i, hi, hz0, hz1, hz2⟩ := info_parts info45
  have hs := h.keep.size
  obtain ⟨v', w', hrun, hown, hgrow, hnil⟩ := run_append_own (P := Try.prog) w w0.heap.size 42 42 56 i _ 3 24 Try.underlying42 hi hz0 hz1 hz2 rfl (by decide) (.slice a m.length cap) m.length (rcells m) h.own
    x ns.length c (rcells ns) (rcells_len ns) hnews (by intro u hu; obtain ⟨y, _, hy⟩ := List.mem_flatMap.1 hu; simp [rcs] at hy; rcases hy with rfl | rfl | rfl <;> rfl) (by unfold maxLen; omega) (by omega) hs
  have hk : Keep (fun b => w0.heap.size ≤ b) w w' := (keep_grown hgrow).mono (fun b _ e => (h.own.lt b e.symm).1)
  have hK : Keep (fun _ => False) w0 w' := h.keep.next hk (fun y hy e => by omega)
  rw [← rcells_app, ← List.length_append] at hown
  have hshape : ∃ a' cap', v' = .slice a' (m ++ ns).length cap' := by
    rcases hown.2 with ⟨e, hn⟩ | ⟨g, c', cur, e, -⟩
    · exact ⟨none, 0, by rw [hn]; exact e⟩
    · exact ⟨_, _, e⟩
  obtain ⟨a', cap', rfl⟩ := hshape
  exact ⟨a', cap', w', by rw [hrun, List.length_append], ⟨hown, hK⟩, hk⟩
theorem Rq.app1 {w0 w : World} {a : Option Addr} {cap : Nat} {m : List Rn} (h : Rq w0 w a cap m) (hl : m.length ≤ 100000) (x : Rn) :
    ∃ a' cap' w', (Builtin.append_ #[42, 42] 42 #[.slice a m.length cap, .slice (some ⟨w.heap.size, 0, none⟩) 1 1]).run Try.prog (w.alloc (.cells #[.int .i64 x.lba, .int .i64 x.len, .int .i64 x.phys] 56)) = .ok (.slice a' (m.length + 1) cap') w' ∧ Rq w0 w' a' cap' (m ++ [x]) := by
  obtain ⟨a', cap', w', h1, h2, -⟩ := (h.more ((Keep.refl (fun _ => False) w).alloc (.cells #[.int .i64 x.lba, .int .i64 x.len, .int .i64 x.phys] 56))).appN ⟨w.heap.size, 0, none⟩ 1 [x] (by simp; omega) (fun j u hu => cells_new w _ 56 j u (by simpa [rcells, rcs] using hu))
  exact ⟨a', cap', w', h1, h2⟩

end Tg
end Go.Proofs.Ytbdankhlbepjoaa
