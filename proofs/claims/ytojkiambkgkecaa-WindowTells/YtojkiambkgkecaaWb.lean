/-
  What the documents own answers lean on: blocks of memory, rows of triples, of numbers; runs in their form, entries, pieces folded; the flat map.
-/
import Derived.Test.YtojkiambkgkecaaWa
import Derived.WalkKit
import Derived.ProofKit
import Derived.OpenShut
import Derived.ShutString
import Derived.ChangeOld
import Derived.Below
import Derived.Deep.OwnRows
import Derived.Laws.IdiomCopy
import Derived.Lib.SlBytesConst
import Derived.Lib.ConvBytes
import Derived.Laws.BytesArg
import Derived.SizedLaws
import Derived.ArgAppend
import Derived.BigQuiet
import Derived.BigRegion
import Derived.Deep.MidRow
import Derived.ChangeKeysEq
import Derived.Laws.ResultCell
import Derived.Deep.RegionHeld3
import Derived.Deep.CutBlock
import Derived.Laws.AppendOwn
import Derived.Laws.OwnMore
import Derived.Deep.Slices
import Derived.Deep.Grids
namespace Go.Proofs.Ytojkiambkgkecaa
open Go.ChangeShapes Go.WideShapes Go.ChangeAt Go.RowKit
namespace Tg
theorem cutL_cut {w : List Rn} (hw : Form w) (hi : Int) : ∀ (m a : List Rn) (lo : Int), w = a ++ m → lo ≤ hi → (∀ y ∈ a, y.fin ≤ lo) → Cut (page w) hi lo (cutL hi lo m)
  | [], a, lo, e, hl, ha => by
    rw [cutL]
    split
    · next c =>
      refine Cut.hole c (Int.le_refl _) (fun s h1 h2 => page_none (fun y hy => ?_)) (Or.inr rfl) (show hi = hi from rfl)
      have := ha y (by simpa [e] using hy)
      omega
    · show lo = hi
      omega
  | x :: m, a, lo, e, hl, ha => by
    have hx : x ∈ w := by rw [e]; simp
    have hform := hw
    rw [e] at hform
    obtain ⟨fa, fx, fax⟩ := Form.app.1 hform
    obtain ⟨ho, hr, hm⟩ := Form.cons.1 fx
    have ho2 := ho.2.1
    have e' : w = (a ++ [x]) ++ m := by rw [e]; simp
    have hnone : ∀ s, lo ≤ s → s < x.lba → page w s = none := fun s s1 s2 => page_none (fun y hy c => by
      rw [e] at hy
      rcases List.mem_append.1 hy with hy | hy
      · have := ha y hy; omega
      · rcases List.mem_cons.1 hy with rfl | hy
        · omega
        · have := (hr y hy).1
          unfold Rn.fin at *
          omega)
    rw [cutL]
    by_cases c1 : hi ≤ lo
    · rw [if_pos c1]; show lo = hi; omega
    rw [if_neg c1]
    by_cases c2 : x.fin ≤ lo
    · rw [if_pos c2]
      exact cutL_cut hw hi m (a ++ [x]) lo e' hl (fun y hy => by
        rcases List.mem_append.1 hy with hy | hy
        · exact ha y hy
        · rw [List.mem_singleton] at hy; subst hy; exact c2)
    rw [if_neg c2]
    have hrest : ∀ k, lo ≤ k → k ≤ hi → (k = hi ∨ k = x.fin) → Cut (page w) hi k (cutL hi k m) := by
      intro k k1 k2 k3
      by_cases c : k = hi
      · subst c
        have : cutL k k m = [] := by
          cases m with
          | nil => rw [cutL, if_neg (by omega)]
          | cons y m => rw [cutL, if_pos (by omega)]
        rw [this]
        exact rfl
      · have c : k = x.fin := k3.resolve_left c
        refine cutL_cut hw hi m (a ++ [x]) k e' k2 (fun y hy => ?_)
        rcases List.mem_append.1 hy with hy | hy
        · have := ha y hy; omega
        · rw [List.mem_singleton] at hy; subst hy; omega
    have hE : ∀ E, E = (if hi ≤ x.fin then hi else x.fin) → E ≤ hi ∧ E ≤ x.fin ∧ (E = x.fin ∨ E = hi) := by
      intro E hE
      split at hE <;> omega
    generalize hEe : (if hi ≤ x.fin then hi else x.fin) = E
    obtain ⟨e1, e2, e3⟩ := hE E hEe.symm
    by_cases c3 : lo < x.lba
    · rw [if_pos c3]
      by_cases c4 : hi ≤ x.lba
      · rw [if_pos c4]
        exact Cut.hole (by omega) (Int.le_refl _) (fun s s1 s2 => hnone s s1 (by omega)) (Or.inr rfl) (show hi = hi from rfl)
      · rw [if_neg c4]
        have hlt : x.lba < E := by unfold Rn.fin at *; omega
        refine Cut.hole c3 (by omega) hnone (Or.inl (hole_end hw hx)) ?_
        have := Cut.run hw hx (Int.le_refl _) hlt e2 e1 e3 (hrest E (by omega) e1 e3.symm)
        rwa [Int.sub_self, Int.add_zero] at this
    · rw [if_neg c3]
      exact Cut.run hw hx (by omega) (by omega) e2 e1 e3 (hrest E (by omega) e1 e3.symm)
theorem Of.cutL {t : List Int} {m : List Rn} (h : Of t m) {lba n : Nat} (hr : lba + n ≤ t.length) : Tg.cutL ((lba : Int) + n) lba m = refP t lba n :=
  h.cut hr (cutL_cut h.1 _ m [] _ rfl (by omega) (by simp))
/-- A row of runs one behind the other. -/
def Asc (c : List Rn) : Prop := (∀ x ∈ c, x.Ok) ∧ c.Pairwise (fun a b => a.fin ≤ b.lba)
theorem Form.asc {m : List Rn} (h : Form m) : Asc m := ⟨h.1, h.2.imp (fun e => e.1)⟩
/-- Is a range right? -/
def okR (cap lba n : Int) : Bool := decide (1 ≤ n) && (decide (0 ≤ lba) && decide (n ≤ cap - lba))
theorem okR_iff {cap lba n : Int} : okR cap lba n = true ↔ 1 ≤ n ∧ 0 ≤ lba ∧ n ≤ cap - lba := by simp [okR]
theorem wrapI {x : Int} (h1 : -9223372036854775808 ≤ x) (h2 : x ≤ 9223372036854775807) : IntKind.i64.wrap x = x := by rw [IntKind.wrap_i64] <;> omega
theorem set_cells {a : List Rn} {x : Rn} {v : Int} : (rcells (a ++ [x])).set (a.length * 3 + 1) (.int .i64 v) = rcells (a ++ [⟨x.lba, v, x.phys⟩]) := by
  rw [rcells_app, rcells_app, List.set_append_right _ _ (by rw [rcells_len]; omega), rcells_len, show a.length * 3 + 1 - a.length * 3 = 1 by omega]
  rfl
/-- The last run's length is written over. -/
theorem Rr.setLen {w0 w : World} {g cap : Nat} {a : List Rn} {x : Rn} (h : Rr w0 w (some ⟨g, 0, none⟩) cap (a ++ [x])) (v : Int) :
    Rr w0 (w.setCell ⟨g, a.length * 3 + 1, none⟩ (.int .i64 v)) (some ⟨g, 0, none⟩) cap (a ++ [⟨x.lba, v, x.phys⟩]) := by
  have hl : (a ++ [x]).length = (a ++ [(⟨x.lba, v, x.phys⟩ : Rn)]).length := by simp
  obtain ⟨h1, h2⟩ := h.own.stored (a.length * 3 + 1) (.int .i64 v)
  rw [set_cells] at h1
  refine ⟨by rw [← hl]; exact h1, h.keep.next (keep_grown h2) (fun y hy e => ?_)⟩
  injection e with e
  have := (h.block rfl).1
  omega
theorem Lrn.c {w : World} {g : Nat} {x : Rn} (h : Lrn w g x) : w.cell? ⟨g, 0, none⟩ = some (.int .i64 x.lba) ∧ w.cell? ⟨g, 1, none⟩ = some (.int .i64 x.len) ∧ w.cell? ⟨g, 2, none⟩ = some (.int .i64 x.phys) :=
  ⟨(h 0 (by omega)).1, (h 1 (by omega)).1, (h 2 (by omega)).1⟩
/-- A run's variable written over, in a region that draws. -/
theorem Lrn.over' {wr w1 w3 : World} {g : Nat} {x : Rn} (h : Lrn w3 g x) (K1 : Keep (fun _ => False) wr w1) (K3 : Keep (fun _ => False) w1 w3) (y : Rn) (hg : wr.heap.size ≤ g) :
    Lrn (((w3.setCell ⟨g, 0, none⟩ (.int .i64 y.lba)).setCell ⟨g, 1, none⟩ (.int .i64 y.len)).setCell ⟨g, 2, none⟩ (.int .i64 y.phys)).drew g y ∧
      Keep (fun _ => False) wr (((w3.setCell ⟨g, 0, none⟩ (.int .i64 y.lba)).setCell ⟨g, 1, none⟩ (.int .i64 y.len)).setCell ⟨g, 2, none⟩ (.int .i64 y.phys)).drew :=
  ⟨(h.put y).more ((Keep.refl _ _).drew), ((((K1.trans K3).setCell (p := ⟨g, 0, none⟩) (Or.inr hg) _).setCell (p := ⟨g, 1, none⟩) (Or.inr hg) _).setCell (p := ⟨g, 2, none⟩) (Or.inr hg) _).drew⟩
set_option maxRecDepth 100000 in
/-- One run more, and where the row then lies. -/
theorem Rr.appS {w0 w : World} {a : Option Addr} {cap : Nat} {m : List Rn} (h : Rr w0 w a cap m) (hl : m.length ≤ 100000) (x : Rn) :
    ∃ a' cap' w', (Builtin.append_ #[27, 27] 27 #[.slice a m.length cap, .slice (some ⟨w.heap.size, 0, none⟩) 1 1]).run Try.prog (w.alloc (.cells #[.int .i64 x.lba, .int .i64 x.len, .int .i64 x.phys] 39)) = .ok (.slice a' (m.length + 1) cap') w' ∧ Rr w0 w' a' cap' (m ++ [x]) ∧
      Keep (fun b => a = some ⟨b, 0, none⟩) w w' ∧ (a' = a ∨ ∃ g, a' = some ⟨g, 0, none⟩ ∧ w.heap.size ≤ g) := by
  have hA := (Keep.refl (fun _ => False) w).alloc (.cells #[.int .i64 x.lba, .int .i64 x.len, .int .i64 x.phys] 39)
  have h1 := h.more hA
  have hsz : w.heap.size ≤ (w.alloc (.cells #[.int .i64 x.lba, .int .i64 x.len, .int .i64 x.phys] 39)).heap.size := hA.size
  have hnews : ∀ j u, (rcells [x])[j]? = some u → (w.alloc (.cells #[.int .i64 x.lba, .int .i64 x.len, .int .i64 x.phys] 39)).cell? ((⟨w.heap.size, 0, none⟩ : Addr).add j) = some u := fun j u hu => cells_new w _ 39 j u (by simpa [rcells, rcs] using hu)
  have hone : ∀ u ∈ rcells [x], u.oneCell' = true := by intro u hu; simp [rcells, rcs] at hu; rcases hu with rfl | rfl | rfl <;> rfl
  obtain ⟨i, hi, hz0, hz1, hz2⟩ := info_parts info31
  generalize w.alloc (.cells #[.int .i64 x.lba, .int .i64 x.len, .int .i64 x.phys] 39) = w1 at *
  obtain ⟨v', w', hrun, hown, hgrow, hnil⟩ := run_append_own (P := Try.prog) w1 w0.heap.size 27 27 39 i _ 3 24 Try.underlying27 hi hz0 hz1 hz2 rfl (by decide) (.slice a m.length cap) m.length (rcells m) h1.own
    ⟨w.heap.size, 0, none⟩ 1 1 (rcells [x]) (rcells_len [x]) hnews hone (by unfold maxLen; omega) (by omega) h1.keep.size
  have hk : Keep (fun b => a = some ⟨b, 0, none⟩) w1 w' := (keep_grown hgrow).mono (fun b _ e => by
    rcases h1.own.2 with ⟨e', -⟩ | ⟨g, c, cur, e', -⟩
    · injection e' with e'; subst e'; cases e
    · injection e' with e'; subst e'; injection e with e; subst e; rfl)
  have hK : Keep (fun b => a = some ⟨b, 0, none⟩) w w' := (hA.mono (fun _ _ e => e.elim)).next hk (fun y hy e => e)
  have hK0 : Keep (fun _ => False) w0 w' := h1.keep.next hk (fun y hy e => by have := (h1.block e).1; omega)
  rw [← rcells_app] at hown
  have hshape : ∃ a' cap', v' = .slice a' (m.length + 1) cap' := by
    rcases hown.2 with ⟨e, hn⟩ | ⟨g, c', cur, e, -⟩
    · omega
    · exact ⟨_, _, e⟩
  obtain ⟨a', cap', rfl⟩ := hshape
  refine ⟨a', cap', w', hrun, ⟨by rw [List.length_append]; exact hown, hK0⟩, hK, ?_⟩
  rcases h1.own.2 with ⟨e', hn⟩ | ⟨g, c, cur, e', hb, hh, hnc, hm, hs, ht⟩
  · injection e' with e1 e2 e3
    subst e1 e3
    have hn' := run_append_nil (P := Try.prog) w1 27 27 39 i _ Try.underlying27 hi hz0 ⟨w.heap.size, 0, none⟩ 1 1 (rcells [x]) (by rw [hz1]; rfl) hnews (by omega) (by omega) (by rw [hz2]; omega)
    rw [hn] at hrun
    rw [hn'] at hrun
    injection hrun with hr1 hr2
    injection hr1 with hr1 hr3 hr4
    exact Or.inr ⟨_, hr1.symm, hsz⟩
  · injection e' with e1 e2 e3
    subst e1 e3
    by_cases hroom : m.length + 1 ≤ cap
    · obtain ⟨w'', hf, -, -⟩ := run_append_fits (P := Try.prog) w1 w0.heap.size 27 27 39 i 3 Try.underlying27 hi hz1 g m.length cap (rcells m) h1.own ⟨w.heap.size, 0, none⟩ 1 1 (rcells [x]) (rcells_len [x]) hnews hone hroom
      rw [hf] at hrun
      injection hrun with hr1 hr2
      injection hr1 with hr1 hr3 hr4
      exact Or.inl hr1.symm
    · have hg := run_append_grow (P := Try.prog) w1 27 27 39 i _ Try.underlying27 hi hz0 ⟨g, 0, none⟩ m.length cap (rcells m) (by rw [hz1]; exact rcells_len m) (h1.own.cells (g := g) rfl) ⟨w.heap.size, 0, none⟩ 1 1 (rcells [x]) (by rw [hz1]; rfl) hnews (by omega) (by omega) (growslice_fits (by omega) (by rw [hz2]; omega))
      rw [hg] at hrun
      injection hrun with hr1 hr2
      injection hr1 with hr1 hr3 hr4
      exact Or.inr ⟨_, hr1.symm, hsz⟩
set_option maxRecDepth 100000 in
theorem info45 : (Try.prog.info? 38).map (fun i => (i.zero, i.size, i.bytes)) = some (some (.agg #[.int .i64 0, .int .i64 0, .int .i64 0]), 3, 24) := by kernel_rfl
theorem size45 : (Try.prog.info? 38).map (·.size) = some 3 := by kernel_rfl
theorem under45 : ∃ d, Try.prog.underlying 38 = some d ∧ d.isRow = true := ⟨_, Try.underlying38, rfl⟩
theorem Lrn.load45 {w : World} {g : Nat} {x : Rn} (h : Lrn w g x) : (loadVar 38 ⟨g, 0, none⟩).run Try.prog w = .ok (.agg (rnA x)) w := by
  obtain ⟨t, h1, h2⟩ := under45
  have := run_loadVar_mid (P := Try.prog) w g 0 38 (rnA x).toList t (range_rn h (o := 0) (by omega) (fun i _ => by rw [Nat.zero_add])) h1 h2 (by rw [size45]; simp [rnA])
  simpa using this
theorem Lrn.new45 (w : World) (x : Rn) : Lrn (w.alloc (.cells (rnA x) 38)) w.heap.size x := blk_alloc w _ 38 3 _ (fun i hi => by simp [rnA, hi])
/-- A list of pieces of one's own, in memory made since w0. -/
structure Rq (w0 w : World) (a : Option Addr) (cap : Nat) (m : List Rn) : Prop where
  own : w.ownsRow w0.heap.size 38 3 (.slice a m.length cap) m.length (rcells m)
  keep : Keep (fun _ => False) w0 w
theorem Rq.nil (w : World) : Rq w w none 0 [] := ⟨World.ownsRow_nil _ _ _ _, Keep.refl _ _⟩
theorem Rq.more {w0 w w' : World} {a : Option Addr} {cap : Nat} {m : List Rn} (h : Rq w0 w a cap m) (k : Keep (fun _ => False) w w') : Rq w0 w' a cap m := by
  refine ⟨⟨h.own.1, h.own.2.imp id ?_⟩, h.keep.trans k⟩
  rintro ⟨g, c, cur, e, hb, hh, h1, h2, h3, h4⟩
  exact ⟨g, c, cur, e, hb, by rw [k.block g (by by_cases hg : g < w.heap.size; exact hg; simp [Array.getElem?_eq_none (Nat.le_of_not_lt hg)] at hh) (fun e => e)]; exact hh, h1, h2, h3, h4⟩
theorem Rq.other {S : Nat → Prop} {w0 w w' : World} {a : Option Addr} {cap : Nat} {m : List Rn} (h : Rq w0 w a cap m) (k : Keep S w w') (hs : ∀ g, a = some ⟨g, 0, none⟩ → ¬ S g) (h0 : ∀ x, S x → w0.heap.size ≤ x) : Rq w0 w' a cap m := by
  refine ⟨⟨h.own.1, h.own.2.imp id ?_⟩, h.keep.next k (fun x hx e => by have := h0 x e; omega)⟩
  rintro ⟨g, c, cur, e, hb, hh, h1, h2, h3, h4⟩
  injection e with e1 e2 e3
  exact ⟨g, c, cur, by rw [e1, e3], hb, by rw [k.block g (by by_cases hg : g < w.heap.size; exact hg; simp [Array.getElem?_eq_none (Nat.le_of_not_lt hg)] at hh) (hs g e1)]; exact hh, h1, h2, h3, h4⟩
set_option maxRecDepth 100000 in
theorem Rq.block {w0 w : World} {a : Option Addr} {cap : Nat} {m : List Rn} (h : Rq w0 w a cap m) {g : Nat} (e : a = some ⟨g, 0, none⟩) : w0.heap.size ≤ g ∧ g < w.heap.size := by
  have := h.own.lt g (by rw [e]; rfl)
  exact this
set_option maxRecDepth 100000 in
theorem Rq.rs {w0 w : World} {a : Option Addr} {cap : Nat} {m : List Rn} (h : Rq w0 w a cap m) : Rs w a cap m := by
  obtain ⟨h1, h2⟩ := h.own
  rcases h2 with ⟨e, hn⟩ | ⟨g, c, cur, e, hb, hh, hn, hm, hs, ht⟩
  · injection e with e1 e2 e3
    exact ⟨by omega, by omega, Or.inl (List.eq_nil_of_length_eq_zero hn)⟩
  · injection e with e1 e2 e3
    subst e1 e3
    unfold maxLen at hm
    refine ⟨hn, by omega, Or.inr ⟨g, rfl, fun j u hu => ?_⟩⟩
    have := h.own.cells (g := g) rfl j u hu
    rwa [Addr.add_lit, Nat.zero_add] at this
set_option maxRecDepth 100000 in
theorem Rq.appN {w0 w : World} {a : Option Addr} {cap : Nat} {m : List Rn} (h : Rq w0 w a cap m) (x : Addr) (c : Nat) (ns : List Rn) (hl : m.length + ns.length ≤ 1000000) (hnews : ∀ j u, (rcells ns)[j]? = some u → w.cell? (x.add j) = some u) :
    ∃ a' cap' w', (Builtin.append_ #[23, 23] 23 #[.slice a m.length cap, .slice (some x) ns.length c]).run Try.prog w = .ok (.slice a' (m.length + ns.length) cap') w' ∧ Rq w0 w' a' cap' (m ++ ns) ∧ Keep (fun b => w0.heap.size ≤ b) w w' := by
  obtain ⟨i, hi, hz0, hz1, hz2⟩ := info_parts info45
  have hs := h.keep.size
  obtain ⟨v', w', hrun, hown, hgrow, hnil⟩ := run_append_own (P := Try.prog) w w0.heap.size 23 23 38 i _ 3 24 Try.underlying23 hi hz0 hz1 hz2 rfl (by decide) (.slice a m.length cap) m.length (rcells m) h.own
    x ns.length c (rcells ns) (rcells_len ns) hnews (by intro u hu; obtain ⟨y, _, hy⟩ := List.mem_flatMap.1 hu; simp [rcs] at hy; rcases hy with rfl | rfl | rfl <;> rfl) (by unfold maxLen; omega) (by omega) hs
  have hk : Keep (fun b => w0.heap.size ≤ b) w w' := (keep_grown hgrow).mono (fun b _ e => (h.own.lt b e.symm).1)
  have hK : Keep (fun _ => False) w0 w' := h.keep.next hk (fun y hy e => by omega)
  rw [← rcells_app, ← List.length_append] at hown
  have hshape : ∃ a' cap', v' = .slice a' (m ++ ns).length cap' := by
    rcases hown.2 with ⟨e, hn⟩ | ⟨g, c', cur, e, -⟩
    · exact ⟨none, 0, by rw [hn]; exact e⟩
    · exact ⟨_, _, e⟩
  obtain ⟨a', cap', rfl⟩ := hshape
  exact ⟨a', cap', w', by rw [hrun, List.length_append], ⟨hown, hK⟩, hk⟩
theorem Rq.app1 {w0 w : World} {a : Option Addr} {cap : Nat} {m : List Rn} (h : Rq w0 w a cap m) (hl : m.length ≤ 100000) (x : Rn) :
    ∃ a' cap' w', (Builtin.append_ #[23, 23] 23 #[.slice a m.length cap, .slice (some ⟨w.heap.size, 0, none⟩) 1 1]).run Try.prog (w.alloc (.cells #[.int .i64 x.lba, .int .i64 x.len, .int .i64 x.phys] 38)) = .ok (.slice a' (m.length + 1) cap') w' ∧ Rq w0 w' a' cap' (m ++ [x]) := by
  obtain ⟨a', cap', w', h1, h2, -⟩ := (h.more ((Keep.refl (fun _ => False) w).alloc (.cells #[.int .i64 x.lba, .int .i64 x.len, .int .i64 x.phys] 38))).appN ⟨w.heap.size, 0, none⟩ 1 [x] (by simp; omega) (fun j u hu => cells_new w _ 38 j u (by simpa [rcells, rcs] using hu))
  exact ⟨a', cap', w', h1, h2⟩
set_option maxRecDepth 100000 in
/-- One piece more, and where the row then lies. -/
theorem Rq.appS {w0 w : World} {a : Option Addr} {cap : Nat} {m : List Rn} (h : Rq w0 w a cap m) (hl : m.length ≤ 100000) (x : Rn) :
    ∃ a' cap' w', (Builtin.append_ #[23, 23] 23 #[.slice a m.length cap, .slice (some ⟨w.heap.size, 0, none⟩) 1 1]).run Try.prog (w.alloc (.cells #[.int .i64 x.lba, .int .i64 x.len, .int .i64 x.phys] 38)) = .ok (.slice a' (m.length + 1) cap') w' ∧ Rq w0 w' a' cap' (m ++ [x]) ∧
      Keep (fun b => a = some ⟨b, 0, none⟩) w w' ∧ (a' = a ∨ ∃ g, a' = some ⟨g, 0, none⟩ ∧ w.heap.size ≤ g) := by
  have hA := (Keep.refl (fun _ => False) w).alloc (.cells #[.int .i64 x.lba, .int .i64 x.len, .int .i64 x.phys] 38)
  have h1 := h.more hA
  have hsz : w.heap.size ≤ (w.alloc (.cells #[.int .i64 x.lba, .int .i64 x.len, .int .i64 x.phys] 38)).heap.size := hA.size
  have hnews : ∀ j u, (rcells [x])[j]? = some u → (w.alloc (.cells #[.int .i64 x.lba, .int .i64 x.len, .int .i64 x.phys] 38)).cell? ((⟨w.heap.size, 0, none⟩ : Addr).add j) = some u := fun j u hu => cells_new w _ 38 j u (by simpa [rcells, rcs] using hu)
  have hone : ∀ u ∈ rcells [x], u.oneCell' = true := by intro u hu; simp [rcells, rcs] at hu; rcases hu with rfl | rfl | rfl <;> rfl
  obtain ⟨i, hi, hz0, hz1, hz2⟩ := info_parts info45
  generalize w.alloc (.cells #[.int .i64 x.lba, .int .i64 x.len, .int .i64 x.phys] 38) = w1 at *
  obtain ⟨v', w', hrun, hown, hgrow, hnil⟩ := run_append_own (P := Try.prog) w1 w0.heap.size 23 23 38 i _ 3 24 Try.underlying23 hi hz0 hz1 hz2 rfl (by decide) (.slice a m.length cap) m.length (rcells m) h1.own
    ⟨w.heap.size, 0, none⟩ 1 1 (rcells [x]) (rcells_len [x]) hnews hone (by unfold maxLen; omega) (by omega) h1.keep.size
  have hk : Keep (fun b => a = some ⟨b, 0, none⟩) w1 w' := (keep_grown hgrow).mono (fun b _ e => by
    rcases h1.own.2 with ⟨e', -⟩ | ⟨g, c, cur, e', -⟩
    · injection e' with e'; subst e'; cases e
    · injection e' with e'; subst e'; injection e with e; subst e; rfl)
  have hK : Keep (fun b => a = some ⟨b, 0, none⟩) w w' := (hA.mono (fun _ _ e => e.elim)).next hk (fun y hy e => e)
  have hK0 : Keep (fun _ => False) w0 w' := h1.keep.next hk (fun y hy e => by have := (h1.block e).1; omega)
  rw [← rcells_app] at hown
  have hshape : ∃ a' cap', v' = .slice a' (m.length + 1) cap' := by
    rcases hown.2 with ⟨e, hn⟩ | ⟨g, c', cur, e, -⟩
    · omega
    · exact ⟨_, _, e⟩
  obtain ⟨a', cap', rfl⟩ := hshape
  refine ⟨a', cap', w', hrun, ⟨by rw [List.length_append]; exact hown, hK0⟩, hK, ?_⟩
  rcases h1.own.2 with ⟨e', hn⟩ | ⟨g, c, cur, e', hb, hh, hnc, hm, hs, ht⟩
  · injection e' with e1 e2 e3
    subst e1 e3
    have hn' := run_append_nil (P := Try.prog) w1 23 23 38 i _ Try.underlying23 hi hz0 ⟨w.heap.size, 0, none⟩ 1 1 (rcells [x]) (by rw [hz1]; rfl) hnews (by omega) (by omega) (by rw [hz2]; omega)
    rw [hn] at hrun
    rw [hn'] at hrun
    injection hrun with hr1 hr2
    injection hr1 with hr1 hr3 hr4
    exact Or.inr ⟨_, hr1.symm, hsz⟩
  · injection e' with e1 e2 e3
    subst e1 e3
    by_cases hroom : m.length + 1 ≤ cap
    · obtain ⟨w'', hf, -, -⟩ := run_append_fits (P := Try.prog) w1 w0.heap.size 23 23 38 i 3 Try.underlying23 hi hz1 g m.length cap (rcells m) h1.own ⟨w.heap.size, 0, none⟩ 1 1 (rcells [x]) (rcells_len [x]) hnews hone hroom
      rw [hf] at hrun
      injection hrun with hr1 hr2
      injection hr1 with hr1 hr3 hr4
      exact Or.inl hr1.symm
    · have hg := run_append_grow (P := Try.prog) w1 23 23 38 i _ Try.underlying23 hi hz0 ⟨g, 0, none⟩ m.length cap (rcells m) (by rw [hz1]; exact rcells_len m) (h1.own.cells (g := g) rfl) ⟨w.heap.size, 0, none⟩ 1 1 (rcells [x]) (by rw [hz1]; rfl) hnews (by omega) (by omega) (growslice_fits (by omega) (by rw [hz2]; omega))
      rw [hg] at hrun
      injection hrun with hr1 hr2
      injection hr1 with hr1 hr3 hr4
      exact Or.inr ⟨_, hr1.symm, hsz⟩
theorem take_next {m : List Rn} {i : Nat} {x : Rn} (hx : m[i]? = some x) : m.take (i + 1) = m.take i ++ [x] := by rw [List.take_add_one, hx]; rfl
theorem cells3 : Try.prog.cellsOf 3 = 1 := by kernel_rfl
theorem int_fits {n : Int} (h : (Lit.int .i64 n).wf = true) : -9223372036854775808 ≤ n ∧ n ≤ 9223372036854775807 := by
  have h1 : IntKind.i64.min = -9223372036854775808 := by rfl
  have h2 : IntKind.i64.max = 9223372036854775807 := by rfl
  simp [Lit.wf] at h
  omega
theorem cells_get {w : World} {base : Nat} {a : Addr} {n : Nat} {cs : List Value} (h : w.cells? base a n = some cs) : ∀ i, i < n → w.cell? (a.add i) = cs[i]? := by
  unfold World.cells? at h
  split at h
  · intro i hi
    have := mapM_some_get h i i (by simp [hi])
    exact this
  · cases h
/-- Are two lists of runs the same? -/
def sameL : List Rn → List Rn → Bool
  | [], [] => true
  | x :: a, y :: b => (x.lba == y.lba && (x.len == y.len && x.phys == y.phys)) && sameL a b
  | [], _ :: _ => false
  | _ :: _, [] => false
theorem rn_eq {x y : Rn} : (x.lba == y.lba && (x.len == y.len && x.phys == y.phys)) = true ↔ x = y := by
  cases x; cases y; simp
theorem sameL_iff : ∀ {a b : List Rn}, sameL a b = true ↔ a = b
  | [], [] => by simp [sameL]
  | [], y :: b => by simp [sameL]
  | x :: a, [] => by simp [sameL]
  | x :: a, y :: b => by
    rw [sameL, Bool.and_eq_true, rn_eq, sameL_iff, List.cons.injEq]
theorem sameL_take {a b : List Rn} {i : Nat} (hl : a.length = b.length) (h : a.take i = b.take i) (hi : i = a.length) : a = b := by
  rwa [List.take_of_length_le (by omega), List.take_of_length_le (by omega)] at h
set_option maxRecDepth 100000 in
set_option maxHeartbeats 1000000 in
theorem same9 {w : World} {a1 a2 : Option Addr} {c1 c2 : Nat} {m1 m2 : List Rn} (h1 : Rs w a1 c1 m1) (h2 : Rs w a2 c2 m2) (hl1 : m1.length ≤ 100000) :
    Calls Try.prog 21 #[.slice a1 m1.length c1, .slice a2 m2.length c2] w fun e w' => e = .returned (.bool (sameL m1 m2)) ∧ Keep (fun _ => False) w w' := by
  have K0 := Keep.refl (fun _ => False) w
  have hc1 := h1.1
  have hc2 := h2.1
  by_cases hl : m1.length = m2.length
  · have hb : ((m1.length : Int) != (m2.length : Int)) = false := by simp [hl]
    have hl' : Hid (m1.length = m2.length) := hl
    have hl1' : (m1.length : Int) ≤ 100000 := by omega
    have hm2 : (m2.length : Int) = (m1.length : Int) := by omega
    have hm2' : Hid ((m2.length : Int) = (m1.length : Int)) := hm2
    clear hl hl1 hm2
    go_enter Try.func21, Try.ntmps21
    go_wp2_with fail
    go_loopw [5] (fun v wx => ∃ i : Nat, i ≤ m1.length ∧ v = .int .i64 (i : Int) ∧ Hid (m1.take i = m2.take i) ∧ Keep (fun _ => False) w wx) (fun v _ => m1.length - (intOf v).toNat)
    case atStart => exact ⟨0, by omega, rfl, by show m1.take 0 = m2.take 0; simp, K0⟩
    case round =>
      obtain ⟨i, hi, rfl, hI, k1⟩ := hrel
      by_cases hlt : i < m1.length
      · have hlt2 : i < m2.length := by have := show m1.length = m2.length from hl'; omega
        obtain ⟨x, hx⟩ := get_rn hlt
        obtain ⟨y, hy⟩ := get_rn hlt2
        obtain ⟨g1, rfl, e0, e1, e2⟩ := (h1.more k1).at hx
        obtain ⟨g2, rfl, f0, f1, f2⟩ := (h2.more k1).at hy
        have di : (i : Int) < (m1.length : Int) := by omega
        have di2 : (i : Int) < (m2.length : Int) := by omega
        have dw := wrapI (x := (i : Int) + 1) (by omega) (by omega)
        have hlt' : Hid (i < m1.length) := hlt
        have t1 : Hid (m1.take (i + 1) = m1.take i ++ [x]) := take_next hx
        have t2 : Hid (m2.take (i + 1) = m2.take i ++ [y]) := take_next hy
        by_cases e : x = y
        · subst e
          have hI2 : Hid (m1.take (i + 1) = m2.take (i + 1)) := by
            show m1.take (i + 1) = m2.take (i + 1)
            rw [show m1.take (i + 1) = _ from t1, show m2.take (i + 1) = _ from t2, show m1.take i = m2.take i from hI]
          clear hx hy hlt hlt2 hI t1 t2
          go_wp2_with fail
          go_quiet (fail)
          go_wp2_with fail
          go_roundw
          case rel => exact ⟨i + 1, hlt', by go_num, hI2, k1.drewN _⟩
          case measure => have : i < m1.length := hlt'; simp [intOf]; omega
        · have hne : Hid (sameL m1 m2 = false) := by
            show sameL m1 m2 = false
            rw [Bool.eq_false_iff]
            intro hs
            have := sameL_iff.1 hs
            subst this
            rw [hx] at hy
            injection hy with hy
            exact e hy
          clear hx hy hlt hlt2 hI t1 t2 h1 h2
          by_cases u1 : x.lba = y.lba
          · have v1 : (x.lba == y.lba) = true := by simp [u1]
            by_cases u2 : x.len = y.len
            · have v2 : (x.len == y.len) = true := by simp [u2]
              have v3 : (x.phys == y.phys) = false := by
                simp
                intro u3
                exact e (by cases x; cases y; simp only at u1 u2 u3; subst u1; subst u2; subst u3; rfl)
              clear e u1 u2
              go_wp2_with fail
              go_quiet (fail)
              go_wp2_with fail
              go_ret
              exact ⟨by rw [show sameL m1 m2 = false from hne]; rfl, k1.drewN _⟩
            · have v2 : (x.len == y.len) = false := by simp [u2]
              clear e u1 u2
              go_wp2_with fail
              go_quiet (fail)
              go_wp2_with fail
              go_ret
              exact ⟨by rw [show sameL m1 m2 = false from hne]; rfl, k1.drewN _⟩
          · have v1 : (x.lba == y.lba) = false := by simp [u1]
            clear e u1
            go_wp2_with fail
            go_quiet (fail)
            go_wp2_with fail
            go_ret
            exact ⟨by rw [show sameL m1 m2 = false from hne]; rfl, k1.drewN _⟩
      · have di : ¬ (i : Int) < (m1.length : Int) := by omega
        have he : Hid (sameL m1 m2 = true) := sameL_iff.2 (sameL_take hl' hI (by omega))
        clear hlt h1 h2
        go_wp2_with fail
        go_ret
        exact ⟨by rw [show sameL m1 m2 = true from he]; rfl, k1⟩
  · have hb : ((m1.length : Int) != (m2.length : Int)) = true := by simp; omega
    have hne : Hid (sameL m1 m2 = false) := by
      show sameL m1 m2 = false
      rw [Bool.eq_false_iff]
      intro hs
      exact hl (by rw [sameL_iff.1 hs])
    clear hl h1 h2
    go_enter Try.func21, Try.ntmps21
    go_wp2_with fail
    go_ret
    exact ⟨by rw [show sameL m1 m2 = false from hne]; rfl, K0⟩
theorem Keep.cell {w w' : World} (k : Keep (fun _ => False) w w') {a : Addr} {v : Value} (h : w.cell? a = some v) : w'.cell? a = some v := by
  rw [← h]
  exact World.cell?_of_block (w := w) (k.block a.block (World.block_lt_of_cell? w _ h) (fun e => e))
set_option maxRecDepth 100000 in
theorem info3 : (Try.prog.info? 3).map (fun i => (i.zero, i.size, i.bytes)) = some (some (.int .i64 0), 1, 8) := by kernel_rfl
set_option maxRecDepth 100000 in
theorem make_ints (n : Nat) (hn : n ≤ 512) (w : World) : (Instr.makeSlice 29 (.int .i64 (n : Int)) (.int .i64 (n : Int))).run Try.prog w =
    .ok (.slice (some ⟨w.heap.size, 0, none⟩) n n) (w.alloc (.cells (madeCells #[.int .i64 0] n) 3)) := by
  obtain ⟨i, hi, hz0, hz1, hz2⟩ := info_parts info3
  have := run_make (P := Try.prog) w 29 3 i _ Try.underlying29 hi hz0 .i64 .i64 n n (by omega) (by omega) (by rw [hz2]; omega) (by omega)
  rw [hz1, Nat.mul_one] at this
  exact this
def ic (xs : List Int) : List Value := xs.map (Value.int .i64)
/-- A row of numbers that can be read. -/
def Is (w : World) (a : Option Addr) (cap : Nat) (xs : List Int) : Prop :=
  xs.length ≤ cap ∧ cap ≤ 9223372036854775807 ∧ (xs = [] ∨ ∃ g, a = some ⟨g, 0, none⟩ ∧ ∀ j u, (ic xs)[j]? = some u → w.cell? ⟨g, j, none⟩ = some u)
theorem Is.keep {S : Nat → Prop} {w w' : World} {a : Option Addr} {cap : Nat} {m : List Int} (h : Is w a cap m) (k : Keep S w w') (hs : ∀ g, a = some ⟨g, 0, none⟩ → ¬ S g) : Is w' a cap m := by
  obtain ⟨h1, h2, h3⟩ := h
  refine ⟨h1, h2, h3.imp id ?_⟩
  rintro ⟨g, rfl, hc⟩
  refine ⟨g, rfl, fun j u hu => ?_⟩
  have := hc j u hu
  rw [← this]
  exact World.cell?_of_block (w := w) (a := ⟨g, j, none⟩) (k.block g (World.block_lt_of_cell? w _ this) (hs g rfl))
theorem Is.more {w w' : World} {a : Option Addr} {cap : Nat} {m : List Int} (h : Is w a cap m) (k : Keep (fun _ => False) w w') : Is w' a cap m := h.keep k (fun _ _ e => e)
theorem Is.at {w : World} {a : Option Addr} {cap : Nat} {m : List Int} (h : Is w a cap m) {i : Nat} (hi : i < m.length) :
    ∃ g, a = some ⟨g, 0, none⟩ ∧ w.cell? ⟨g, i, none⟩ = some (.int .i64 (m.getD i (-1))) := by
  rcases h.2.2 with rfl | ⟨g, rfl, hc⟩
  · simp at hi
  · refine ⟨g, rfl, hc i _ ?_⟩
    simp [ic, hi]
/-- A row of numbers of one's own, in memory made since w0. -/
structure Ri (w0 w : World) (a : Option Addr) (cap : Nat) (m : List Int) : Prop where
  own : w.ownsRow w0.heap.size 3 1 (.slice a m.length cap) m.length (ic m)
  keep : Keep (fun _ => False) w0 w
theorem Ri.more {w0 w w' : World} {a : Option Addr} {cap : Nat} {m : List Int} (h : Ri w0 w a cap m) (k : Keep (fun _ => False) w w') : Ri w0 w' a cap m := by
  refine ⟨⟨h.own.1, h.own.2.imp id ?_⟩, h.keep.trans k⟩
  rintro ⟨g, c, cur, e, hb, hh, h1, h2, h3, h4⟩
  exact ⟨g, c, cur, e, hb, by rw [k.block g (by by_cases hg : g < w.heap.size; exact hg; simp [Array.getElem?_eq_none (Nat.le_of_not_lt hg)] at hh) (fun e => e)]; exact hh, h1, h2, h3, h4⟩
theorem Ri.block {w0 w : World} {a : Option Addr} {cap : Nat} {m : List Int} (h : Ri w0 w a cap m) {g : Nat} (e : a = some ⟨g, 0, none⟩) : w0.heap.size ≤ g ∧ g < w.heap.size :=
  h.own.lt g (by rw [e]; rfl)
theorem Ri.is {w0 w : World} {a : Option Addr} {cap : Nat} {m : List Int} (h : Ri w0 w a cap m) : Is w a cap m := by
  obtain ⟨h1, h2⟩ := h.own
  rcases h2 with ⟨e, hn⟩ | ⟨g, c, cur, e, hb, hh, hn, hm, hs, ht⟩
  · injection e with e1 e2 e3
    exact ⟨by omega, by omega, Or.inl (List.eq_nil_of_length_eq_zero hn)⟩
  · injection e with e1 e2 e3
    subst e1 e3
    unfold maxLen at hm
    refine ⟨hn, by omega, Or.inr ⟨g, rfl, fun j u hu => ?_⟩⟩
    have := h.own.cells (g := g) rfl j u hu
    rwa [Addr.add_lit, Nat.zero_add] at this
theorem Ri.set {w0 w : World} {g cap : Nat} {m : List Int} (h : Ri w0 w (some ⟨g, 0, none⟩) cap m) (i : Nat) (v : Int) :
    Ri w0 (w.setCell ⟨g, i, none⟩ (.int .i64 v)) (some ⟨g, 0, none⟩) cap (m.set i v) := by
  obtain ⟨h1, h2⟩ := h.own.stored i (.int .i64 v)
  have e : (ic m).set i (.int .i64 v) = ic (m.set i v) := by unfold ic; rw [List.map_set]
  rw [e] at h1
  refine ⟨by rw [List.length_set]; exact h1, h.keep.next (keep_grown h2) (fun y hy e => ?_)⟩
  injection e with e
  have := (h.block rfl).1
  omega
theorem Ri.fz {w0 w : World} {g cap : Nat} {m : List Int} (h : Ri w0 w (some ⟨g, 0, none⟩) cap m) (i : Nat) : w.frozen? ⟨g, i, none⟩ = false := h.own.frozenAt i
/-- The row that make makes. -/
theorem ri_made (w : World) (n : Nat) (hn : n ≤ 512) : Ri w (w.alloc (.cells (madeCells #[.int .i64 0] n) 3)) (some ⟨w.heap.size, 0, none⟩) n (List.replicate n 0) := by
  have := World.ownsRow_lit (e := 3) (size := 1) (base := w.heap.size) w (madeCells #[.int .i64 0] n) n (Nat.le_refl _) (by unfold maxLen; omega) (by simp [madeCells])
  rw [toList_madeCells_one] at this
  refine ⟨?_, (Keep.refl _ _).alloc _⟩
  rw [List.length_replicate]
  have e : ic (List.replicate n 0) = List.replicate n (.int .i64 0) := by simp [ic]
  rw [e]; exact this
set_option maxRecDepth 100000 in
/-- A row appended to an empty one. -/
theorem copy_ints {w : World} {a : Option Addr} {c : Nat} {t : List Int} (h : Is w a c t) (h1 : 1 ≤ t.length) (h2 : t.length ≤ 512) :
    ∃ a' c' w', (Builtin.append_ #[29, 29] 29 #[.slice (some ⟨w.heap.size, 0, none⟩) 0 0, .slice a t.length c]).run Try.prog (w.alloc (.cells #[] 3)) = .ok (.slice a' t.length c') w' ∧ Ri w w' a' c' t := by
  obtain ⟨i, hi, hz0, hz1, hz2⟩ := info_parts info3
  have hA := (Keep.refl (fun _ => False) w).alloc (.cells #[] 3)
  have hr := h.more hA
  rcases hr.2.2 with e | ⟨g, rfl, hc⟩
  · rw [e] at h1; simp at h1
  have h0 : (w.alloc (.cells #[] 3)).ownsRow w.heap.size 3 1 (.slice (some ⟨w.heap.size, 0, none⟩) 0 0) 0 [] := World.ownsRow_lit (e := 3) (size := 1) (base := w.heap.size) w #[] 0 (Nat.le_refl _) (by unfold maxLen; omega) rfl
  obtain ⟨v', w', hrun, hown, hgrow, hnil⟩ := run_append_own (P := Try.prog) (w.alloc (.cells #[] 3)) w.heap.size 29 29 3 i _ 1 8 Try.underlying29 hi hz0 hz1 hz2 rfl (by decide) (.slice (some ⟨w.heap.size, 0, none⟩) 0 0) 0 [] h0
    ⟨g, 0, none⟩ t.length c (ic t) (by simp [ic]) (fun j u hu => by rw [Addr.add_lit, Nat.zero_add]; exact hc j u hu) (by intro u hu; obtain ⟨x, _, rfl⟩ := List.mem_map.1 hu; rfl) (by unfold maxLen; omega) (by omega) hA.size
  have hK : Keep (fun _ => False) w w' := hA.next (keep_grown hgrow) (fun y hy e => by injection e with e; have e : y = w.heap.size := e; omega)
  simp only [Nat.zero_add, List.nil_append] at hown
  have hshape : ∃ a' cap', v' = .slice a' t.length cap' := by
    rcases hown.2 with ⟨e, hn⟩ | ⟨g, c', cur, e, -⟩
    · omega
    · exact ⟨_, _, e⟩
  obtain ⟨a', cap', rfl⟩ := hshape
  exact ⟨a', cap', w', hrun, hown, hK⟩
/-- The first i places set to -1. -/
def nw (C : Nat) : Nat → List Int
  | 0 => List.replicate C 0
  | i + 1 => (nw C i).set i (-1)
theorem nw_len (C : Nat) : ∀ i, (nw C i).length = C
  | 0 => by simp [nw]
  | i + 1 => by rw [nw, List.length_set, nw_len C i]
theorem nw_at (C : Nat) : ∀ i j, j < C → (nw C i)[j]? = some (if j < i then -1 else 0)
  | 0, j, h => by simp [nw, h]
  | i + 1, j, h => by
    rw [nw, List.getElem?_set]
    by_cases e : i = j
    · subst e
      rw [if_pos rfl, if_pos (by rw [nw_len]; exact h), if_pos (by omega)]
    · rw [if_neg e, nw_at C i j h]
      congr 1
      by_cases c : j < i
      · rw [if_pos c, if_pos (by omega)]
      · rw [if_neg c, if_neg (by omega)]
theorem nw_end (C : Nat) : nw C C = List.replicate C (-1) := by
  refine List.ext_getElem? (fun j => ?_)
  by_cases h : j < C
  · rw [nw_at C C j h, if_pos h]; simp [h]
  · rw [List.getElem?_eq_none (by rw [nw_len]; omega), List.getElem?_eq_none (by simp; omega)]
set_option maxRecDepth 100000 in
set_option maxHeartbeats 1000000 in
theorem new9 {w : World} {C : Nat} (h2 : C ≤ 512) :
    Calls Try.prog 28 #[.int .i64 (C : Int)] w fun e w' => ∃ a c, e = .returned (.slice a C c) ∧ Ri w w' a c (List.replicate C (-1)) := by
  have hmk := make_ints C h2 w
  have R0 : Ri w (w.alloc (.cells (madeCells #[.int .i64 0] C) 3)) (some ⟨w.heap.size, 0, none⟩) C (nw C 0) := ri_made w C h2
  generalize w.alloc (.cells (madeCells #[.int .i64 0] C) 3) = w1 at hmk R0
  generalize hG : w.heap.size = G at hmk R0
  go_enter Try.func28, Try.ntmps28
  go_wp2_with fail
  clear hmk
  go_loopw [4] (fun v wx => ∃ i : Nat, i ≤ C ∧ v = .int .i64 (i : Int) ∧ Ri w wx (some ⟨G, 0, none⟩) C (nw C i)) (fun v _ => C - (intOf v).toNat)
  case atStart => exact ⟨0, by omega, rfl, R0⟩
  case round =>
    clear R0
    obtain ⟨i, hi, rfl, R1⟩ := hrel
    by_cases hlt : i < C
    · obtain ⟨g, eg, c0⟩ := R1.is.at (i := i) (by rw [nw_len]; exact hlt)
      injection eg with eg; injection eg with eg; subst eg
      have z0 := R1.fz i
      have R2 := R1.set i (-1)
      have di : (i : Int) < (C : Int) := by omega
      have dw := wrapI (x := (i : Int) + 1) (by omega) (by omega)
      have hlt' : Hid (i < C) := hlt
      clear hlt R1
      go_wp2_with fail
      go_roundw
      case rel => exact ⟨i + 1, hlt', by go_num, R2⟩
      case measure => have : i < C := hlt'; simp [intOf]; omega
    · have di : ¬ (i : Int) < (C : Int) := by omega
      have ei : i = C := by omega
      rw [ei, nw_end] at R1
      clear hlt ei
      go_wp2_with fail
      go_ret
      exact ⟨_, _, rfl, R1⟩
theorem grow_len : ∀ m : List Rn, (grow m).length = m.length
  | [] => rfl
  | [x] => rfl
  | x :: y :: m => by rw [grow, List.length_cons, grow_len (y :: m)]; rfl
theorem refR_len (t : List Int) : ∀ i, (refR t i).length ≤ i
  | 0 => by simp [refR]
  | i + 1 => by
    have := refR_len t i
    rw [refR]
    split
    · omega
    · split
      · rw [grow_len]; omega
      · simp; omega
/-- Bounds of a list of pages. -/
def Tab (t : List Int) : Prop := ∀ i, -1 ≤ t.getD i (-1) ∧ t.getD i (-1) ≤ 1073742336
set_option maxRecDepth 100000 in
/-- An empty row, made. -/
theorem rr_made (w : World) : (Instr.makeSlice 27 (.int .i64 0) (.int .i64 0)).run Try.prog w = .ok (.slice (some ⟨w.heap.size, 0, none⟩) 0 0) (w.alloc (.cells (madeCells #[.int .i64 0, .int .i64 0, .int .i64 0] (0 * 3)) 39)) ∧ Rr w (w.alloc (.cells (madeCells #[.int .i64 0, .int .i64 0, .int .i64 0] (0 * 3)) 39)) (some ⟨w.heap.size, 0, none⟩) 0 [] := by
  refine ⟨make_runs 0 (by omega) w, ?_, (Keep.refl _ _).alloc _⟩
  have e : madeCells #[.int .i64 0, .int .i64 0, .int .i64 0] (0 * 3) = #[] := by simp [madeCells]
  rw [e]
  exact World.ownsRow_lit (e := 39) (size := 3) (base := w.heap.size) w #[] 0 (Nat.le_refl _) (by unfold maxLen; omega) rfl
set_option maxRecDepth 100000 in
set_option maxHeartbeats 2000000 in
theorem runs9 {w : World} {a : Option Addr} {c : Nat} {t : List Int} (h : Is w a c t) (h2 : t.length ≤ 512) (hb : Tab t) :
    Calls Try.prog 29 #[.slice a t.length c] w fun e w' => ∃ a' c', e = .returned (.slice a' (refR t t.length).length c') ∧ Rr w w' a' c' (refR t t.length) := by
  obtain ⟨hmk, R0⟩ := rr_made w
  have R0 : Rr w (w.alloc (.cells (madeCells #[.int .i64 0, .int .i64 0, .int .i64 0] (0 * 3)) 39)) (some ⟨w.heap.size, 0, none⟩) 0 (refR t 0) := R0
  generalize w.alloc (.cells (madeCells #[.int .i64 0, .int .i64 0, .int .i64 0] (0 * 3)) 39) = w1 at hmk R0
  generalize hG : w.heap.size = G at hmk R0
  have hc := h.1
  have hl : (t.length : Int) ≤ 512 := by omega
  go_enter Try.func29, Try.ntmps29
  go_wp2_with fail
  clear hmk
  go_loopw [3, 4] (fun lv v wx => ∃ (i : Nat) (a' : Option Addr) (c' : Nat), i ≤ t.length ∧ lv = .slice a' (refR t i).length c' ∧ v = .int .i64 (i : Int) ∧ Rr w wx a' c' (refR t i)) (fun _ v _ => t.length - (intOf v).toNat)
  case atStart => exact ⟨0, _, _, by omega, rfl, rfl, R0⟩
  case round =>
    clear R0
    obtain ⟨i, a', c', hi, rfl, rfl, R1⟩ := hrel
    by_cases hlt : i < t.length
    · obtain ⟨g, rfl, ci⟩ := (h.more R1.keep).at hlt
      have hbi := hb i
      have hstep : refR t (i + 1) = if t.getD i (-1) < 0 then refR t i else if 0 < i ∧ 0 ≤ t.getD (i - 1) (-1) ∧ t.getD (i - 1) (-1) + 1 = t.getD i (-1) then grow (refR t i) else refR t i ++ [⟨(i : Int), 1, t.getD i (-1)⟩] := by rw [refR]
      have hlast := (refR_ok t i).last
      have hfm := (refR_ok t i).form
      have hln := refR_len t i
      have di : (i : Int) < (t.length : Int) := by omega
      have dw := wrapI (x := (i : Int) + 1) (by omega) (by omega)
      have hlt' : Hid (i < t.length) := hlt
      have hcj : ∀ j, j + 1 = i → wr.cell? ⟨g, j, none⟩ = some (.int .i64 (t.getD j (-1))) := fun j hj => by
        obtain ⟨g', eg, cj⟩ := (h.more R1.keep).at (i := j) (by omega)
        injection eg with eg; injection eg with eg; subst eg; exact cj
      have hbj := fun j => hb j
      generalize hX : t.getD i (-1) = X at ci hbi hstep
      clear h hb
      by_cases c0 : X < 0
      · rw [if_pos c0] at hstep
        have R2 : Rr w wr a' c' (refR t (i + 1)) := by rw [hstep]; exact R1
        have hE : Hid ((refR t (i + 1)).length = (refR t i).length) := by show (refR t (i + 1)).length = _; rw [hstep]
        clear hlast hfm hcj hbj R1 hstep hX
        go_wp2_with fail
        go_roundw
        case rel => exact ⟨i + 1, a', c', hlt', by rw [show (refR t (i + 1)).length = _ from hE], by go_num, R2⟩
        case measure => have : i < t.length := hlt'; simp [intOf]; omega
      · rw [if_neg c0] at hstep
        have c0' : 0 ≤ X := by omega
        -- where no run goes on
        have hnew : refR t (i + 1) = refR t i ++ [⟨(i : Int), 1, X⟩] → ∀ w2, Keep (fun _ => False) wr w2 → ∃ a2 c2 w3, (Builtin.append_ #[27, 27] 27 #[.slice a' (refR t i).length c', .slice (some ⟨w2.heap.size, 0, none⟩) 1 1]).run Try.prog (w2.alloc (.cells #[.int .i64 (i : Int), .int .i64 1, .int .i64 X] 39)) = .ok (.slice a2 ((refR t i).length + 1) c2) w3 ∧ Rr w w3 a2 c2 (refR t (i + 1)) ∧ (refR t (i + 1)).length = (refR t i).length + 1 := fun e w2 k2 => by
          obtain ⟨a2, c2, w3, h1, h2⟩ := (R1.more k2).app1 (by omega) ⟨(i : Int), 1, X⟩
          exact ⟨a2, c2, w3, h1, by rw [e]; exact h2, by rw [e]; simp⟩
        by_cases hz : i = 0
        · have dz : ¬ (0 : Int) < (i : Int) := by omega
          have dzb : decide ((0 : Int) < (i : Int)) = false := decide_eq_false dz
          have dzc : decide (0 < i) = false := decide_eq_false (by omega)
          rw [if_neg (by omega)] at hstep
          have hn := hnew hstep
          clear hlast hfm hcj hbj hstep hnew hX hz
          go_upto_region 6 with fail
          go_quiet (fail)
          have k2 := (Keep.refl (fun _ => False) wr).drewN nq
          have ci2 := k2.cell ci
          generalize wr.drewN nq = w2 at k2 ci2 ⊢
          obtain ⟨a2, c2, w3, happ, R3, hE⟩ := hn w2 k2
          have hE' : Hid ((refR t (i + 1)).length = (refR t i).length + 1) := hE
          clear hn hE R1 ci k2
          go_wp2_with (at_builtin; refine wpList_append_run rfl (.tmp 50) (.tmp 57) 27 rfl (by rfl) (by rfl) happ ?_)
          go_roundw
          case rel => exact ⟨i + 1, a2, c2, hlt', by rw [show (refR t (i + 1)).length = _ from hE'], by go_num, R3⟩
          case measure => have : i < t.length := hlt'; simp [intOf]; omega
        · obtain ⟨j, hij⟩ : ∃ j, j + 1 = i := ⟨i - 1, by omega⟩
          have cj := hcj j hij
          have bj := hbj j
          have ej : i - 1 = j := by omega
          rw [ej] at hstep hlast
          have dz : (0 : Int) < (i : Int) := by omega
          have dzb : decide ((0 : Int) < (i : Int)) = true := decide_eq_true dz
          have dzc : decide (0 < i) = true := decide_eq_true (by omega)
          have djw : IntKind.i64.wrap ((i : Int) - 1) = (j : Int) := (wrapI (x := (i : Int) - 1) (by omega) (by omega)).trans (by omega)
          have djl : (j : Int) < (t.length : Int) := by omega
          generalize t.getD j (-1) = Y at cj bj hstep hlast
          by_cases cy : Y < 0
          · have cyd : decide (0 ≤ Y) = false := decide_eq_false (by omega)
            rw [if_neg (by omega)] at hstep
            have hn := hnew hstep
            clear hlast hfm hcj hbj hstep hnew hX hz ej hij
            go_upto_region 6 with fail
            go_quiet (fail)
            have k2 := (Keep.refl (fun _ => False) wr).drewN nq
            have ci2 := k2.cell ci
            generalize wr.drewN nq = w2 at k2 ci2 ⊢
            obtain ⟨a2, c2, w3, happ, R3, hE⟩ := hn w2 k2
            have hE' : Hid ((refR t (i + 1)).length = (refR t i).length + 1) := hE
            clear hn hE R1 ci k2
            go_wp2_with (at_builtin; refine wpList_append_run rfl (.tmp 50) (.tmp 57) 27 rfl (by rfl) (by rfl) happ ?_)
            go_roundw
            case rel => exact ⟨i + 1, a2, c2, hlt', by rw [show (refR t (i + 1)).length = _ from hE'], by go_num, R3⟩
            case measure => have : i < t.length := hlt'; simp [intOf]; omega
          · have cj0 : 0 ≤ Y := by omega
            have cyd : decide (0 ≤ Y) = true := decide_eq_true cj0
            have dy := wrapI (x := Y + 1) (by omega) (by omega)
            by_cases ce : Y + 1 = X
            · have ceb : (Y + 1 == X) = true := by simp [ce]
              rw [if_pos ⟨by omega, cj0, ce⟩] at hstep
              obtain ⟨A, x, eA, xf, xp⟩ := hlast (by omega) cj0
              rw [eA, grow_snoc] at hstep
              have hxo := hfm.1 x (by rw [eA]; simp)
              have hx1 := hxo.1
              have hx2 := hxo.2.1
              unfold Rn.fin at xf
              rw [eA] at R1 hln ⊢
              have hAl : (A ++ [x]).length = A.length + 1 := by simp
              rw [hAl] at hln ⊢
              have hEl : Hid ((refR t (i + 1)).length = A.length + 1) := by show (refR t (i + 1)).length = _; rw [hstep]; simp
              have hst' : Hid (refR t (i + 1) = A ++ [⟨x.lba, x.len + 1, x.phys⟩]) := hstep
              have dxl := wrapI (x := x.len + 1) (by omega) (by omega)
              have dA := wrapI (x := ((A.length + 1 : Nat) : Int) - 1) (by omega) (by omega)
              have dA2 : ((A.length + 1 : Nat) : Int) - 1 = (A.length : Int) := by omega
              rw [dA2] at dA
              have hrc := R1.rs.1
              rw [hAl] at hrc
              clear hcj hbj hstep hnew hX hz ej hij ce
              clear hlast hfm eA hxo hx1 hx2 xf xp dA2 hAl
              go_upto_region 6 with fail
              go_quiet (fail)
              have k2 := (Keep.refl (fun _ => False) wr).drewN nq
              have R2 := R1.more k2
              generalize wr.drewN nq = w2 at k2 R2 ⊢
              obtain ⟨g2, rfl, f0, f1, f2⟩ := R2.rs.at (i := A.length) (x := x) (by simp)
              have hfz := R2.own.frozenAt (A.length * 3 + 1)
              have R3 := R2.setLen (x.len + 1)
              rw [← (show refR t (i + 1) = _ from hst')] at R3
              clear R1 R2 ci k2
              go_wp2_with fail
              go_roundw
              case rel => exact ⟨i + 1, _, c', hlt', by rw [show (refR t (i + 1)).length = _ from hEl], by go_num, R3⟩
              case measure => have : i < t.length := hlt'; simp [intOf]; omega
            · have ceb : (Y + 1 == X) = false := by simp [ce]
              rw [if_neg (fun h => ce h.2.2)] at hstep
              have hn := hnew hstep
              clear hlast hfm hcj hbj hstep hnew hX hz ej hij ce
              go_upto_region 6 with fail
              go_quiet (fail)
              have k2 := (Keep.refl (fun _ => False) wr).drewN nq
              have ci2 := k2.cell ci
              generalize wr.drewN nq = w2 at k2 ci2 ⊢
              obtain ⟨a2, c2, w3, happ, R3, hE⟩ := hn w2 k2
              have hE' : Hid ((refR t (i + 1)).length = (refR t i).length + 1) := hE
              clear hn hE R1 ci k2
              go_wp2_with (at_builtin; refine wpList_append_run rfl (.tmp 50) (.tmp 57) 27 rfl (by rfl) (by rfl) happ ?_)
              go_roundw
              case rel => exact ⟨i + 1, a2, c2, hlt', by rw [show (refR t (i + 1)).length = _ from hE'], by go_num, R3⟩
              case measure => have : i < t.length := hlt'; simp [intOf]; omega
    · have di : ¬ (i : Int) < (t.length : Int) := by omega
      have ei : i = t.length := by omega
      rw [ei] at R1 ⊢
      clear hlt ei h
      go_wp2_with fail
      go_ret
      exact ⟨_, _, rfl, R1⟩
/-- The last piece's length is written over. -/
theorem Rq.setLen {w0 w : World} {g cap : Nat} {a : List Rn} {x : Rn} (h : Rq w0 w (some ⟨g, 0, none⟩) cap (a ++ [x])) (v : Int) :
    Rq w0 (w.setCell ⟨g, a.length * 3 + 1, none⟩ (.int .i64 v)) (some ⟨g, 0, none⟩) cap (a ++ [⟨x.lba, v, x.phys⟩]) := by
  have hl : (a ++ [x]).length = (a ++ [(⟨x.lba, v, x.phys⟩ : Rn)]).length := by simp
  obtain ⟨h1, h2⟩ := h.own.stored (a.length * 3 + 1) (.int .i64 v)
  rw [set_cells] at h1
  refine ⟨by rw [← hl]; exact h1, h.keep.next (keep_grown h2) (fun y hy e => ?_)⟩
  injection e with e
  have := (h.block rfl).1
  omega
theorem refP_len (t : List Int) (lba : Nat) : ∀ i, (refP t lba i).length ≤ i
  | 0 => by simp [refP]
  | i + 1 => by
    have := refP_len t lba i
    rw [refP]
    split
    · rw [grow_len]; omega
    · simp; omega
theorem putN_tab {t : List Int} (h : Tab t) {lba n : Nat} (hr : lba + n ≤ t.length) (hn : n ≤ 512) {phys : Int} (hp : phys ≤ 1073741824) : Tab (putN t lba phys n) := fun i => by
  have := h i
  rw [putN_get t lba phys n hr i]
  split
  · split <;> omega
  · exact this
theorem of_nil (C : Nat) : Of (List.replicate C (-1)) [] := by
  refine ⟨Form.nil, fun s => ?_⟩
  unfold entry
  rw [if_neg]
  · rfl
  · rintro ⟨h1, h2, h3⟩
    simp at h2
    have e : (List.replicate C (-1 : Int)).getD s.toNat (-1) = -1 := by
      simp only [List.getD_eq_getElem?_getD, List.getElem?_replicate]
      split <;> rfl
    omega
theorem tab_nil (C : Nat) : Tab (List.replicate C (-1)) := fun i => by
  have e : (List.replicate C (-1 : Int)).getD i (-1) = -1 := by
    simp only [List.getD_eq_getElem?_getD, List.getElem?_replicate]
    split <;> rfl
  omega
/-- The pieces that go somewhere. -/
def solid (m : List Rn) : List Rn := m.filter (fun x => x.phys != -1)
theorem solid_snoc (a : List Rn) (x : Rn) : solid (a ++ [x]) = solid a ++ (if x.phys = -1 then [] else [x]) := by
  unfold solid
  rw [List.filter_append]
  congr 1
  by_cases h : x.phys = -1
  · simp [h]
  · simp [h]
theorem refP_last (t : List Int) (hb : ∀ i, -1 ≤ t.getD i (-1)) (lba : Nat) : ∀ i, ∃ a x, refP t lba (i + 1) = a ++ [x] ∧ -1 ≤ x.phys ∧ (x.phys < 0 ↔ t.getD (lba + i) (-1) < 0)
  | 0 => ⟨[], _, by rw [refP, if_neg (by omega), refP], by simp only; split <;> omega, by simp only; split <;> omega⟩
  | i + 1 => by
    obtain ⟨a, x, e, h1, h2⟩ := refP_last t hb lba i
    rw [refP]
    have hk : lba + (i + 1) - 1 = lba + i := by omega
    rw [hk]
    split
    · next c =>
      rw [e, grow_snoc]
      refine ⟨a, _, rfl, h1, ?_⟩
      show x.phys < 0 ↔ _
      rw [h2]
      omega
    · exact ⟨_, _, rfl, by simp only; split <;> omega, by simp only; split <;> omega⟩
/-- The document's own runs are the pieces of the whole without the holes. -/
theorem refR_solid (t : List Int) (hb : ∀ i, -1 ≤ t.getD i (-1)) : ∀ i, solid (refP t 0 i) = refR t i
  | 0 => rfl
  | i + 1 => by
    have ih := refR_solid t hb i
    have hbi := hb i
    have hP : refP t 0 (i + 1) = if 0 < i ∧ (t.getD i (-1) < 0 ∧ t.getD (i - 1) (-1) < 0 ∨ 0 ≤ t.getD i (-1) ∧ 0 ≤ t.getD (i - 1) (-1) ∧ t.getD (i - 1) (-1) + 1 = t.getD i (-1)) then grow (refP t 0 i) else refP t 0 i ++ [⟨(i : Int), 1, if t.getD i (-1) < 0 then -1 else t.getD i (-1)⟩] := by
      rw [refP]; simp only [Nat.zero_add]
    by_cases c0 : t.getD i (-1) < 0
    · have hR : refR t (i + 1) = refR t i := by rw [refR, if_pos c0]
      rw [hR]
      by_cases c1 : 0 < i ∧ t.getD (i - 1) (-1) < 0
      · rw [if_pos ⟨c1.1, Or.inl ⟨c0, c1.2⟩⟩] at hP
        rw [hP, ← ih]
        obtain ⟨j, rfl⟩ : ∃ j, i = j + 1 := ⟨i - 1, by omega⟩
        obtain ⟨a, x, e, h1, h2⟩ := refP_last t hb 0 j
        rw [Nat.add_sub_cancel] at c1
        rw [Nat.zero_add] at h2
        have hx : x.phys = -1 := by have := h2.2 c1.2; omega
        rw [e, grow_snoc, solid_snoc, solid_snoc, if_pos hx, if_pos hx]
      · rw [if_neg (fun h => by omega), if_pos c0] at hP
        rw [hP, solid_snoc, if_pos rfl, List.append_nil, ih]
    · by_cases c1 : 0 < i ∧ 0 ≤ t.getD (i - 1) (-1) ∧ t.getD (i - 1) (-1) + 1 = t.getD i (-1)
      · have hR : refR t (i + 1) = grow (refR t i) := by rw [refR, if_neg c0, if_pos c1]
        rw [if_pos ⟨c1.1, Or.inr ⟨by omega, c1.2⟩⟩] at hP
        rw [hR, hP, ← ih]
        obtain ⟨j, rfl⟩ : ∃ j, i = j + 1 := ⟨i - 1, by omega⟩
        obtain ⟨a, x, e, h1, h2⟩ := refP_last t hb 0 j
        rw [Nat.add_sub_cancel] at c1
        rw [Nat.zero_add] at h2
        have hx : ¬ x.phys = -1 := fun h => by have := h2.1 (by omega); omega
        rw [e, grow_snoc, solid_snoc, solid_snoc, if_neg hx, if_neg hx, grow_snoc]
      · have hR : refR t (i + 1) = refR t i ++ [⟨(i : Int), 1, t.getD i (-1)⟩] := by rw [refR, if_neg c0, if_neg c1]
        rw [if_neg (fun h => by omega), if_neg c0] at hP
        rw [hR, hP, solid_snoc, if_neg (by simp only; omega), ih]
set_option maxRecDepth 100000 in
theorem clone_any {w : World} {a : Option Addr} {c : Nat} {t : List Int} (h : Is w a c t) (h1 : 1 ≤ t.length) (h2 : t.length ≤ 512) :
    Calls Try.prog 39 #[.slice a t.length c] w fun e w' => ∃ a' c', e = .returned (.slice a' t.length c') ∧ Ri w w' a' c' t := by
  obtain ⟨g, rfl, -⟩ := h.at (i := 0) h1
  obtain ⟨a', c', w', happ, R⟩ := copy_ints h h1 h2
  have he : ∀ w : World, (binOp .eql 29 (.slice (some ⟨g, 0, none⟩) t.length c) (.slice none 0 0)).run Try.prog w = .ok (.bool false) w := fun _ => rfl
  clear h
  go_enter Try.func39, Try.ntmps39
  go_wp2_with (at_builtin; refine wpList_append_run rfl (.tmp 5) (.tmp 6) 29 rfl (by rfl) (by rfl) happ ?_)
  go_ret
  exact ⟨_, _, rfl, R⟩
/-- Are two neighbours' entries of one hole or of one run? -/
def tog (x y : Int) : Bool := if x = -1 then y == -1 else y == x + 1
set_option maxRecDepth 100000 in
theorem tog_any (w : World) {x : Int} (y : Int) (h1 : -1 ≤ x) (h2 : x ≤ 1073742336) :
    Calls Try.prog 43 #[.int .i64 x, .int .i64 y] w fun e w' => e = .returned (.bool (tog x y)) ∧ w' = w := by
  unfold tog
  by_cases c : x = -1
  · have cb : (x == -1) = true := by simp [c]
    rw [if_pos c]
    clear c
    go_enter Try.func43, Try.ntmps43
    go_wp2_with fail
    go_ret
    exact ⟨rfl, rfl⟩
  · have cb : (x == -1) = false := by simp [c]
    rw [if_neg c]
    have dx := wrapI (x := x + 1) (by omega) (by omega)
    clear c
    go_enter Try.func43, Try.ntmps43
    go_wp2_with fail
    go_ret
    exact ⟨rfl, rfl⟩
theorem refP_tog {t : List Int} (hb : Tab t) (lba k : Nat) {i : Nat} (hi : i = lba + k) : refP t lba (k + 1) = if 0 < k ∧ tog (t.getD (i - 1) (-1)) (t.getD i (-1)) = true then grow (refP t lba k) else refP t lba k ++ [⟨(i : Int), 1, t.getD i (-1)⟩] := by
  have h1 := hb i
  have h2 := hb (i - 1)
  rw [refP, ← hi]
  have e1 : (if t.getD i (-1) < 0 then -1 else t.getD i (-1)) = t.getD i (-1) := by split <;> omega
  rw [e1]
  have e2 : (t.getD i (-1) < 0 ∧ t.getD (i - 1) (-1) < 0 ∨ 0 ≤ t.getD i (-1) ∧ 0 ≤ t.getD (i - 1) (-1) ∧ t.getD (i - 1) (-1) + 1 = t.getD i (-1)) ↔ tog (t.getD (i - 1) (-1)) (t.getD i (-1)) = true := by
    unfold tog
    generalize t.getD i (-1) = X at *
    generalize t.getD (i - 1) (-1) = Y at *
    by_cases c : Y = -1
    · rw [if_pos c]; simp; omega
    · rw [if_neg c]; simp; omega
  simp only [e2]
set_option maxRecDepth 100000 in
set_option maxHeartbeats 2000000 in
theorem piecesOf_any {w : World} {a : Option Addr} {c : Nat} {t : List Int} (h : Is w a c t) (h2 : t.length ≤ 512) (hb : Tab t) {lba n : Nat} (hr : lba + n ≤ t.length) {L E : Int} (eL : L = (lba : Int)) (eE : E = (lba : Int) + n) :
    Calls Try.prog 40 #[.slice a t.length c, .int .i64 L, .int .i64 E] w fun e w' => ∃ a' c', e = .returned (.slice a' (refP t lba n).length c') ∧ Rq w w' a' c' (refP t lba n) := by
  subst eL eE
  have R0 : Rq w w none 0 (refP t lba 0) := Rq.nil w
  have hc := h.1
  have hl : (t.length : Int) ≤ 512 := by omega
  go_enter Try.func40, Try.ntmps40
  go_wp2_with fail
  go_loopw [7, 8] (fun lv v wx => ∃ (k i : Nat) (a' : Option Addr) (c' : Nat), k ≤ n ∧ Hid (i = lba + k) ∧ lv = .slice a' (refP t lba k).length c' ∧ v = .int .i64 (i : Int) ∧ Rq w wx a' c' (refP t lba k)) (fun _ v _ => lba + n - (intOf v).toNat)
  case atStart => exact ⟨0, lba, _, _, by omega, rfl, rfl, rfl, R0⟩
  case round =>
    clear R0
    obtain ⟨k, i, a', c', hk, hik, rfl, rfl, R1⟩ := hrel
    have hik2 := (show i = lba + k from hik)
    by_cases hlt : k < n
    · obtain ⟨g, rfl, ci⟩ := (h.more R1.keep).at (i := i) (by omega)
      have hbi := hb i
      have hstep := refP_tog hb lba k hik2
      have hln := refP_len t lba k
      have di : (i : Int) < (lba : Int) + n := by omega
      have dit : (i : Int) < (t.length : Int) := by omega
      have dw := wrapI (x := (i : Int) + 1) (by omega) (by omega)
      have hlt' : Hid (k < n) := hlt
      have hcj : ∀ j, j + 1 = i → wr.cell? ⟨g, j, none⟩ = some (.int .i64 (t.getD j (-1))) := fun j hj => by
        obtain ⟨g', eg, cj⟩ := (h.more R1.keep).at (i := j) (by omega)
        injection eg with eg; injection eg with eg; subst eg; exact cj
      have hbj := fun j => hb j
      clear hik2
      generalize hX : t.getD i (-1) = X at ci hbi hstep
      clear h hb
      have hnew : refP t lba (k + 1) = refP t lba k ++ [⟨(i : Int), 1, X⟩] → ∀ w2, Keep (fun _ => False) wr w2 → ∃ a2 c2 w3, (Builtin.append_ #[23, 23] 23 #[.slice a' (refP t lba k).length c', .slice (some ⟨w2.heap.size, 0, none⟩) 1 1]).run Try.prog (w2.alloc (.cells #[.int .i64 (i : Int), .int .i64 1, .int .i64 X] 38)) = .ok (.slice a2 ((refP t lba k).length + 1) c2) w3 ∧ Rq w w3 a2 c2 (refP t lba (k + 1)) ∧ (refP t lba (k + 1)).length = (refP t lba k).length + 1 := fun e w2 k2 => by
        obtain ⟨a2, c2, w3, h1, h2⟩ := (R1.more k2).app1 (by omega) ⟨(i : Int), 1, X⟩
        exact ⟨a2, c2, w3, h1, by rw [e]; exact h2, by rw [e]; simp⟩
      by_cases hz : k = 0
      · have dz : ¬ (lba : Int) < (i : Int) := by have := (show i = lba + k from hik); omega
        have dzb : decide ((lba : Int) < (i : Int)) = false := decide_eq_false dz
        have dzc : decide (lba < i) = false := decide_eq_false (by omega)
        rw [if_neg (fun h => by omega)] at hstep
        have hn := hnew hstep
        clear hcj hbj hstep hnew hX hz
        go_upto_region 5 with fail
        go_quiet (fail)
        have k2 := (Keep.refl (fun _ => False) wr).drewN nq
        have ci2 := k2.cell ci
        generalize wr.drewN nq = w2 at k2 ci2 ⊢
        obtain ⟨a2, c2, w3, happ, R3, hE⟩ := hn w2 k2
        have hE' : Hid ((refP t lba (k + 1)).length = (refP t lba k).length + 1) := hE
        clear hn hE R1 ci k2
        go_wp2_with (at_builtin; refine wpList_append_run rfl (.tmp 40) (.tmp 47) 23 rfl (by rfl) (by rfl) happ ?_)
        go_roundw
        case rel => exact ⟨k + 1, i + 1, a2, c2, hlt', by have := (show i = lba + k from hik); show i + 1 = lba + (k + 1); omega, by rw [show (refP t lba (k + 1)).length = _ from hE'], by go_num, R3⟩
        case measure => have : k < n := hlt'; have := (show i = lba + k from hik); simp [intOf]; omega
      · obtain ⟨j, hij⟩ : ∃ j, j + 1 = i := ⟨i - 1, by have := (show i = lba + k from hik); omega⟩
        have hik2 := (show i = lba + k from hik)
        have cj := hcj j hij
        have bj := hbj j
        have ej : i - 1 = j := by omega
        rw [ej] at hstep
        have dz : (lba : Int) < (i : Int) := by omega
        have dzb : decide ((lba : Int) < (i : Int)) = true := decide_eq_true dz
        have dzc : decide (lba < i) = true := decide_eq_true (by omega)
        have djw : IntKind.i64.wrap ((i : Int) - 1) = (j : Int) := (wrapI (x := (i : Int) - 1) (by omega) (by omega)).trans (by omega)
        have djl : (j : Int) < (t.length : Int) := by omega
        clear hik2
        generalize t.getD j (-1) = Y at cj bj hstep
        have htg := fun wx => tog_any wx X bj.1 bj.2
        cases hT : tog Y X with
        | true =>
          rw [hT] at htg
          rw [if_pos ⟨by omega, hT⟩] at hstep
          obtain ⟨A, x, eA, hpre, xf, x1, x2, -⟩ := refP_ok t lba (k - 1) (by omega)
          rw [show k - 1 + 1 = k by omega] at eA xf
          have hxl := hpre.le
          rw [eA, grow_snoc] at hstep
          unfold Rn.fin at xf
          rw [eA] at R1 hln ⊢
          have hAl : (A ++ [x]).length = A.length + 1 := by simp
          rw [hAl] at hln ⊢
          have hEl : Hid ((refP t lba (k + 1)).length = A.length + 1) := by show (refP t lba (k + 1)).length = _; rw [hstep]; simp
          have hst' : Hid (refP t lba (k + 1) = A ++ [⟨x.lba, x.len + 1, x.phys⟩]) := hstep
          have dxl := wrapI (x := x.len + 1) (by omega) (by omega)
          have dA := wrapI (x := ((A.length + 1 : Nat) : Int) - 1) (by omega) (by omega)
          have dA2 : ((A.length + 1 : Nat) : Int) - 1 = (A.length : Int) := by omega
          rw [dA2] at dA
          have hrc := R1.rs.1
          rw [hAl] at hrc
          clear hcj hbj hstep hnew hX hz ej hij hT
          clear eA hpre x1 x2 hxl xf dA2 hAl
          go_upto_region 5 with fail
          go_quiet ((go_at_call 43; exact Calls.quiet_of_same (htg _)))
          have k2 := (Keep.refl (fun _ => False) wr).drewN nq
          have R2 := R1.more k2
          generalize wr.drewN nq = w2 at k2 R2 ⊢
          obtain ⟨g2, rfl, f0, f1, f2⟩ := R2.rs.at (i := A.length) (x := x) (by simp)
          have hfz := R2.own.frozenAt (A.length * 3 + 1)
          have R3 := R2.setLen (x.len + 1)
          rw [← (show refP t lba (k + 1) = _ from hst')] at R3
          clear R1 R2 ci k2 htg
          go_wp2_with fail
          go_roundw
          case rel => exact ⟨k + 1, i + 1, _, c', hlt', by have := (show i = lba + k from hik); show i + 1 = lba + (k + 1); omega, by rw [show (refP t lba (k + 1)).length = _ from hEl], by go_num, R3⟩
          case measure => have : k < n := hlt'; have := (show i = lba + k from hik); simp [intOf]; omega
        | false =>
          rw [hT] at htg
          rw [if_neg (fun h => by rw [hT] at h; simp at h)] at hstep
          have hn := hnew hstep
          clear hcj hbj hstep hnew hX hz ej hij hT
          go_upto_region 5 with fail
          go_quiet ((go_at_call 43; exact Calls.quiet_of_same (htg _)))
          have k2 := (Keep.refl (fun _ => False) wr).drewN nq
          have ci2 := k2.cell ci
          generalize wr.drewN nq = w2 at k2 ci2 ⊢
          obtain ⟨a2, c2, w3, happ, R3, hE⟩ := hn w2 k2
          have hE' : Hid ((refP t lba (k + 1)).length = (refP t lba k).length + 1) := hE
          clear hn hE R1 ci k2 htg
          go_wp2_with (at_builtin; refine wpList_append_run rfl (.tmp 40) (.tmp 47) 23 rfl (by rfl) (by rfl) happ ?_)
          go_roundw
          case rel => exact ⟨k + 1, i + 1, a2, c2, hlt', by have := (show i = lba + k from hik); show i + 1 = lba + (k + 1); omega, by rw [show (refP t lba (k + 1)).length = _ from hE'], by go_num, R3⟩
          case measure => have : k < n := hlt'; have := (show i = lba + k from hik); simp [intOf]; omega
    · have di : ¬ (i : Int) < (lba : Int) + n := by omega
      have ek : k = n := by omega
      rw [ek] at R1 ⊢
      clear hlt ek h hik2
      go_wp2_with fail
      go_ret
      exact ⟨_, _, rfl, R1⟩
theorem Rr.older {w0 w1 w : World} {a : Option Addr} {cap : Nat} {m : List Rn} (h : Rr w1 w a cap m) (k : Keep (fun _ => False) w0 w1) : Rr w0 w a cap m := by
  refine ⟨⟨h.own.1, h.own.2.imp id ?_⟩, k.trans h.keep⟩
  rintro ⟨g, c, cur, e, hb, hh, h1, h2, h3, h4⟩
  exact ⟨g, c, cur, e, by have := k.size; omega, hh, h1, h2, h3, h4⟩
theorem solid_len (m : List Rn) : (solid m).length ≤ m.length := List.length_filter_le _ _
set_option maxRecDepth 100000 in
set_option maxHeartbeats 2000000 in
theorem runsOf_any {w : World} {a : Option Addr} {c : Nat} {t : List Int} (h : Is w a c t) (h2 : t.length ≤ 512) (hb : Tab t) :
    Calls Try.prog 33 #[.slice a t.length c] w fun e w' => ∃ a' c', e = .returned (.slice a' (refR t t.length).length c') ∧ Rr w w' a' c' (refR t t.length) := by
  have hp := piecesOf_any h h2 hb (lba := 0) (n := t.length) (by omega) (L := 0) (E := (t.length : Int)) rfl (by omega)
  rw [← refR_solid t (fun i => (hb i).1)]
  have hln := refP_len t 0 t.length
  generalize refP t 0 t.length = P at hp hln ⊢
  have hP5 : P.length ≤ 512 := by omega
  clear h hb
  go_enter Try.func33, Try.ntmps33
  go_wp2_with (go_at_call 40; refine hp.mono ?_; rintro e w1 ⟨pa, pc, rfl, Q1⟩)
  have s1 := Q1.rs
  have hpc := s1.1
  have hK1 := Q1.keep
  have R0 : Rr w1 w1 none 0 (solid (P.take 0)) := Rr.nil w1
  have e0 : Hid ((solid (P.take 0)).length = 0) := by show (solid (P.take 0)).length = 0; simp [solid]
  clear hp hln h2 Q1
  go_loopw [3, 11] (fun lv v wx => ∃ (i : Nat) (a' : Option Addr) (c' : Nat), i ≤ P.length ∧ lv = .slice a' (solid (P.take i)).length c' ∧ v = .int .i64 (i : Int) ∧ Rr w1 wx a' c' (solid (P.take i))) (fun _ v _ => P.length - (intOf v).toNat)
  case atStart => exact ⟨0, none, 0, by omega, by rw [show (solid (P.take 0)).length = 0 from e0], rfl, R0⟩
  case round =>
    clear R0
    obtain ⟨i, a', c', hi, rfl, rfl, R1⟩ := hrel
    by_cases hlt : i < P.length
    · obtain ⟨x, hx⟩ := get_rn hlt
      obtain ⟨g, rfl, f0, f1, f2⟩ := (s1.more R1.keep).at hx
      have hT : solid (P.take (i + 1)) = solid (P.take i) ++ (if x.phys = -1 then [] else [x]) := by rw [take_next hx, solid_snoc]
      have hsl : (solid (P.take i)).length ≤ 512 := by have := solid_len (P.take i); simp at this; omega
      have di : (i : Int) < (P.length : Int) := by omega
      have dw := wrapI (x := (i : Int) + 1) (by omega) (by omega)
      have hlt' : Hid (i < P.length) := hlt
      have K2 : Keep (fun _ => False) wr (wr.alloc (.cells (rnA x) 38)) := (Keep.refl _ _).alloc _
      have L2 := Lrn.new45 wr x
      have R2 := R1.more K2
      rw [rnA_lit] at K2 L2 R2
      clear hx hlt s1 R1
      go_upto_region 5 with fail
      generalize wr.alloc (.cells #[.int .i64 x.lba, .int .i64 x.len, .int .i64 x.phys] 38) = w2 at K2 L2 R2 ⊢
      generalize wr.heap.size = g2 at L2 ⊢
      obtain ⟨p0, p1, p2⟩ := L2.c
      clear f0 f1 f2 K2
      by_cases cx : x.phys = -1
      · have cb : (x.phys != -1) = false := by simp [cx]
        rw [if_pos cx, List.append_nil] at hT
        have R3 : Rr w1 w2 a' c' (solid (P.take (i + 1))) := by rw [hT]; exact R2
        have hE : Hid ((solid (P.take (i + 1))).length = (solid (P.take i)).length) := by show (solid (P.take (i + 1))).length = _; rw [hT]
        clear hT cx R2
        go_wp2_with fail
        go_roundw
        case rel => exact ⟨i + 1, a', c', hlt', by rw [show (solid (P.take (i + 1))).length = _ from hE], by go_num, R3⟩
        case measure => have : i < P.length := hlt'; simp [intOf]; omega
      · have cb : (x.phys != -1) = true := by simp [cx]
        rw [if_neg cx] at hT
        obtain ⟨a2, c2, w3, happ, R3⟩ := R2.app1 (by omega) x
        rw [← hT] at R3
        have hE : Hid ((solid (P.take (i + 1))).length = (solid (P.take i)).length + 1) := by show (solid (P.take (i + 1))).length = _; rw [hT]; simp
        clear hT cx R2
        go_wp2_with (at_builtin; refine wpList_append_run rfl (.tmp 18) (.tmp 20) 27 rfl (by rfl) (by rfl) happ ?_)
        go_roundw
        case rel => exact ⟨i + 1, a2, c2, hlt', by rw [show (solid (P.take (i + 1))).length = _ from hE], by go_num, R3⟩
        case measure => have : i < P.length := hlt'; simp [intOf]; omega
    · have di : ¬ (i : Int) < (P.length : Int) := by omega
      have ei : i = P.length := by omega
      rw [ei, List.take_length] at R1 ⊢
      clear hlt ei s1
      go_wp2_with fail
      go_ret
      exact ⟨_, _, rfl, R1.older hK1⟩
/-- The map's two cells. -/
def ftop (N C : Nat) (a : Option Addr) (c : Nat) (i : Nat) : Value := if i = 0 then .int .i64 (N : Int) else .slice a C c
/-- A flat map whose blocks are among B (every later block is): its struct in q, most N, its entries t. -/
structure Fm (B : Nat → Prop) (wr : World) (q N C : Nat) (t : List Int) : Prop where
  ex : ∃ a c, Blk wr q 2 (ftop N C a c) ∧ Is wr a c t ∧ ∀ g, a = some ⟨g, 0, none⟩ → B g ∧ g ≠ q ∧ g < wr.heap.size
  bq : B q
  up : ∀ x, wr.heap.size ≤ x → B x
  tl : t.length = C
  tab : Tab t
  cap1 : 1 ≤ C
  cap2 : C ≤ 512
  N1 : 1 ≤ N
  N2 : N ≤ 512
  len : (refR t C).length ≤ N
theorem Fm.lt {B : Nat → Prop} {wr : World} {q N C : Nat} {t : List Int} (h : Fm B wr q N C t) : q < wr.heap.size := by
  obtain ⟨a, c, hb, -⟩ := h.ex
  exact hb.lt (by omega)
theorem Fm.other {S : Nat → Prop} {B : Nat → Prop} {wr w' : World} {q N C : Nat} {t : List Int} (h : Fm B wr q N C t) (k : Keep S wr w') (hS : ∀ x, S x → ¬ B x) : Fm B w' q N C t := by
  obtain ⟨a, c, hb, hi, hg⟩ := h.ex
  exact ⟨⟨a, c, hb.keep k (fun e => hS _ e h.bq), hi.keep k (fun g e s => hS _ s (hg g e).1), fun g e => ⟨(hg g e).1, (hg g e).2.1, by have := (hg g e).2.2; have := k.size; omega⟩⟩, h.bq, fun x hx => h.up x (Nat.le_trans k.size hx), h.tl, h.tab, h.cap1, h.cap2, h.N1, h.N2, h.len⟩
/-- Fewer blocks are let, and still its own and the later ones. -/
theorem Fm.among {B B' : Nat → Prop} {wr : World} {q N C : Nat} {t : List Int} (h : Fm B wr q N C t) (h1 : ∀ x, x < wr.heap.size → B x → B' x) (h2 : ∀ x, wr.heap.size ≤ x → B' x) : Fm B' wr q N C t := by
  obtain ⟨a, c, hb, hi, hg⟩ := h.ex
  exact ⟨⟨a, c, hb, hi, fun g e => ⟨h1 _ (hg g e).2.2 (hg g e).1, (hg g e).2⟩⟩, h1 _ (hb.lt (by omega)) h.bq, h2, h.tl, h.tab, h.cap1, h.cap2, h.N1, h.N2, h.len⟩
theorem Fm.more {B : Nat → Prop} {wr w' : World} {q N C : Nat} {t : List Int} (h : Fm B wr q N C t) (k : Keep (fun _ => False) wr w') : Fm B w' q N C t := h.other k (fun _ e => e.elim)
set_option maxRecDepth 100000 in
theorem fright {B : Nat → Prop} {wr : World} {q N C : Nat} {t : List Int} (h : Fm B wr q N C t) (lba n : Int) (hl : lba ≤ 9223372036854775807) :
    Calls Try.prog 30 #[.pointer (some ⟨q, 0, none⟩), .int .i64 lba, .int .i64 n] wr fun e w' => e = .returned (.bool (okR (C : Int) lba n)) ∧ w' = wr := by
  obtain ⟨a, c, hb, -, -⟩ := h.ex
  have c1 : wr.cell? ⟨q, 1, none⟩ = some (.slice a C c) := (hb 1 (by omega)).1
  have hc := h.cap2
  clear h hb
  unfold okR
  by_cases h1 : 1 ≤ n
  · by_cases h2 : 0 ≤ lba
    · have dw : IntKind.i64.wrap ((C : Int) - lba) = (C : Int) - lba := by rw [IntKind.wrap_i64] <;> omega
      go_enter Try.func30, Try.ntmps30
      go_wp2_with fail
      go_ret
      exact ⟨by simp [h1, h2], rfl⟩
    · go_enter Try.func30, Try.ntmps30
      go_wp2_with fail
      go_ret
      exact ⟨by simp; intros; omega, rfl⟩
  · go_enter Try.func30, Try.ntmps30
    go_wp2_with fail
    go_ret
    exact ⟨by simp; intros; omega, rfl⟩
set_option maxRecDepth 100000 in
theorem ftable {B : Nat → Prop} {wr : World} {q N C : Nat} {t : List Int} (h : Fm B wr q N C t) :
    Calls Try.prog 31 #[.pointer (some ⟨q, 0, none⟩)] wr fun e w' => ∃ a' c', e = .returned (.slice a' C c') ∧ Ri wr w' a' c' t := by
  obtain ⟨a, c, hb, hi, -⟩ := h.ex
  have c1 : wr.cell? ⟨q, 1, none⟩ = some (.slice a C c) := (hb 1 (by omega)).1
  have hcl := clone_any hi (by have := h.cap1; have := h.tl; omega) (by have := h.cap2; have := h.tl; omega)
  rw [h.tl] at hcl
  clear h hb hi
  go_enter Try.func31, Try.ntmps31
  go_wp2_with (go_at_call 39; refine hcl.mono ?_; rintro e w1 ⟨a', c', rfl, R1⟩)
  go_ret
  exact ⟨_, _, rfl, R1⟩
set_option maxRecDepth 100000 in
theorem fruns {B : Nat → Prop} {wr : World} {q N C : Nat} {t : List Int} (h : Fm B wr q N C t) :
    Calls Try.prog 16 #[.pointer (some ⟨q, 0, none⟩)] wr fun e w' => ∃ a' c', e = .returned (.slice a' (refR t C).length c') ∧ Rr wr w' a' c' (refR t C) := by
  obtain ⟨a, c, hb, hi, -⟩ := h.ex
  have c1 : wr.cell? ⟨q, 1, none⟩ = some (.slice a C c) := (hb 1 (by omega)).1
  have hcl := runsOf_any hi (by have := h.cap2; have := h.tl; omega) h.tab
  rw [h.tl] at hcl
  clear h hb hi
  generalize refR t C = m at hcl ⊢
  go_enter Try.func16, Try.ntmps16
  go_wp2_with (go_at_call 33; refine hcl.mono ?_; rintro e w1 ⟨a', c', rfl, R1⟩)
  go_ret
  exact ⟨_, _, rfl, R1⟩
/-- Done, or too many runs and nothing changed. -/
def Fid (B : Nat → Prop) (wa : World) (q N C : Nat) (u : List Int) (e : Ending) (w' : World) : Prop :=
  ((refR u C).length ≤ N ∧ e = .returned (.int .i64 0) ∧ Fm B w' q N C u ∧ Keep (fun x => x = q) wa w') ∨ (N < (refR u C).length ∧ e = .returned (.int .i64 5) ∧ Keep (fun _ => False) wa w')
theorem ftop_set (N C : Nat) (a : Option Addr) (c : Nat) (a' : Option Addr) (c' : Nat) (i : Nat) (hi : i < 2) : (if i = 1 then Value.slice a' C c' else ftop N C a c i) = ftop N C a' c' i := by
  unfold ftop
  have : i = 0 ∨ i = 1 := by omega
  rcases this with rfl | rfl <;> rfl
set_option maxRecDepth 100000 in
theorem ftake {B : Nat → Prop} {wr : World} {q N C : Nat} {t : List Int} (h : Fm B wr q N C t) {a' : Option Addr} {c' : Nat} {u : List Int} (hu : Is wr a' c' u) (hg : ∀ g, a' = some ⟨g, 0, none⟩ → B g ∧ g ≠ q ∧ g < wr.heap.size) (hul : u.length = C) (hub : Tab u) :
    Calls Try.prog 32 #[.pointer (some ⟨q, 0, none⟩), .slice a' C c'] wr (Fid B wr q N C u) := by
  obtain ⟨a, c, hb, -, -⟩ := h.ex
  have hru := runsOf_any (hu.more (Keep.refl (fun _ => False) wr).drew) (by have := h.cap2; omega) hub
  rw [hul] at hru
  have hlen := refR_len u C
  have hcap := h.cap2
  have hN2 := h.N2
  have hS : ∀ w', Keep (fun _ => False) wr.drew w' → w'.cell? ⟨q, 0, none⟩ = some (.int .i64 (N : Int)) := fun w' hk => (Blk.keep hb ((Keep.refl (fun _ => False) wr).drew.trans hk) (fun e => e) 0 (by omega)).1
  have hF : ∀ w', Keep (fun _ => False) wr w' → (refR u C).length ≤ N → w'.cell? ⟨q, 1, none⟩ = some (.slice a C c) ∧ w'.frozen? ⟨q, 1, none⟩ = false ∧ Fm B (w'.setCell ⟨q, 1, none⟩ (.slice a' C c')) q N C u ∧ Keep (fun x => x = q) wr (w'.setCell ⟨q, 1, none⟩ (.slice a' C c')) := fun w' hk hle => by
    have hb' := Blk.keep hb hk (fun e => e)
    have hk2 : Keep (fun x => x = q) wr (w'.setCell ⟨q, 1, none⟩ (.slice a' C c')) := Keep.setCell (S := fun x => x = q) (hk.mono (fun _ _ e => e.elim)) (p := ⟨q, 1, none⟩) (Or.inl rfl) _
    exact ⟨(hb' 1 (by omega)).1, (hb' 1 (by omega)).2, ⟨⟨a', c', (hb'.set 1 (.slice a' C c')).congr (fun i hi => ftop_set N C a c a' c' i hi), hu.keep hk2 (fun g e e2 => (hg g e).2.1 e2), fun g e => ⟨(hg g e).1, (hg g e).2.1, Nat.lt_of_lt_of_le (hg g e).2.2 hk2.size⟩⟩, h.bq, fun x hx => h.up x (Nat.le_trans hk2.size hx), hul, hub, h.cap1, h.cap2, h.N1, h.N2, hle⟩, hk2⟩
  unfold Fid
  clear h hb hu
  generalize refR u C = m at hru hlen hF ⊢
  go_enter Try.func32, Try.ntmps32
  go_upto_region 1 with fail
  by_cases hf : m.length ≤ N
  · have dN : ¬ (N : Int) < (m.length : Int) := by omega
    have dNb : decide ((N : Int) < (m.length : Int)) = false := decide_eq_false dN
    have dNc : decide (N < m.length) = false := decide_eq_false (by omega)
    go_region_held3 (fun w' => w'.cell? ⟨q, 0, none⟩ = some (.int .i64 (N : Int))) (first | exact hS _ (Keep.refl _ _) | exact hS _ k1) ((go_at_call 33; refine hru.mono ?_; rintro e w1 ⟨a1, c1, rfl, R1⟩; have k1 := R1.keep))
    obtain ⟨x1, x2, x3, x4⟩ := hF w1 ((Keep.refl (fun _ => False) wr).drew.trans k1) hf
    clear hF hru hS R1
    go_wp2_with fail
    go_ret
    exact Or.inl ⟨hf, rfl, x3, x4⟩
  · have dN : (N : Int) < (m.length : Int) := by omega
    have dNb : decide ((N : Int) < (m.length : Int)) = true := decide_eq_true dN
    have dNc : decide (N < m.length) = true := decide_eq_true (by omega)
    go_region_held3 (fun w' => w'.cell? ⟨q, 0, none⟩ = some (.int .i64 (N : Int))) (first | exact hS _ (Keep.refl _ _) | exact hS _ k1) ((go_at_call 33; refine hru.mono ?_; rintro e w1 ⟨a1, c1, rfl, R1⟩; have k1 := R1.keep))
    have k2 := (Keep.refl (fun _ => False) wr).drew.trans k1
    clear hF hru hS R1
    go_wp2_with fail
    go_ret
    exact Or.inr ⟨by omega, rfl, k2⟩
set_option maxRecDepth 100000 in
set_option maxHeartbeats 1000000 in
theorem newF_any {B : Nat → Prop} {w : World} (hB : ∀ x, w.heap.size ≤ x → B x) {C N : Nat} (c1 : 1 ≤ C) (c2 : C ≤ 512) (n1 : 1 ≤ N) (n2 : N ≤ 512) :
    Calls Try.prog 14 #[.int .i64 (C : Int), .int .i64 (N : Int)] w fun e w' => ∃ q, e = .returned (.tuple #[.pointer (some ⟨q, 0, none⟩), .int .i64 0]) ∧ Fm B w' q N C (List.replicate C (-1)) ∧ Keep (fun _ => False) w w' := by
  have hmk := make_ints C c2 w
  have R0 : Ri w (w.alloc (.cells (madeCells #[.int .i64 0] C) 3)) (some ⟨w.heap.size, 0, none⟩) C (nw C 0) := ri_made w C c2
  generalize w.alloc (.cells (madeCells #[.int .i64 0] C) 3) = w1 at hmk R0
  generalize hG : w.heap.size = G at hmk R0
  have hG' : Hid (w.heap.size = G) := hG
  have hB' : Hid (∀ x, G ≤ x → B x) := by rw [hG] at hB; exact hB
  clear hB
  have d1 : ¬ (C : Int) < 1 := by omega
  have d2 : ¬ (512 : Int) < C := by omega
  have d3 : ¬ (N : Int) < 1 := by omega
  have d4 : ¬ (512 : Int) < N := by omega
  clear hG
  go_enter Try.func14, Try.ntmps14
  go_wp2_with fail
  clear hmk
  go_loopw [26] (fun v wx => ∃ i : Nat, i ≤ C ∧ v = .int .i64 (i : Int) ∧ Ri w wx (some ⟨G, 0, none⟩) C (nw C i)) (fun v _ => C - (intOf v).toNat)
  case atStart => exact ⟨0, by omega, rfl, R0⟩
  case round =>
    clear R0
    obtain ⟨i, hi, rfl, R1⟩ := hrel
    by_cases hlt : i < C
    · obtain ⟨g, eg, c0⟩ := R1.is.at (i := i) (by rw [nw_len]; exact hlt)
      injection eg with eg; injection eg with eg; subst eg
      have z0 := R1.fz i
      have R2 := R1.set i (-1)
      have di : (i : Int) < (C : Int) := by omega
      have dw := wrapI (x := (i : Int) + 1) (by omega) (by omega)
      have hlt' : Hid (i < C) := hlt
      clear hlt R1
      go_wp2_with fail
      go_roundw
      case rel => exact ⟨i + 1, hlt', by go_num, R2⟩
      case measure => have : i < C := hlt'; simp [intOf]; omega
    · have di : ¬ (i : Int) < (C : Int) := by omega
      have ei : i = C := by omega
      rw [ei, nw_end] at R1
      have k2 : Keep (fun _ => False) wr (wr.alloc (.cells #[.int .i64 (N : Int), .slice (some ⟨G, 0, none⟩) C C] 58)) := (Keep.refl _ _).alloc _
      have hgb := R1.block rfl
      have hGe : w.heap.size = G := hG'
      have hB2 : ∀ x, G ≤ x → B x := hB'
      have F : Fm B (wr.alloc (.cells #[.int .i64 (N : Int), .slice (some ⟨G, 0, none⟩) C C] 58)) wr.heap.size N C (List.replicate C (-1)) :=
        ⟨⟨some ⟨G, 0, none⟩, C, blk_alloc wr _ 58 2 _ (fun j hj => by
            have : j = 0 ∨ j = 1 := by omega
            rcases this with rfl | rfl <;> rfl), (R1.more k2).is, fun g e => by
            injection e with e; injection e with e
            subst e
            have := k2.size
            exact ⟨hB2 _ (by omega), by omega, by omega⟩⟩, hB2 _ (by have := R1.keep.size; omega), fun x hx => hB2 _ (by have := R1.keep.size; have := k2.size; omega), by simp, tab_nil C, c1, c2, n1, n2, by
          have := (of_nil C).runs
          rw [List.length_replicate] at this
          rw [← this]; simp⟩
      have K2 := R1.keep.trans k2
      clear hlt ei R1 k2 hgb hGe hB2
      go_wp2_with fail
      go_ret2
      exact ⟨_, rfl, F, K2⟩
end Tg
end Go.Proofs.Ytojkiambkgkecaa
