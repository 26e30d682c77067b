/-
  Pages in memory: a page's 39 cells, a variable that holds a page, rows of pages that are read, rows of one's own that grow.
-/
import Derived.Test.YtginnojbmpnleaaLm
namespace Go.Proofs.Ytginnojbmpnleaa
open Go.ChangeShapes Go.WideShapes Go.ChangeAt Go.RowKit
namespace Tg
/-- A page's cells. -/
def pcl (p : Pg) (j : Nat) : Value :=
  if j = 0 then .int .i64 p.kind else if j = 1 then .int .u32 p.lba else if j = 2 then .int .u32 p.seq else if j = 3 then .int .u32 p.ep else if j = 4 then .int .u32 p.gr else if j = 5 then .int .u32 p.ix else if j = 6 then .int .u32 p.tot else .int .u8 (p.pay.getD (j - 7) 0)
def pgA (p : Pg) : Array Value := ((List.range 39).map (pcl p)).toArray
theorem pgA_size (p : Pg) : (pgA p).size = 39 := by simp [pgA]
theorem pgA_get (p : Pg) (i : Nat) (hi : i < 39) : (pgA p)[i]? = some (pcl p i) := by simp [pgA, hi]
theorem pgA_len (p : Pg) : (pgA p).toList.length = 39 := by simp [pgA]
theorem pcl_one (p : Pg) (j : Nat) : (pcl p j).oneCell' = true := by
  unfold pcl
  repeat' split
  all_goals rfl
theorem pgA_one (p : Pg) : ∀ u ∈ (pgA p).toList, u.oneCell' = true := by
  intro u hu
  simp [pgA] at hu
  obtain ⟨j, -, rfl⟩ := hu
  exact pcl_one p j
/-- Pages whose cells are the same are the same. -/
theorem pgA_inj {p q : Pg} (hp : p.pay.length = 32) (hq : q.pay.length = 32) (h : ∀ j, j < 39 → pcl p j = pcl q j) : p = q := by
  have h0 := h 0 (by omega)
  have h1 := h 1 (by omega)
  have h2 := h 2 (by omega)
  have h3 := h 3 (by omega)
  have h4 := h 4 (by omega)
  have h5 := h 5 (by omega)
  have h6 := h 6 (by omega)
  have h7 : p.pay = q.pay := by
    refine list_ext (by omega) (fun k hk => ?_)
    have := h (7 + k) (by omega)
    unfold pcl at this
    rw [if_neg (by omega), if_neg (by omega), if_neg (by omega), if_neg (by omega), if_neg (by omega), if_neg (by omega), if_neg (by omega), if_neg (by omega), if_neg (by omega), if_neg (by omega), if_neg (by omega), if_neg (by omega), if_neg (by omega), if_neg (by omega), show 7 + k - 7 = k by omega] at this
    injection this
  unfold pcl at h0 h1 h2 h3 h4 h5 h6
  simp at h0 h1 h2 h3 h4 h5 h6
  cases p
  cases q
  simp_all
theorem size33 : (Try.prog.info? 33).map (·.size) = some 39 := by kernel_rfl
theorem under33 : ∃ d, Try.prog.underlying 33 = some d ∧ d.isRow = true := ⟨_, Try.underlying33, rfl⟩
theorem info33 : (Try.prog.info? 33).map (fun i => (i.zero.map (·.cells.size), i.size, i.bytes)) = some (some 39, 39, 64) := by kernel_rfl
/-- A variable of one's own that holds a page. -/
def Pv (w : World) (b : Nat) (p : Pg) : Prop := Blk w b 39 (pcl p)
theorem Pv.new (w : World) (p : Pg) : Pv (w.alloc (.cells (pgA p) 33)) w.heap.size p := blk_alloc w _ 33 39 _ (pgA_get p)
theorem Pv.more {w w' : World} {b : Nat} {p : Pg} (h : Pv w b p) (k : Keep (fun _ => False) w w') : Pv w' b p := Blk.keep h k (fun e => e)
theorem Pv.lt {w : World} {b : Nat} {p : Pg} (h : Pv w b p) : b < w.heap.size := Blk.lt h (by omega)
theorem Pv.kind {w : World} {b : Nat} {p : Pg} (h : Pv w b p) : w.cell? ⟨b, 0, none⟩ = some (.int .i64 p.kind) := (h 0 (by omega)).1
theorem Pv.lba {w : World} {b : Nat} {p : Pg} (h : Pv w b p) : w.cell? ⟨b, 1, none⟩ = some (.int .u32 p.lba) := (h 1 (by omega)).1
theorem Pv.ep {w : World} {b : Nat} {p : Pg} (h : Pv w b p) : w.cell? ⟨b, 3, none⟩ = some (.int .u32 p.ep) := (h 3 (by omega)).1
theorem Pv.gr {w : World} {b : Nat} {p : Pg} (h : Pv w b p) : w.cell? ⟨b, 4, none⟩ = some (.int .u32 p.gr) := (h 4 (by omega)).1
theorem Pv.ix {w : World} {b : Nat} {p : Pg} (h : Pv w b p) : w.cell? ⟨b, 5, none⟩ = some (.int .u32 p.ix) := (h 5 (by omega)).1
theorem Pv.tot {w : World} {b : Nat} {p : Pg} (h : Pv w b p) : w.cell? ⟨b, 6, none⟩ = some (.int .u32 p.tot) := (h 6 (by omega)).1
theorem Pv.pay {w : World} {b : Nat} {p : Pg} (h : Pv w b p) {k : Nat} (hk : k < 32) : w.cell? ⟨b, 7 + k, none⟩ = some (.int .u8 (p.pay.getD k 0)) := by
  rw [(h (7 + k) (by omega)).1]
  unfold pcl
  rw [if_neg (by omega), if_neg (by omega), if_neg (by omega), if_neg (by omega), if_neg (by omega), if_neg (by omega), if_neg (by omega), show 7 + k - 7 = k by omega]
theorem pg_range {w : World} {b o : Nat} {p : Pg} (h : ∀ j, j < 39 → w.cell? ⟨b, o + j, none⟩ = some (pcl p j)) : w.rangeAt b o (pgA p).toList := by
  intro j v hv
  have hj : j < 39 := by have := (List.getElem?_eq_some_iff.1 hv).1; simpa [pgA] using this
  rw [h j hj, ← hv]
  simp [pgA, hj]
theorem pg_load {w : World} {b o : Nat} {p : Pg} (h : ∀ j, j < 39 → w.cell? ⟨b, o + j, none⟩ = some (pcl p j)) : (Instr.loadAt 33 (.pointer (some ⟨b, o, none⟩))).run Try.prog w = .ok (.agg (pgA p)) w := by
  obtain ⟨t, h1, h2⟩ := under33
  have := run_loadAt_mid (P := Try.prog) w b o 33 (pgA p).toList t (pg_range h) h1 h2 (by rw [size33]; simp [pgA])
  simpa using this
theorem Pv.load {w : World} {b : Nat} {p : Pg} (h : Pv w b p) : (Instr.loadAt 33 (.pointer (some ⟨b, 0, none⟩))).run Try.prog w = .ok (.agg (pgA p)) w := pg_load (fun j hj => by rw [Nat.zero_add]; exact (h j hj).1)
theorem Pv.loadVar {w : World} {b : Nat} {p : Pg} (h : Pv w b p) : (Go.loadVar 33 ⟨b, 0, none⟩).run Try.prog w = .ok (.agg (pgA p)) w := by
  obtain ⟨t, h1, h2⟩ := under33
  have := run_loadVar_mid (P := Try.prog) w b 0 33 (pgA p).toList t (pg_range (fun j hj => by rw [Nat.zero_add]; exact (h j hj).1)) h1 h2 (by rw [size33]; simp [pgA])
  simpa using this
/-- The walk's step at a load whose run is known. -/
theorem wpList_load_run {P : Program} {w : World} {ops : Array Oper} {rest : List Oper} {o : Oper} {a : Act} {Q : Exit → Act → World → Prop}
    (hw : Region.wanted o (yielded ops a.tmps) = true) (t : TypeId) (x : Operand) (hop : o.op = Op.load t x) {v1 v' : Value} {w' : World} (hx : a.eval x = v1) (hrun : (Instr.loadAt t v1).run P w = .ok v' w')
    (hK : wpList P ops Q rest (a.put o.dst v') w') : wpList P ops Q (o :: rest) a w := by
  refine BigFrame.wpList_want hw fun K hK' => ?_
  unfold Oper.wp
  simp [execOp, hop, hx, hrun, Result.andThen]
  exact hK' _ _ hK
/-- Pages as cells. -/
def pcells (l : List Pg) : List Value := l.flatMap (fun p => (pgA p).toList)
theorem pcells_len (l : List Pg) : (pcells l).length = l.length * 39 := by
  induction l with
  | nil => rfl
  | cons v l ih => simp only [pcells, List.flatMap_cons, List.length_append, List.length_cons] at *; rw [ih, pgA_len]; omega
theorem pcells_app (l m : List Pg) : pcells (l ++ m) = pcells l ++ pcells m := by simp [pcells]
theorem pcells_one (l : List Pg) : ∀ u ∈ pcells l, u.oneCell' = true := by
  intro u hu
  obtain ⟨p, -, hp⟩ := List.mem_flatMap.1 hu
  exact pgA_one p u hp
theorem pcells_at {p : Pg} : ∀ {l : List Pg} {q : Nat}, l[q]? = some p → ∀ j, j < 39 → (pcells l)[q * 39 + j]? = some (pcl p j)
  | [], q, h, _, _ => by simp at h
  | y :: l, 0, h, j, hj => by
    simp at h
    subst h
    rw [show pcells (y :: l) = (pgA y).toList ++ pcells l from rfl, List.getElem?_append_left (by rw [pgA_len]; omega), Nat.zero_mul, Nat.zero_add]
    simp [pgA, hj]
  | y :: l, q + 1, h, j, hj => by
    simp at h
    have := pcells_at (l := l) (q := q) h j hj
    rw [show pcells (y :: l) = (pgA y).toList ++ pcells l from rfl, List.getElem?_append_right (by rw [pgA_len]; omega), ← this]
    congr 1
    rw [pgA_len]; omega
/-- A row of pages, wherever it begins. -/
def Rg (w : World) (a : Option Addr) (cap : Nat) (l : List Pg) : Prop :=
  l.length ≤ cap ∧ cap ≤ 9223372036854775807 ∧ (l = [] ∨ ∃ g o, a = some ⟨g, o, none⟩ ∧ ∀ i p, l[i]? = some p → ∀ j, j < 39 → w.cell? ⟨g, o + i * 39 + j, none⟩ = some (pcl p j))
theorem Rg.keep {S : Nat → Prop} {w w' : World} {a : Option Addr} {cap : Nat} {l : List Pg} (h : Rg w a cap l) (k : Keep S w w') (hs : ∀ g o, a = some ⟨g, o, none⟩ → l ≠ [] → ¬ S g) : Rg w' a cap l := by
  obtain ⟨h1, h2, h3⟩ := h
  by_cases hl : l = []
  · exact ⟨h1, h2, Or.inl hl⟩
  refine ⟨h1, h2, h3.imp id ?_⟩
  rintro ⟨g, o, rfl, hc⟩
  refine ⟨g, o, rfl, fun i p hp j hj => ?_⟩
  have c0 := hc i p hp j hj
  have hb := World.block_lt_of_cell? w _ c0
  rw [← c0]
  exact World.cell?_of_block (w := w) (a := ⟨g, o + i * 39 + j, none⟩) (k.block g hb (hs g o rfl hl))
theorem Rg.more {w w' : World} {a : Option Addr} {cap : Nat} {l : List Pg} (h : Rg w a cap l) (k : Keep (fun _ => False) w w') : Rg w' a cap l := h.keep k (fun _ _ _ _ e => e)
theorem get_pg {l : List Pg} {i : Nat} (h : i < l.length) : ∃ p, l[i]? = some p := ⟨_, List.getElem?_eq_getElem h⟩
theorem Rg.at {w : World} {a : Option Addr} {cap : Nat} {l : List Pg} (h : Rg w a cap l) {i : Nat} {p : Pg} (hp : l[i]? = some p) :
    ∃ g o, a = some ⟨g, o, none⟩ ∧ ∀ j, j < 39 → w.cell? ⟨g, o + i * 39 + j, none⟩ = some (pcl p j) := by
  rcases h.2.2 with rfl | ⟨g, o, rfl, hc⟩
  · simp at hp
  · exact ⟨g, o, rfl, hc i p hp⟩
/-- A row of pages of one's own, in memory made since w0. -/
structure Ro (w0 w : World) (a : Option Addr) (cap : Nat) (m : List Pg) : Prop where
  own : w.ownsRow w0.heap.size 33 39 (.slice a m.length cap) m.length (pcells m)
  keep : Keep (fun _ => False) w0 w
theorem Ro.nil (w : World) : Ro w w none 0 [] := ⟨World.ownsRow_nil _ _ _ _, Keep.refl _ _⟩
theorem Ro.other {S : Nat → Prop} {w0 w w' : World} {a : Option Addr} {cap : Nat} {m : List Pg} (h : Ro w0 w a cap m) (k : Keep S w w') (hs : ∀ g, a = some ⟨g, 0, none⟩ → ¬ S g) (h0 : ∀ x, S x → w0.heap.size ≤ x) : Ro w0 w' a cap m := by
  refine ⟨⟨h.own.1, h.own.2.imp id ?_⟩, h.keep.next k (fun x hx e => by have := h0 x e; omega)⟩
  rintro ⟨g, c, cur, e, hb, hh, h1, h2, h3, h4⟩
  injection e with e1 e2 e3
  exact ⟨g, c, cur, by rw [e1, e3], hb, by rw [k.block g (by by_cases hg : g < w.heap.size; exact hg; simp [Array.getElem?_eq_none (Nat.le_of_not_lt hg)] at hh) (hs g e1)]; exact hh, h1, h2, h3, h4⟩
theorem Ro.more {w0 w w' : World} {a : Option Addr} {cap : Nat} {m : List Pg} (h : Ro w0 w a cap m) (k : Keep (fun _ => False) w w') : Ro w0 w' a cap m := h.other k (fun _ _ e => e) (fun _ e => e.elim)
theorem Ro.older {w0 w1 w : World} {a : Option Addr} {cap : Nat} {m : List Pg} (h : Ro w1 w a cap m) (k : Keep (fun _ => False) w0 w1) : Ro w0 w a cap m := by
  refine ⟨⟨h.own.1, h.own.2.imp id ?_⟩, k.trans h.keep⟩
  rintro ⟨g, c, cur, e, hb, hh, h1, h2, h3, h4⟩
  exact ⟨g, c, cur, e, by have := k.size; omega, hh, h1, h2, h3, h4⟩
theorem Ro.block {w0 w : World} {a : Option Addr} {cap : Nat} {m : List Pg} (h : Ro w0 w a cap m) {g : Nat} (e : a = some ⟨g, 0, none⟩) : w0.heap.size ≤ g ∧ g < w.heap.size := by
  have := h.own.lt g (by rw [e]; rfl)
  exact this
theorem Ro.rg {w0 w : World} {a : Option Addr} {cap : Nat} {m : List Pg} (h : Ro w0 w a cap m) : Rg w a cap m := by
  obtain ⟨h1, h2⟩ := h.own
  rcases h2 with ⟨e, hn⟩ | ⟨g, c, cur, e, hb, hh, hn, hm, hs, ht⟩
  · injection e with e1 e2 e3
    exact ⟨by omega, by omega, Or.inl (List.eq_nil_of_length_eq_zero hn)⟩
  · injection e with e1 e2 e3
    subst e1 e3
    unfold maxLen at hm
    refine ⟨hn, by omega, Or.inr ⟨g, 0, rfl, fun i p hp j hj => ?_⟩⟩
    have := h.own.cells (g := g) rfl (i * 39 + j) _ (pcells_at hp j hj)
    rwa [Addr.add_lit, ← Nat.add_assoc] at this
theorem inf33 : ∃ i z, Try.prog.info? 33 = some i ∧ i.zero = some z ∧ i.size = 39 ∧ i.bytes = 64 ∧ z.cells.size = 39 := by
  have h := info33
  cases hi : Try.prog.info? 33 with
  | none => rw [hi] at h; cases h
  | some i =>
    rw [hi] at h
    simp only [Option.map_some, Option.some.injEq, Prod.mk.injEq] at h
    obtain ⟨h1, h2, h3⟩ := h
    cases hz : i.zero with
    | none => rw [hz] at h1; cases h1
    | some z =>
      rw [hz] at h1
      simp only [Option.map_some, Option.some.injEq] at h1
      exact ⟨i, z, rfl, hz, h2, h3, h1⟩
/-- More pages behind a row of one's own, and where the row then lies. -/
theorem Ro.appN {w0 w : World} {a : Option Addr} {cap : Nat} {m : List Pg} (h : Ro w0 w a cap m) (x : Addr) (c : Nat) (ns : List Pg) (hl : m.length + ns.length ≤ 1000000) (hnews : ∀ j u, (pcells ns)[j]? = some u → w.cell? (x.add j) = some u) :
    ∃ a' cap' w', (Builtin.append_ #[23, 23] 23 #[.slice a m.length cap, .slice (some x) ns.length c]).run Try.prog w = .ok (.slice a' (m.length + ns.length) cap') w' ∧ Ro w0 w' a' cap' (m ++ ns) ∧ Keep (fun b => a = some ⟨b, 0, none⟩) w w' ∧ (a' = a ∨ ∃ g, a' = some ⟨g, 0, none⟩ ∧ w.heap.size ≤ g) := by
  obtain ⟨i, z, hi, hz0, hz1, hz2, hz3⟩ := inf33
  have hs := h.keep.size
  obtain ⟨v', w', hrun, hown, hgrow, hnil⟩ := run_append_own (P := Try.prog) w w0.heap.size 23 23 33 i z 39 64 Try.underlying23 hi hz0 hz1 hz2 hz3 (by decide) (.slice a m.length cap) m.length (pcells m) h.own
    x ns.length c (pcells ns) (pcells_len ns) hnews (pcells_one ns) (by unfold maxLen; omega) (by omega) hs
  have hk : Keep (fun b => a = some ⟨b, 0, none⟩) w w' := (keep_grown hgrow).mono (fun b _ e => by
    rcases h.own.2 with ⟨e', -⟩ | ⟨g, c, cur, e', -⟩
    · injection e' with e'; subst e'; cases e
    · injection e' with e'; subst e'; injection e with e; subst e; rfl)
  have hK : Keep (fun _ => False) w0 w' := h.keep.next hk (fun y hy e => by have := (h.block e).1; omega)
  rw [← pcells_app, ← List.length_append] at hown
  have hshape : ∃ a' cap', v' = .slice a' (m ++ ns).length cap' := by
    rcases hown.2 with ⟨e, hn⟩ | ⟨g, c', cur, e, -⟩
    · exact ⟨none, 0, by rw [hn]; exact e⟩
    · exact ⟨_, _, e⟩
  obtain ⟨a', cap', rfl⟩ := hshape
  refine ⟨a', cap', w', by rw [hrun, List.length_append], ⟨hown, hK⟩, hk, ?_⟩
  by_cases hn0 : ns.length = 0
  · obtain rfl : ns = [] := List.eq_nil_of_length_eq_zero hn0
    left
    rcases h.own.2 with ⟨e', hn⟩ | ⟨g, c1, cur, e', hb, hh, hnc, hm, hss, ht⟩
    · injection e' with e1 e2 e3
      subst e1 e3
      have := hnil.2 ⟨by rw [hn], rfl⟩
      injection this
    · injection e' with e1 e2 e3
      subst e1 e3
      obtain ⟨w'', hf, -, -⟩ := run_append_fits (P := Try.prog) w w0.heap.size 23 23 33 i 39 Try.underlying23 hi hz1 g m.length cap (pcells m) h.own x 0 c (pcells []) (pcells_len []) hnews (pcells_one []) (by omega)
      simp only [List.length_nil] at hrun
      rw [hf] at hrun
      injection hrun with hr1 hr2
      injection hr1 with hr1 hr3 hr4
      exact hr1.symm
  rcases h.own.2 with ⟨e', hn⟩ | ⟨g, c1, cur, e', hb, hh, hnc, hm, hss, ht⟩
  · injection e' with e1 e2 e3
    subst e1 e3
    have hn' := run_append_nil (P := Try.prog) w 23 23 33 i _ Try.underlying23 hi hz0 x ns.length c (pcells ns) (by rw [hz1]; exact pcells_len ns) hnews (by omega) (by omega) (by rw [hz2]; omega)
    rw [hn] at hrun
    rw [hn'] at hrun
    injection hrun with hr1 hr2
    injection hr1 with hr1 hr3 hr4
    exact Or.inr ⟨_, hr1.symm, Nat.le_refl _⟩
  · injection e' with e1 e2 e3
    subst e1 e3
    by_cases hroom : m.length + ns.length ≤ cap
    · obtain ⟨w'', hf, -, -⟩ := run_append_fits (P := Try.prog) w w0.heap.size 23 23 33 i 39 Try.underlying23 hi hz1 g m.length cap (pcells m) h.own x ns.length c (pcells ns) (pcells_len ns) hnews (pcells_one ns) hroom
      rw [hf] at hrun
      injection hrun with hr1 hr2
      injection hr1 with hr1 hr3 hr4
      exact Or.inl hr1.symm
    · have hg := run_append_grow (P := Try.prog) w 23 23 33 i _ Try.underlying23 hi hz0 ⟨g, 0, none⟩ m.length cap (pcells m) (by rw [hz1]; exact pcells_len m) (h.own.cells (g := g) rfl) x ns.length c (pcells ns) (by rw [hz1]; exact pcells_len ns) hnews (by omega) (by omega) (growslice_fits (by omega) (by rw [hz2]; omega))
      rw [hg] at hrun
      injection hrun with hr1 hr2
      injection hr1 with hr1 hr3 hr4
      exact Or.inr ⟨_, hr1.symm, Nat.le_refl _⟩
/-- One page more. -/
theorem Ro.app1 {w0 w : World} {a : Option Addr} {cap : Nat} {m : List Pg} (h : Ro w0 w a cap m) (hl : m.length ≤ 100000) (p : Pg) :
    ∃ a' cap' w', (Builtin.append_ #[23, 23] 23 #[.slice a m.length cap, .slice (some ⟨w.heap.size, 0, none⟩) 1 1]).run Try.prog (w.alloc (.cells (pgA p) 33)) = .ok (.slice a' (m.length + 1) cap') w' ∧ Ro w0 w' a' cap' (m ++ [p]) ∧ Keep (fun b => a = some ⟨b, 0, none⟩) w w' ∧ (a' = a ∨ ∃ g, a' = some ⟨g, 0, none⟩ ∧ w.heap.size ≤ g) := by
  have hA := (Keep.refl (fun _ => False) w).alloc (.cells (pgA p) 33)
  obtain ⟨a', cap', w', h1, h2, h3, h4⟩ := (h.more hA).appN ⟨w.heap.size, 0, none⟩ 1 [p] (by simp; omega) (fun j u hu => cells_new w _ 33 j u (by simpa [pcells] using hu))
  refine ⟨a', cap', w', h1, h2, (hA.mono (fun _ _ e => e.elim)).next h3 (fun y hy e => e), h4.imp id ?_⟩
  rintro ⟨g, e, hg⟩
  exact ⟨g, e, Nat.le_trans hA.size hg⟩
end Tg
end Go.Proofs.Ytginnojbmpnleaa
