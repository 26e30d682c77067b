/-
  A map of runs in memory: what right, over, Get, Count, Capacity, Most, Tree, Arena, Runs, part and join answer. What join leaves of a row of runs of one's own. What over, Get, Count, Capacity, Most, Tree, Arena and Runs answer. What near answers: the runs that have a sector of a range, or end or begin at its ends. Rows of pieces of one's own; variables that hold a piece. What the map's New answers. What piece answers: the first piece of a range. What Range answers: the range cut into the fewest pieces, in new memory.
-/
import Derived.Test.YtkddonmddgfpnaaTd
import Derived.Test.YtkddonmddgfpnaaTc
import Derived.BigQuiet
import Derived.Deep.CutBlock
namespace Go.Proofs.Ytkddonmddgfpnaa
open Go.ChangeShapes Go.WideShapes Go.ChangeAt Go.RowKit
namespace Tg

/-- The cells of the map's struct. -/
def mtop (cap p b : Nat) : Nat → Value
  | 0 => .int .i64 (cap : Int)
  | 1 => .pointer (some ⟨p, 0, none⟩)
  | _ => .pointer (some ⟨b, 0, none⟩)
/-- A map that was made since w: its struct in block q, its tree in b, its arena in p and k. -/
structure Mp (w wr : World) (q b p k : Nat) (N cap : Nat) (m : List Rn) : Prop where
  ex : ∃ l t, Mt w wr b p k N l t ∧ t.runs = m
  top : Blk wr q 3 (mtop cap p b)
  qw : w.heap.size ≤ q
  qb : q ≠ b
  qp : q ≠ p
  qk : q ≠ k
  form : Form m
  lim : Lim (cap : Int) 1049088 m
  cap1 : 1 ≤ cap
  cap2 : cap ≤ 512
  N1 : 1 ≤ N
  N2 : N ≤ 512
theorem Mp.more {w wr w' : World} {q b p k N cap : Nat} {m : List Rn} (h : Mp w wr q b p k N cap m) (hk : Keep (fun _ => False) wr w') : Mp w w' q b p k N cap m := by
  obtain ⟨l, t, hT, e⟩ := h.ex
  exact ⟨⟨l, t, hT.more hk, e⟩, h.top.keep hk (fun e => e), h.qw, h.qb, h.qp, h.qk, h.form, h.lim, h.cap1, h.cap2, h.N1, h.N2⟩
theorem Mp.keep {w wr : World} {q b p k N cap : Nat} {m : List Rn} (h : Mp w wr q b p k N cap m) : Keep (fun _ => False) w wr := by
  obtain ⟨l, t, hT, e⟩ := h.ex
  exact hT.keep
theorem Mp.other {S : Nat → Prop} {w wr w' : World} {q b p k N cap : Nat} {m : List Rn} (h : Mp w wr q b p k N cap m) (hk : Keep S wr w') (hs : ∀ x, S x → w.heap.size ≤ x) (hq : ¬ S q) (hb : ¬ S b) (hp : ¬ S p) (hkk : ¬ S k) : Mp w w' q b p k N cap m := by
  obtain ⟨l, t, hT, e⟩ := h.ex
  exact ⟨⟨l, t, hT.other hk hs hb hp hkk, e⟩, h.top.keep hk hq, h.qw, h.qb, h.qp, h.qk, h.form, h.lim, h.cap1, h.cap2, h.N1, h.N2⟩
theorem Mp.lt {w wr : World} {q b p k N cap : Nat} {m : List Rn} (h : Mp w wr q b p k N cap m) : q < wr.heap.size ∧ b < wr.heap.size ∧ p < wr.heap.size ∧ k < wr.heap.size := by
  obtain ⟨l, t, hT, e⟩ := h.ex
  exact ⟨h.top.lt (by omega), hT.lt⟩
theorem Mp.tops {w wr : World} {q b p k N cap : Nat} {m : List Rn} (h : Mp w wr q b p k N cap m) : wr.cell? ⟨q, 0, none⟩ = some (.int .i64 (cap : Int)) ∧ wr.cell? ⟨q, 1, none⟩ = some (.pointer (some ⟨p, 0, none⟩)) ∧ wr.cell? ⟨q, 2, none⟩ = some (.pointer (some ⟨b, 0, none⟩)) :=
  ⟨(h.top 0 (by omega)).1, (h.top 1 (by omega)).1, (h.top 2 (by omega)).1⟩
theorem Mp.len {w wr : World} {q b p k N cap : Nat} {m : List Rn} (h : Mp w wr q b p k N cap m) : m.length ≤ N ∧ m.length ≤ cap := by
  obtain ⟨l, t, hT, rfl⟩ := h.ex
  have := hT.room
  have := h.lim.count h.form (by omega)
  rw [← Tr.views_runs] at *
  simp at *
  omega
theorem Mp.run {w wr : World} {q b p k N cap : Nat} {m : List Rn} (h : Mp w wr q b p k N cap m) {x : Rn} (hx : x ∈ m) : 0 ≤ x.lba ∧ 1 ≤ x.len ∧ 0 ≤ x.phys ∧ x.lba + x.len ≤ (cap : Int) ∧ x.phys + x.len ≤ 1049088 ∧ (cap : Int) ≤ 512 := by
  have h1 := h.form.1 x hx
  have h2 := h.lim x hx
  have := h.cap2
  unfold Rn.fin at h2
  exact ⟨h1.1, h1.2.1, h1.2.2, h2.1, h2.2, by omega⟩

/-- Is a range right? -/
def okR (cap lba n : Int) : Bool := decide (1 ≤ n) && (decide (0 ≤ lba) && decide (n ≤ cap - lba))
theorem okR_iff {cap lba n : Int} : okR cap lba n = true ↔ 1 ≤ n ∧ 0 ≤ lba ∧ n ≤ cap - lba := by simp [okR]

set_option maxRecDepth 100000 in
theorem right_any {w wr : World} {q b p k N cap : Nat} {m : List Rn} (h : Mp w wr q b p k N cap m) (lba n : Int) (hl : lba ≤ 9223372036854775807) :
    Calls Try.prog 52 #[.pointer (some ⟨q, 0, none⟩), .int .i64 lba, .int .i64 n] wr fun e w' => e = .returned (.bool (okR (cap : Int) lba n)) ∧ w' = wr := by
  obtain ⟨t0, -, -⟩ := h.tops
  have hc := h.cap2
  clear h
  unfold okR
  by_cases h1 : 1 ≤ n
  · by_cases h2 : 0 ≤ lba
    · have dw : IntKind.i64.wrap ((cap : Int) - lba) = (cap : Int) - lba := by rw [IntKind.wrap_i64] <;> omega
      go_enter Try.func52, Try.ntmps52
      go_wp2_with fail
      go_ret
      exact ⟨by simp [h1, h2], rfl⟩
    · go_enter Try.func52, Try.ntmps52
      go_wp2_with fail
      go_ret
      exact ⟨by simp; intros; omega, rfl⟩
  · go_enter Try.func52, Try.ntmps52
    go_wp2_with fail
    go_ret
    exact ⟨by simp; intros; omega, rfl⟩

theorem Tr.fl_run (k : Int) : ∀ (t d : Tr), (Tr.fl k t d).run = t.floor k d.run
  | .nil, d => rfl
  | .node i l x r, d => by
    rw [Tr.fl, Tr.floor]
    split
    · rw [if_neg (by omega)]; exact Tr.fl_run k r _
    · rw [if_pos (by omega)]; exact Tr.fl_run k l d
theorem Tr.ce_run (k : Int) : ∀ (t d : Tr), (Tr.ce k t d).run = t.ceil k d.run
  | .nil, d => rfl
  | .node i l x r, d => by
    rw [Tr.ce, Tr.ceil]
    split
    · rw [if_neg (by omega)]; exact Tr.ce_run k l _
    · rw [if_pos (by omega)]; exact Tr.ce_run k r d
theorem Tr.fl_runs {v : Int} {t : Tr} (ho : t.Ord) : (Tr.fl v t .nil).run = Tr.floorL v t.runs none := by
  rw [Tr.fl_run, Tr.floor_eq v t _ (Tr.ord_up.1 ho)]; rfl
theorem Tr.ce_runs {v : Int} {t : Tr} (ho : t.Ord) : (Tr.ce v t .nil).run = Tr.ceilL v t.runs none := by
  rw [Tr.ce_run, Tr.ceil_eq v t _ (Tr.ord_up.1 ho)]; rfl
theorem Mp.floor {w wr : World} {q b p k N cap : Nat} {m : List Rn} (h : Mp w wr q b p k N cap m) (v : Int) :
    Calls Try.prog 65 #[.pointer (some ⟨b, 0, none⟩), .int .i64 v] wr fun e w' => e = .returned (ansV (Tr.floorL v m none)) ∧ Keep (fun _ => False) wr w' := by
  obtain ⟨l, t, hT, rfl⟩ := h.ex
  obtain ⟨s, hs, -⟩ := hT.ex
  rw [← Tr.fl_runs hs.ord]
  exact hT.floor v
theorem Mp.ceil {w wr : World} {q b p k N cap : Nat} {m : List Rn} (h : Mp w wr q b p k N cap m) (v : Int) :
    Calls Try.prog 66 #[.pointer (some ⟨b, 0, none⟩), .int .i64 v] wr fun e w' => e = .returned (ansV (Tr.ceilL v m none)) ∧ Keep (fun _ => False) wr w' := by
  obtain ⟨l, t, hT, rfl⟩ := h.ex
  obtain ⟨s, hs, -⟩ := hT.ex
  rw [← Tr.ce_runs hs.ord]
  exact hT.ceil v

theorem wrapI {x : Int} (h1 : -9223372036854775808 ≤ x) (h2 : x ≤ 9223372036854775807) : IntKind.i64.wrap x = x := by rw [IntKind.wrap_i64] <;> omega

set_option maxRecDepth 100000 in
theorem part_any (w : World) (x : Rn) (a c : Int) (hx : 0 ≤ x.lba ∧ 0 ≤ x.len ∧ 0 ≤ x.phys ∧ x.lba + x.len ≤ 512 ∧ x.phys + x.len ≤ 1049088) (ha : 0 ≤ a ∧ a ≤ 512) (hc : 0 ≤ c ∧ c ≤ 512) :
    Calls Try.prog 59 #[.agg (rnA x), .int .i64 a, .int .i64 c] w fun e w' => e = .returned (.agg (rnA (partR x a c))) ∧ Keep (fun _ => False) w w' := by
  obtain ⟨x1, x2, x3, x4, x5⟩ := hx
  by_cases hA : a < x.lba
  · by_cases hB : c - x.lba ≤ x.len
    · skip
      have hp : partR x a c = ⟨x.lba, c - x.lba, x.phys⟩ := by unfold partR; rw [show max a x.lba = x.lba by omega]; congr 1 <;> omega
      rw [hp]
      have d1 := wrapI (x := c - x.lba) (by omega) (by omega)
      have d2 := wrapI (x := x.lba - x.lba) (by omega) (by omega)
      have d3 := wrapI (x := x.len - (x.lba - x.lba)) (by omega) (by omega)
      have d4 := wrapI (x := x.phys + x.lba) (by omega) (by omega)
      have d5 := wrapI (x := x.phys + x.lba - x.lba) (by omega) (by omega)
      clear hp
      have K := ((Keep.refl (fun _ => False) w).alloc (.cells (rnA x) 34)).alloc (.cells (rnA ⟨x.lba, c - x.lba, x.phys⟩) 34)
      have L := (Lrn.new (w.alloc (.cells (rnA x) 34)) ⟨x.lba, c - x.lba, x.phys⟩).load
      simp only [rnA_lit] at K L ⊢
      rw [show (w.alloc (.cells #[.int .i64 x.lba, .int .i64 x.len, .int .i64 x.phys] 34)).heap.size = w.heap.size + 1 by simp] at L
      go_enter Try.func59, Try.ntmps59
      go_wp2_with fail
      refine bodyPost_ret (v := .agg #[.int .i64 (x.lba), .int .i64 (c - x.lba), .int .i64 (x.phys)]) ?_ rfl ⟨rfl, K⟩
      rw [results_cell rfl]
      simp [asAddr, Result.andThen, L]
    · have hB' : x.len < c - x.lba := by omega
      have hp : partR x a c = ⟨x.lba, x.len, x.phys⟩ := by unfold partR; rw [show max a x.lba = x.lba by omega]; congr 1 <;> omega
      rw [hp]
      have d1 := wrapI (x := c - x.lba) (by omega) (by omega)
      have d2 := wrapI (x := x.lba - x.lba) (by omega) (by omega)
      have d3 := wrapI (x := x.len - (x.lba - x.lba)) (by omega) (by omega)
      have d4 := wrapI (x := x.phys + x.lba) (by omega) (by omega)
      have d5 := wrapI (x := x.phys + x.lba - x.lba) (by omega) (by omega)
      clear hp
      have K := ((Keep.refl (fun _ => False) w).alloc (.cells (rnA x) 34)).alloc (.cells (rnA ⟨x.lba, x.len, x.phys⟩) 34)
      have L := (Lrn.new (w.alloc (.cells (rnA x) 34)) ⟨x.lba, x.len, x.phys⟩).load
      simp only [rnA_lit] at K L ⊢
      rw [show (w.alloc (.cells #[.int .i64 x.lba, .int .i64 x.len, .int .i64 x.phys] 34)).heap.size = w.heap.size + 1 by simp] at L
      go_enter Try.func59, Try.ntmps59
      go_wp2_with fail
      refine bodyPost_ret (v := .agg #[.int .i64 (x.lba), .int .i64 (x.len), .int .i64 (x.phys)]) ?_ rfl ⟨rfl, K⟩
      rw [results_cell rfl]
      simp [asAddr, Result.andThen, L]
  · have hA' : x.lba ≤ a := by omega
    by_cases hB : c - a ≤ x.len - (a - x.lba)
    · skip
      have hp : partR x a c = ⟨a, c - a, x.phys + a - x.lba⟩ := by unfold partR; rw [show max a x.lba = a by omega]; congr 1 <;> omega
      rw [hp]
      have d1 := wrapI (x := c - a) (by omega) (by omega)
      have d2 := wrapI (x := a - x.lba) (by omega) (by omega)
      have d3 := wrapI (x := x.len - (a - x.lba)) (by omega) (by omega)
      have d4 := wrapI (x := x.phys + a) (by omega) (by omega)
      have d5 := wrapI (x := x.phys + a - x.lba) (by omega) (by omega)
      clear hp
      have K := ((Keep.refl (fun _ => False) w).alloc (.cells (rnA x) 34)).alloc (.cells (rnA ⟨a, c - a, x.phys + a - x.lba⟩) 34)
      have L := (Lrn.new (w.alloc (.cells (rnA x) 34)) ⟨a, c - a, x.phys + a - x.lba⟩).load
      simp only [rnA_lit] at K L ⊢
      rw [show (w.alloc (.cells #[.int .i64 x.lba, .int .i64 x.len, .int .i64 x.phys] 34)).heap.size = w.heap.size + 1 by simp] at L
      go_enter Try.func59, Try.ntmps59
      go_wp2_with fail
      refine bodyPost_ret (v := .agg #[.int .i64 (a), .int .i64 (c - a), .int .i64 (x.phys + a - x.lba)]) ?_ rfl ⟨rfl, K⟩
      rw [results_cell rfl]
      simp [asAddr, Result.andThen, L]
    · have hB' : x.len - (a - x.lba) < c - a := by omega
      have hp : partR x a c = ⟨a, x.len - (a - x.lba), x.phys + a - x.lba⟩ := by unfold partR; rw [show max a x.lba = a by omega]; congr 1 <;> omega
      rw [hp]
      have d1 := wrapI (x := c - a) (by omega) (by omega)
      have d2 := wrapI (x := a - x.lba) (by omega) (by omega)
      have d3 := wrapI (x := x.len - (a - x.lba)) (by omega) (by omega)
      have d4 := wrapI (x := x.phys + a) (by omega) (by omega)
      have d5 := wrapI (x := x.phys + a - x.lba) (by omega) (by omega)
      clear hp
      have K := ((Keep.refl (fun _ => False) w).alloc (.cells (rnA x) 34)).alloc (.cells (rnA ⟨a, x.len - (a - x.lba), x.phys + a - x.lba⟩) 34)
      have L := (Lrn.new (w.alloc (.cells (rnA x) 34)) ⟨a, x.len - (a - x.lba), x.phys + a - x.lba⟩).load
      simp only [rnA_lit] at K L ⊢
      rw [show (w.alloc (.cells #[.int .i64 x.lba, .int .i64 x.len, .int .i64 x.phys] 34)).heap.size = w.heap.size + 1 by simp] at L
      go_enter Try.func59, Try.ntmps59
      go_wp2_with fail
      refine bodyPost_ret (v := .agg #[.int .i64 (a), .int .i64 (x.len - (a - x.lba)), .int .i64 (x.phys + a - x.lba)]) ?_ rfl ⟨rfl, K⟩
      rw [results_cell rfl]
      simp [asAddr, Result.andThen, L]
end Tg
end Go.Proofs.Ytkddonmddgfpnaa
namespace Go.Proofs.Ytkddonmddgfpnaa
open Go.ChangeShapes Go.WideShapes Go.ChangeAt Go.RowKit
namespace Tg

theorem set_cells {a : List Rn} {x : Rn} {v : Int} : (rcells (a ++ [x])).set (a.length * 3 + 1) (.int .i64 v) = rcells (a ++ [⟨x.lba, v, x.phys⟩]) := by
  rw [rcells_app, rcells_app, List.set_append_right _ _ (by rw [rcells_len]; omega), rcells_len, show a.length * 3 + 1 - a.length * 3 = 1 by omega]
  rfl
/-- The last run's length is written over. -/
theorem Rr.setLen {w0 w : World} {g cap : Nat} {a : List Rn} {x : Rn} (h : Rr w0 w (some ⟨g, 0, none⟩) cap (a ++ [x])) (v : Int) :
    Rr w0 (w.setCell ⟨g, a.length * 3 + 1, none⟩ (.int .i64 v)) (some ⟨g, 0, none⟩) cap (a ++ [⟨x.lba, v, x.phys⟩]) := by
  have hl : (a ++ [x]).length = (a ++ [(⟨x.lba, v, x.phys⟩ : Rn)]).length := by simp
  obtain ⟨h1, h2⟩ := h.own.stored (a.length * 3 + 1) (.int .i64 v)
  rw [set_cells] at h1
  refine ⟨by rw [← hl]; exact h1, h.keep.next (keep_grown h2) (fun y hy e => ?_)⟩
  injection e with e
  have := (h.block rfl).1
  omega

theorem Lrn.c {w : World} {g : Nat} {x : Rn} (h : Lrn w g x) : w.cell? ⟨g, 0, none⟩ = some (.int .i64 x.lba) ∧ w.cell? ⟨g, 1, none⟩ = some (.int .i64 x.len) ∧ w.cell? ⟨g, 2, none⟩ = some (.int .i64 x.phys) :=
  ⟨(h 0 (by omega)).1, (h 1 (by omega)).1, (h 2 (by omega)).1⟩
set_option maxRecDepth 100000 in
set_option maxHeartbeats 1000000 in
theorem rjoin_any {w0 w : World} {a : Option Addr} {cap : Nat} {m : List Rn} (h : Rr w0 w a cap m) (r : Rn) (hl : m.length ≤ 100000)
    (hm : ∀ x ∈ m, 0 ≤ x.lba ∧ x.lba ≤ 100000000 ∧ 0 ≤ x.phys ∧ x.phys ≤ 100000000 ∧ 0 ≤ x.len ∧ x.len ≤ 100000000) (hr : r.len ≤ 100000000) :
    Calls Try.prog 58 #[.slice a m.length cap, .agg (rnA r)] w fun e w' => ∃ a' cap', e = .returned (.slice a' (joinL m r).length cap') ∧ Rr w0 w' a' cap' (joinL m r) := by
  have K1 : Keep (fun _ => False) w (w.alloc (.cells (rnA r) 34)) := (Keep.refl _ _).alloc _
  have L1 := Lrn.new w r
  have R1 := h.more K1
  have hw : w.heap.size < (w.alloc (.cells (rnA r) 34)).heap.size := by simp
  generalize hW : w.alloc (.cells (rnA r) 34) = w1 at K1 L1 R1 hw
  rw [rnA_lit] at hW ⊢
  have q0 : w1.cell? ⟨w.heap.size, 0, none⟩ = some (.int .i64 r.lba) := (L1 0 (by omega)).1
  have q1 : w1.cell? ⟨w.heap.size, 1, none⟩ = some (.int .i64 r.len) := (L1 1 (by omega)).1
  have q2 : w1.cell? ⟨w.heap.size, 2, none⟩ = some (.int .i64 r.phys) := (L1 2 (by omega)).1
  have hcap := R1.rs.1
  by_cases c1 : r.len < 1
  · rw [joinL_empty c1]
    have F : ∃ a' cap', Ending.returned (.slice a m.length cap) = .returned (.slice a' m.length cap') ∧ Rr w0 w1 a' cap' m := ⟨_, _, rfl, R1⟩
    clear h R1 L1
    go_enter Try.func58, Try.ntmps58
    go_wp2_with fail
    go_ret
    exact F
  · have c1' : 1 ≤ r.len := by omega
    rcases snoc_cases m with rfl | ⟨A, x, rfl⟩
    · rw [joinL_nil c1']
      simp only [List.length_nil] at hl hcap ⊢
      clear h
      go_enter Try.func58, Try.ntmps58
      go_wp2_with fail
      go_quiet (fail)
      have K2 := (Keep.refl (fun _ => False) w1).drewN nq
      generalize w1.drewN nq = w2 at K2 ⊢
      obtain ⟨a', cap', w', happ, R'⟩ := (R1.more K2).app1 (by simp) r
      obtain ⟨p0, p1, p2⟩ := (L1.more K2).c
      simp only [List.length_nil, Nat.zero_add] at happ
      clear R1 L1
      go_wp2_with (at_builtin; refine wpList_append_run rfl (.tmp 58) (.tmp 60) 32 rfl (by rfl) (by rfl) happ ?_)
      go_ret
      exact ⟨_, _, rfl, R'⟩
    · obtain ⟨g, rfl, e0, e1, e2⟩ := R1.rs.at (i := A.length) (x := x) (by simp)
      obtain ⟨x1, x2, x3, x4, x5, x6⟩ := hm x (by simp)
      have hAl : (A ++ [x]).length = A.length + 1 := by simp
      have d1 := wrapI (x := x.lba + x.len) (by omega) (by omega)
      have d2 := wrapI (x := x.phys + x.len) (by omega) (by omega)
      have d3 := wrapI (x := x.len + r.len) (by omega) (by omega)
      have hr2 := R1.rs.2.1
      rw [hAl] at hl hcap ⊢
      have di := wrapI (x := ((A.length + 1 : Nat) : Int) - 1) (by omega) (by omega)
      have di2 : ((A.length + 1 : Nat) : Int) - 1 = (A.length : Int) := by omega
      rw [di2] at di
      clear h hm
      by_cases g1 : x.fin = r.lba ∧ x.phys + x.len = r.phys
      · have J := joinL_glue (l := A) c1' g1
        rw [J, show (A ++ [(⟨x.lba, x.len + r.len, x.phys⟩ : Rn)]).length = A.length + 1 by simp]
        have b1 : (x.lba + x.len == r.lba) = true := by simpa [Rn.fin] using g1.1
        have b2 : (x.phys + x.len == r.phys) = true := by simpa using g1.2
        clear g1 J
        go_enter Try.func58, Try.ntmps58
        go_wp2_with fail
        go_quiet (fail)
        have K2 := (Keep.refl (fun _ => False) w1).drewN nq
        generalize w1.drewN nq = w2 at K2 ⊢
        have R2 := R1.more K2
        obtain ⟨p0, p1, p2⟩ := (L1.more K2).c
        obtain ⟨g', eg, f0, f1, f2⟩ := R2.rs.at (i := A.length) (x := x) (by simp)
        injection eg with eg; injection eg with eg; subst eg
        have hfz := R2.own.frozenAt (A.length * 3 + 1)
        clear R1 L1 e0 e1 e2 q0 q1 q2
        go_upto_region 5 with fail
        go_region
        have R3 := (R2.setLen (x.len + r.len)).more ((Keep.refl _ _).drew)
        clear R2 hfz f0 f1 f2 p0 p1 p2
        go_wp2_with fail
        go_ret
        exact ⟨_, _, rfl, R3⟩
      · have J := joinL_new (l := A) c1' g1
        rw [J]
        have hend : ∀ (w2 : World), Keep (fun _ => False) w1 w2 → ∃ a' cap' w', (Builtin.append_ #[32, 32] 32 #[.slice (some ⟨g, 0, none⟩) (A.length + 1) cap, .slice (some ⟨w2.heap.size, 0, none⟩) 1 1]).run Try.prog (w2.alloc (.cells #[.int .i64 r.lba, .int .i64 r.len, .int .i64 r.phys] 34)) = .ok (.slice a' (A.length + 1 + 1) cap') w' ∧ Rr w0 w' a' cap' (A ++ [x] ++ [r]) := fun w2 K2 => by
          have := (R1.more K2).app1 (by rw [hAl]; exact hl) r
          rwa [hAl] at this
        rw [show (A ++ [x] ++ [r]).length = A.length + 1 + 1 by simp]
        clear J
        by_cases g2 : x.lba + x.len = r.lba
        · have b1 : (x.lba + x.len == r.lba) = true := by simpa using g2
          have b2 : (x.phys + x.len == r.phys) = false := by
            simp
            intro e
            exact g1 ⟨g2, e⟩
          clear g1 g2
          go_enter Try.func58, Try.ntmps58
          go_wp2_with fail
          go_quiet (fail)
          have K2 := (Keep.refl (fun _ => False) w1).drewN nq
          generalize w1.drewN nq = w2 at K2 ⊢
          obtain ⟨p0, p1, p2⟩ := (L1.more K2).c
          obtain ⟨a', cap', w', happ, R'⟩ := hend w2 K2
          clear R1 L1 hend
          go_wp2_with (at_builtin; refine wpList_append_run rfl (.tmp 58) (.tmp 60) 32 rfl (by rfl) (by rfl) happ ?_)
          go_ret
          exact ⟨_, _, rfl, R'⟩
        · have b1 : (x.lba + x.len == r.lba) = false := by simpa using g2
          clear g1 g2
          go_enter Try.func58, Try.ntmps58
          go_wp2_with fail
          go_quiet (fail)
          have K2 := (Keep.refl (fun _ => False) w1).drewN nq
          generalize w1.drewN nq = w2 at K2 ⊢
          obtain ⟨p0, p1, p2⟩ := (L1.more K2).c
          obtain ⟨a', cap', w', happ, R'⟩ := hend w2 K2
          clear R1 L1 hend
          go_wp2_with (at_builtin; refine wpList_append_run rfl (.tmp 58) (.tmp 60) 32 rfl (by rfl) (by rfl) happ ?_)
          go_ret
          exact ⟨_, _, rfl, R'⟩
end Tg
end Go.Proofs.Ytkddonmddgfpnaa
namespace Go.Proofs.Ytkddonmddgfpnaa
open Go.ChangeShapes Go.WideShapes Go.ChangeAt Go.RowKit
namespace Tg

theorem floorL_mem {k : Int} {x : Rn} : ∀ {m : List Rn} {d : Option Rn}, Tr.floorL k m d = some x → (x ∈ m ∧ x.lba ≤ k) ∨ d = some x
  | [], _, h => Or.inr h
  | y :: m, d, h => by
    rw [Tr.floorL] at h
    rcases floorL_mem h with h | h
    · exact Or.inl ⟨by simp [h.1], h.2⟩
    · split at h
      · next e => injection h with h; subst h; exact Or.inl ⟨by simp, e⟩
      · exact Or.inr h

/-- A run's variable written over, in a region that draws. -/
theorem Lrn.over' {wr w1 w3 : World} {g : Nat} {x : Rn} (h : Lrn w3 g x) (K1 : Keep (fun _ => False) wr w1) (K3 : Keep (fun _ => False) w1 w3) (y : Rn) (hg : wr.heap.size ≤ g) :
    Lrn (((w3.setCell ⟨g, 0, none⟩ (.int .i64 y.lba)).setCell ⟨g, 1, none⟩ (.int .i64 y.len)).setCell ⟨g, 2, none⟩ (.int .i64 y.phys)).drew g y ∧
      Keep (fun _ => False) wr (((w3.setCell ⟨g, 0, none⟩ (.int .i64 y.lba)).setCell ⟨g, 1, none⟩ (.int .i64 y.len)).setCell ⟨g, 2, none⟩ (.int .i64 y.phys)).drew :=
  ⟨(h.put y).more ((Keep.refl _ _).drew), ((((K1.trans K3).setCell (p := ⟨g, 0, none⟩) (Or.inr hg) _).setCell (p := ⟨g, 1, none⟩) (Or.inr hg) _).setCell (p := ⟨g, 2, none⟩) (Or.inr hg) _).drew⟩
set_option maxRecDepth 100000 in
theorem count_any {w wr : World} {q b p k N cap : Nat} {m : List Rn} (h : Mp w wr q b p k N cap m) :
    Calls Try.prog 60 #[.pointer (some ⟨q, 0, none⟩)] wr fun e w' => e = .returned (.int .i64 (m.length : Int)) ∧ w' = wr := by
  obtain ⟨-, -, t2⟩ := h.tops
  obtain ⟨l, t, hT, rfl⟩ := h.ex
  have hl := hT.len
  rw [show t.views.length = t.runs.length by rw [← Tr.views_runs]; simp] at hl
  clear h hT
  go_enter Try.func60, Try.ntmps60
  go_wp2_with (go_at_call 67; refine hl.mono ?_; rintro e w2 ⟨rfl, rfl⟩)
  go_ret
  exact ⟨rfl, rfl⟩
set_option maxRecDepth 100000 in
theorem size_any {w : World} {p k : Nat} {s : Ar} (h : Mem w p k s) :
    Calls Try.prog 68 #[.pointer (some ⟨p, 0, none⟩)] w fun e w' => e = .returned (.int .i64 s.N) ∧ w' = w := by
  obtain ⟨t0, t1, t2, f1, f2⟩ := h.tops
  go_enter Try.func68, Try.ntmps68
  go_wp2
  go_ret
  exact ⟨rfl, rfl⟩
theorem asize_any {w wr : World} {b p k N : Nat} {l : List Nat} {t : Tr} (h : Mt w wr b p k N l t) :
    Calls Try.prog 68 #[.pointer (some ⟨p, 0, none⟩)] wr fun e w' => e = .returned (.int .i64 (N : Int)) ∧ w' = wr := by
  obtain ⟨s, hT, rfl⟩ := h.ex
  exact size_any hT.mem
set_option maxRecDepth 100000 in
theorem most_any {w wr : World} {q b p k N cap : Nat} {m : List Rn} (h : Mp w wr q b p k N cap m) :
    Calls Try.prog 61 #[.pointer (some ⟨q, 0, none⟩)] wr fun e w' => e = .returned (.int .i64 (N : Int)) ∧ w' = wr := by
  obtain ⟨-, t1, -⟩ := h.tops
  obtain ⟨l, t, hT, rfl⟩ := h.ex
  have hl := asize_any hT
  clear h hT
  go_enter Try.func61, Try.ntmps61
  go_wp2_with (go_at_call 68; refine hl.mono ?_; rintro e w2 ⟨rfl, rfl⟩)
  go_ret
  exact ⟨rfl, rfl⟩
set_option maxRecDepth 100000 in
theorem runs_any {w wr : World} {q b p k N cap : Nat} {m : List Rn} (h : Mp w wr q b p k N cap m) :
    Calls Try.prog 21 #[.pointer (some ⟨q, 0, none⟩)] wr fun e w' => e = .returned (.slice (some ⟨wr.heap.size, 0, none⟩) m.length m.length) ∧ Rw w' wr.heap.size (m.length * 3) (rcells m) ∧ Keep (fun _ => False) wr w' := by
  obtain ⟨-, -, t2⟩ := h.tops
  obtain ⟨l, t, hT, rfl⟩ := h.ex
  have hl := hT.all
  rw [show t.views.length = t.runs.length by rw [← Tr.views_runs]; simp] at hl
  clear h hT
  go_enter Try.func21, Try.ntmps21
  go_wp2_with (go_at_call 42; refine hl.mono ?_; rintro e w2 ⟨rfl, h1, h2⟩)
  go_ret
  exact ⟨rfl, h1, h2⟩
end Tg
end Go.Proofs.Ytkddonmddgfpnaa
namespace Go.Proofs.Ytkddonmddgfpnaa
open Go.ChangeShapes Go.WideShapes Go.ChangeAt Go.RowKit
namespace Tg

/-- A row's length. -/
def slen : Value → Nat
  | .slice _ n _ => n
  | _ => 0

set_option maxRecDepth 100000 in
/-- One run more, and where the row then lies. -/
theorem Rr.appS {w0 w : World} {a : Option Addr} {cap : Nat} {m : List Rn} (h : Rr w0 w a cap m) (hl : m.length ≤ 100000) (x : Rn) :
    ∃ a' cap' w', (Builtin.append_ #[32, 32] 32 #[.slice a m.length cap, .slice (some ⟨w.heap.size, 0, none⟩) 1 1]).run Try.prog (w.alloc (.cells #[.int .i64 x.lba, .int .i64 x.len, .int .i64 x.phys] 34)) = .ok (.slice a' (m.length + 1) cap') w' ∧ Rr w0 w' a' cap' (m ++ [x]) ∧
      Keep (fun b => a = some ⟨b, 0, none⟩) w w' ∧ (a' = a ∨ ∃ g, a' = some ⟨g, 0, none⟩ ∧ w.heap.size ≤ g) := by
  have hA := (Keep.refl (fun _ => False) w).alloc (.cells #[.int .i64 x.lba, .int .i64 x.len, .int .i64 x.phys] 34)
  have h1 := h.more hA
  have hsz : w.heap.size ≤ (w.alloc (.cells #[.int .i64 x.lba, .int .i64 x.len, .int .i64 x.phys] 34)).heap.size := hA.size
  have hnews : ∀ j u, (rcells [x])[j]? = some u → (w.alloc (.cells #[.int .i64 x.lba, .int .i64 x.len, .int .i64 x.phys] 34)).cell? ((⟨w.heap.size, 0, none⟩ : Addr).add j) = some u := fun j u hu => cells_new w _ 34 j u (by simpa [rcells, rcs] using hu)
  have hone : ∀ u ∈ rcells [x], u.oneCell' = true := by intro u hu; simp [rcells, rcs] at hu; rcases hu with rfl | rfl | rfl <;> rfl
  obtain ⟨i, hi, hz0, hz1, hz2⟩ := info_parts info31
  generalize w.alloc (.cells #[.int .i64 x.lba, .int .i64 x.len, .int .i64 x.phys] 34) = w1 at *
  obtain ⟨v', w', hrun, hown, hgrow, hnil⟩ := run_append_own (P := Try.prog) w1 w0.heap.size 32 32 34 i _ 3 24 Try.underlying32 hi hz0 hz1 hz2 rfl (by decide) (.slice a m.length cap) m.length (rcells m) h1.own
    ⟨w.heap.size, 0, none⟩ 1 1 (rcells [x]) (rcells_len [x]) hnews hone (by unfold maxLen; omega) (by omega) h1.keep.size
  have hk : Keep (fun b => a = some ⟨b, 0, none⟩) w1 w' := (keep_grown hgrow).mono (fun b _ e => by
    rcases h1.own.2 with ⟨e', -⟩ | ⟨g, c, cur, e', -⟩
    · injection e' with e'; subst e'; cases e
    · injection e' with e'; subst e'; injection e with e; subst e; rfl)
  have hK : Keep (fun b => a = some ⟨b, 0, none⟩) w w' := (hA.mono (fun _ _ e => e.elim)).next hk (fun y hy e => e)
  have hK0 : Keep (fun _ => False) w0 w' := h1.keep.next hk (fun y hy e => by have := (h1.block e).1; omega)
  rw [← rcells_app] at hown
  have hshape : ∃ a' cap', v' = .slice a' (m.length + 1) cap' := by
    rcases hown.2 with ⟨e, hn⟩ | ⟨g, c', cur, e, -⟩
    · omega
    · exact ⟨_, _, e⟩
  obtain ⟨a', cap', rfl⟩ := hshape
  refine ⟨a', cap', w', hrun, ⟨by rw [List.length_append]; exact hown, hK0⟩, hK, ?_⟩
  rcases h1.own.2 with ⟨e', hn⟩ | ⟨g, c, cur, e', hb, hh, hnc, hm, hs, ht⟩
  · injection e' with e1 e2 e3
    subst e1 e3
    have hn' := run_append_nil (P := Try.prog) w1 32 32 34 i _ Try.underlying32 hi hz0 ⟨w.heap.size, 0, none⟩ 1 1 (rcells [x]) (by rw [hz1]; rfl) hnews (by omega) (by omega) (by rw [hz2]; omega)
    rw [hn] at hrun
    rw [hn'] at hrun
    injection hrun with hr1 hr2
    injection hr1 with hr1 hr3 hr4
    exact Or.inr ⟨_, hr1.symm, hsz⟩
  · injection e' with e1 e2 e3
    subst e1 e3
    by_cases hroom : m.length + 1 ≤ cap
    · obtain ⟨w'', hf, -, -⟩ := run_append_fits (P := Try.prog) w1 w0.heap.size 32 32 34 i 3 Try.underlying32 hi hz1 g m.length cap (rcells m) h1.own ⟨w.heap.size, 0, none⟩ 1 1 (rcells [x]) (rcells_len [x]) hnews hone hroom
      rw [hf] at hrun
      injection hrun with hr1 hr2
      injection hr1 with hr1 hr3 hr4
      exact Or.inl hr1.symm
    · have hg := run_append_grow (P := Try.prog) w1 32 32 34 i _ Try.underlying32 hi hz0 ⟨g, 0, none⟩ m.length cap (rcells m) (by rw [hz1]; exact rcells_len m) (h1.own.cells (g := g) rfl) ⟨w.heap.size, 0, none⟩ 1 1 (rcells [x]) (by rw [hz1]; rfl) hnews (by omega) (by omega) (growslice_fits (by omega) (by rw [hz2]; omega))
      rw [hg] at hrun
      injection hrun with hr1 hr2
      injection hr1 with hr1 hr3 hr4
      exact Or.inr ⟨_, hr1.symm, hsz⟩

theorem split_at (v : Int) : ∀ {m : List Rn}, Tr.Up m → ∃ P S, m = P ++ S ∧ (∀ x ∈ P, x.lba < v) ∧ ∀ x ∈ S, v ≤ x.lba
  | [], _ => ⟨[], [], rfl, by simp, by simp⟩
  | y :: m, h => by
    obtain ⟨h1, h2⟩ := List.pairwise_cons.1 h
    by_cases c : y.lba < v
    · obtain ⟨P, S, e, hP, hS⟩ := split_at v h2
      exact ⟨y :: P, S, by rw [e]; rfl, fun x hx => by rcases List.mem_cons.1 hx with rfl | hx; exact c; exact hP x hx, hS⟩
    · exact ⟨[], y :: m, rfl, by simp, fun x hx => by rcases List.mem_cons.1 hx with rfl | hx; omega; have := h1 x hx; omega⟩
theorem ceilL_split {v : Int} {P S : List Rn} (hP : ∀ x ∈ P, x.lba < v) (hS : ∀ x ∈ S, v ≤ x.lba) : Tr.ceilL v (P ++ S) none = S.head? := by
  rw [Tr.ceilL_low P S none hP]
  cases S with
  | nil => rfl
  | cons y S => rw [Tr.ceilL, if_pos (hS y (by simp))]; rfl
theorem floorL_split {v : Int} {P S : List Rn} (hP : ∀ x ∈ P, x.lba ≤ v) (hS : ∀ x ∈ S, v < x.lba) : Tr.floorL v (P ++ S) none = P.getLast? := by
  rw [Tr.floorL_app, Tr.floorL_high S _ hS]
  rcases snoc_cases P with rfl | ⟨A, x, rfl⟩
  · rfl
  · rw [Tr.floorL_app, Tr.floorL, if_pos (hP x (by simp))]
    simp [Tr.floorL]
theorem nearL_app (lo hi : Int) (a b : List Rn) : nearL lo hi (a ++ b) = nearL lo hi a ++ nearL lo hi b := by simp [nearL]
theorem nearL_pos {lo hi : Int} {y : Rn} (h1 : lo ≤ y.fin) (h2 : y.lba ≤ hi) : nearL lo hi [y] = [y] := by simp [nearL, h1, h2]
theorem nearL_none {lo hi : Int} {a : List Rn} (h : ∀ x ∈ a, x.fin < lo ∨ hi < x.lba) : nearL lo hi a = [] := by
  unfold nearL
  rw [List.filter_eq_nil_iff]
  intro x hx
  have := h x hx
  simp; omega
theorem near_below {lo hi : Int} (hl : lo ≤ hi) {P : List Rn} (hf : Form P) (hP : ∀ x ∈ P, x.lba < lo) : nearL lo hi P = match P.getLast? with
    | some x => if x.fin < lo then [] else [x]
    | none => [] := by
  rcases snoc_cases P with rfl | ⟨A, x, rfl⟩
  · rfl
  · simp only [List.getLast?_concat]
    obtain ⟨fa, fx, fax⟩ := Form.app.1 hf
    have hx := hP x (by simp)
    rw [nearL_app, nearL_none (a := A) (fun y hy => by have := (fax y hy x (by simp)).1; omega)]
    by_cases c : x.fin < lo
    · rw [if_pos c, nearL_none (fun y hy => by simp at hy; subst hy; exact Or.inl c)]; rfl
    · rw [if_neg c, nearL_pos (by omega) (by omega)]; rfl

set_option maxRecDepth 100000 in
theorem load_i64 {w : World} {g o : Nat} {n : Int} (h : w.cell? ⟨g, o, none⟩ = some (.int .i64 n)) : (Instr.loadAt 3 (.pointer (some ⟨g, o, none⟩))).run Try.prog w = .ok (.int .i64 n) w := by
  go_simp
theorem call53 (args : Array Value) (w : World) : (callFunc 66 args).run Try.prog w = .ok (.enter 66 args) w := enters Try.func66 (by kernel_rfl) (by kernel_rfl) args w
set_option maxRecDepth 100000 in
set_option maxHeartbeats 2000000 in
theorem near_any {w wa : World} {q b p k N cap : Nat} {m : List Rn} (h : Mp w wa q b p k N cap m) {lo hi : Int} (h0 : 0 ≤ lo) (h1 : lo < hi) (h2 : hi ≤ 512) :
    Calls Try.prog 57 #[.pointer (some ⟨q, 0, none⟩), .int .i64 lo, .int .i64 hi] wa fun e w' => ∃ a cap', e = .returned (.slice a (nearL lo hi m).length cap') ∧ Rr wa w' a cap' (nearL lo hi m) := by
  obtain ⟨P, S, hm, hP, hS⟩ := split_at lo h.form.up
  obtain ⟨fP, fS, fPS⟩ := Form.app.1 (show Form (P ++ S) by rw [← hm]; exact h.form)
  obtain ⟨-, -, t2⟩ := h.tops
  have hfl := h.floor (lo - 1)
  have hflE : Tr.floorL (lo - 1) m none = P.getLast? := by rw [hm]; exact floorL_split (fun x hx => by have := hP x hx; omega) (fun x hx => by have := hS x hx; omega)
  have hnP := near_below (hi := hi) (by omega) fP hP
  rw [hflE] at hfl
  have hlast : ∀ x, P.getLast? = some x → x ∈ m := fun x hx => by
    rcases snoc_cases P with rfl | ⟨A, y, rfl⟩
    · cases hx
    · simp only [List.getLast?_concat] at hx; injection hx with hx; subst hx; rw [hm]; simp
  have d0 := wrapI (x := lo - 1) (by omega) (by omega)
  have hlen := h.len
  have hN := h.N2
  generalize P.getLast? = o at hfl hlast hnP
  unfold ansV at hfl
  rw [rnA_lit] at hfl
  cases o with
  | none =>
    have hn : nearL lo hi P = [] := hnP
    rw [show (none : Option Rn).isSome = false from rfl] at hfl
    rw [show (none : Option Rn).getD rn0 = rn0 from rfl, show rn0.lba = 0 from rfl, show rn0.len = 0 from rfl, show rn0.phys = 0 from rfl] at hfl
    clear hnP hlast hflE
    go_enter Try.func57, Try.ntmps57
    go_upto_region 5 with (go_at_call 65; refine hfl.mono ?_; rintro e w2 ⟨rfl, k2⟩)
    have R5 : Rr wa (w2.alloc (.cells (rnA rn0) 34)) none 0 (nearL lo hi P) := by rw [hn]; exact ⟨World.ownsRow_nil _ _ _ _, k2.alloc _⟩
    rw [rn0_lit] at R5
    generalize w2.alloc (.cells #[.int .i64 0, .int .i64 0, .int .i64 0] 34) = w5 at R5 ⊢
    clear hfl k2 t2
    have M5 := h.more R5.keep
    obtain ⟨-, -, t5⟩ := M5.tops
    have hce := M5.ceil lo
    rw [hm, ceilL_split hP hS] at hce
    unfold ansV at hce
    rw [rnA_lit] at hce
    have hap : ∀ g', (none : Option Addr) = some ⟨g', 0, none⟩ → g' < w5.heap.size := fun g' e => (R5.block e).2
    go_wp2_with (go_at_call 66; refine hce.mono ?_; rintro e w6 ⟨rfl, k6⟩)
    have K7 : Keep (fun _ => False) w5 (w6.alloc (.cells (rnA (S.head?.getD rn0)) 34)) := k6.alloc _
    have L7 := Lrn.new w6 (S.head?.getD rn0)
    have hg7 : wa.heap.size ≤ w6.heap.size := by have := R5.keep.size; have := k6.size; omega
    have R7 := R5.more K7
    have hap7 : ∀ g', (none : Option Addr) = some ⟨g', 0, none⟩ → ¬ g' = w6.heap.size := fun g' e => by have := hap g' e; have := k6.size; omega
    rw [rnA_lit] at K7 L7 R7
    generalize w6.alloc (.cells #[.int .i64 (S.head?.getD rn0).lba, .int .i64 (S.head?.getD rn0).len, .int .i64 (S.head?.getD rn0).phys] 34) = w7 at K7 L7 R7 ⊢
    generalize w6.heap.size = g at L7 hg7 hap7 ⊢
    clear hce k6 t5 K7 M5 R5 hap
    have hm' : Hid (m = P ++ S) := hm
    have hlen' : Hid (m.length ≤ N ∧ m.length ≤ cap) := hlen
    clear hm hlen
    go_loopw [7, 11] (fun lv ov wx => ∃ (P S : List Rn) (a : Option Addr) (c : Nat), lv = .slice a (nearL lo hi P).length c ∧ ov = .bool S.head?.isSome ∧ Hid (m = P ++ S ∧ (∀ x ∈ S, lo ≤ x.lba) ∧ (∀ g', a = some ⟨g', 0, none⟩ → ¬ g' = g)) ∧ Rr wa wx a c (nearL lo hi P) ∧ Lrn wx g (S.head?.getD rn0)) (fun lv _ _ => 1000 - slen lv)
    case atStart => exact ⟨P, S, (none : Option Addr), 0, by rw [hn]; rfl, rfl, ⟨hm', hS, hap7⟩, R7, L7⟩
    case round =>
      clear R7 L7 hap7 fP fS fPS hP hS hm' hn
      obtain ⟨P, S, a, c, rfl, rfl, hI, R8, L8⟩ := hrel
      have hrl : (nearL lo hi P).length ≤ 512 := by
        obtain ⟨e, -⟩ := hI
        have : m.length ≤ N ∧ m.length ≤ cap := hlen'
        have h3 : (nearL lo hi P).length ≤ P.length := List.length_filter_le _ _
        rw [e, List.length_append] at this
        omega
      cases S with
      | nil =>
        rw [show ([] : List Rn).head?.isSome = false from rfl]
        have hend : Hid (nearL lo hi m = nearL lo hi P) := by show nearL lo hi m = nearL lo hi P; rw [hI.1, List.append_nil]
        clear h L8
        go_wp2_with fail
        go_ret
        exact ⟨a, c, by rw [show nearL lo hi m = nearL lo hi P from hend]; rfl, by rw [show nearL lo hi m = nearL lo hi P from hend]; exact R8⟩
      | cons y S =>
        rw [show (y :: S).head?.isSome = true from rfl]
        rw [show (y :: S).head?.getD rn0 = y from rfl] at L8
        obtain ⟨p0, p1, p2⟩ := L8.c
        have hy : y ∈ m := by rw [hI.1]; simp
        have hyr := h.run hy
        have hup := h.form.up
        rw [hI.1] at hup
        by_cases c1 : y.lba ≤ hi
        · obtain ⟨a', c', w', happ, R9, k9, hor⟩ := R8.appS (by omega) y
          have hg9 : ∀ x, a = some ⟨x, 0, none⟩ → ¬ g = x := fun x e1 e2 => hI.2.2 x e1 e2.symm
          have L9 : Lrn w' g y := Blk.keep L8 k9 (fun e => hg9 g e rfl)
          have hlt8 : g < wr.heap.size := Blk.lt L8 (by omega)
          have hap9 : ∀ g', a' = some ⟨g', 0, none⟩ → ¬ g' = g := fun g' e => by
            rcases hor with rfl | ⟨g2, rfl, h2⟩
            · exact hI.2.2 g' e
            · injection e with e; injection e with e; omega
          have hnext : nearL lo hi (P ++ [y]) = nearL lo hi P ++ [y] := by
            rw [nearL_app, nearL_pos (by have := hI.2.1 y (by simp); unfold Rn.fin; omega) c1]
          rw [← hnext] at R9
          have M9 := h.more R9.keep
          obtain ⟨-, -, t9⟩ := M9.tops
          have hup' : Tr.Up (P ++ [y] ++ S) := by simpa using hup
          have hsp := List.pairwise_append.1 hup'
          have hceE : Tr.ceilL (y.lba + 1) m none = S.head? := by
            rw [hI.1, show P ++ y :: S = (P ++ [y]) ++ S by simp]
            refine ceilL_split (fun x hx => ?_) (fun x hx => by have := hsp.2.2 y (by simp) x hx; omega)
            rcases List.mem_append.1 hx with hx | hx
            · have := (List.pairwise_append.1 hsp.1).2.2 x hx y (by simp); omega
            · simp at hx; subst hx; omega
          have hce := (M9.more ((Keep.refl (fun _ => False) w').drew)).ceil (y.lba + 1)
          rw [hceE] at hce
          unfold ansV at hce
          rw [rnA_lit] at hce
          have d1 := wrapI (x := y.lba + 1) (by omega) (by omega)
          obtain ⟨v0, v1, v2⟩ := L9.c
          clear hup hup' hsp hceE
          have hI' : Hid (m = P ++ y :: S ∧ (∀ x ∈ y :: S, lo ≤ x.lba)) := ⟨hI.1, hI.2.1⟩
          have hnl : (nearL lo hi (P ++ [y])).length = (nearL lo hi P).length + 1 := by rw [hnext]; simp
          clear hI hor
          go_upto_region 8 with (at_builtin; refine wpList_append_run rfl (.tmp 52) (.tmp 54) 32 rfl (by rfl) (by rfl) happ ?_)
          have L9' : Lrn w'.drew g y := L9
          have t9' : w'.drew.cell? ⟨q, 2, none⟩ = some (.pointer (some ⟨b, 0, none⟩)) := t9
          have v0' : w'.drew.cell? ⟨g, 0, none⟩ = some (.int .i64 y.lba) := v0
          refine wp_region_noPanic ?_
          refine wp_region_held_drew (S := fun wz => wz.cell? ⟨q, 2, none⟩ = some (.pointer (some ⟨b, 0, none⟩))) (by kernel_rfl) (t9') (fun hH0 => ?_)
          refine' wpAnyH_take (i := 0) (oi := { dst := some 57, op := Op.move (Operand.tmp 0), type := 44, pos := "runs.go:149", after := #[], guard := none }) (v := _) rfl (by kernel_rfl) (by kernel_rfl) (by kernel_rfl) (fun _ _ _ h => h) (Or.inl ⟨by rfl, ?hya0⟩) hH0 ?ra0
          case hya0 => (intro w' hSw; clear hSw; go_simp; try with_reducible rfl)
          simp only [Act.put, List.setIfInBounds_toArray, List.set_cons_zero, List.set_cons_succ]
          refine' wpAnyH_take (i := 1) (oi := { dst := some 58, op := Op.nilCheck (Operand.tmp 57), type := 0, pos := "runs.go:149", after := #[{ on := 0, ground := Ground.data }], guard := none }) (v := _) rfl (by kernel_rfl) (by kernel_rfl) (by kernel_rfl) (fun _ _ _ h => h) (Or.inl ⟨by rfl, ?hya1⟩) hH0 ?ra1
          case hya1 => (intro w' hSw; clear hSw; go_simp; try with_reducible rfl)
          simp only [Act.put, List.setIfInBounds_toArray, List.set_cons_zero, List.set_cons_succ]
          refine' wpAnyH_take (i := 2) (oi := { dst := some 59, op := Op.fieldAddr 77 (Operand.tmp 58) 2, type := 0, pos := "runs.go:149", after := #[{ on := 1, ground := Ground.data }], guard := none }) (v := _) rfl (by kernel_rfl) (by kernel_rfl) (by kernel_rfl) (fun _ _ _ h => h) (Or.inl ⟨by rfl, ?hya2⟩) hH0 ?ra2
          case hya2 => (intro w' hSw; clear hSw; go_simp; try with_reducible rfl)
          simp only [Act.put, List.setIfInBounds_toArray, List.set_cons_zero, List.set_cons_succ]
          refine' wpAnyH_take (i := 3) (oi := { dst := some 60, op := Op.load 75 (Operand.tmp 59), type := 75, pos := "runs.go:149", after := #[{ on := 2, ground := Ground.data }], guard := none }) (v := _) rfl (by kernel_rfl) (by kernel_rfl) (by kernel_rfl) (fun _ _ _ h => h) (Or.inl ⟨by rfl, ?hya3⟩) hH0 ?ra3
          case hya3 => (intro w' hSw; go_simp; try with_reducible rfl)
          simp only [Act.put, List.setIfInBounds_toArray, List.set_cons_zero, List.set_cons_succ]
          refine' wpAnyH_take (i := 4) (oi := { dst := some 61, op := Op.fieldAddr 34 (Operand.tmp 10) 0, type := 0, pos := "runs.go:149", after := #[], guard := none }) (v := _) rfl (by kernel_rfl) (by kernel_rfl) (by kernel_rfl) (fun _ _ _ h => h) (Or.inl ⟨by rfl, ?hya4⟩) hH0 ?ra4
          case hya4 => (intro w' hSw; clear hSw; go_simp; try with_reducible rfl)
          simp only [Act.put, List.setIfInBounds_toArray, List.set_cons_zero, List.set_cons_succ]
          refine wpAnyH_ready (rs := [5]) (by kernel_rfl) (by simp) ?_
          refine AllReadyH.cons (o := { dst := some 62, op := Op.load 3 (Operand.tmp 61), type := 3, pos := "runs.go:149", after := #[{ on := 4, ground := Ground.data }], guard := none }) rfl (fun K hK => ?_) AllReadyH.nil
          refine step_load_run (by rfl) 3 (.tmp 61) rfl (by rfl) (load_i64 v0') ?_
          refine hK.out _ _ (t9') (fun hH1 => ?_)
          clear hK K hH0
          simp only [Act.put, List.setIfInBounds_toArray, List.set_cons_zero, List.set_cons_succ]
          refine' wpAnyH_take (i := 6) (oi := { dst := some 63, op := Op.binOp BinOp.add 3 (Operand.tmp 62) (Operand.const (Value.int IntKind.i64 1)) 3, type := 3, pos := "runs.go:149", after := #[{ on := 5, ground := Ground.data }], guard := none }) (v := _) rfl (by kernel_rfl) (by kernel_rfl) (by kernel_rfl) (fun _ _ _ h => h) (Or.inl ⟨by rfl, ?hya6⟩) hH1 ?ra6
          case hya6 => (intro w' hSw; clear hSw; go_simp; try with_reducible rfl)
          simp only [Act.put, List.setIfInBounds_toArray, List.set_cons_zero, List.set_cons_succ]
          refine wpAnyH_ready (rs := [7]) (by kernel_rfl) (by simp) ?_
          refine AllReadyH.cons (o := { dst := some 64, op := Op.call { callee := Callee.value (Operand.func 66), args := #[Operand.tmp 60, Operand.tmp 63], argTypes := #[75, 3] }, type := 114, pos := "runs.go:149", after := #[{ on := 3, ground := Ground.data }, { on := 6, ground := Ground.data }], guard := none }) rfl (fun K hK => ?_) AllReadyH.nil
          refine step_call_want (vs := #[.pointer (some ⟨b, 0, none⟩), .int .i64 (y.lba + 1)]) (R := fun u wz => u = .tuple #[.agg #[.int .i64 (S.head?.getD rn0).lba, .int .i64 (S.head?.getD rn0).len, .int .i64 (S.head?.getD rn0).phys], .bool S.head?.isSome] ∧ Keep (fun _ => False) w'.drew wz) (by rfl) 66 #[Operand.tmp 60, Operand.tmp 63] #[75, 3] rfl (by simp [Act.eval]) call53 (post_of hce) ?_
          rintro _ w10 ⟨rfl, k10⟩
          refine hK.out _ _ ((M9.more (((Keep.refl (fun _ => False) w').drew).trans k10)).tops.2.2) (fun hH2 => ?_)
          clear hK K hH1
          simp only [Act.put, List.setIfInBounds_toArray, List.set_cons_zero, List.set_cons_succ]
          refine' wpAnyH_take (i := 8) (oi := { dst := some 56, op := Op.move (Operand.tmp 64), type := 114, pos := "runs.go:149", after := #[{ on := 7, ground := Ground.data }], guard := none }) (v := _) rfl (by kernel_rfl) (by kernel_rfl) (by kernel_rfl) (fun _ _ _ h => h) (Or.inl ⟨by rfl, ?hya8⟩) hH2 ?ra8
          case hya8 => (intro w' hSw; clear hSw; go_simp; try with_reducible rfl)
          simp only [Act.put, List.setIfInBounds_toArray, List.set_cons_zero, List.set_cons_succ]
          refine' wpAnyH_take (i := 9) (oi := { dst := some 65, op := Op.extract (Operand.tmp 56) 0, type := 34, pos := "runs.go:149", after := #[{ on := 8, ground := Ground.data }], guard := none }) (v := _) rfl (by kernel_rfl) (by kernel_rfl) (by kernel_rfl) (fun _ _ _ h => h) (Or.inl ⟨by rfl, ?hya9⟩) hH2 ?ra9
          case hya9 => (intro w' hSw; clear hSw; go_simp; try with_reducible rfl)
          simp only [Act.put, List.setIfInBounds_toArray, List.set_cons_zero, List.set_cons_succ]
          refine' wpAnyH_take (i := 10) (oi := { dst := some 66, op := Op.extract (Operand.tmp 56) 1, type := 4, pos := "runs.go:149", after := #[{ on := 8, ground := Ground.data }, { on := 11, ground := Ground.gcOnly Departure.lateStores }], guard := none }) (v := _) rfl (by kernel_rfl) (by kernel_rfl) (by kernel_rfl) (fun _ _ _ h => h) (Or.inl ⟨by rfl, ?hya10⟩) hH2 ?ra10
          case hya10 => (intro w' hSw; clear hSw; go_simp; try with_reducible rfl)
          simp only [Act.put, List.setIfInBounds_toArray, List.set_cons_zero, List.set_cons_succ]
          obtain ⟨w11, hst, L10, k11⟩ := (L9'.more k10).over (S.head?.getD rn0)
          have M11 := (M9.more (((Keep.refl (fun _ => False) w').drew).trans k10)).other k11 (fun x e => by have := h.keep.size; omega) (fun e => by have := h.lt; omega) (fun e => by have := h.lt; omega) (fun e => by have := h.lt; omega) (fun e => by have := h.lt; omega)
          refine wpAnyH_ready (rs := [11]) (by kernel_rfl) (by simp) ?_
          refine AllReadyH.cons (o := { dst := none, op := Op.store 34 (Operand.tmp 10) (Operand.tmp 65), type := 0, pos := "runs.go:149", after := #[{ on := 9, ground := Ground.data }, { on := 7, ground := Ground.chain }, { on := 0, ground := Ground.phase }, { on := 1, ground := Ground.phase }, { on := 2, ground := Ground.phase }, { on := 3, ground := Ground.phase }, { on := 4, ground := Ground.phase }, { on := 5, ground := Ground.phase }, { on := 6, ground := Ground.phase }, { on := 7, ground := Ground.phase }, { on := 8, ground := Ground.phase }, { on := 9, ground := Ground.phase }, { on := 10, ground := Ground.textOnly Departure.lateStores }], guard := none }) rfl (fun K hK => ?_) AllReadyH.nil
          refine step_store_run (by rfl) 34 (.tmp 10) (.tmp 65) rfl (by rfl) (by rfl) hst ?_
          refine hK.out _ _ (M11.tops.2.2) (fun hH3 => ?_)
          clear hK K hH2
          refine' wpAnyH_take (i := 12) (oi := { dst := some 11, op := Op.assign (Operand.tmp 66), type := 4, pos := "runs.go:149", after := #[{ on := 10, ground := Ground.data }, { on := 11, ground := Ground.chain }, { on := 0, ground := Ground.phase }, { on := 1, ground := Ground.phase }, { on := 2, ground := Ground.phase }, { on := 3, ground := Ground.phase }, { on := 4, ground := Ground.phase }, { on := 5, ground := Ground.phase }, { on := 6, ground := Ground.phase }, { on := 7, ground := Ground.phase }, { on := 8, ground := Ground.phase }, { on := 9, ground := Ground.phase }, { on := 10, ground := Ground.phase }, { on := 11, ground := Ground.phase }], guard := none }) (v := _) rfl (by kernel_rfl) (by kernel_rfl) (by kernel_rfl) (fun _ _ _ h => h) (Or.inl ⟨by rfl, ?hya12⟩) hH3 ?ra12
          case hya12 => (intro w' hSw; clear hSw; go_simp; try with_reducible rfl)
          simp only [Act.put, List.setIfInBounds_toArray, List.set_cons_zero, List.set_cons_succ]
          refine wpAnyH_done (by kernel_rfl) ?_ _
          refine NoPanic.normal ?_
          have L11 := L10
          have R11 := ((R9.more ((Keep.refl _ _).drew)).more k10).other k11 (fun g' e => hap9 g' e) (fun x hx => by omega)
          clear L10 hce L9 L9' M9 t9 v0 v1 v2 p0 p1 p2 hst v0' t9'
          go_wp2_with fail
          go_roundw
          case rel =>
            refine ⟨P ++ [y], S, a', c', by rw [show (nearL lo hi (P ++ [y])).length = (nearL lo hi P).length + 1 from hnl], rfl, ⟨?_, ?_, hap9⟩, R11, L11⟩
            · rw [hI'.1]; simp
            · intro x hx; exact hI'.2 x (by simp [hx])
          case measure => simp [slen]; omega
        · have hend : Hid (nearL lo hi m = nearL lo hi P) := by
            show nearL lo hi m = nearL lo hi P
            rw [hI.1, nearL_app, nearL_none (a := y :: S) (fun x hx => ?_), List.append_nil]
            right
            rcases List.mem_cons.1 hx with rfl | hx
            · omega
            · have := (List.pairwise_append.1 hup).2.1
              have := (List.pairwise_cons.1 this).1 x hx
              omega
          clear h L8 hup
          go_wp2_with fail
          go_ret
          exact ⟨a, c, by rw [show nearL lo hi m = nearL lo hi P from hend]; rfl, by rw [show nearL lo hi m = nearL lo hi P from hend]; exact R8⟩
  | some x =>
    have hx := h.run (hlast x rfl)
    have d1 := wrapI (x := x.lba + x.len) (by omega) (by omega)
    rw [show (some x).isSome = true from rfl, show (some x).getD rn0 = x from rfl] at hfl
    clear hlast hflE
    by_cases cx : x.lba + x.len < lo
    · have hn : nearL lo hi P = [] := by rw [hnP]; exact if_pos cx
      clear hnP
      go_enter Try.func57, Try.ntmps57
      go_upto_region 5 with (go_at_call 65; refine hfl.mono ?_; rintro e w2 ⟨rfl, k2⟩)
      have R5 : Rr wa (w2.alloc (.cells (rnA x) 34)) none 0 (nearL lo hi P) := by rw [hn]; exact ⟨World.ownsRow_nil _ _ _ _, k2.alloc _⟩
      rw [rnA_lit] at R5
      generalize w2.alloc (.cells #[.int .i64 x.lba, .int .i64 x.len, .int .i64 x.phys] 34) = w5 at R5 ⊢
      clear hfl k2 t2 cx
      have M5 := h.more R5.keep
      obtain ⟨-, -, t5⟩ := M5.tops
      have hce := M5.ceil lo
      rw [hm, ceilL_split hP hS] at hce
      unfold ansV at hce
      rw [rnA_lit] at hce
      have hap : ∀ g', (none : Option Addr) = some ⟨g', 0, none⟩ → g' < w5.heap.size := fun g' e => (R5.block e).2
      go_wp2_with (go_at_call 66; refine hce.mono ?_; rintro e w6 ⟨rfl, k6⟩)
      have K7 : Keep (fun _ => False) w5 (w6.alloc (.cells (rnA (S.head?.getD rn0)) 34)) := k6.alloc _
      have L7 := Lrn.new w6 (S.head?.getD rn0)
      have hg7 : wa.heap.size ≤ w6.heap.size := by have := R5.keep.size; have := k6.size; omega
      have R7 := R5.more K7
      have hap7 : ∀ g', (none : Option Addr) = some ⟨g', 0, none⟩ → ¬ g' = w6.heap.size := fun g' e => by have := hap g' e; have := k6.size; omega
      rw [rnA_lit] at K7 L7 R7
      generalize w6.alloc (.cells #[.int .i64 (S.head?.getD rn0).lba, .int .i64 (S.head?.getD rn0).len, .int .i64 (S.head?.getD rn0).phys] 34) = w7 at K7 L7 R7 ⊢
      generalize w6.heap.size = g at L7 hg7 hap7 ⊢
      clear hce k6 t5 K7 M5 R5 hap
      have hm' : Hid (m = P ++ S) := hm
      have hlen' : Hid (m.length ≤ N ∧ m.length ≤ cap) := hlen
      clear hm hlen
      go_loopw [7, 11] (fun lv ov wx => ∃ (P S : List Rn) (a : Option Addr) (c : Nat), lv = .slice a (nearL lo hi P).length c ∧ ov = .bool S.head?.isSome ∧ Hid (m = P ++ S ∧ (∀ x ∈ S, lo ≤ x.lba) ∧ (∀ g', a = some ⟨g', 0, none⟩ → ¬ g' = g)) ∧ Rr wa wx a c (nearL lo hi P) ∧ Lrn wx g (S.head?.getD rn0)) (fun lv _ _ => 1000 - slen lv)
      case atStart => exact ⟨P, S, (none : Option Addr), 0, by rw [hn]; rfl, rfl, ⟨hm', hS, hap7⟩, R7, L7⟩
      case round =>
        clear R7 L7 hap7 fP fS fPS hP hS hm' hn
        obtain ⟨P, S, a, c, rfl, rfl, hI, R8, L8⟩ := hrel
        have hrl : (nearL lo hi P).length ≤ 512 := by
          obtain ⟨e, -⟩ := hI
          have : m.length ≤ N ∧ m.length ≤ cap := hlen'
          have h3 : (nearL lo hi P).length ≤ P.length := List.length_filter_le _ _
          rw [e, List.length_append] at this
          omega
        cases S with
        | nil =>
          rw [show ([] : List Rn).head?.isSome = false from rfl]
          have hend : Hid (nearL lo hi m = nearL lo hi P) := by show nearL lo hi m = nearL lo hi P; rw [hI.1, List.append_nil]
          clear h L8
          go_wp2_with fail
          go_ret
          exact ⟨a, c, by rw [show nearL lo hi m = nearL lo hi P from hend]; rfl, by rw [show nearL lo hi m = nearL lo hi P from hend]; exact R8⟩
        | cons y S =>
          rw [show (y :: S).head?.isSome = true from rfl]
          rw [show (y :: S).head?.getD rn0 = y from rfl] at L8
          obtain ⟨p0, p1, p2⟩ := L8.c
          have hy : y ∈ m := by rw [hI.1]; simp
          have hyr := h.run hy
          have hup := h.form.up
          rw [hI.1] at hup
          by_cases c1 : y.lba ≤ hi
          · obtain ⟨a', c', w', happ, R9, k9, hor⟩ := R8.appS (by omega) y
            have hg9 : ∀ x, a = some ⟨x, 0, none⟩ → ¬ g = x := fun x e1 e2 => hI.2.2 x e1 e2.symm
            have L9 : Lrn w' g y := Blk.keep L8 k9 (fun e => hg9 g e rfl)
            have hlt8 : g < wr.heap.size := Blk.lt L8 (by omega)
            have hap9 : ∀ g', a' = some ⟨g', 0, none⟩ → ¬ g' = g := fun g' e => by
              rcases hor with rfl | ⟨g2, rfl, h2⟩
              · exact hI.2.2 g' e
              · injection e with e; injection e with e; omega
            have hnext : nearL lo hi (P ++ [y]) = nearL lo hi P ++ [y] := by
              rw [nearL_app, nearL_pos (by have := hI.2.1 y (by simp); unfold Rn.fin; omega) c1]
            rw [← hnext] at R9
            have M9 := h.more R9.keep
            obtain ⟨-, -, t9⟩ := M9.tops
            have hup' : Tr.Up (P ++ [y] ++ S) := by simpa using hup
            have hsp := List.pairwise_append.1 hup'
            have hceE : Tr.ceilL (y.lba + 1) m none = S.head? := by
              rw [hI.1, show P ++ y :: S = (P ++ [y]) ++ S by simp]
              refine ceilL_split (fun x hx => ?_) (fun x hx => by have := hsp.2.2 y (by simp) x hx; omega)
              rcases List.mem_append.1 hx with hx | hx
              · have := (List.pairwise_append.1 hsp.1).2.2 x hx y (by simp); omega
              · simp at hx; subst hx; omega
            have hce := (M9.more ((Keep.refl (fun _ => False) w').drew)).ceil (y.lba + 1)
            rw [hceE] at hce
            unfold ansV at hce
            rw [rnA_lit] at hce
            have d1 := wrapI (x := y.lba + 1) (by omega) (by omega)
            obtain ⟨v0, v1, v2⟩ := L9.c
            clear hup hup' hsp hceE
            have hI' : Hid (m = P ++ y :: S ∧ (∀ x ∈ y :: S, lo ≤ x.lba)) := ⟨hI.1, hI.2.1⟩
            have hnl : (nearL lo hi (P ++ [y])).length = (nearL lo hi P).length + 1 := by rw [hnext]; simp
            clear hI hor
            go_upto_region 8 with (at_builtin; refine wpList_append_run rfl (.tmp 52) (.tmp 54) 32 rfl (by rfl) (by rfl) happ ?_)
            have L9' : Lrn w'.drew g y := L9
            have t9' : w'.drew.cell? ⟨q, 2, none⟩ = some (.pointer (some ⟨b, 0, none⟩)) := t9
            have v0' : w'.drew.cell? ⟨g, 0, none⟩ = some (.int .i64 y.lba) := v0
            refine wp_region_noPanic ?_
            refine wp_region_held_drew (S := fun wz => wz.cell? ⟨q, 2, none⟩ = some (.pointer (some ⟨b, 0, none⟩))) (by kernel_rfl) (t9') (fun hH0 => ?_)
            refine' wpAnyH_take (i := 0) (oi := { dst := some 57, op := Op.move (Operand.tmp 0), type := 44, pos := "runs.go:149", after := #[], guard := none }) (v := _) rfl (by kernel_rfl) (by kernel_rfl) (by kernel_rfl) (fun _ _ _ h => h) (Or.inl ⟨by rfl, ?hyb0⟩) hH0 ?rb0
            case hyb0 => (intro w' hSw; clear hSw; go_simp; try with_reducible rfl)
            simp only [Act.put, List.setIfInBounds_toArray, List.set_cons_zero, List.set_cons_succ]
            refine' wpAnyH_take (i := 1) (oi := { dst := some 58, op := Op.nilCheck (Operand.tmp 57), type := 0, pos := "runs.go:149", after := #[{ on := 0, ground := Ground.data }], guard := none }) (v := _) rfl (by kernel_rfl) (by kernel_rfl) (by kernel_rfl) (fun _ _ _ h => h) (Or.inl ⟨by rfl, ?hyb1⟩) hH0 ?rb1
            case hyb1 => (intro w' hSw; clear hSw; go_simp; try with_reducible rfl)
            simp only [Act.put, List.setIfInBounds_toArray, List.set_cons_zero, List.set_cons_succ]
            refine' wpAnyH_take (i := 2) (oi := { dst := some 59, op := Op.fieldAddr 77 (Operand.tmp 58) 2, type := 0, pos := "runs.go:149", after := #[{ on := 1, ground := Ground.data }], guard := none }) (v := _) rfl (by kernel_rfl) (by kernel_rfl) (by kernel_rfl) (fun _ _ _ h => h) (Or.inl ⟨by rfl, ?hyb2⟩) hH0 ?rb2
            case hyb2 => (intro w' hSw; clear hSw; go_simp; try with_reducible rfl)
            simp only [Act.put, List.setIfInBounds_toArray, List.set_cons_zero, List.set_cons_succ]
            refine' wpAnyH_take (i := 3) (oi := { dst := some 60, op := Op.load 75 (Operand.tmp 59), type := 75, pos := "runs.go:149", after := #[{ on := 2, ground := Ground.data }], guard := none }) (v := _) rfl (by kernel_rfl) (by kernel_rfl) (by kernel_rfl) (fun _ _ _ h => h) (Or.inl ⟨by rfl, ?hyb3⟩) hH0 ?rb3
            case hyb3 => (intro w' hSw; go_simp; try with_reducible rfl)
            simp only [Act.put, List.setIfInBounds_toArray, List.set_cons_zero, List.set_cons_succ]
            refine' wpAnyH_take (i := 4) (oi := { dst := some 61, op := Op.fieldAddr 34 (Operand.tmp 10) 0, type := 0, pos := "runs.go:149", after := #[], guard := none }) (v := _) rfl (by kernel_rfl) (by kernel_rfl) (by kernel_rfl) (fun _ _ _ h => h) (Or.inl ⟨by rfl, ?hyb4⟩) hH0 ?rb4
            case hyb4 => (intro w' hSw; clear hSw; go_simp; try with_reducible rfl)
            simp only [Act.put, List.setIfInBounds_toArray, List.set_cons_zero, List.set_cons_succ]
            refine wpAnyH_ready (rs := [5]) (by kernel_rfl) (by simp) ?_
            refine AllReadyH.cons (o := { dst := some 62, op := Op.load 3 (Operand.tmp 61), type := 3, pos := "runs.go:149", after := #[{ on := 4, ground := Ground.data }], guard := none }) rfl (fun K hK => ?_) AllReadyH.nil
            refine step_load_run (by rfl) 3 (.tmp 61) rfl (by rfl) (load_i64 v0') ?_
            refine hK.out _ _ (t9') (fun hH1 => ?_)
            clear hK K hH0
            simp only [Act.put, List.setIfInBounds_toArray, List.set_cons_zero, List.set_cons_succ]
            refine' wpAnyH_take (i := 6) (oi := { dst := some 63, op := Op.binOp BinOp.add 3 (Operand.tmp 62) (Operand.const (Value.int IntKind.i64 1)) 3, type := 3, pos := "runs.go:149", after := #[{ on := 5, ground := Ground.data }], guard := none }) (v := _) rfl (by kernel_rfl) (by kernel_rfl) (by kernel_rfl) (fun _ _ _ h => h) (Or.inl ⟨by rfl, ?hyb6⟩) hH1 ?rb6
            case hyb6 => (intro w' hSw; clear hSw; go_simp; try with_reducible rfl)
            simp only [Act.put, List.setIfInBounds_toArray, List.set_cons_zero, List.set_cons_succ]
            refine wpAnyH_ready (rs := [7]) (by kernel_rfl) (by simp) ?_
            refine AllReadyH.cons (o := { dst := some 64, op := Op.call { callee := Callee.value (Operand.func 66), args := #[Operand.tmp 60, Operand.tmp 63], argTypes := #[75, 3] }, type := 114, pos := "runs.go:149", after := #[{ on := 3, ground := Ground.data }, { on := 6, ground := Ground.data }], guard := none }) rfl (fun K hK => ?_) AllReadyH.nil
            refine step_call_want (vs := #[.pointer (some ⟨b, 0, none⟩), .int .i64 (y.lba + 1)]) (R := fun u wz => u = .tuple #[.agg #[.int .i64 (S.head?.getD rn0).lba, .int .i64 (S.head?.getD rn0).len, .int .i64 (S.head?.getD rn0).phys], .bool S.head?.isSome] ∧ Keep (fun _ => False) w'.drew wz) (by rfl) 66 #[Operand.tmp 60, Operand.tmp 63] #[75, 3] rfl (by simp [Act.eval]) call53 (post_of hce) ?_
            rintro _ w10 ⟨rfl, k10⟩
            refine hK.out _ _ ((M9.more (((Keep.refl (fun _ => False) w').drew).trans k10)).tops.2.2) (fun hH2 => ?_)
            clear hK K hH1
            simp only [Act.put, List.setIfInBounds_toArray, List.set_cons_zero, List.set_cons_succ]
            refine' wpAnyH_take (i := 8) (oi := { dst := some 56, op := Op.move (Operand.tmp 64), type := 114, pos := "runs.go:149", after := #[{ on := 7, ground := Ground.data }], guard := none }) (v := _) rfl (by kernel_rfl) (by kernel_rfl) (by kernel_rfl) (fun _ _ _ h => h) (Or.inl ⟨by rfl, ?hyb8⟩) hH2 ?rb8
            case hyb8 => (intro w' hSw; clear hSw; go_simp; try with_reducible rfl)
            simp only [Act.put, List.setIfInBounds_toArray, List.set_cons_zero, List.set_cons_succ]
            refine' wpAnyH_take (i := 9) (oi := { dst := some 65, op := Op.extract (Operand.tmp 56) 0, type := 34, pos := "runs.go:149", after := #[{ on := 8, ground := Ground.data }], guard := none }) (v := _) rfl (by kernel_rfl) (by kernel_rfl) (by kernel_rfl) (fun _ _ _ h => h) (Or.inl ⟨by rfl, ?hyb9⟩) hH2 ?rb9
            case hyb9 => (intro w' hSw; clear hSw; go_simp; try with_reducible rfl)
            simp only [Act.put, List.setIfInBounds_toArray, List.set_cons_zero, List.set_cons_succ]
            refine' wpAnyH_take (i := 10) (oi := { dst := some 66, op := Op.extract (Operand.tmp 56) 1, type := 4, pos := "runs.go:149", after := #[{ on := 8, ground := Ground.data }, { on := 11, ground := Ground.gcOnly Departure.lateStores }], guard := none }) (v := _) rfl (by kernel_rfl) (by kernel_rfl) (by kernel_rfl) (fun _ _ _ h => h) (Or.inl ⟨by rfl, ?hyb10⟩) hH2 ?rb10
            case hyb10 => (intro w' hSw; clear hSw; go_simp; try with_reducible rfl)
            simp only [Act.put, List.setIfInBounds_toArray, List.set_cons_zero, List.set_cons_succ]
            obtain ⟨w11, hst, L10, k11⟩ := (L9'.more k10).over (S.head?.getD rn0)
            have M11 := (M9.more (((Keep.refl (fun _ => False) w').drew).trans k10)).other k11 (fun x e => by have := h.keep.size; omega) (fun e => by have := h.lt; omega) (fun e => by have := h.lt; omega) (fun e => by have := h.lt; omega) (fun e => by have := h.lt; omega)
            refine wpAnyH_ready (rs := [11]) (by kernel_rfl) (by simp) ?_
            refine AllReadyH.cons (o := { dst := none, op := Op.store 34 (Operand.tmp 10) (Operand.tmp 65), type := 0, pos := "runs.go:149", after := #[{ on := 9, ground := Ground.data }, { on := 7, ground := Ground.chain }, { on := 0, ground := Ground.phase }, { on := 1, ground := Ground.phase }, { on := 2, ground := Ground.phase }, { on := 3, ground := Ground.phase }, { on := 4, ground := Ground.phase }, { on := 5, ground := Ground.phase }, { on := 6, ground := Ground.phase }, { on := 7, ground := Ground.phase }, { on := 8, ground := Ground.phase }, { on := 9, ground := Ground.phase }, { on := 10, ground := Ground.textOnly Departure.lateStores }], guard := none }) rfl (fun K hK => ?_) AllReadyH.nil
            refine step_store_run (by rfl) 34 (.tmp 10) (.tmp 65) rfl (by rfl) (by rfl) hst ?_
            refine hK.out _ _ (M11.tops.2.2) (fun hH3 => ?_)
            clear hK K hH2
            refine' wpAnyH_take (i := 12) (oi := { dst := some 11, op := Op.assign (Operand.tmp 66), type := 4, pos := "runs.go:149", after := #[{ on := 10, ground := Ground.data }, { on := 11, ground := Ground.chain }, { on := 0, ground := Ground.phase }, { on := 1, ground := Ground.phase }, { on := 2, ground := Ground.phase }, { on := 3, ground := Ground.phase }, { on := 4, ground := Ground.phase }, { on := 5, ground := Ground.phase }, { on := 6, ground := Ground.phase }, { on := 7, ground := Ground.phase }, { on := 8, ground := Ground.phase }, { on := 9, ground := Ground.phase }, { on := 10, ground := Ground.phase }, { on := 11, ground := Ground.phase }], guard := none }) (v := _) rfl (by kernel_rfl) (by kernel_rfl) (by kernel_rfl) (fun _ _ _ h => h) (Or.inl ⟨by rfl, ?hyb12⟩) hH3 ?rb12
            case hyb12 => (intro w' hSw; clear hSw; go_simp; try with_reducible rfl)
            simp only [Act.put, List.setIfInBounds_toArray, List.set_cons_zero, List.set_cons_succ]
            refine wpAnyH_done (by kernel_rfl) ?_ _
            refine NoPanic.normal ?_
            have L11 := L10
            have R11 := ((R9.more ((Keep.refl _ _).drew)).more k10).other k11 (fun g' e => hap9 g' e) (fun x hx => by omega)
            clear L10 hce L9 L9' M9 t9 v0 v1 v2 p0 p1 p2 hst v0' t9'
            go_wp2_with fail
            go_roundw
            case rel =>
              refine ⟨P ++ [y], S, a', c', by rw [show (nearL lo hi (P ++ [y])).length = (nearL lo hi P).length + 1 from hnl], rfl, ⟨?_, ?_, hap9⟩, R11, L11⟩
              · rw [hI'.1]; simp
              · intro x hx; exact hI'.2 x (by simp [hx])
            case measure => simp [slen]; omega
          · have hend : Hid (nearL lo hi m = nearL lo hi P) := by
              show nearL lo hi m = nearL lo hi P
              rw [hI.1, nearL_app, nearL_none (a := y :: S) (fun x hx => ?_), List.append_nil]
              right
              rcases List.mem_cons.1 hx with rfl | hx
              · omega
              · have := (List.pairwise_append.1 hup).2.1
                have := (List.pairwise_cons.1 this).1 x hx
                omega
            clear h L8 hup
            go_wp2_with fail
            go_ret
            exact ⟨a, c, by rw [show nearL lo hi m = nearL lo hi P from hend]; rfl, by rw [show nearL lo hi m = nearL lo hi P from hend]; exact R8⟩
    · have hn : nearL lo hi P = [x] := by rw [hnP]; exact if_neg cx
      clear hnP
      go_enter Try.func57, Try.ntmps57
      go_upto_region 4 with (go_at_call 65; refine hfl.mono ?_; rintro e w2 ⟨rfl, k2⟩)
      have R3 : Rr wa (w2.alloc (.cells (rnA x) 34)) none 0 [] := ⟨World.ownsRow_nil _ _ _ _, k2.alloc _⟩
      have L3 := Lrn.new w2 x
      rw [rnA_lit] at R3 L3
      generalize w2.alloc (.cells #[.int .i64 x.lba, .int .i64 x.len, .int .i64 x.phys] 34) = w3 at R3 L3 ⊢
      generalize w2.heap.size = g3 at L3 ⊢
      obtain ⟨p0, p1, p2⟩ := L3.c
      obtain ⟨a, c, w5, happ, R5⟩ := R3.app1 (by simp) x
      rw [List.nil_append, ← hn] at R5
      rw [List.length_nil, Nat.zero_add] at happ
      clear hfl k2 t2 R3 L3
      go_upto_region 5 with (at_builtin; refine wpList_append_run rfl (.tmp 32) (.tmp 34) 32 rfl (by rfl) (by rfl) happ ?_)
      clear happ p0 p1 p2 cx
      have M5 := h.more R5.keep
      obtain ⟨-, -, t5⟩ := M5.tops
      have hce := M5.ceil lo
      rw [hm, ceilL_split hP hS] at hce
      unfold ansV at hce
      rw [rnA_lit] at hce
      have hap : ∀ g', a = some ⟨g', 0, none⟩ → g' < w5.heap.size := fun g' e => (R5.block e).2
      go_wp2_with (go_at_call 66; refine hce.mono ?_; rintro e w6 ⟨rfl, k6⟩)
      have K7 : Keep (fun _ => False) w5 (w6.alloc (.cells (rnA (S.head?.getD rn0)) 34)) := k6.alloc _
      have L7 := Lrn.new w6 (S.head?.getD rn0)
      have hg7 : wa.heap.size ≤ w6.heap.size := by have := R5.keep.size; have := k6.size; omega
      have R7 := R5.more K7
      have hap7 : ∀ g', a = some ⟨g', 0, none⟩ → ¬ g' = w6.heap.size := fun g' e => by have := hap g' e; have := k6.size; omega
      rw [rnA_lit] at K7 L7 R7
      generalize w6.alloc (.cells #[.int .i64 (S.head?.getD rn0).lba, .int .i64 (S.head?.getD rn0).len, .int .i64 (S.head?.getD rn0).phys] 34) = w7 at K7 L7 R7 ⊢
      generalize w6.heap.size = g at L7 hg7 hap7 ⊢
      clear hce k6 t5 K7 M5 R5 hap
      have hm' : Hid (m = P ++ S) := hm
      have hlen' : Hid (m.length ≤ N ∧ m.length ≤ cap) := hlen
      clear hm hlen
      go_loopw [7, 11] (fun lv ov wx => ∃ (P S : List Rn) (a : Option Addr) (c : Nat), lv = .slice a (nearL lo hi P).length c ∧ ov = .bool S.head?.isSome ∧ Hid (m = P ++ S ∧ (∀ x ∈ S, lo ≤ x.lba) ∧ (∀ g', a = some ⟨g', 0, none⟩ → ¬ g' = g)) ∧ Rr wa wx a c (nearL lo hi P) ∧ Lrn wx g (S.head?.getD rn0)) (fun lv _ _ => 1000 - slen lv)
      case atStart => exact ⟨P, S, a, c, by rw [hn]; rfl, rfl, ⟨hm', hS, hap7⟩, R7, L7⟩
      case round =>
        clear R7 L7 hap7 fP fS fPS hP hS hm' hn
        obtain ⟨P, S, a, c, rfl, rfl, hI, R8, L8⟩ := hrel
        have hrl : (nearL lo hi P).length ≤ 512 := by
          obtain ⟨e, -⟩ := hI
          have : m.length ≤ N ∧ m.length ≤ cap := hlen'
          have h3 : (nearL lo hi P).length ≤ P.length := List.length_filter_le _ _
          rw [e, List.length_append] at this
          omega
        cases S with
        | nil =>
          rw [show ([] : List Rn).head?.isSome = false from rfl]
          have hend : Hid (nearL lo hi m = nearL lo hi P) := by show nearL lo hi m = nearL lo hi P; rw [hI.1, List.append_nil]
          clear h L8
          go_wp2_with fail
          go_ret
          exact ⟨a, c, by rw [show nearL lo hi m = nearL lo hi P from hend]; rfl, by rw [show nearL lo hi m = nearL lo hi P from hend]; exact R8⟩
        | cons y S =>
          rw [show (y :: S).head?.isSome = true from rfl]
          rw [show (y :: S).head?.getD rn0 = y from rfl] at L8
          obtain ⟨p0, p1, p2⟩ := L8.c
          have hy : y ∈ m := by rw [hI.1]; simp
          have hyr := h.run hy
          have hup := h.form.up
          rw [hI.1] at hup
          by_cases c1 : y.lba ≤ hi
          · obtain ⟨a', c', w', happ, R9, k9, hor⟩ := R8.appS (by omega) y
            have hg9 : ∀ x, a = some ⟨x, 0, none⟩ → ¬ g = x := fun x e1 e2 => hI.2.2 x e1 e2.symm
            have L9 : Lrn w' g y := Blk.keep L8 k9 (fun e => hg9 g e rfl)
            have hlt8 : g < wr.heap.size := Blk.lt L8 (by omega)
            have hap9 : ∀ g', a' = some ⟨g', 0, none⟩ → ¬ g' = g := fun g' e => by
              rcases hor with rfl | ⟨g2, rfl, h2⟩
              · exact hI.2.2 g' e
              · injection e with e; injection e with e; omega
            have hnext : nearL lo hi (P ++ [y]) = nearL lo hi P ++ [y] := by
              rw [nearL_app, nearL_pos (by have := hI.2.1 y (by simp); unfold Rn.fin; omega) c1]
            rw [← hnext] at R9
            have M9 := h.more R9.keep
            obtain ⟨-, -, t9⟩ := M9.tops
            have hup' : Tr.Up (P ++ [y] ++ S) := by simpa using hup
            have hsp := List.pairwise_append.1 hup'
            have hceE : Tr.ceilL (y.lba + 1) m none = S.head? := by
              rw [hI.1, show P ++ y :: S = (P ++ [y]) ++ S by simp]
              refine ceilL_split (fun x hx => ?_) (fun x hx => by have := hsp.2.2 y (by simp) x hx; omega)
              rcases List.mem_append.1 hx with hx | hx
              · have := (List.pairwise_append.1 hsp.1).2.2 x hx y (by simp); omega
              · simp at hx; subst hx; omega
            have hce := (M9.more ((Keep.refl (fun _ => False) w').drew)).ceil (y.lba + 1)
            rw [hceE] at hce
            unfold ansV at hce
            rw [rnA_lit] at hce
            have d1 := wrapI (x := y.lba + 1) (by omega) (by omega)
            obtain ⟨v0, v1, v2⟩ := L9.c
            clear hup hup' hsp hceE
            have hI' : Hid (m = P ++ y :: S ∧ (∀ x ∈ y :: S, lo ≤ x.lba)) := ⟨hI.1, hI.2.1⟩
            have hnl : (nearL lo hi (P ++ [y])).length = (nearL lo hi P).length + 1 := by rw [hnext]; simp
            clear hI hor
            go_upto_region 8 with (at_builtin; refine wpList_append_run rfl (.tmp 52) (.tmp 54) 32 rfl (by rfl) (by rfl) happ ?_)
            have L9' : Lrn w'.drew g y := L9
            have t9' : w'.drew.cell? ⟨q, 2, none⟩ = some (.pointer (some ⟨b, 0, none⟩)) := t9
            have v0' : w'.drew.cell? ⟨g, 0, none⟩ = some (.int .i64 y.lba) := v0
            refine wp_region_noPanic ?_
            refine wp_region_held_drew (S := fun wz => wz.cell? ⟨q, 2, none⟩ = some (.pointer (some ⟨b, 0, none⟩))) (by kernel_rfl) (t9') (fun hH0 => ?_)
            refine' wpAnyH_take (i := 0) (oi := { dst := some 57, op := Op.move (Operand.tmp 0), type := 44, pos := "runs.go:149", after := #[], guard := none }) (v := _) rfl (by kernel_rfl) (by kernel_rfl) (by kernel_rfl) (fun _ _ _ h => h) (Or.inl ⟨by rfl, ?hyc0⟩) hH0 ?rc0
            case hyc0 => (intro w' hSw; clear hSw; go_simp; try with_reducible rfl)
            simp only [Act.put, List.setIfInBounds_toArray, List.set_cons_zero, List.set_cons_succ]
            refine' wpAnyH_take (i := 1) (oi := { dst := some 58, op := Op.nilCheck (Operand.tmp 57), type := 0, pos := "runs.go:149", after := #[{ on := 0, ground := Ground.data }], guard := none }) (v := _) rfl (by kernel_rfl) (by kernel_rfl) (by kernel_rfl) (fun _ _ _ h => h) (Or.inl ⟨by rfl, ?hyc1⟩) hH0 ?rc1
            case hyc1 => (intro w' hSw; clear hSw; go_simp; try with_reducible rfl)
            simp only [Act.put, List.setIfInBounds_toArray, List.set_cons_zero, List.set_cons_succ]
            refine' wpAnyH_take (i := 2) (oi := { dst := some 59, op := Op.fieldAddr 77 (Operand.tmp 58) 2, type := 0, pos := "runs.go:149", after := #[{ on := 1, ground := Ground.data }], guard := none }) (v := _) rfl (by kernel_rfl) (by kernel_rfl) (by kernel_rfl) (fun _ _ _ h => h) (Or.inl ⟨by rfl, ?hyc2⟩) hH0 ?rc2
            case hyc2 => (intro w' hSw; clear hSw; go_simp; try with_reducible rfl)
            simp only [Act.put, List.setIfInBounds_toArray, List.set_cons_zero, List.set_cons_succ]
            refine' wpAnyH_take (i := 3) (oi := { dst := some 60, op := Op.load 75 (Operand.tmp 59), type := 75, pos := "runs.go:149", after := #[{ on := 2, ground := Ground.data }], guard := none }) (v := _) rfl (by kernel_rfl) (by kernel_rfl) (by kernel_rfl) (fun _ _ _ h => h) (Or.inl ⟨by rfl, ?hyc3⟩) hH0 ?rc3
            case hyc3 => (intro w' hSw; go_simp; try with_reducible rfl)
            simp only [Act.put, List.setIfInBounds_toArray, List.set_cons_zero, List.set_cons_succ]
            refine' wpAnyH_take (i := 4) (oi := { dst := some 61, op := Op.fieldAddr 34 (Operand.tmp 10) 0, type := 0, pos := "runs.go:149", after := #[], guard := none }) (v := _) rfl (by kernel_rfl) (by kernel_rfl) (by kernel_rfl) (fun _ _ _ h => h) (Or.inl ⟨by rfl, ?hyc4⟩) hH0 ?rc4
            case hyc4 => (intro w' hSw; clear hSw; go_simp; try with_reducible rfl)
            simp only [Act.put, List.setIfInBounds_toArray, List.set_cons_zero, List.set_cons_succ]
            refine wpAnyH_ready (rs := [5]) (by kernel_rfl) (by simp) ?_
            refine AllReadyH.cons (o := { dst := some 62, op := Op.load 3 (Operand.tmp 61), type := 3, pos := "runs.go:149", after := #[{ on := 4, ground := Ground.data }], guard := none }) rfl (fun K hK => ?_) AllReadyH.nil
            refine step_load_run (by rfl) 3 (.tmp 61) rfl (by rfl) (load_i64 v0') ?_
            refine hK.out _ _ (t9') (fun hH1 => ?_)
            clear hK K hH0
            simp only [Act.put, List.setIfInBounds_toArray, List.set_cons_zero, List.set_cons_succ]
            refine' wpAnyH_take (i := 6) (oi := { dst := some 63, op := Op.binOp BinOp.add 3 (Operand.tmp 62) (Operand.const (Value.int IntKind.i64 1)) 3, type := 3, pos := "runs.go:149", after := #[{ on := 5, ground := Ground.data }], guard := none }) (v := _) rfl (by kernel_rfl) (by kernel_rfl) (by kernel_rfl) (fun _ _ _ h => h) (Or.inl ⟨by rfl, ?hyc6⟩) hH1 ?rc6
            case hyc6 => (intro w' hSw; clear hSw; go_simp; try with_reducible rfl)
            simp only [Act.put, List.setIfInBounds_toArray, List.set_cons_zero, List.set_cons_succ]
            refine wpAnyH_ready (rs := [7]) (by kernel_rfl) (by simp) ?_
            refine AllReadyH.cons (o := { dst := some 64, op := Op.call { callee := Callee.value (Operand.func 66), args := #[Operand.tmp 60, Operand.tmp 63], argTypes := #[75, 3] }, type := 114, pos := "runs.go:149", after := #[{ on := 3, ground := Ground.data }, { on := 6, ground := Ground.data }], guard := none }) rfl (fun K hK => ?_) AllReadyH.nil
            refine step_call_want (vs := #[.pointer (some ⟨b, 0, none⟩), .int .i64 (y.lba + 1)]) (R := fun u wz => u = .tuple #[.agg #[.int .i64 (S.head?.getD rn0).lba, .int .i64 (S.head?.getD rn0).len, .int .i64 (S.head?.getD rn0).phys], .bool S.head?.isSome] ∧ Keep (fun _ => False) w'.drew wz) (by rfl) 66 #[Operand.tmp 60, Operand.tmp 63] #[75, 3] rfl (by simp [Act.eval]) call53 (post_of hce) ?_
            rintro _ w10 ⟨rfl, k10⟩
            refine hK.out _ _ ((M9.more (((Keep.refl (fun _ => False) w').drew).trans k10)).tops.2.2) (fun hH2 => ?_)
            clear hK K hH1
            simp only [Act.put, List.setIfInBounds_toArray, List.set_cons_zero, List.set_cons_succ]
            refine' wpAnyH_take (i := 8) (oi := { dst := some 56, op := Op.move (Operand.tmp 64), type := 114, pos := "runs.go:149", after := #[{ on := 7, ground := Ground.data }], guard := none }) (v := _) rfl (by kernel_rfl) (by kernel_rfl) (by kernel_rfl) (fun _ _ _ h => h) (Or.inl ⟨by rfl, ?hyc8⟩) hH2 ?rc8
            case hyc8 => (intro w' hSw; clear hSw; go_simp; try with_reducible rfl)
            simp only [Act.put, List.setIfInBounds_toArray, List.set_cons_zero, List.set_cons_succ]
            refine' wpAnyH_take (i := 9) (oi := { dst := some 65, op := Op.extract (Operand.tmp 56) 0, type := 34, pos := "runs.go:149", after := #[{ on := 8, ground := Ground.data }], guard := none }) (v := _) rfl (by kernel_rfl) (by kernel_rfl) (by kernel_rfl) (fun _ _ _ h => h) (Or.inl ⟨by rfl, ?hyc9⟩) hH2 ?rc9
            case hyc9 => (intro w' hSw; clear hSw; go_simp; try with_reducible rfl)
            simp only [Act.put, List.setIfInBounds_toArray, List.set_cons_zero, List.set_cons_succ]
            refine' wpAnyH_take (i := 10) (oi := { dst := some 66, op := Op.extract (Operand.tmp 56) 1, type := 4, pos := "runs.go:149", after := #[{ on := 8, ground := Ground.data }, { on := 11, ground := Ground.gcOnly Departure.lateStores }], guard := none }) (v := _) rfl (by kernel_rfl) (by kernel_rfl) (by kernel_rfl) (fun _ _ _ h => h) (Or.inl ⟨by rfl, ?hyc10⟩) hH2 ?rc10
            case hyc10 => (intro w' hSw; clear hSw; go_simp; try with_reducible rfl)
            simp only [Act.put, List.setIfInBounds_toArray, List.set_cons_zero, List.set_cons_succ]
            obtain ⟨w11, hst, L10, k11⟩ := (L9'.more k10).over (S.head?.getD rn0)
            have M11 := (M9.more (((Keep.refl (fun _ => False) w').drew).trans k10)).other k11 (fun x e => by have := h.keep.size; omega) (fun e => by have := h.lt; omega) (fun e => by have := h.lt; omega) (fun e => by have := h.lt; omega) (fun e => by have := h.lt; omega)
            refine wpAnyH_ready (rs := [11]) (by kernel_rfl) (by simp) ?_
            refine AllReadyH.cons (o := { dst := none, op := Op.store 34 (Operand.tmp 10) (Operand.tmp 65), type := 0, pos := "runs.go:149", after := #[{ on := 9, ground := Ground.data }, { on := 7, ground := Ground.chain }, { on := 0, ground := Ground.phase }, { on := 1, ground := Ground.phase }, { on := 2, ground := Ground.phase }, { on := 3, ground := Ground.phase }, { on := 4, ground := Ground.phase }, { on := 5, ground := Ground.phase }, { on := 6, ground := Ground.phase }, { on := 7, ground := Ground.phase }, { on := 8, ground := Ground.phase }, { on := 9, ground := Ground.phase }, { on := 10, ground := Ground.textOnly Departure.lateStores }], guard := none }) rfl (fun K hK => ?_) AllReadyH.nil
            refine step_store_run (by rfl) 34 (.tmp 10) (.tmp 65) rfl (by rfl) (by rfl) hst ?_
            refine hK.out _ _ (M11.tops.2.2) (fun hH3 => ?_)
            clear hK K hH2
            refine' wpAnyH_take (i := 12) (oi := { dst := some 11, op := Op.assign (Operand.tmp 66), type := 4, pos := "runs.go:149", after := #[{ on := 10, ground := Ground.data }, { on := 11, ground := Ground.chain }, { on := 0, ground := Ground.phase }, { on := 1, ground := Ground.phase }, { on := 2, ground := Ground.phase }, { on := 3, ground := Ground.phase }, { on := 4, ground := Ground.phase }, { on := 5, ground := Ground.phase }, { on := 6, ground := Ground.phase }, { on := 7, ground := Ground.phase }, { on := 8, ground := Ground.phase }, { on := 9, ground := Ground.phase }, { on := 10, ground := Ground.phase }, { on := 11, ground := Ground.phase }], guard := none }) (v := _) rfl (by kernel_rfl) (by kernel_rfl) (by kernel_rfl) (fun _ _ _ h => h) (Or.inl ⟨by rfl, ?hyc12⟩) hH3 ?rc12
            case hyc12 => (intro w' hSw; clear hSw; go_simp; try with_reducible rfl)
            simp only [Act.put, List.setIfInBounds_toArray, List.set_cons_zero, List.set_cons_succ]
            refine wpAnyH_done (by kernel_rfl) ?_ _
            refine NoPanic.normal ?_
            have L11 := L10
            have R11 := ((R9.more ((Keep.refl _ _).drew)).more k10).other k11 (fun g' e => hap9 g' e) (fun x hx => by omega)
            clear L10 hce L9 L9' M9 t9 v0 v1 v2 p0 p1 p2 hst v0' t9'
            go_wp2_with fail
            go_roundw
            case rel =>
              refine ⟨P ++ [y], S, a', c', by rw [show (nearL lo hi (P ++ [y])).length = (nearL lo hi P).length + 1 from hnl], rfl, ⟨?_, ?_, hap9⟩, R11, L11⟩
              · rw [hI'.1]; simp
              · intro x hx; exact hI'.2 x (by simp [hx])
            case measure => simp [slen]; omega
          · have hend : Hid (nearL lo hi m = nearL lo hi P) := by
              show nearL lo hi m = nearL lo hi P
              rw [hI.1, nearL_app, nearL_none (a := y :: S) (fun x hx => ?_), List.append_nil]
              right
              rcases List.mem_cons.1 hx with rfl | hx
              · omega
              · have := (List.pairwise_append.1 hup).2.1
                have := (List.pairwise_cons.1 this).1 x hx
                omega
            clear h L8 hup
            go_wp2_with fail
            go_ret
            exact ⟨a, c, by rw [show nearL lo hi m = nearL lo hi P from hend]; rfl, by rw [show nearL lo hi m = nearL lo hi P from hend]; exact R8⟩
end Tg
end Go.Proofs.Ytkddonmddgfpnaa
namespace Go.Proofs.Ytkddonmddgfpnaa
open Go.ChangeShapes Go.WideShapes Go.ChangeAt Go.RowKit
namespace Tg

set_option maxRecDepth 100000 in
theorem info45 : (Try.prog.info? 57).map (fun i => (i.zero, i.size, i.bytes)) = some (some (.agg #[.int .i64 0, .int .i64 0, .int .i64 0]), 3, 24) := by kernel_rfl
theorem size45 : (Try.prog.info? 57).map (·.size) = some 3 := by kernel_rfl
theorem under45 : ∃ d, Try.prog.underlying 57 = some d ∧ d.isRow = true := ⟨_, Try.underlying57, rfl⟩
theorem Lrn.load45 {w : World} {g : Nat} {x : Rn} (h : Lrn w g x) : (loadVar 57 ⟨g, 0, none⟩).run Try.prog w = .ok (.agg (rnA x)) w := by
  obtain ⟨t, h1, h2⟩ := under45
  have := run_loadVar_mid (P := Try.prog) w g 0 57 (rnA x).toList t (range_rn h (o := 0) (by omega) (fun i _ => by rw [Nat.zero_add])) h1 h2 (by rw [size45]; simp [rnA])
  simpa using this
theorem Lrn.new45 (w : World) (x : Rn) : Lrn (w.alloc (.cells (rnA x) 57)) w.heap.size x := blk_alloc w _ 57 3 _ (fun i hi => by simp [rnA, hi])
/-- A list of pieces of one's own, in memory made since w0. -/
structure Rq (w0 w : World) (a : Option Addr) (cap : Nat) (m : List Rn) : Prop where
  own : w.ownsRow w0.heap.size 57 3 (.slice a m.length cap) m.length (rcells m)
  keep : Keep (fun _ => False) w0 w

theorem Rq.nil (w : World) : Rq w w none 0 [] := ⟨World.ownsRow_nil _ _ _ _, Keep.refl _ _⟩
theorem Rq.more {w0 w w' : World} {a : Option Addr} {cap : Nat} {m : List Rn} (h : Rq w0 w a cap m) (k : Keep (fun _ => False) w w') : Rq w0 w' a cap m := by
  refine ⟨⟨h.own.1, h.own.2.imp id ?_⟩, h.keep.trans k⟩
  rintro ⟨g, c, cur, e, hb, hh, h1, h2, h3, h4⟩
  exact ⟨g, c, cur, e, hb, by rw [k.block g (by by_cases hg : g < w.heap.size; exact hg; simp [Array.getElem?_eq_none (Nat.le_of_not_lt hg)] at hh) (fun e => e)]; exact hh, h1, h2, h3, h4⟩
theorem Rq.other {S : Nat → Prop} {w0 w w' : World} {a : Option Addr} {cap : Nat} {m : List Rn} (h : Rq w0 w a cap m) (k : Keep S w w') (hs : ∀ g, a = some ⟨g, 0, none⟩ → ¬ S g) (h0 : ∀ x, S x → w0.heap.size ≤ x) : Rq w0 w' a cap m := by
  refine ⟨⟨h.own.1, h.own.2.imp id ?_⟩, h.keep.next k (fun x hx e => by have := h0 x e; omega)⟩
  rintro ⟨g, c, cur, e, hb, hh, h1, h2, h3, h4⟩
  injection e with e1 e2 e3
  exact ⟨g, c, cur, by rw [e1, e3], hb, by rw [k.block g (by by_cases hg : g < w.heap.size; exact hg; simp [Array.getElem?_eq_none (Nat.le_of_not_lt hg)] at hh) (hs g e1)]; exact hh, h1, h2, h3, h4⟩
set_option maxRecDepth 100000 in
theorem Rq.block {w0 w : World} {a : Option Addr} {cap : Nat} {m : List Rn} (h : Rq w0 w a cap m) {g : Nat} (e : a = some ⟨g, 0, none⟩) : w0.heap.size ≤ g ∧ g < w.heap.size := by
  have := h.own.lt g (by rw [e]; rfl)
  exact this
set_option maxRecDepth 100000 in
theorem Rq.rs {w0 w : World} {a : Option Addr} {cap : Nat} {m : List Rn} (h : Rq w0 w a cap m) : Rs w a cap m := by
  obtain ⟨h1, h2⟩ := h.own
  rcases h2 with ⟨e, hn⟩ | ⟨g, c, cur, e, hb, hh, hn, hm, hs, ht⟩
  · injection e with e1 e2 e3
    exact ⟨by omega, by omega, Or.inl (List.eq_nil_of_length_eq_zero hn)⟩
  · injection e with e1 e2 e3
    subst e1 e3
    unfold maxLen at hm
    refine ⟨hn, by omega, Or.inr ⟨g, rfl, fun j u hu => ?_⟩⟩
    have := h.own.cells (g := g) rfl j u hu
    rwa [Addr.add_lit, Nat.zero_add] at this
set_option maxRecDepth 100000 in
theorem Rq.appN {w0 w : World} {a : Option Addr} {cap : Nat} {m : List Rn} (h : Rq w0 w a cap m) (x : Addr) (c : Nat) (ns : List Rn) (hl : m.length + ns.length ≤ 1000000) (hnews : ∀ j u, (rcells ns)[j]? = some u → w.cell? (x.add j) = some u) :
    ∃ a' cap' w', (Builtin.append_ #[55, 55] 55 #[.slice a m.length cap, .slice (some x) ns.length c]).run Try.prog w = .ok (.slice a' (m.length + ns.length) cap') w' ∧ Rq w0 w' a' cap' (m ++ ns) ∧ Keep (fun b => w0.heap.size ≤ b) w w' := by
  obtain ⟨i, hi, hz0, hz1, hz2⟩ := info_parts info45
  have hs := h.keep.size
  obtain ⟨v', w', hrun, hown, hgrow, hnil⟩ := run_append_own (P := Try.prog) w w0.heap.size 55 55 57 i _ 3 24 Try.underlying55 hi hz0 hz1 hz2 rfl (by decide) (.slice a m.length cap) m.length (rcells m) h.own
    x ns.length c (rcells ns) (rcells_len ns) hnews (by intro u hu; obtain ⟨y, _, hy⟩ := List.mem_flatMap.1 hu; simp [rcs] at hy; rcases hy with rfl | rfl | rfl <;> rfl) (by unfold maxLen; omega) (by omega) hs
  have hk : Keep (fun b => w0.heap.size ≤ b) w w' := (keep_grown hgrow).mono (fun b _ e => (h.own.lt b e.symm).1)
  have hK : Keep (fun _ => False) w0 w' := h.keep.next hk (fun y hy e => by omega)
  rw [← rcells_app, ← List.length_append] at hown
  have hshape : ∃ a' cap', v' = .slice a' (m ++ ns).length cap' := by
    rcases hown.2 with ⟨e, hn⟩ | ⟨g, c', cur, e, -⟩
    · exact ⟨none, 0, by rw [hn]; exact e⟩
    · exact ⟨_, _, e⟩
  obtain ⟨a', cap', rfl⟩ := hshape
  exact ⟨a', cap', w', by rw [hrun, List.length_append], ⟨hown, hK⟩, hk⟩
theorem Rq.app1 {w0 w : World} {a : Option Addr} {cap : Nat} {m : List Rn} (h : Rq w0 w a cap m) (hl : m.length ≤ 100000) (x : Rn) :
    ∃ a' cap' w', (Builtin.append_ #[55, 55] 55 #[.slice a m.length cap, .slice (some ⟨w.heap.size, 0, none⟩) 1 1]).run Try.prog (w.alloc (.cells #[.int .i64 x.lba, .int .i64 x.len, .int .i64 x.phys] 57)) = .ok (.slice a' (m.length + 1) cap') w' ∧ Rq w0 w' a' cap' (m ++ [x]) := by
  obtain ⟨a', cap', w', h1, h2, -⟩ := (h.more ((Keep.refl (fun _ => False) w).alloc (.cells #[.int .i64 x.lba, .int .i64 x.len, .int .i64 x.phys] 57))).appN ⟨w.heap.size, 0, none⟩ 1 [x] (by simp; omega) (fun j u hu => cells_new w _ 57 j u (by simpa [rcells, rcs] using hu))
  exact ⟨a', cap', w', h1, h2⟩

end Tg
end Go.Proofs.Ytkddonmddgfpnaa
namespace Go.Proofs.Ytkddonmddgfpnaa
open Go.ChangeShapes Go.WideShapes Go.ChangeAt Go.RowKit
namespace Tg

set_option maxRecDepth 100000 in
set_option maxHeartbeats 1000000 in
theorem newMap_any {w : World} {cap N : Nat} (c1 : 1 ≤ cap) (c2 : cap ≤ 512) (n1 : 1 ≤ N) (n2 : N ≤ 512) :
    Calls Try.prog 30 #[.int .i64 (cap : Int), .int .i64 (N : Int)] w fun e w' => ∃ q b p k, e = .returned (.tuple #[.pointer (some ⟨q, 0, none⟩), .int .i64 0]) ∧ Mp w w' q b p k N cap [] := by
  have hA := arena_any w n1 n2
  have d1 : ¬ (cap : Int) < 1 := by omega
  have d2 : ¬ (512 : Int) < cap := by omega
  go_enter Try.func30, Try.ntmps30
  go_upto_region 6 with (go_at_call 47; refine hA.mono ?_; rintro e w1 ⟨p, k, rfl, m1, hp, hk, K1⟩)
  have hT := Mt.new (w := w) n1 n2 m1 hp hk K1
  have hpl := m1.top.lt (by omega)
  have hkl := m1.blk.lt (by show 0 < (Ar.new N).N * 8; show 0 < N * 8; omega)
  clear hA
  go_wp2_with (go_at_call 48; refine hT.mono ?_; rintro e w2 ⟨rfl, T2, k2⟩)
  have k3 : Keep (fun _ => False) w2 (w2.alloc (.cells #[.int .i64 (cap : Int), .pointer (some ⟨p, 0, none⟩), .pointer (some ⟨w1.heap.size, 0, none⟩)] 77)) := (Keep.refl _ _).alloc _
  have hb : Blk (w2.alloc (.cells #[.int .i64 (cap : Int), .pointer (some ⟨p, 0, none⟩), .pointer (some ⟨w1.heap.size, 0, none⟩)] 77)) w2.heap.size 3 (mtop cap p w1.heap.size) := blk_alloc w2 _ 77 3 _ (fun i hi => by rcases three hi with rfl | rfl | rfl <;> rfl)
  have hl := T2.lt
  have hs := k2.size
  have hs1 := K1.size
  have F : Mp w (w2.alloc (.cells #[.int .i64 (cap : Int), .pointer (some ⟨p, 0, none⟩), .pointer (some ⟨w1.heap.size, 0, none⟩)] 77)) w2.heap.size w1.heap.size p k N cap [] :=
    ⟨⟨_, _, T2.more k3, rfl⟩, hb, by omega, by omega, by omega, by omega, Form.nil, Lim.nil _ _, c1, c2, n1, n2⟩
  go_ret2
  exact ⟨_, _, _, _, rfl, F⟩
set_option maxRecDepth 100000 in
set_option maxHeartbeats 1000000 in
theorem newMap_no {w : World} {c n : Int} (h : c < 1 ∨ 512 < c ∨ n < 1 ∨ 512 < n) :
    Calls Try.prog 30 #[.int .i64 c, .int .i64 n] w fun e w' => e = .returned (.tuple #[.pointer none, .int .i64 1]) ∧ Keep (fun _ => False) w w' := by
  have K0 := Keep.refl (fun _ => False) w
  by_cases h1 : c < 1
  · go_enter Try.func30, Try.ntmps30
    go_wp2_with fail
    go_ret2
    exact ⟨rfl, K0⟩
  · by_cases h2 : 512 < c
    · go_enter Try.func30, Try.ntmps30
      go_wp2_with fail
      go_ret2
      exact ⟨rfl, K0⟩
    · have hA := new_no (w := w) (n := n) (by omega)
      clear h
      go_enter Try.func30, Try.ntmps30
      go_wp2_with (go_at_call 47; refine hA.mono ?_; rintro e w1 ⟨rfl, rfl⟩)
      go_ret2
      exact ⟨rfl, K0⟩
end Tg
end Go.Proofs.Ytkddonmddgfpnaa
namespace Go.Proofs.Ytkddonmddgfpnaa
open Go.ChangeShapes Go.WideShapes Go.ChangeAt Go.RowKit
namespace Tg

theorem ceilL_next {k : Int} : ∀ {m : List Rn}, (∀ x ∈ m, x.lba ≠ k) → Tr.ceilL (k + 1) m none = Tr.ceilL k m none
  | [], _ => rfl
  | y :: m, h => by
    have := h y (by simp)
    rw [Tr.ceilL, Tr.ceilL, ceilL_next (fun x hx => h x (by simp [hx]))]
    by_cases c : k ≤ y.lba
    · rw [if_pos c, if_pos (by omega)]
    · rw [if_neg c, if_neg (by omega)]

/-- What the first piece of a range is. -/
structure Pie (m : List Rn) (lo hi : Int) (y : Rn) : Prop where
  lba : y.lba = lo
  len : 1 ≤ y.len
  fin : y.lba + y.len ≤ hi
  phys : -1 ≤ y.phys ∧ y.phys ≤ 1049088
  cut : ∀ b, Cut (page m) hi y.fin b → Cut (page m) hi lo (y :: b)

theorem pie_run {m : List Rn} (h : Form m) {x : Rn} (hx : x ∈ m) {lo hi : Int} (h1 : x.lba ≤ lo) (h2 : lo < x.fin) (h3 : lo < hi) (hb : x.phys + x.len ≤ 1049088) : Pie m lo hi (partR x lo hi) := by
  have hxo := h.1 x hx
  unfold Rn.fin at h2
  have e : partR x lo hi = ⟨lo, min hi x.fin - lo, x.phys + (lo - x.lba)⟩ := by
    unfold partR Rn.fin
    rw [show max lo x.lba = lo by omega]
    congr 1
    · omega
    · omega
  rw [e]
  have hf : (⟨lo, min hi x.fin - lo, x.phys + (lo - x.lba)⟩ : Rn).fin = min hi x.fin := by unfold Rn.fin; simp only; omega
  have hp := hxo.2.2
  refine ⟨rfl, ?_, ?_, ⟨?_, ?_⟩, fun b hb => ?_⟩
  · unfold Rn.fin; simp only; omega
  · unfold Rn.fin; simp only; omega
  · simp only; omega
  · simp only; omega
  · rw [hf] at hb
    exact Cut.run h hx h1 (by unfold Rn.fin; omega) (by omega) (by omega) (by omega) hb
theorem pie_hole {m : List Rn} (h : Form m) {lo hi : Int} (h3 : lo < hi) (hp : page m lo = none) {e : Int} (he : e = match Tr.ceilL (lo + 1) m none with | some x => min hi x.lba | none => hi) : Pie m lo hi ⟨lo, e - lo, -1⟩ ∧ lo < e ∧ e ≤ hi := by
  have hno : ∀ x ∈ m, x.lba ≠ lo := fun x hx c => by
    have := h.page_of hx (s := lo) (by omega) (by have := (h.1 x hx).2.1; unfold Rn.fin; omega)
    rw [hp] at this; cases this
  rw [ceilL_next hno] at he
  have hf : (⟨lo, e - lo, -1⟩ : Rn).fin = e := by unfold Rn.fin; simp only; omega
  have hE : lo < e ∧ e ≤ hi ∧ (∀ s, lo ≤ s → s < e → page m s = none) ∧ (page m e ≠ none ∨ e = hi) := by
    cases hc : Tr.ceilL lo m none with
    | none =>
      rw [hc] at he
      simp only at he
      subst he
      exact ⟨h3, Int.le_refl _, fun s s1 s2 => hole_to h hp s1 (by rw [hc]; intro x hx; cases hx), Or.inr rfl⟩
    | some x =>
      rw [hc] at he
      simp only at he
      obtain ⟨a, b, em, e1, e2⟩ := ceilL_some hc
      have hx : x ∈ m := by rw [em]; simp
      have := hno x hx
      refine ⟨by omega, by omega, fun s s1 s2 => hole_to h hp s1 (by rw [hc]; intro y hy; injection hy with hy; subst hy; omega), ?_⟩
      by_cases c : hi ≤ x.lba
      · right; omega
      · left; rw [show e = x.lba by omega]; exact hole_end h hx
  refine ⟨⟨rfl, by simp only; omega, by simp only; omega, by simp, fun b hb => ?_⟩, hE.1, hE.2.1⟩
  rw [hf] at hb
  exact Cut.hole hE.1 hE.2.1 hE.2.2.1 hE.2.2.2 hb

end Tg
end Go.Proofs.Ytkddonmddgfpnaa
namespace Go.Proofs.Ytkddonmddgfpnaa
open Go.ChangeShapes Go.WideShapes Go.ChangeAt Go.RowKit
namespace Tg

set_option maxRecDepth 100000 in
/-- One piece more, and where the row then lies. -/
theorem Rq.appS {w0 w : World} {a : Option Addr} {cap : Nat} {m : List Rn} (h : Rq w0 w a cap m) (hl : m.length ≤ 100000) (x : Rn) :
    ∃ a' cap' w', (Builtin.append_ #[55, 55] 55 #[.slice a m.length cap, .slice (some ⟨w.heap.size, 0, none⟩) 1 1]).run Try.prog (w.alloc (.cells #[.int .i64 x.lba, .int .i64 x.len, .int .i64 x.phys] 57)) = .ok (.slice a' (m.length + 1) cap') w' ∧ Rq w0 w' a' cap' (m ++ [x]) ∧
      Keep (fun b => a = some ⟨b, 0, none⟩) w w' ∧ (a' = a ∨ ∃ g, a' = some ⟨g, 0, none⟩ ∧ w.heap.size ≤ g) := by
  have hA := (Keep.refl (fun _ => False) w).alloc (.cells #[.int .i64 x.lba, .int .i64 x.len, .int .i64 x.phys] 57)
  have h1 := h.more hA
  have hsz : w.heap.size ≤ (w.alloc (.cells #[.int .i64 x.lba, .int .i64 x.len, .int .i64 x.phys] 57)).heap.size := hA.size
  have hnews : ∀ j u, (rcells [x])[j]? = some u → (w.alloc (.cells #[.int .i64 x.lba, .int .i64 x.len, .int .i64 x.phys] 57)).cell? ((⟨w.heap.size, 0, none⟩ : Addr).add j) = some u := fun j u hu => cells_new w _ 57 j u (by simpa [rcells, rcs] using hu)
  have hone : ∀ u ∈ rcells [x], u.oneCell' = true := by intro u hu; simp [rcells, rcs] at hu; rcases hu with rfl | rfl | rfl <;> rfl
  obtain ⟨i, hi, hz0, hz1, hz2⟩ := info_parts info45
  generalize w.alloc (.cells #[.int .i64 x.lba, .int .i64 x.len, .int .i64 x.phys] 57) = w1 at *
  obtain ⟨v', w', hrun, hown, hgrow, hnil⟩ := run_append_own (P := Try.prog) w1 w0.heap.size 55 55 57 i _ 3 24 Try.underlying55 hi hz0 hz1 hz2 rfl (by decide) (.slice a m.length cap) m.length (rcells m) h1.own
    ⟨w.heap.size, 0, none⟩ 1 1 (rcells [x]) (rcells_len [x]) hnews hone (by unfold maxLen; omega) (by omega) h1.keep.size
  have hk : Keep (fun b => a = some ⟨b, 0, none⟩) w1 w' := (keep_grown hgrow).mono (fun b _ e => by
    rcases h1.own.2 with ⟨e', -⟩ | ⟨g, c, cur, e', -⟩
    · injection e' with e'; subst e'; cases e
    · injection e' with e'; subst e'; injection e with e; subst e; rfl)
  have hK : Keep (fun b => a = some ⟨b, 0, none⟩) w w' := (hA.mono (fun _ _ e => e.elim)).next hk (fun y hy e => e)
  have hK0 : Keep (fun _ => False) w0 w' := h1.keep.next hk (fun y hy e => by have := (h1.block e).1; omega)
  rw [← rcells_app] at hown
  have hshape : ∃ a' cap', v' = .slice a' (m.length + 1) cap' := by
    rcases hown.2 with ⟨e, hn⟩ | ⟨g, c', cur, e, -⟩
    · omega
    · exact ⟨_, _, e⟩
  obtain ⟨a', cap', rfl⟩ := hshape
  refine ⟨a', cap', w', hrun, ⟨by rw [List.length_append]; exact hown, hK0⟩, hK, ?_⟩
  rcases h1.own.2 with ⟨e', hn⟩ | ⟨g, c, cur, e', hb, hh, hnc, hm, hs, ht⟩
  · injection e' with e1 e2 e3
    subst e1 e3
    have hn' := run_append_nil (P := Try.prog) w1 55 55 57 i _ Try.underlying55 hi hz0 ⟨w.heap.size, 0, none⟩ 1 1 (rcells [x]) (by rw [hz1]; rfl) hnews (by omega) (by omega) (by rw [hz2]; omega)
    rw [hn] at hrun
    rw [hn'] at hrun
    injection hrun with hr1 hr2
    injection hr1 with hr1 hr3 hr4
    exact Or.inr ⟨_, hr1.symm, hsz⟩
  · injection e' with e1 e2 e3
    subst e1 e3
    by_cases hroom : m.length + 1 ≤ cap
    · obtain ⟨w'', hf, -, -⟩ := run_append_fits (P := Try.prog) w1 w0.heap.size 55 55 57 i 3 Try.underlying55 hi hz1 g m.length cap (rcells m) h1.own ⟨w.heap.size, 0, none⟩ 1 1 (rcells [x]) (rcells_len [x]) hnews hone hroom
      rw [hf] at hrun
      injection hrun with hr1 hr2
      injection hr1 with hr1 hr3 hr4
      exact Or.inl hr1.symm
    · have hg := run_append_grow (P := Try.prog) w1 55 55 57 i _ Try.underlying55 hi hz0 ⟨g, 0, none⟩ m.length cap (rcells m) (by rw [hz1]; exact rcells_len m) (h1.own.cells (g := g) rfl) ⟨w.heap.size, 0, none⟩ 1 1 (rcells [x]) (by rw [hz1]; rfl) hnews (by omega) (by omega) (growslice_fits (by omega) (by rw [hz2]; omega))
      rw [hg] at hrun
      injection hrun with hr1 hr2
      injection hr1 with hr1 hr3 hr4
      exact Or.inr ⟨_, hr1.symm, hsz⟩

end Tg
end Go.Proofs.Ytkddonmddgfpnaa
