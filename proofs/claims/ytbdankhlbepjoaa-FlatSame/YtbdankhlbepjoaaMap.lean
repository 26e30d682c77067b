/-
  A map of runs in memory: what right, over, Get, Count, Capacity, Most, Tree, Arena, Runs, part and join answer.
-/
import Derived.Test.YtbdankhlbepjoaaLayM
import Derived.Test.YtbdankhlbepjoaaRrow
namespace Go.Proofs.Ytbdankhlbepjoaa
open Go.ChangeShapes Go.WideShapes Go.ChangeAt Go.RowKit
namespace Tg

/-- The cells of the map's struct. -/
def mtop (cap p b : Nat) : Nat → Value
  | 0 => .int .i64 (cap : Int)
  | 1 => .pointer (some ⟨p, 0, none⟩)
  | _ => .pointer (some ⟨b, 0, none⟩)
/-- A map that was made since w: its struct in block q, its tree in b, its arena in p and k. -/
structure Mp (w wr : World) (q b p k : Nat) (N cap : Nat) (m : List Rn) : Prop where
  ex : ∃ l t, Mt w wr b p k N l t ∧ t.runs = m
  top : Blk wr q 3 (mtop cap p b)
  qw : w.heap.size ≤ q
  qb : q ≠ b
  qp : q ≠ p
  qk : q ≠ k
  form : Form m
  lim : Lim (cap : Int) 1049088 m
  cap1 : 1 ≤ cap
  cap2 : cap ≤ 512
  N1 : 1 ≤ N
  N2 : N ≤ 512
theorem Mp.more {w wr w' : World} {q b p k N cap : Nat} {m : List Rn} (h : Mp w wr q b p k N cap m) (hk : Keep (fun _ => False) wr w') : Mp w w' q b p k N cap m := by
  obtain ⟨l, t, hT, e⟩ := h.ex
  exact ⟨⟨l, t, hT.more hk, e⟩, h.top.keep hk (fun e => e), h.qw, h.qb, h.qp, h.qk, h.form, h.lim, h.cap1, h.cap2, h.N1, h.N2⟩
theorem Mp.keep {w wr : World} {q b p k N cap : Nat} {m : List Rn} (h : Mp w wr q b p k N cap m) : Keep (fun _ => False) w wr := by
  obtain ⟨l, t, hT, e⟩ := h.ex
  exact hT.keep
theorem Mp.other {S : Nat → Prop} {w wr w' : World} {q b p k N cap : Nat} {m : List Rn} (h : Mp w wr q b p k N cap m) (hk : Keep S wr w') (hs : ∀ x, S x → w.heap.size ≤ x) (hq : ¬ S q) (hb : ¬ S b) (hp : ¬ S p) (hkk : ¬ S k) : Mp w w' q b p k N cap m := by
  obtain ⟨l, t, hT, e⟩ := h.ex
  exact ⟨⟨l, t, hT.other hk hs hb hp hkk, e⟩, h.top.keep hk hq, h.qw, h.qb, h.qp, h.qk, h.form, h.lim, h.cap1, h.cap2, h.N1, h.N2⟩
theorem Mp.lt {w wr : World} {q b p k N cap : Nat} {m : List Rn} (h : Mp w wr q b p k N cap m) : q < wr.heap.size ∧ b < wr.heap.size ∧ p < wr.heap.size ∧ k < wr.heap.size := by
  obtain ⟨l, t, hT, e⟩ := h.ex
  exact ⟨h.top.lt (by omega), hT.lt⟩
theorem Mp.tops {w wr : World} {q b p k N cap : Nat} {m : List Rn} (h : Mp w wr q b p k N cap m) : wr.cell? ⟨q, 0, none⟩ = some (.int .i64 (cap : Int)) ∧ wr.cell? ⟨q, 1, none⟩ = some (.pointer (some ⟨p, 0, none⟩)) ∧ wr.cell? ⟨q, 2, none⟩ = some (.pointer (some ⟨b, 0, none⟩)) :=
  ⟨(h.top 0 (by omega)).1, (h.top 1 (by omega)).1, (h.top 2 (by omega)).1⟩
theorem Mp.len {w wr : World} {q b p k N cap : Nat} {m : List Rn} (h : Mp w wr q b p k N cap m) : m.length ≤ N ∧ m.length ≤ cap := by
  obtain ⟨l, t, hT, rfl⟩ := h.ex
  have := hT.room
  have := h.lim.count h.form (by omega)
  rw [← Tr.views_runs] at *
  simp at *
  omega
theorem Mp.run {w wr : World} {q b p k N cap : Nat} {m : List Rn} (h : Mp w wr q b p k N cap m) {x : Rn} (hx : x ∈ m) : 0 ≤ x.lba ∧ 1 ≤ x.len ∧ 0 ≤ x.phys ∧ x.lba + x.len ≤ (cap : Int) ∧ x.phys + x.len ≤ 1049088 ∧ (cap : Int) ≤ 512 := by
  have h1 := h.form.1 x hx
  have h2 := h.lim x hx
  have := h.cap2
  unfold Rn.fin at h2
  exact ⟨h1.1, h1.2.1, h1.2.2, h2.1, h2.2, by omega⟩

/-- Is a range right? -/
def okR (cap lba n : Int) : Bool := decide (1 ≤ n) && (decide (0 ≤ lba) && decide (n ≤ cap - lba))
theorem okR_iff {cap lba n : Int} : okR cap lba n = true ↔ 1 ≤ n ∧ 0 ≤ lba ∧ n ≤ cap - lba := by simp [okR]

set_option maxRecDepth 100000 in
theorem right_any {w wr : World} {q b p k N cap : Nat} {m : List Rn} (h : Mp w wr q b p k N cap m) (lba n : Int) (hl : lba ≤ 9223372036854775807) :
    Calls Try.prog 40 #[.pointer (some ⟨q, 0, none⟩), .int .i64 lba, .int .i64 n] wr fun e w' => e = .returned (.bool (okR (cap : Int) lba n)) ∧ w' = wr := by
  obtain ⟨t0, -, -⟩ := h.tops
  have hc := h.cap2
  clear h
  unfold okR
  by_cases h1 : 1 ≤ n
  · by_cases h2 : 0 ≤ lba
    · have dw : IntKind.i64.wrap ((cap : Int) - lba) = (cap : Int) - lba := by rw [IntKind.wrap_i64] <;> omega
      go_enter Try.func40, Try.ntmps40
      go_wp2_with fail
      go_ret
      exact ⟨by simp [h1, h2], rfl⟩
    · go_enter Try.func40, Try.ntmps40
      go_wp2_with fail
      go_ret
      exact ⟨by simp; intros; omega, rfl⟩
  · go_enter Try.func40, Try.ntmps40
    go_wp2_with fail
    go_ret
    exact ⟨by simp; intros; omega, rfl⟩

theorem Tr.fl_run (k : Int) : ∀ (t d : Tr), (Tr.fl k t d).run = t.floor k d.run
  | .nil, d => rfl
  | .node i l x r, d => by
    rw [Tr.fl, Tr.floor]
    split
    · rw [if_neg (by omega)]; exact Tr.fl_run k r _
    · rw [if_pos (by omega)]; exact Tr.fl_run k l d
theorem Tr.ce_run (k : Int) : ∀ (t d : Tr), (Tr.ce k t d).run = t.ceil k d.run
  | .nil, d => rfl
  | .node i l x r, d => by
    rw [Tr.ce, Tr.ceil]
    split
    · rw [if_neg (by omega)]; exact Tr.ce_run k l _
    · rw [if_pos (by omega)]; exact Tr.ce_run k r d
theorem Tr.fl_runs {v : Int} {t : Tr} (ho : t.Ord) : (Tr.fl v t .nil).run = Tr.floorL v t.runs none := by
  rw [Tr.fl_run, Tr.floor_eq v t _ (Tr.ord_up.1 ho)]; rfl
theorem Tr.ce_runs {v : Int} {t : Tr} (ho : t.Ord) : (Tr.ce v t .nil).run = Tr.ceilL v t.runs none := by
  rw [Tr.ce_run, Tr.ceil_eq v t _ (Tr.ord_up.1 ho)]; rfl
theorem Mp.floor {w wr : World} {q b p k N cap : Nat} {m : List Rn} (h : Mp w wr q b p k N cap m) (v : Int) :
    Calls Try.prog 55 #[.pointer (some ⟨b, 0, none⟩), .int .i64 v] wr fun e w' => e = .returned (ansV (Tr.floorL v m none)) ∧ Keep (fun _ => False) wr w' := by
  obtain ⟨l, t, hT, rfl⟩ := h.ex
  obtain ⟨s, hs, -⟩ := hT.ex
  rw [← Tr.fl_runs hs.ord]
  exact hT.floor v
theorem Mp.ceil {w wr : World} {q b p k N cap : Nat} {m : List Rn} (h : Mp w wr q b p k N cap m) (v : Int) :
    Calls Try.prog 53 #[.pointer (some ⟨b, 0, none⟩), .int .i64 v] wr fun e w' => e = .returned (ansV (Tr.ceilL v m none)) ∧ Keep (fun _ => False) wr w' := by
  obtain ⟨l, t, hT, rfl⟩ := h.ex
  obtain ⟨s, hs, -⟩ := hT.ex
  rw [← Tr.ce_runs hs.ord]
  exact hT.ceil v

theorem wrapI {x : Int} (h1 : -9223372036854775808 ≤ x) (h2 : x ≤ 9223372036854775807) : IntKind.i64.wrap x = x := by rw [IntKind.wrap_i64] <;> omega

set_option maxRecDepth 100000 in
theorem part_any (w : World) (x : Rn) (a c : Int) (hx : 0 ≤ x.lba ∧ 0 ≤ x.len ∧ 0 ≤ x.phys ∧ x.lba + x.len ≤ 512 ∧ x.phys + x.len ≤ 1049088) (ha : 0 ≤ a ∧ a ≤ 512) (hc : 0 ≤ c ∧ c ≤ 512) :
    Calls Try.prog 50 #[.agg (rnA x), .int .i64 a, .int .i64 c] w fun e w' => e = .returned (.agg (rnA (partR x a c))) ∧ Keep (fun _ => False) w w' := by
  obtain ⟨x1, x2, x3, x4, x5⟩ := hx
  by_cases hA : a < x.lba
  · by_cases hB : c - x.lba ≤ x.len
    · skip
      have hp : partR x a c = ⟨x.lba, c - x.lba, x.phys⟩ := by unfold partR; rw [show max a x.lba = x.lba by omega]; congr 1 <;> omega
      rw [hp]
      have d1 := wrapI (x := c - x.lba) (by omega) (by omega)
      have d2 := wrapI (x := x.lba - x.lba) (by omega) (by omega)
      have d3 := wrapI (x := x.len - (x.lba - x.lba)) (by omega) (by omega)
      have d4 := wrapI (x := x.phys + x.lba) (by omega) (by omega)
      have d5 := wrapI (x := x.phys + x.lba - x.lba) (by omega) (by omega)
      clear hp
      have K := ((Keep.refl (fun _ => False) w).alloc (.cells (rnA x) 55)).alloc (.cells (rnA ⟨x.lba, c - x.lba, x.phys⟩) 55)
      have L := (Lrn.new (w.alloc (.cells (rnA x) 55)) ⟨x.lba, c - x.lba, x.phys⟩).load
      simp only [rnA_lit] at K L ⊢
      rw [show (w.alloc (.cells #[.int .i64 x.lba, .int .i64 x.len, .int .i64 x.phys] 55)).heap.size = w.heap.size + 1 by simp] at L
      go_enter Try.func50, Try.ntmps50
      go_wp2_with fail
      refine bodyPost_ret (v := .agg #[.int .i64 (x.lba), .int .i64 (c - x.lba), .int .i64 (x.phys)]) ?_ rfl ⟨rfl, K⟩
      rw [results_cell rfl]
      simp [asAddr, Result.andThen, L]
    · have hB' : x.len < c - x.lba := by omega
      have hp : partR x a c = ⟨x.lba, x.len, x.phys⟩ := by unfold partR; rw [show max a x.lba = x.lba by omega]; congr 1 <;> omega
      rw [hp]
      have d1 := wrapI (x := c - x.lba) (by omega) (by omega)
      have d2 := wrapI (x := x.lba - x.lba) (by omega) (by omega)
      have d3 := wrapI (x := x.len - (x.lba - x.lba)) (by omega) (by omega)
      have d4 := wrapI (x := x.phys + x.lba) (by omega) (by omega)
      have d5 := wrapI (x := x.phys + x.lba - x.lba) (by omega) (by omega)
      clear hp
      have K := ((Keep.refl (fun _ => False) w).alloc (.cells (rnA x) 55)).alloc (.cells (rnA ⟨x.lba, x.len, x.phys⟩) 55)
      have L := (Lrn.new (w.alloc (.cells (rnA x) 55)) ⟨x.lba, x.len, x.phys⟩).load
      simp only [rnA_lit] at K L ⊢
      rw [show (w.alloc (.cells #[.int .i64 x.lba, .int .i64 x.len, .int .i64 x.phys] 55)).heap.size = w.heap.size + 1 by simp] at L
      go_enter Try.func50, Try.ntmps50
      go_wp2_with fail
      refine bodyPost_ret (v := .agg #[.int .i64 (x.lba), .int .i64 (x.len), .int .i64 (x.phys)]) ?_ rfl ⟨rfl, K⟩
      rw [results_cell rfl]
      simp [asAddr, Result.andThen, L]
  · have hA' : x.lba ≤ a := by omega
    by_cases hB : c - a ≤ x.len - (a - x.lba)
    · skip
      have hp : partR x a c = ⟨a, c - a, x.phys + a - x.lba⟩ := by unfold partR; rw [show max a x.lba = a by omega]; congr 1 <;> omega
      rw [hp]
      have d1 := wrapI (x := c - a) (by omega) (by omega)
      have d2 := wrapI (x := a - x.lba) (by omega) (by omega)
      have d3 := wrapI (x := x.len - (a - x.lba)) (by omega) (by omega)
      have d4 := wrapI (x := x.phys + a) (by omega) (by omega)
      have d5 := wrapI (x := x.phys + a - x.lba) (by omega) (by omega)
      clear hp
      have K := ((Keep.refl (fun _ => False) w).alloc (.cells (rnA x) 55)).alloc (.cells (rnA ⟨a, c - a, x.phys + a - x.lba⟩) 55)
      have L := (Lrn.new (w.alloc (.cells (rnA x) 55)) ⟨a, c - a, x.phys + a - x.lba⟩).load
      simp only [rnA_lit] at K L ⊢
      rw [show (w.alloc (.cells #[.int .i64 x.lba, .int .i64 x.len, .int .i64 x.phys] 55)).heap.size = w.heap.size + 1 by simp] at L
      go_enter Try.func50, Try.ntmps50
      go_wp2_with fail
      refine bodyPost_ret (v := .agg #[.int .i64 (a), .int .i64 (c - a), .int .i64 (x.phys + a - x.lba)]) ?_ rfl ⟨rfl, K⟩
      rw [results_cell rfl]
      simp [asAddr, Result.andThen, L]
    · have hB' : x.len - (a - x.lba) < c - a := by omega
      have hp : partR x a c = ⟨a, x.len - (a - x.lba), x.phys + a - x.lba⟩ := by unfold partR; rw [show max a x.lba = a by omega]; congr 1 <;> omega
      rw [hp]
      have d1 := wrapI (x := c - a) (by omega) (by omega)
      have d2 := wrapI (x := a - x.lba) (by omega) (by omega)
      have d3 := wrapI (x := x.len - (a - x.lba)) (by omega) (by omega)
      have d4 := wrapI (x := x.phys + a) (by omega) (by omega)
      have d5 := wrapI (x := x.phys + a - x.lba) (by omega) (by omega)
      clear hp
      have K := ((Keep.refl (fun _ => False) w).alloc (.cells (rnA x) 55)).alloc (.cells (rnA ⟨a, x.len - (a - x.lba), x.phys + a - x.lba⟩) 55)
      have L := (Lrn.new (w.alloc (.cells (rnA x) 55)) ⟨a, x.len - (a - x.lba), x.phys + a - x.lba⟩).load
      simp only [rnA_lit] at K L ⊢
      rw [show (w.alloc (.cells #[.int .i64 x.lba, .int .i64 x.len, .int .i64 x.phys] 55)).heap.size = w.heap.size + 1 by simp] at L
      go_enter Try.func50, Try.ntmps50
      go_wp2_with fail
      refine bodyPost_ret (v := .agg #[.int .i64 (a), .int .i64 (x.len - (a - x.lba)), .int .i64 (x.phys + a - x.lba)]) ?_ rfl ⟨rfl, K⟩
      rw [results_cell rfl]
      simp [asAddr, Result.andThen, L]
end Tg
end Go.Proofs.Ytbdankhlbepjoaa
