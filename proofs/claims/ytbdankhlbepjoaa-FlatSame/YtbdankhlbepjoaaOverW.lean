/-
  What over, Get, Count, Capacity, Most, Tree, Arena and Runs answer.
-/
import Derived.Test.YtbdankhlbepjoaaJoinW
namespace Go.Proofs.Ytbdankhlbepjoaa
open Go.ChangeShapes Go.WideShapes Go.ChangeAt Go.RowKit
namespace Tg

theorem floorL_mem {k : Int} {x : Rn} : ∀ {m : List Rn} {d : Option Rn}, Tr.floorL k m d = some x → (x ∈ m ∧ x.lba ≤ k) ∨ d = some x
  | [], _, h => Or.inr h
  | y :: m, d, h => by
    rw [Tr.floorL] at h
    rcases floorL_mem h with h | h
    · exact Or.inl ⟨by simp [h.1], h.2⟩
    · split at h
      · next e => injection h with h; subst h; exact Or.inl ⟨by simp, e⟩
      · exact Or.inr h

/-- A run's variable written over, in a region that draws. -/
theorem Lrn.over' {wr w1 w3 : World} {g : Nat} {x : Rn} (h : Lrn w3 g x) (K1 : Keep (fun _ => False) wr w1) (K3 : Keep (fun _ => False) w1 w3) (y : Rn) (hg : wr.heap.size ≤ g) :
    Lrn (((w3.setCell ⟨g, 0, none⟩ (.int .i64 y.lba)).setCell ⟨g, 1, none⟩ (.int .i64 y.len)).setCell ⟨g, 2, none⟩ (.int .i64 y.phys)).drew g y ∧
      Keep (fun _ => False) wr (((w3.setCell ⟨g, 0, none⟩ (.int .i64 y.lba)).setCell ⟨g, 1, none⟩ (.int .i64 y.len)).setCell ⟨g, 2, none⟩ (.int .i64 y.phys)).drew :=
  ⟨(h.put y).more ((Keep.refl _ _).drew), ((((K1.trans K3).setCell (p := ⟨g, 0, none⟩) (Or.inr hg) _).setCell (p := ⟨g, 1, none⟩) (Or.inr hg) _).setCell (p := ⟨g, 2, none⟩) (Or.inr hg) _).drew⟩
set_option maxRecDepth 100000 in
set_option maxHeartbeats 1000000 in
theorem over_any {w wr : World} {q b p k N cap : Nat} {m : List Rn} (h : Mp w wr q b p k N cap m) (v : Int) (hv : v ≤ 9223372036854775807) :
    Calls Try.prog 44 #[.pointer (some ⟨q, 0, none⟩), .int .i64 v] wr fun e w' => ∃ y : Rn, e = .returned (.tuple #[.agg (rnA y), .bool (page m v).isSome]) ∧ (∀ x, page m v = some x → y ∈ m ∧ y.lba ≤ v ∧ v < y.fin ∧ x = y.phys + (v - y.lba)) ∧ Keep (fun _ => False) wr w' := by
  have K1 : Keep (fun _ => False) wr (wr.alloc (.cells (rnA rn0) 55)) := (Keep.refl _ _).alloc _
  have L1 := Lrn.new wr rn0
  have hg1 : wr.heap.size < (wr.alloc (.cells (rnA rn0) 55)).heap.size := by simp
  have hM := h.more K1
  generalize hW : wr.alloc (.cells (rnA rn0) 55) = w1 at K1 L1 hM hg1
  rw [rn0_lit] at hW
  obtain ⟨-, -, t2⟩ := hM.tops
  have hf := hM.floor v
  have hp := page_floor h.form v
  have hmem := fun x => floorL_mem (k := v) (x := x) (m := m) (d := none)
  have hrun := fun x hx => h.run (x := x) hx
  generalize Tr.floorL v m none = o at hf hp hmem
  clear h hM
  unfold ansV at hf
  rw [rnA_lit] at hf
  go_enter Try.func44, Try.ntmps44
  go_upto_region 2 with (go_at_call 55; refine hf.mono ?_; rintro e w2 ⟨rfl, k2⟩)
  have K3 : Keep (fun _ => False) w1 (w2.alloc (.cells (rnA (o.getD rn0)) 55)) := k2.alloc _
  have L3 := Lrn.new w2 (o.getD rn0)
  have hg2 : w1.heap.size ≤ w2.heap.size := k2.size
  rw [rnA_lit] at K3 L3
  generalize w2.alloc (.cells #[.int .i64 (o.getD rn0).lba, .int .i64 (o.getD rn0).len, .int .i64 (o.getD rn0).phys] 55) = w3 at K3 L3 ⊢
  generalize w2.heap.size = g3 at L3 hg2 ⊢
  obtain ⟨w4, hst, L4, k4⟩ := (L1.more K3).over (o.getD rn0)
  obtain ⟨p0, p1, p2⟩ := L3.c
  have hend : ∀ y, o = some y → 0 ≤ y.lba ∧ y.lba ≤ 512 ∧ y ∈ m ∧ y.lba ≤ v := fun y hy => by
    rcases hmem y hy with hy | hy
    · have := hrun y hy.1; exact ⟨by omega, by omega, hy.1, hy.2⟩
    · cases hy
  have L13 := L1.more K3
  have hgg : ¬ wr.heap.size = g3 := by omega
  have u0 : w3.cell? ⟨wr.heap.size, 0, none⟩ = some (.int .i64 0) := (L13 0 (by omega)).1
  have u1 : w3.cell? ⟨wr.heap.size, 1, none⟩ = some (.int .i64 0) := (L13 1 (by omega)).1
  have u2 : w3.cell? ⟨wr.heap.size, 2, none⟩ = some (.int .i64 0) := (L13 2 (by omega)).1
  have z0 : w3.frozen? ⟨wr.heap.size, 0, none⟩ = false := (L13 0 (by omega)).2
  have z1 : w3.frozen? ⟨wr.heap.size, 1, none⟩ = false := (L13 1 (by omega)).2
  have z2 : w3.frozen? ⟨wr.heap.size, 2, none⟩ = false := (L13 2 (by omega)).2
  clear hf hrun hmem t2 k2 L1
  cases o with
  | none =>
    rw [show (none : Option Rn).getD rn0 = rn0 from rfl] at *
    rw [show rn0.lba = 0 from rfl, show rn0.len = 0 from rfl, show rn0.phys = 0 from rfl] at *
    rw [show (none : Option Rn).isSome = false from rfl]
    have pn : Hid (page m v = none) := hp
    clear hst L4 k4 hend L3 hp
    go_region
    obtain ⟨L5, K5⟩ := L13.over' K1 K3 rn0 (Nat.le_refl _)
    simp only [show rn0.lba = 0 from rfl, show rn0.len = 0 from rfl, show rn0.phys = 0 from rfl] at L5 K5
    generalize (((w3.setCell ⟨wr.heap.size, 0, none⟩ (.int .i64 0)).setCell ⟨wr.heap.size, 1, none⟩ (.int .i64 0)).setCell ⟨wr.heap.size, 2, none⟩ (.int .i64 0)).drew = w5 at L5 K5 ⊢
    clear p0 p1 p2 z0 z1 z2 u0 u1 u2
    go_wp2_with fail
    refine bodyPost_ret (v := .tuple #[.agg (rnA rn0), .bool false]) ?_ rfl ⟨rn0, by rw [show page m v = none from pn]; rfl, fun x hx => absurd (hx.symm.trans (show page m v = none from pn)) (by simp), K5⟩
    rw [results_cell_tmp rfl]
    simp [asAddr, Result.andThen, L5.load]
  | some y =>
    obtain ⟨y1, y2, y3, y4⟩ := hend y rfl
    rw [show (some y).getD rn0 = y from rfl] at *
    rw [show (some y).isSome = true from rfl]
    have d1 := wrapI (x := v - y.lba) (by omega) (by omega)
    have hp' : page m v = if v < y.fin then some (y.phys + (v - y.lba)) else none := hp
    have hB : (page m v).isSome = decide (v - y.lba < y.len) := by
      rw [hp']
      unfold Rn.fin
      by_cases c : v < y.lba + y.len
      · rw [if_pos c]; simp; omega
      · rw [if_neg c]; simp; omega
    have hE : ∀ x, page m v = some x → y ∈ m ∧ y.lba ≤ v ∧ v < y.fin ∧ x = y.phys + (v - y.lba) := fun x hx => by
      rw [hp'] at hx
      split at hx
      · next c => injection hx with hx; exact ⟨y3, y4, c, hx.symm⟩
      · cases hx
    have hE' : Hid (∀ x, page m v = some x → y ∈ m ∧ y.lba ≤ v ∧ v < y.fin ∧ x = y.phys + (v - y.lba)) := hE
    have hB' : Hid ((page m v).isSome = decide (v - y.lba < y.len)) := hB
    clear hst L4 k4 hend L3 hp hp' hE hB
    by_cases c : v - y.lba < y.len
    · go_region
      obtain ⟨L5, K5⟩ := L13.over' K1 K3 y (Nat.le_refl _)
      generalize (((w3.setCell ⟨wr.heap.size, 0, none⟩ (.int .i64 y.lba)).setCell ⟨wr.heap.size, 1, none⟩ (.int .i64 y.len)).setCell ⟨wr.heap.size, 2, none⟩ (.int .i64 y.phys)).drew = w5 at L5 K5 ⊢
      clear p0 p1 p2 z0 z1 z2 u0 u1 u2
      go_wp2_with fail
      refine bodyPost_ret (v := .tuple #[.agg (rnA y), .bool true]) ?_ rfl ⟨y, by rw [show (page m v).isSome = decide (v - y.lba < y.len) from hB']; simp [c], hE', K5⟩
      rw [results_cell_tmp rfl]
      simp [asAddr, Result.andThen, L5.load]
    · go_region
      obtain ⟨L5, K5⟩ := L13.over' K1 K3 y (Nat.le_refl _)
      generalize (((w3.setCell ⟨wr.heap.size, 0, none⟩ (.int .i64 y.lba)).setCell ⟨wr.heap.size, 1, none⟩ (.int .i64 y.len)).setCell ⟨wr.heap.size, 2, none⟩ (.int .i64 y.phys)).drew = w5 at L5 K5 ⊢
      clear p0 p1 p2 z0 z1 z2 u0 u1 u2
      go_wp2_with fail
      refine bodyPost_ret (v := .tuple #[.agg (rnA y), .bool false]) ?_ rfl ⟨y, by rw [show (page m v).isSome = decide (v - y.lba < y.len) from hB']; simp; omega, hE', K5⟩
      rw [results_cell_tmp rfl]
      simp [asAddr, Result.andThen, L5.load]

set_option maxRecDepth 100000 in
set_option maxHeartbeats 1000000 in
theorem get_map {w wr : World} {q b p k N cap : Nat} {m : List Rn} (h : Mp w wr q b p k N cap m) (v : Int) (hv : v ≤ 9223372036854775807) :
    Calls Try.prog 21 #[.pointer (some ⟨q, 0, none⟩), .int .i64 v] wr fun e w' => e = .returned (.tuple #[.int .i64 ((page m v).getD 0), .bool (page m v).isSome]) ∧ Keep (fun _ => False) wr w' := by
  have ho := over_any h v hv
  have hrun := fun x hx => h.run (x := x) hx
  clear h
  go_enter Try.func21, Try.ntmps21
  go_upto_region 2 with (go_at_call 44; refine ho.mono ?_; rintro e w2 ⟨y, rfl, hy, k2⟩; rw [rnA_lit])
  have K3 : Keep (fun _ => False) wr (w2.alloc (.cells (rnA y) 55)) := k2.alloc _
  have L3 := Lrn.new w2 y
  rw [rnA_lit] at K3 L3
  generalize w2.alloc (.cells #[.int .i64 y.lba, .int .i64 y.len, .int .i64 y.phys] 55) = w3 at K3 L3 ⊢
  generalize w2.heap.size = g3 at L3 ⊢
  obtain ⟨p0, p1, p2⟩ := L3.c
  clear ho k2 L3
  cases hpg : page m v with
  | none =>
    have hpg' : Hid (page m v = none) := hpg
    clear hy hpg
    rw [show (none : Option Int).isSome = false from rfl]
    go_wp2_with fail
    go_ret2
    exact ⟨by rw [show page m v = none from hpg']; rfl, K3⟩
  | some x =>
    obtain ⟨y1, y2, y3, rfl⟩ := hy x hpg
    obtain ⟨r1, r2, r3, r4, r5, r6⟩ := hrun y y1
    unfold Rn.fin at y3
    have hpg' : Hid (page m v = some (y.phys + (v - y.lba))) := hpg
    clear hy hrun hpg
    rw [show (some (y.phys + (v - y.lba))).isSome = true from rfl]
    have d1 := wrapI (x := y.phys + v) (by omega) (by omega)
    have d2 := wrapI (x := y.phys + v - y.lba) (by omega) (by omega)
    go_wp2_with fail
    go_ret2
    exact ⟨by rw [show page m v = some (y.phys + (v - y.lba)) from hpg', show y.phys + (v - y.lba) = y.phys + v - y.lba by omega]; rfl, K3⟩

set_option maxRecDepth 100000 in
theorem count_any {w wr : World} {q b p k N cap : Nat} {m : List Rn} (h : Mp w wr q b p k N cap m) :
    Calls Try.prog 26 #[.pointer (some ⟨q, 0, none⟩)] wr fun e w' => e = .returned (.int .i64 (m.length : Int)) ∧ w' = wr := by
  obtain ⟨-, -, t2⟩ := h.tops
  obtain ⟨l, t, hT, rfl⟩ := h.ex
  have hl := hT.len
  rw [show t.views.length = t.runs.length by rw [← Tr.views_runs]; simp] at hl
  clear h hT
  go_enter Try.func26, Try.ntmps26
  go_wp2_with (go_at_call 46; refine hl.mono ?_; rintro e w2 ⟨rfl, rfl⟩)
  go_ret
  exact ⟨rfl, rfl⟩
set_option maxRecDepth 100000 in
theorem size_any {w : World} {p k : Nat} {s : Ar} (h : Mem w p k s) :
    Calls Try.prog 57 #[.pointer (some ⟨p, 0, none⟩)] w fun e w' => e = .returned (.int .i64 s.N) ∧ w' = w := by
  obtain ⟨t0, t1, t2, f1, f2⟩ := h.tops
  go_enter Try.func57, Try.ntmps57
  go_wp2
  go_ret
  exact ⟨rfl, rfl⟩
theorem asize_any {w wr : World} {b p k N : Nat} {l : List Nat} {t : Tr} (h : Mt w wr b p k N l t) :
    Calls Try.prog 57 #[.pointer (some ⟨p, 0, none⟩)] wr fun e w' => e = .returned (.int .i64 (N : Int)) ∧ w' = wr := by
  obtain ⟨s, hT, rfl⟩ := h.ex
  exact size_any hT.mem
set_option maxRecDepth 100000 in
theorem most_any {w wr : World} {q b p k N cap : Nat} {m : List Rn} (h : Mp w wr q b p k N cap m) :
    Calls Try.prog 51 #[.pointer (some ⟨q, 0, none⟩)] wr fun e w' => e = .returned (.int .i64 (N : Int)) ∧ w' = wr := by
  obtain ⟨-, t1, -⟩ := h.tops
  obtain ⟨l, t, hT, rfl⟩ := h.ex
  have hl := asize_any hT
  clear h hT
  go_enter Try.func51, Try.ntmps51
  go_wp2_with (go_at_call 57; refine hl.mono ?_; rintro e w2 ⟨rfl, rfl⟩)
  go_ret
  exact ⟨rfl, rfl⟩
set_option maxRecDepth 100000 in
theorem runs_any {w wr : World} {q b p k N cap : Nat} {m : List Rn} (h : Mp w wr q b p k N cap m) :
    Calls Try.prog 24 #[.pointer (some ⟨q, 0, none⟩)] wr fun e w' => e = .returned (.slice (some ⟨wr.heap.size, 0, none⟩) m.length m.length) ∧ Rw w' wr.heap.size (m.length * 3) (rcells m) ∧ Keep (fun _ => False) wr w' := by
  obtain ⟨-, -, t2⟩ := h.tops
  obtain ⟨l, t, hT, rfl⟩ := h.ex
  have hl := hT.all
  rw [show t.views.length = t.runs.length by rw [← Tr.views_runs]; simp] at hl
  clear h hT
  go_enter Try.func24, Try.ntmps24
  go_wp2_with (go_at_call 45; refine hl.mono ?_; rintro e w2 ⟨rfl, h1, h2⟩)
  go_ret
  exact ⟨rfl, h1, h2⟩
end Tg
end Go.Proofs.Ytbdankhlbepjoaa
