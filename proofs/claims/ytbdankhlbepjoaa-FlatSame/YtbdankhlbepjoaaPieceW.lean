/-
  What piece answers: the first piece of a range.
-/
import Derived.Test.YtbdankhlbepjoaaNewW
namespace Go.Proofs.Ytbdankhlbepjoaa
open Go.ChangeShapes Go.WideShapes Go.ChangeAt Go.RowKit
namespace Tg

theorem ceilL_next {k : Int} : ∀ {m : List Rn}, (∀ x ∈ m, x.lba ≠ k) → Tr.ceilL (k + 1) m none = Tr.ceilL k m none
  | [], _ => rfl
  | y :: m, h => by
    have := h y (by simp)
    rw [Tr.ceilL, Tr.ceilL, ceilL_next (fun x hx => h x (by simp [hx]))]
    by_cases c : k ≤ y.lba
    · rw [if_pos c, if_pos (by omega)]
    · rw [if_neg c, if_neg (by omega)]

/-- What the first piece of a range is. -/
structure Pie (m : List Rn) (lo hi : Int) (y : Rn) : Prop where
  lba : y.lba = lo
  len : 1 ≤ y.len
  fin : y.lba + y.len ≤ hi
  phys : -1 ≤ y.phys ∧ y.phys ≤ 1049088
  cut : ∀ b, Cut (page m) hi y.fin b → Cut (page m) hi lo (y :: b)

theorem pie_run {m : List Rn} (h : Form m) {x : Rn} (hx : x ∈ m) {lo hi : Int} (h1 : x.lba ≤ lo) (h2 : lo < x.fin) (h3 : lo < hi) (hb : x.phys + x.len ≤ 1049088) : Pie m lo hi (partR x lo hi) := by
  have hxo := h.1 x hx
  unfold Rn.fin at h2
  have e : partR x lo hi = ⟨lo, min hi x.fin - lo, x.phys + (lo - x.lba)⟩ := by
    unfold partR Rn.fin
    rw [show max lo x.lba = lo by omega]
    congr 1
    · omega
    · omega
  rw [e]
  have hf : (⟨lo, min hi x.fin - lo, x.phys + (lo - x.lba)⟩ : Rn).fin = min hi x.fin := by unfold Rn.fin; simp only; omega
  have hp := hxo.2.2
  refine ⟨rfl, ?_, ?_, ⟨?_, ?_⟩, fun b hb => ?_⟩
  · unfold Rn.fin; simp only; omega
  · unfold Rn.fin; simp only; omega
  · simp only; omega
  · simp only; omega
  · rw [hf] at hb
    exact Cut.run h hx h1 (by unfold Rn.fin; omega) (by omega) (by omega) (by omega) hb
theorem pie_hole {m : List Rn} (h : Form m) {lo hi : Int} (h3 : lo < hi) (hp : page m lo = none) {e : Int} (he : e = match Tr.ceilL (lo + 1) m none with | some x => min hi x.lba | none => hi) : Pie m lo hi ⟨lo, e - lo, -1⟩ ∧ lo < e ∧ e ≤ hi := by
  have hno : ∀ x ∈ m, x.lba ≠ lo := fun x hx c => by
    have := h.page_of hx (s := lo) (by omega) (by have := (h.1 x hx).2.1; unfold Rn.fin; omega)
    rw [hp] at this; cases this
  rw [ceilL_next hno] at he
  have hf : (⟨lo, e - lo, -1⟩ : Rn).fin = e := by unfold Rn.fin; simp only; omega
  have hE : lo < e ∧ e ≤ hi ∧ (∀ s, lo ≤ s → s < e → page m s = none) ∧ (page m e ≠ none ∨ e = hi) := by
    cases hc : Tr.ceilL lo m none with
    | none =>
      rw [hc] at he
      simp only at he
      subst he
      exact ⟨h3, Int.le_refl _, fun s s1 s2 => hole_to h hp s1 (by rw [hc]; intro x hx; cases hx), Or.inr rfl⟩
    | some x =>
      rw [hc] at he
      simp only at he
      obtain ⟨a, b, em, e1, e2⟩ := ceilL_some hc
      have hx : x ∈ m := by rw [em]; simp
      have := hno x hx
      refine ⟨by omega, by omega, fun s s1 s2 => hole_to h hp s1 (by rw [hc]; intro y hy; injection hy with hy; subst hy; omega), ?_⟩
      by_cases c : hi ≤ x.lba
      · right; omega
      · left; rw [show e = x.lba by omega]; exact hole_end h hx
  refine ⟨⟨rfl, by simp only; omega, by simp only; omega, by simp, fun b hb => ?_⟩, hE.1, hE.2.1⟩
  rw [hf] at hb
  exact Cut.hole hE.1 hE.2.1 hE.2.2.1 hE.2.2.2 hb

set_option maxRecDepth 100000 in
set_option maxHeartbeats 2000000 in
theorem piece_any {w wr : World} {q b p k N cap : Nat} {m : List Rn} (h : Mp w wr q b p k N cap m) {lo hi : Int} (h0 : 0 ≤ lo) (h1 : lo < hi) (h2 : hi ≤ (cap : Int)) :
    Calls Try.prog 42 #[.pointer (some ⟨q, 0, none⟩), .int .i64 lo, .int .i64 hi] wr fun e w' => ∃ y : Rn, e = .returned (.agg (rnA y)) ∧ Pie m lo hi y ∧ Keep (fun _ => False) wr w' := by
  have hcap := h.cap2
  have K1 : Keep (fun _ => False) wr (wr.alloc (.cells (rnA rn0) 56)) := (Keep.refl _ _).alloc _
  have L1 := Lrn.new45 wr rn0
  have hg1 : wr.heap.size < (wr.alloc (.cells (rnA rn0) 56)).heap.size := by simp
  have hM := h.more K1
  generalize hW : wr.alloc (.cells (rnA rn0) 56) = w1 at K1 L1 hM hg1
  rw [rn0_lit] at hW
  have ho := over_any hM lo (by omega)
  cases hpg : page m lo with
  | some x =>
    rw [hpg, show (some x).isSome = true from rfl] at ho
    go_enter Try.func42, Try.ntmps42
    go_upto_region 2 with (go_at_call 44; refine ho.mono ?_; rintro e w2 ⟨y, rfl, hy, k2⟩; rw [rnA_lit])
    obtain ⟨y1, y2, y3, -⟩ := hy x rfl
    have yr := h.run y1
    have K3 : Keep (fun _ => False) w1 (w2.alloc (.cells (rnA y) 55)) := k2.alloc _
    have L3 := Lrn.new w2 y
    rw [rnA_lit] at K3 L3
    generalize w2.alloc (.cells #[.int .i64 y.lba, .int .i64 y.len, .int .i64 y.phys] 55) = w3 at K3 L3 ⊢
    generalize w2.heap.size = g3 at L3 ⊢
    obtain ⟨p0, p1, p2⟩ := L3.c
    have hpart := part_any w3 y lo hi ⟨by omega, by omega, by omega, by omega, by omega⟩ ⟨by omega, by omega⟩ ⟨by omega, by omega⟩
    have hPie := pie_run h.form y1 y2 y3 h1 (by omega)
    have hPie' : Hid (Pie m lo hi (partR y lo hi)) := hPie
    generalize partR y lo hi = z at hpart hPie hPie'
    rw [rnA_lit, rnA_lit] at hpart
    clear ho hy hpg k2 hPie y1 y2 y3 yr L3 hM h
    go_upto_region 7 with (go_at_call 50; refine hpart.mono ?_; rintro e w4 ⟨rfl, k4⟩; have L4 := (L1.more K3).more k4; have u0 : w4.cell? ⟨wr.heap.size, 0, none⟩ = some (.int .i64 0) := (L4 0 (by omega)).1; have u1 : w4.cell? ⟨wr.heap.size, 1, none⟩ = some (.int .i64 0) := (L4 1 (by omega)).1; have u2 : w4.cell? ⟨wr.heap.size, 2, none⟩ = some (.int .i64 0) := (L4 2 (by omega)).1; have z0 := (L4 0 (by omega)).2; have z1 := (L4 1 (by omega)).2; have z2 := (L4 2 (by omega)).2)
    have L5 := (L4.put z).load45
    have K5 : Keep (fun _ => False) wr (w4.setCells wr.heap.size 0 ((List.range 3).map (rcell z))) := ((K1.trans K3).trans k4).setCells (Or.inr (Nat.le_refl _)) _ _
    refine bodyPost_ret (v := .agg (rnA z)) ?_ rfl ⟨z, rfl, hPie', K5⟩
    rw [results_cell rfl]
    simp only [asAddr, Array.getD_eq_getD_getElem?, List.getElem?_toArray, List.getElem?_cons_succ, List.getElem?_cons_zero, Option.getD_some, Result.andThen]
    exact L5
  | none =>
    rw [hpg, show (none : Option Int).isSome = false from rfl] at ho
    have hpg' : Hid (page m lo = none) := hpg
    go_enter Try.func42, Try.ntmps42
    go_upto_region 4 with (go_at_call 44; refine ho.mono ?_; rintro e w2 ⟨y, rfl, hy, k2⟩; rw [rnA_lit])
    have K3 : Keep (fun _ => False) w1 (w2.alloc (.cells (rnA y) 55)) := k2.alloc _
    rw [rnA_lit] at K3
    generalize w2.alloc (.cells #[.int .i64 y.lba, .int .i64 y.len, .int .i64 y.phys] 55) = w3 at K3 ⊢
    generalize w2.heap.size = g3
    have M3 := hM.more K3
    obtain ⟨-, -, t2⟩ := M3.tops
    have hce := M3.ceil (lo + 1)
    have d1 := wrapI (x := lo + 1) (by omega) (by omega)
    have hmem := fun x => ceilL_some (k := lo + 1) (x := x) (m := m)
    have hPie := fun e => pie_hole (e := e) h.form h1 hpg
    have hrun := fun x hx => h.run (x := x) hx
    clear ho hy hpg k2 hM M3 h
    generalize Tr.ceilL (lo + 1) m none = o at hce hmem hPie
    unfold ansV at hce
    rw [rnA_lit] at hce
    cases o with
    | none =>
      have hP := (hPie hi rfl).1
      have hPie' : Hid (Pie m lo hi ⟨lo, hi - lo, -1⟩) := hP
      have d2 := wrapI (x := hi - lo) (by omega) (by omega)
      rw [show (none : Option Rn).isSome = false from rfl, show (none : Option Rn).getD rn0 = rn0 from rfl, show rn0.lba = 0 from rfl, show rn0.len = 0 from rfl, show rn0.phys = 0 from rfl] at hce
      clear hP hPie hmem hrun
      go_upto_region 7 with (go_at_call 53; refine hce.mono ?_; rintro e w5 ⟨rfl, k5⟩)
      have K4 : Keep (fun _ => False) w1 (w5.alloc (.cells (rnA rn0) 55)) := (K3.trans k5).alloc _
      rw [rn0_lit] at K4
      generalize w5.alloc (.cells #[.int .i64 0, .int .i64 0, .int .i64 0] 55) = w4 at K4 ⊢
      have L4 := L1.more K4
      have u0 : w4.cell? ⟨wr.heap.size, 0, none⟩ = some (.int .i64 0) := (L4 0 (by omega)).1
      have u1 : w4.cell? ⟨wr.heap.size, 1, none⟩ = some (.int .i64 0) := (L4 1 (by omega)).1
      have u2 : w4.cell? ⟨wr.heap.size, 2, none⟩ = some (.int .i64 0) := (L4 2 (by omega)).1
      have z0 := (L4 0 (by omega)).2
      have z1 := (L4 1 (by omega)).2
      have z2 := (L4 2 (by omega)).2
      clear hce
      go_wp2_with fail
      have L5 := (L4.put ⟨lo, hi - lo, -1⟩).load45
      have K5 : Keep (fun _ => False) wr (w4.setCells wr.heap.size 0 ((List.range 3).map (rcell ⟨lo, hi - lo, -1⟩))) := (K1.trans K4).setCells (Or.inr (Nat.le_refl _)) _ _
      refine bodyPost_ret (v := .agg (rnA ⟨lo, hi - lo, -1⟩)) ?_ rfl ⟨⟨lo, hi - lo, -1⟩, rfl, hPie', K5⟩
      rw [results_cell rfl]
      simp only [asAddr, Array.getD_eq_getD_getElem?, List.getElem?_toArray, List.getElem?_cons_succ, List.getElem?_cons_zero, Option.getD_some, Result.andThen]
      exact L5
    | some x =>
      obtain ⟨hP, he1, he2⟩ := hPie (min hi x.lba) rfl
      have hxm : x ∈ m := by obtain ⟨a, b, e, -⟩ := hmem x rfl; rw [e]; simp
      have xr := hrun x hxm
      have hPie' : Hid (Pie m lo hi ⟨lo, min hi x.lba - lo, -1⟩) := hP
      rw [show (some x).isSome = true from rfl, show (some x).getD rn0 = x from rfl] at hce
      clear hP hPie hmem hrun
      go_upto_region 6 with (go_at_call 53; refine hce.mono ?_; rintro e w5 ⟨rfl, k5⟩)
      have K4 : Keep (fun _ => False) w1 (w5.alloc (.cells (rnA x) 55)) := (K3.trans k5).alloc _
      have L3 := Lrn.new w5 x
      rw [rnA_lit] at K4 L3
      generalize w5.alloc (.cells #[.int .i64 x.lba, .int .i64 x.len, .int .i64 x.phys] 55) = w4 at K4 L3 ⊢
      generalize w5.heap.size = g4 at L3 ⊢
      obtain ⟨p0, p1, p2⟩ := L3.c
      have L4 := L1.more K4
      have u0 : w4.cell? ⟨wr.heap.size, 0, none⟩ = some (.int .i64 0) := (L4 0 (by omega)).1
      have u1 : w4.cell? ⟨wr.heap.size, 1, none⟩ = some (.int .i64 0) := (L4 1 (by omega)).1
      have u2 : w4.cell? ⟨wr.heap.size, 2, none⟩ = some (.int .i64 0) := (L4 2 (by omega)).1
      have z0 := (L4 0 (by omega)).2
      have z1 := (L4 1 (by omega)).2
      have z2 := (L4 2 (by omega)).2
      clear hce L3
      by_cases cx : hi ≤ x.lba
      · rw [show min hi x.lba = hi by omega] at hPie'
        have d2 := wrapI (x := hi - lo) (by omega) (by omega)
        clear he1 he2
        go_wp2_with fail
        have L5 := (L4.put ⟨lo, hi - lo, -1⟩).load45
        have K5 : Keep (fun _ => False) wr (w4.setCells wr.heap.size 0 ((List.range 3).map (rcell ⟨lo, hi - lo, -1⟩))) := (K1.trans K4).setCells (Or.inr (Nat.le_refl _)) _ _
        refine bodyPost_ret (v := .agg (rnA ⟨lo, hi - lo, -1⟩)) ?_ rfl ⟨⟨lo, hi - lo, -1⟩, rfl, hPie', K5⟩
        rw [results_cell rfl]
        simp only [asAddr, Array.getD_eq_getD_getElem?, List.getElem?_toArray, List.getElem?_cons_succ, List.getElem?_cons_zero, Option.getD_some, Result.andThen]
        exact L5
      · rw [show min hi x.lba = x.lba by omega] at hPie'
        have cx' : x.lba < hi := by omega
        have d2 := wrapI (x := x.lba - lo) (by omega) (by omega)
        clear he1 he2 cx
        go_wp2_with fail
        have L5 := (L4.put ⟨lo, x.lba - lo, -1⟩).load45
        have K5 : Keep (fun _ => False) wr (w4.setCells wr.heap.size 0 ((List.range 3).map (rcell ⟨lo, x.lba - lo, -1⟩))) := (K1.trans K4).setCells (Or.inr (Nat.le_refl _)) _ _
        refine bodyPost_ret (v := .agg (rnA ⟨lo, x.lba - lo, -1⟩)) ?_ rfl ⟨⟨lo, x.lba - lo, -1⟩, rfl, hPie', K5⟩
        rw [results_cell rfl]
        simp only [asAddr, Array.getD_eq_getD_getElem?, List.getElem?_toArray, List.getElem?_cons_succ, List.getElem?_cons_zero, Option.getD_some, Result.andThen]
        exact L5
end Tg
end Go.Proofs.Ytbdankhlbepjoaa
