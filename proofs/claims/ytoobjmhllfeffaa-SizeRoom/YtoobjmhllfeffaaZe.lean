/-
  The document's own Good, Rewrites, CallPrograms; sizes held against each other.
-/
import Derived.Test.YtoobjmhllfeffaaZd
namespace Go.Proofs.Ytoobjmhllfeffaa
open Go.ChangeShapes Go.WideShapes Go.ChangeAt Go.RowKit
namespace Tg
theorem blk_cf (w : World) (c : Cf) : Blk (w.alloc (.cells #[.int .i64 c.b, .int .i64 c.p, .int .i64 c.c, .int .i64 c.s, .int .i64 c.m, .int .i64 c.w, .bool c.f] 29)) w.heap.size 7 (ccell c) := blk_alloc w _ 29 7 _ (fun i hi => by
  have : i = 0 ∨ i = 1 ∨ i = 2 ∨ i = 3 ∨ i = 4 ∨ i = 5 ∨ i = 6 := by omega
  rcases this with rfl | rfl | rfl | rfl | rfl | rfl | rfl <;> rfl)
set_option maxRecDepth 100000 in
set_option maxHeartbeats 1000000 in
theorem is_same (w : World) (a0 a1 a2 a3 a4 a5 a6 a7 a8 a9 a10 : Int) : Calls Try.prog 14 #[.agg #[.int .i64 a0, .int .i64 a1, .int .i64 a2, .int .i64 a3, .int .i64 a4, .int .i64 a5, .int .i64 a6, .int .i64 a7, .int .i64 a8, .int .i64 a9, .int .i64 a10], .agg #[.int .i64 a0, .int .i64 a1, .int .i64 a2, .int .i64 a3, .int .i64 a4, .int .i64 a5, .int .i64 a6, .int .i64 a7, .int .i64 a8, .int .i64 a9, .int .i64 a10]] w fun e w' => e = .returned (.bool true) ∧ Keep (fun _ => False) w w' := by
  have K1 : Keep (fun _ => False) w ((w.alloc (.cells #[.int .i64 a0, .int .i64 a1, .int .i64 a2, .int .i64 a3, .int .i64 a4, .int .i64 a5, .int .i64 a6, .int .i64 a7, .int .i64 a8, .int .i64 a9, .int .i64 a10] 24)).alloc (.cells #[.int .i64 a0, .int .i64 a1, .int .i64 a2, .int .i64 a3, .int .i64 a4, .int .i64 a5, .int .i64 a6, .int .i64 a7, .int .i64 a8, .int .i64 a9, .int .i64 a10] 35)) := ((Keep.refl _ _).alloc _).alloc _
  go_enter Try.func14, Try.ntmps14
  go_wp2_with fail
  go_ret
  exact ⟨rfl, K1⟩
set_option maxRecDepth 100000 in
set_option maxHeartbeats 2000000 in
theorem rgood_any (w : World) (c : Cf) : Calls Try.prog 16 #[.agg #[.int .i64 c.b, .int .i64 c.p, .int .i64 c.c, .int .i64 c.s, .int .i64 c.m, .int .i64 c.w, .bool c.f]] w fun e w' => e = .returned (.bool (goodB c)) ∧ Keep (fun _ => False) w w' := by
  have B1 : Blk (w.alloc (.cells #[.int .i64 c.b, .int .i64 c.p, .int .i64 c.c, .int .i64 c.s, .int .i64 c.m, .int .i64 c.w, .bool c.f] 29)) w.heap.size 7 (ccell c) := blk_cf w c
  have K1 : Keep (fun _ => False) w (w.alloc (.cells #[.int .i64 c.b, .int .i64 c.p, .int .i64 c.c, .int .i64 c.s, .int .i64 c.m, .int .i64 c.w, .bool c.f] 29)) := (Keep.refl _ _).alloc _
  have hsp := fun w => rspan_any w c
  cases hs : spanB c with
  | false =>
    have hF : Hid (goodB c = false) := by show goodB c = false; unfold goodB; rw [hs]; rfl
    rw [hs] at hsp
    go_enter Try.func16, Try.ntmps16
    go_upto_region 1 with fail
    generalize w.alloc (.cells #[.int .i64 c.b, .int .i64 c.p, .int .i64 c.c, .int .i64 c.s, .int .i64 c.m, .int .i64 c.w, .bool c.f] 29) = v1 at B1 K1 ⊢
    generalize w.heap.size = g at B1 ⊢
    have cc0 : v1.cell? ⟨g, 0, none⟩ = some (.int .i64 c.b) := (B1 0 (by omega)).1
    have cc1 : v1.cell? ⟨g, 1, none⟩ = some (.int .i64 c.p) := (B1 1 (by omega)).1
    have cc2 : v1.cell? ⟨g, 2, none⟩ = some (.int .i64 c.c) := (B1 2 (by omega)).1
    have cc3 : v1.cell? ⟨g, 3, none⟩ = some (.int .i64 c.s) := (B1 3 (by omega)).1
    have cc4 : v1.cell? ⟨g, 4, none⟩ = some (.int .i64 c.m) := (B1 4 (by omega)).1
    have cc5 : v1.cell? ⟨g, 5, none⟩ = some (.int .i64 c.w) := (B1 5 (by omega)).1
    have cc6 : v1.cell? ⟨g, 6, none⟩ = some (.bool c.f) := (B1 6 (by omega)).1
    clear B1
    go_wp2_with fail
    refine (hsp _).mono ?_
    rintro e v2 ⟨rfl, k2⟩
    clear hsp
    go_wp2_with fail
    go_ret
    exact ⟨by rw [show goodB c = false from hF]; rfl, K1.trans k2⟩
  | true =>
    have hS := span_iff.1 hs
    have hof := fun w => rof_any w hS
    have hbp := bp_bd hS
    have hwn := wn_bd hS
    have hsl := sl_bd hS
    have hmb := mb_bd hS
    have hmm := mm_bd hS
    have hg : goodB c = (decide (4 * wnI c + slI c ≤ c.m) && decide (3 * c.c ≤ (c.b - c.s - mbI c - 8) * c.p) && decide (mrI c < c.b * c.p)) := by unfold goodB; rw [hs, Bool.true_and]
    obtain ⟨b1, b2, p1, p2, s1, s2, c1, c2, w1, w2, w3, m1, m2⟩ := hS
    have q1 := wrapI (x := 4 * wnI c) (by omega) (by omega)
    have q2 := wrapI (x := 4 * wnI c + slI c) (by omega) (by omega)
    have q3 := wrapI (x := 3 * c.c) (by omega) (by omega)
    have q4 := wrapI (x := c.b - c.s) (by omega) (by omega)
    have q5 := wrapI (x := c.b - c.s - mbI c) (by omega) (by omega)
    have q6 := wrapI (x := c.b - c.s - mbI c - 8) (by omega) (by omega)
    have q7 := wrapI (x := (c.b - c.s - mbI c - 8) * c.p) (by omega) (by omega)
    have q8 := wrapI (x := c.b * c.p) (by omega) (by omega)
    obtain ⟨MM, hMM⟩ : ∃ x, x = (c.b - c.s - mbI c - 8) * c.p := ⟨_, rfl⟩
    obtain ⟨BP, hBP⟩ : ∃ x, x = c.b * c.p := ⟨_, rfl⟩
    rw [← hMM, ← hBP] at hg
    replace q7 : IntKind.i64.wrap ((c.b - c.s - mbI c - 8) * c.p) = MM := by rw [hMM]; exact q7
    replace q8 : IntKind.i64.wrap (c.b * c.p) = BP := by rw [hBP]; exact q8
    rw [hs] at hsp
    clear hMM hBP hmm hmb hsl hwn hbp b1 b2 p1 p2 s1 s2 c1 c2 w1 w2 w3 m1 m2 hs
    by_cases a1 : 4 * wnI c + slI c ≤ c.m
    · by_cases a2 : 3 * c.c ≤ MM
      · have hF : Hid (goodB c = decide (mrI c < BP)) := by show goodB c = _; rw [hg, decide_eq_true a1, decide_eq_true a2]; rfl
        clear hg
        go_enter Try.func16, Try.ntmps16
        go_upto_region 1 with fail
        generalize w.alloc (.cells #[.int .i64 c.b, .int .i64 c.p, .int .i64 c.c, .int .i64 c.s, .int .i64 c.m, .int .i64 c.w, .bool c.f] 29) = v1 at B1 K1 ⊢
        generalize w.heap.size = g at B1 ⊢
        have cc0 : v1.cell? ⟨g, 0, none⟩ = some (.int .i64 c.b) := (B1 0 (by omega)).1
        have cc1 : v1.cell? ⟨g, 1, none⟩ = some (.int .i64 c.p) := (B1 1 (by omega)).1
        have cc2 : v1.cell? ⟨g, 2, none⟩ = some (.int .i64 c.c) := (B1 2 (by omega)).1
        have cc3 : v1.cell? ⟨g, 3, none⟩ = some (.int .i64 c.s) := (B1 3 (by omega)).1
        have cc4 : v1.cell? ⟨g, 4, none⟩ = some (.int .i64 c.m) := (B1 4 (by omega)).1
        have cc5 : v1.cell? ⟨g, 5, none⟩ = some (.int .i64 c.w) := (B1 5 (by omega)).1
        have cc6 : v1.cell? ⟨g, 6, none⟩ = some (.bool c.f) := (B1 6 (by omega)).1
        go_wp2_with fail
        refine (hsp _).mono ?_
        rintro e v2 ⟨rfl, k2⟩
        have B2 := B1.keep k2 (fun e => e)
        clear hsp cc0 cc1 cc2 cc3 cc4 cc5 cc6 B1
        have cc0 : v2.cell? ⟨g, 0, none⟩ = some (.int .i64 c.b) := (B2 0 (by omega)).1
        have cc1 : v2.cell? ⟨g, 1, none⟩ = some (.int .i64 c.p) := (B2 1 (by omega)).1
        have cc2 : v2.cell? ⟨g, 2, none⟩ = some (.int .i64 c.c) := (B2 2 (by omega)).1
        have cc3 : v2.cell? ⟨g, 3, none⟩ = some (.int .i64 c.s) := (B2 3 (by omega)).1
        have cc4 : v2.cell? ⟨g, 4, none⟩ = some (.int .i64 c.m) := (B2 4 (by omega)).1
        have cc5 : v2.cell? ⟨g, 5, none⟩ = some (.int .i64 c.w) := (B2 5 (by omega)).1
        have cc6 : v2.cell? ⟨g, 6, none⟩ = some (.bool c.f) := (B2 6 (by omega)).1
        go_wp2_with fail
        refine (hof _).mono ?_
        rintro e v3 ⟨rfl, k3⟩
        have B3 := (B2.keep k3 (fun e => e)).alloc (.cells #[.int .i64 (rbI c), .int .i64 (spI c), .int .i64 (omI c), .int .i64 (obI c), .int .i64 (rpI c), .int .i64 (lpI c), .int .i64 (ebI c), .int .i64 (mbI c), .int .i64 (wnI c), .int .i64 (slI c), .int .i64 (mrI c)] 35)
        have K3 := ((K1.trans k2).trans k3).alloc (.cells #[.int .i64 (rbI c), .int .i64 (spI c), .int .i64 (omI c), .int .i64 (obI c), .int .i64 (rpI c), .int .i64 (lpI c), .int .i64 (ebI c), .int .i64 (mbI c), .int .i64 (wnI c), .int .i64 (slI c), .int .i64 (mrI c)] 35)
        clear hof cc0 cc1 cc2 cc3 cc4 cc5 cc6 B2
        have cc0 : (v3.alloc (.cells #[.int .i64 (rbI c), .int .i64 (spI c), .int .i64 (omI c), .int .i64 (obI c), .int .i64 (rpI c), .int .i64 (lpI c), .int .i64 (ebI c), .int .i64 (mbI c), .int .i64 (wnI c), .int .i64 (slI c), .int .i64 (mrI c)] 35)).cell? ⟨g, 0, none⟩ = some (.int .i64 c.b) := (B3 0 (by omega)).1
        have cc1 : (v3.alloc (.cells #[.int .i64 (rbI c), .int .i64 (spI c), .int .i64 (omI c), .int .i64 (obI c), .int .i64 (rpI c), .int .i64 (lpI c), .int .i64 (ebI c), .int .i64 (mbI c), .int .i64 (wnI c), .int .i64 (slI c), .int .i64 (mrI c)] 35)).cell? ⟨g, 1, none⟩ = some (.int .i64 c.p) := (B3 1 (by omega)).1
        have cc2 : (v3.alloc (.cells #[.int .i64 (rbI c), .int .i64 (spI c), .int .i64 (omI c), .int .i64 (obI c), .int .i64 (rpI c), .int .i64 (lpI c), .int .i64 (ebI c), .int .i64 (mbI c), .int .i64 (wnI c), .int .i64 (slI c), .int .i64 (mrI c)] 35)).cell? ⟨g, 2, none⟩ = some (.int .i64 c.c) := (B3 2 (by omega)).1
        have cc3 : (v3.alloc (.cells #[.int .i64 (rbI c), .int .i64 (spI c), .int .i64 (omI c), .int .i64 (obI c), .int .i64 (rpI c), .int .i64 (lpI c), .int .i64 (ebI c), .int .i64 (mbI c), .int .i64 (wnI c), .int .i64 (slI c), .int .i64 (mrI c)] 35)).cell? ⟨g, 3, none⟩ = some (.int .i64 c.s) := (B3 3 (by omega)).1
        have cc4 : (v3.alloc (.cells #[.int .i64 (rbI c), .int .i64 (spI c), .int .i64 (omI c), .int .i64 (obI c), .int .i64 (rpI c), .int .i64 (lpI c), .int .i64 (ebI c), .int .i64 (mbI c), .int .i64 (wnI c), .int .i64 (slI c), .int .i64 (mrI c)] 35)).cell? ⟨g, 4, none⟩ = some (.int .i64 c.m) := (B3 4 (by omega)).1
        have cc5 : (v3.alloc (.cells #[.int .i64 (rbI c), .int .i64 (spI c), .int .i64 (omI c), .int .i64 (obI c), .int .i64 (rpI c), .int .i64 (lpI c), .int .i64 (ebI c), .int .i64 (mbI c), .int .i64 (wnI c), .int .i64 (slI c), .int .i64 (mrI c)] 35)).cell? ⟨g, 5, none⟩ = some (.int .i64 c.w) := (B3 5 (by omega)).1
        go_wp2_with fail
        go_ret
        exact ⟨by rw [show goodB c = _ from hF]; rfl, K3⟩
      · have hF : Hid (goodB c = false) := by show goodB c = _; rw [hg, decide_eq_true a1, decide_eq_false a2]; rfl
        clear hg
        go_enter Try.func16, Try.ntmps16
        go_upto_region 1 with fail
        generalize w.alloc (.cells #[.int .i64 c.b, .int .i64 c.p, .int .i64 c.c, .int .i64 c.s, .int .i64 c.m, .int .i64 c.w, .bool c.f] 29) = v1 at B1 K1 ⊢
        generalize w.heap.size = g at B1 ⊢
        have cc0 : v1.cell? ⟨g, 0, none⟩ = some (.int .i64 c.b) := (B1 0 (by omega)).1
        have cc1 : v1.cell? ⟨g, 1, none⟩ = some (.int .i64 c.p) := (B1 1 (by omega)).1
        have cc2 : v1.cell? ⟨g, 2, none⟩ = some (.int .i64 c.c) := (B1 2 (by omega)).1
        have cc3 : v1.cell? ⟨g, 3, none⟩ = some (.int .i64 c.s) := (B1 3 (by omega)).1
        have cc4 : v1.cell? ⟨g, 4, none⟩ = some (.int .i64 c.m) := (B1 4 (by omega)).1
        have cc5 : v1.cell? ⟨g, 5, none⟩ = some (.int .i64 c.w) := (B1 5 (by omega)).1
        have cc6 : v1.cell? ⟨g, 6, none⟩ = some (.bool c.f) := (B1 6 (by omega)).1
        go_wp2_with fail
        refine (hsp _).mono ?_
        rintro e v2 ⟨rfl, k2⟩
        have B2 := B1.keep k2 (fun e => e)
        clear hsp cc0 cc1 cc2 cc3 cc4 cc5 cc6 B1
        have cc0 : v2.cell? ⟨g, 0, none⟩ = some (.int .i64 c.b) := (B2 0 (by omega)).1
        have cc1 : v2.cell? ⟨g, 1, none⟩ = some (.int .i64 c.p) := (B2 1 (by omega)).1
        have cc2 : v2.cell? ⟨g, 2, none⟩ = some (.int .i64 c.c) := (B2 2 (by omega)).1
        have cc3 : v2.cell? ⟨g, 3, none⟩ = some (.int .i64 c.s) := (B2 3 (by omega)).1
        have cc4 : v2.cell? ⟨g, 4, none⟩ = some (.int .i64 c.m) := (B2 4 (by omega)).1
        have cc5 : v2.cell? ⟨g, 5, none⟩ = some (.int .i64 c.w) := (B2 5 (by omega)).1
        have cc6 : v2.cell? ⟨g, 6, none⟩ = some (.bool c.f) := (B2 6 (by omega)).1
        go_wp2_with fail
        refine (hof _).mono ?_
        rintro e v3 ⟨rfl, k3⟩
        have B3 := (B2.keep k3 (fun e => e)).alloc (.cells #[.int .i64 (rbI c), .int .i64 (spI c), .int .i64 (omI c), .int .i64 (obI c), .int .i64 (rpI c), .int .i64 (lpI c), .int .i64 (ebI c), .int .i64 (mbI c), .int .i64 (wnI c), .int .i64 (slI c), .int .i64 (mrI c)] 35)
        have K3 := ((K1.trans k2).trans k3).alloc (.cells #[.int .i64 (rbI c), .int .i64 (spI c), .int .i64 (omI c), .int .i64 (obI c), .int .i64 (rpI c), .int .i64 (lpI c), .int .i64 (ebI c), .int .i64 (mbI c), .int .i64 (wnI c), .int .i64 (slI c), .int .i64 (mrI c)] 35)
        clear hof cc0 cc1 cc2 cc3 cc4 cc5 cc6 B2
        have cc0 : (v3.alloc (.cells #[.int .i64 (rbI c), .int .i64 (spI c), .int .i64 (omI c), .int .i64 (obI c), .int .i64 (rpI c), .int .i64 (lpI c), .int .i64 (ebI c), .int .i64 (mbI c), .int .i64 (wnI c), .int .i64 (slI c), .int .i64 (mrI c)] 35)).cell? ⟨g, 0, none⟩ = some (.int .i64 c.b) := (B3 0 (by omega)).1
        have cc1 : (v3.alloc (.cells #[.int .i64 (rbI c), .int .i64 (spI c), .int .i64 (omI c), .int .i64 (obI c), .int .i64 (rpI c), .int .i64 (lpI c), .int .i64 (ebI c), .int .i64 (mbI c), .int .i64 (wnI c), .int .i64 (slI c), .int .i64 (mrI c)] 35)).cell? ⟨g, 1, none⟩ = some (.int .i64 c.p) := (B3 1 (by omega)).1
        have cc2 : (v3.alloc (.cells #[.int .i64 (rbI c), .int .i64 (spI c), .int .i64 (omI c), .int .i64 (obI c), .int .i64 (rpI c), .int .i64 (lpI c), .int .i64 (ebI c), .int .i64 (mbI c), .int .i64 (wnI c), .int .i64 (slI c), .int .i64 (mrI c)] 35)).cell? ⟨g, 2, none⟩ = some (.int .i64 c.c) := (B3 2 (by omega)).1
        have cc3 : (v3.alloc (.cells #[.int .i64 (rbI c), .int .i64 (spI c), .int .i64 (omI c), .int .i64 (obI c), .int .i64 (rpI c), .int .i64 (lpI c), .int .i64 (ebI c), .int .i64 (mbI c), .int .i64 (wnI c), .int .i64 (slI c), .int .i64 (mrI c)] 35)).cell? ⟨g, 3, none⟩ = some (.int .i64 c.s) := (B3 3 (by omega)).1
        have cc4 : (v3.alloc (.cells #[.int .i64 (rbI c), .int .i64 (spI c), .int .i64 (omI c), .int .i64 (obI c), .int .i64 (rpI c), .int .i64 (lpI c), .int .i64 (ebI c), .int .i64 (mbI c), .int .i64 (wnI c), .int .i64 (slI c), .int .i64 (mrI c)] 35)).cell? ⟨g, 4, none⟩ = some (.int .i64 c.m) := (B3 4 (by omega)).1
        have cc5 : (v3.alloc (.cells #[.int .i64 (rbI c), .int .i64 (spI c), .int .i64 (omI c), .int .i64 (obI c), .int .i64 (rpI c), .int .i64 (lpI c), .int .i64 (ebI c), .int .i64 (mbI c), .int .i64 (wnI c), .int .i64 (slI c), .int .i64 (mrI c)] 35)).cell? ⟨g, 5, none⟩ = some (.int .i64 c.w) := (B3 5 (by omega)).1
        go_wp2_with fail
        go_ret
        exact ⟨by rw [show goodB c = _ from hF]; rfl, K3⟩
    · have hF : Hid (goodB c = false) := by show goodB c = _; rw [hg, decide_eq_false a1]; rfl
      clear hg
      go_enter Try.func16, Try.ntmps16
      go_upto_region 1 with fail
      generalize w.alloc (.cells #[.int .i64 c.b, .int .i64 c.p, .int .i64 c.c, .int .i64 c.s, .int .i64 c.m, .int .i64 c.w, .bool c.f] 29) = v1 at B1 K1 ⊢
      generalize w.heap.size = g at B1 ⊢
      have cc0 : v1.cell? ⟨g, 0, none⟩ = some (.int .i64 c.b) := (B1 0 (by omega)).1
      have cc1 : v1.cell? ⟨g, 1, none⟩ = some (.int .i64 c.p) := (B1 1 (by omega)).1
      have cc2 : v1.cell? ⟨g, 2, none⟩ = some (.int .i64 c.c) := (B1 2 (by omega)).1
      have cc3 : v1.cell? ⟨g, 3, none⟩ = some (.int .i64 c.s) := (B1 3 (by omega)).1
      have cc4 : v1.cell? ⟨g, 4, none⟩ = some (.int .i64 c.m) := (B1 4 (by omega)).1
      have cc5 : v1.cell? ⟨g, 5, none⟩ = some (.int .i64 c.w) := (B1 5 (by omega)).1
      have cc6 : v1.cell? ⟨g, 6, none⟩ = some (.bool c.f) := (B1 6 (by omega)).1
      go_wp2_with fail
      refine (hsp _).mono ?_
      rintro e v2 ⟨rfl, k2⟩
      have B2 := B1.keep k2 (fun e => e)
      clear hsp cc0 cc1 cc2 cc3 cc4 cc5 cc6 B1
      have cc0 : v2.cell? ⟨g, 0, none⟩ = some (.int .i64 c.b) := (B2 0 (by omega)).1
      have cc1 : v2.cell? ⟨g, 1, none⟩ = some (.int .i64 c.p) := (B2 1 (by omega)).1
      have cc2 : v2.cell? ⟨g, 2, none⟩ = some (.int .i64 c.c) := (B2 2 (by omega)).1
      have cc3 : v2.cell? ⟨g, 3, none⟩ = some (.int .i64 c.s) := (B2 3 (by omega)).1
      have cc4 : v2.cell? ⟨g, 4, none⟩ = some (.int .i64 c.m) := (B2 4 (by omega)).1
      have cc5 : v2.cell? ⟨g, 5, none⟩ = some (.int .i64 c.w) := (B2 5 (by omega)).1
      have cc6 : v2.cell? ⟨g, 6, none⟩ = some (.bool c.f) := (B2 6 (by omega)).1
      go_wp2_with fail
      refine (hof _).mono ?_
      rintro e v3 ⟨rfl, k3⟩
      have B3 := (B2.keep k3 (fun e => e)).alloc (.cells #[.int .i64 (rbI c), .int .i64 (spI c), .int .i64 (omI c), .int .i64 (obI c), .int .i64 (rpI c), .int .i64 (lpI c), .int .i64 (ebI c), .int .i64 (mbI c), .int .i64 (wnI c), .int .i64 (slI c), .int .i64 (mrI c)] 35)
      have K3 := ((K1.trans k2).trans k3).alloc (.cells #[.int .i64 (rbI c), .int .i64 (spI c), .int .i64 (omI c), .int .i64 (obI c), .int .i64 (rpI c), .int .i64 (lpI c), .int .i64 (ebI c), .int .i64 (mbI c), .int .i64 (wnI c), .int .i64 (slI c), .int .i64 (mrI c)] 35)
      clear hof cc0 cc1 cc2 cc3 cc4 cc5 cc6 B2
      have cc0 : (v3.alloc (.cells #[.int .i64 (rbI c), .int .i64 (spI c), .int .i64 (omI c), .int .i64 (obI c), .int .i64 (rpI c), .int .i64 (lpI c), .int .i64 (ebI c), .int .i64 (mbI c), .int .i64 (wnI c), .int .i64 (slI c), .int .i64 (mrI c)] 35)).cell? ⟨g, 0, none⟩ = some (.int .i64 c.b) := (B3 0 (by omega)).1
      have cc1 : (v3.alloc (.cells #[.int .i64 (rbI c), .int .i64 (spI c), .int .i64 (omI c), .int .i64 (obI c), .int .i64 (rpI c), .int .i64 (lpI c), .int .i64 (ebI c), .int .i64 (mbI c), .int .i64 (wnI c), .int .i64 (slI c), .int .i64 (mrI c)] 35)).cell? ⟨g, 1, none⟩ = some (.int .i64 c.p) := (B3 1 (by omega)).1
      have cc2 : (v3.alloc (.cells #[.int .i64 (rbI c), .int .i64 (spI c), .int .i64 (omI c), .int .i64 (obI c), .int .i64 (rpI c), .int .i64 (lpI c), .int .i64 (ebI c), .int .i64 (mbI c), .int .i64 (wnI c), .int .i64 (slI c), .int .i64 (mrI c)] 35)).cell? ⟨g, 2, none⟩ = some (.int .i64 c.c) := (B3 2 (by omega)).1
      have cc3 : (v3.alloc (.cells #[.int .i64 (rbI c), .int .i64 (spI c), .int .i64 (omI c), .int .i64 (obI c), .int .i64 (rpI c), .int .i64 (lpI c), .int .i64 (ebI c), .int .i64 (mbI c), .int .i64 (wnI c), .int .i64 (slI c), .int .i64 (mrI c)] 35)).cell? ⟨g, 3, none⟩ = some (.int .i64 c.s) := (B3 3 (by omega)).1
      have cc4 : (v3.alloc (.cells #[.int .i64 (rbI c), .int .i64 (spI c), .int .i64 (omI c), .int .i64 (obI c), .int .i64 (rpI c), .int .i64 (lpI c), .int .i64 (ebI c), .int .i64 (mbI c), .int .i64 (wnI c), .int .i64 (slI c), .int .i64 (mrI c)] 35)).cell? ⟨g, 4, none⟩ = some (.int .i64 c.m) := (B3 4 (by omega)).1
      have cc5 : (v3.alloc (.cells #[.int .i64 (rbI c), .int .i64 (spI c), .int .i64 (omI c), .int .i64 (obI c), .int .i64 (rpI c), .int .i64 (lpI c), .int .i64 (ebI c), .int .i64 (mbI c), .int .i64 (wnI c), .int .i64 (slI c), .int .i64 (mrI c)] 35)).cell? ⟨g, 5, none⟩ = some (.int .i64 c.w) := (B3 5 (by omega)).1
      go_wp2_with fail
      go_ret
      exact ⟨by rw [show goodB c = _ from hF]; rfl, K3⟩
set_option maxRecDepth 100000 in
set_option maxHeartbeats 1000000 in
theorem rrew_any (w : World) {c : Cf} (hS : Span c) {n : Int} (h1 : 1 ≤ n) (h2 : n ≤ c.c) : Calls Try.prog 18 #[.agg #[.int .i64 c.b, .int .i64 c.p, .int .i64 c.c, .int .i64 c.s, .int .i64 c.m, .int .i64 c.w, .bool c.f], .int .i64 n] w fun e w' => e = .returned (.int .i64 (rwI c n)) ∧ Keep (fun _ => False) w w' := by
  have B1 : Blk (w.alloc (.cells #[.int .i64 c.b, .int .i64 c.p, .int .i64 c.c, .int .i64 c.s, .int .i64 c.m, .int .i64 c.w, .bool c.f] 29)) w.heap.size 7 (ccell c) := blk_cf w c
  have K1 : Keep (fun _ => False) w (w.alloc (.cells #[.int .i64 c.b, .int .i64 c.p, .int .i64 c.c, .int .i64 c.s, .int .i64 c.m, .int .i64 c.w, .bool c.f] 29)) := (Keep.refl _ _).alloc _
  have hb := rw_bd hS h1 h2
  have hu0 := upI_bd (a := n) (b := c.p) (by have := hS.p1; omega) (by omega)
  have eR : rwI c n = upI n c.p + 3 + 2 * c.s := rfl
  obtain ⟨b1, b2, p1, p2, s1, s2, c1, c2, -⟩ := hS
  have hu := fun w => same_keep (rup_any (a := n) (b := c.p) (by omega) (by omega) (by omega) (by omega) w)
  have q1 := wrapI (x := upI n c.p + 3) (by omega) (by omega)
  have q2 := wrapI (x := 2 * c.s) (by omega) (by omega)
  have q3 : IntKind.i64.wrap (upI n c.p + 3 + 2 * c.s) = rwI c n := by rw [← eR]; exact wrapI (by omega) (by omega)
  clear hb hu0 eR h1 h2 b1 b2 p1 p2 s1 s2 c1 c2
  go_enter Try.func18, Try.ntmps18
  go_upto_region 1 with fail
  generalize w.alloc (.cells #[.int .i64 c.b, .int .i64 c.p, .int .i64 c.c, .int .i64 c.s, .int .i64 c.m, .int .i64 c.w, .bool c.f] 29) = v1 at B1 K1 ⊢
  generalize w.heap.size = g at B1 ⊢
  have D1 := B1.drew
  refine wp_region_noPanic ?_
  refine wp_region_held_drew (S := fun w' => True ∧ w'.cell? ⟨g, 1, none⟩ = some (.int .i64 c.p) ∧ w'.cell? ⟨g, 3, none⟩ = some (.int .i64 c.s)) (by kernel_rfl) (⟨trivial, (D1 1 (by omega)).1, (D1 3 (by omega)).1⟩) (fun hH0 => ?_)
  refine' wpAnyH_take (i := 0) (oi := { dst := some 5, op := Op.move (Operand.tmp 1), type := 3, pos := "ref.go:59", after := #[], guard := none }) (v := _) rfl (by kernel_rfl) (by kernel_rfl) (by kernel_rfl) (fun _ _ _ h => h) (Or.inl ⟨by rfl, ?hyrw0⟩) hH0 ?rrw0
  case hyrw0 => (intro w' hSw; clear hSw; go_simp; try with_reducible rfl)
  simp only [Act.put, List.setIfInBounds_toArray, List.set_cons_zero, List.set_cons_succ]
  refine' wpAnyH_take (i := 1) (oi := { dst := some 6, op := Op.fieldAddr 29 (Operand.tmp 2) 1, type := 0, pos := "ref.go:59", after := #[], guard := none }) (v := _) rfl (by kernel_rfl) (by kernel_rfl) (by kernel_rfl) (fun _ _ _ h => h) (Or.inl ⟨by rfl, ?hyrw1⟩) hH0 ?rrw1
  case hyrw1 => (intro w' hSw; clear hSw; go_simp; try with_reducible rfl)
  simp only [Act.put, List.setIfInBounds_toArray, List.set_cons_zero, List.set_cons_succ]
  refine' wpAnyH_take (i := 2) (oi := { dst := some 7, op := Op.load 3 (Operand.tmp 6), type := 3, pos := "ref.go:59", after := #[{ on := 1, ground := Ground.data }], guard := none }) (v := _) rfl (by kernel_rfl) (by kernel_rfl) (by kernel_rfl) (fun _ _ _ h => h) (Or.inl ⟨by rfl, ?hyrw2⟩) hH0 ?rrw2
  case hyrw2 => (intro w' hSw; obtain ⟨-, z0, z1⟩ := hSw; go_simp; try with_reducible rfl)
  simp only [Act.put, List.setIfInBounds_toArray, List.set_cons_zero, List.set_cons_succ]
  refine' wpAnyH_take (i := 5) (oi := { dst := some 10, op := Op.fieldAddr 29 (Operand.tmp 2) 3, type := 0, pos := "ref.go:59", after := #[], guard := none }) (v := _) rfl (by kernel_rfl) (by kernel_rfl) (by kernel_rfl) (fun _ _ _ h => h) (Or.inl ⟨by rfl, ?hyrw5⟩) hH0 ?rrw5
  case hyrw5 => (intro w' hSw; clear hSw; go_simp; try with_reducible rfl)
  simp only [Act.put, List.setIfInBounds_toArray, List.set_cons_zero, List.set_cons_succ]
  refine' wpAnyH_take (i := 6) (oi := { dst := some 11, op := Op.load 3 (Operand.tmp 10), type := 3, pos := "ref.go:59", after := #[{ on := 5, ground := Ground.data }], guard := none }) (v := _) rfl (by kernel_rfl) (by kernel_rfl) (by kernel_rfl) (fun _ _ _ h => h) (Or.inl ⟨by rfl, ?hyrw6⟩) hH0 ?rrw6
  case hyrw6 => (intro w' hSw; obtain ⟨-, z0, z1⟩ := hSw; go_simp; try with_reducible rfl)
  simp only [Act.put, List.setIfInBounds_toArray, List.set_cons_zero, List.set_cons_succ]
  refine' wpAnyH_take (i := 7) (oi := { dst := some 12, op := Op.binOp BinOp.mul 3 (Operand.const (Value.int IntKind.i64 2)) (Operand.tmp 11) 3, type := 3, pos := "ref.go:59", after := #[{ on := 6, ground := Ground.data }], guard := none }) (v := _) rfl (by kernel_rfl) (by kernel_rfl) (by kernel_rfl) (fun _ _ _ h => h) (Or.inl ⟨by rfl, ?hyrw7⟩) hH0 ?rrw7
  case hyrw7 => (intro w' hSw; clear hSw; go_simp; try with_reducible rfl)
  simp only [Act.put, List.setIfInBounds_toArray, List.set_cons_zero, List.set_cons_succ]
  refine wpAnyH_ready (rs := [3]) (by kernel_rfl) (by simp) ?_
  refine AllReadyH.cons (o := { dst := some 8, op := Op.call { callee := Callee.value (Operand.func 29), args := #[Operand.tmp 5, Operand.tmp 7], argTypes := #[3, 3] }, type := 3, pos := "ref.go:59", after := #[{ on := 0, ground := Ground.data }, { on := 2, ground := Ground.data }], guard := none }) rfl (fun K hK => ?_) AllReadyH.nil
  refine step_call_want (vs := #[.int .i64 n, .int .i64 c.p]) (R := fun u wz => u = .int .i64 (upI n c.p) ∧ Keep (fun _ => False) v1.drew wz) (by rfl) 29 #[Operand.tmp 5, Operand.tmp 7] #[3, 3] rfl (by simp [Act.eval]) call27 (post_of (hu _)) ?_
  rintro _ v2 ⟨rfl, k2⟩
  refine hK.out _ _ (⟨trivial, ((D1.keep k2 (fun e => e)) 1 (by omega)).1, ((D1.keep k2 (fun e => e)) 3 (by omega)).1⟩) (fun hH1 => ?_)
  clear hK K hH0
  simp only [Act.put, List.setIfInBounds_toArray, List.set_cons_zero, List.set_cons_succ]
  refine' wpAnyH_take (i := 4) (oi := { dst := some 9, op := Op.binOp BinOp.add 3 (Operand.tmp 8) (Operand.const (Value.int IntKind.i64 3)) 3, type := 3, pos := "ref.go:59", after := #[{ on := 3, ground := Ground.data }], guard := none }) (v := _) rfl (by kernel_rfl) (by kernel_rfl) (by kernel_rfl) (fun _ _ _ h => h) (Or.inl ⟨by rfl, ?hyrw4⟩) hH1 ?rrw4
  case hyrw4 => (intro w' hSw; clear hSw; go_simp; try with_reducible rfl)
  simp only [Act.put, List.setIfInBounds_toArray, List.set_cons_zero, List.set_cons_succ]
  refine' wpAnyH_take (i := 8) (oi := { dst := some 13, op := Op.binOp BinOp.add 3 (Operand.tmp 9) (Operand.tmp 12) 3, type := 3, pos := "ref.go:59", after := #[{ on := 4, ground := Ground.data }, { on := 7, ground := Ground.data }], guard := none }) (v := _) rfl (by kernel_rfl) (by kernel_rfl) (by kernel_rfl) (fun _ _ _ h => h) (Or.inl ⟨by rfl, ?hyrw8⟩) hH1 ?rrw8
  case hyrw8 => (intro w' hSw; clear hSw; go_simp; try with_reducible rfl)
  simp only [Act.put, List.setIfInBounds_toArray, List.set_cons_zero, List.set_cons_succ]
  refine' wpAnyH_take (i := 9) (oi := { dst := some 4, op := Op.assign (Operand.tmp 13), type := 3, pos := "ref.go:59", after := #[{ on := 8, ground := Ground.data }, { on := 3, ground := Ground.chain }, { on := 0, ground := Ground.phase }, { on := 1, ground := Ground.phase }, { on := 2, ground := Ground.phase }, { on := 3, ground := Ground.phase }, { on := 4, ground := Ground.phase }, { on := 5, ground := Ground.phase }, { on := 6, ground := Ground.phase }, { on := 7, ground := Ground.phase }, { on := 8, ground := Ground.phase }], guard := none }) (v := _) rfl (by kernel_rfl) (by kernel_rfl) (by kernel_rfl) (fun _ _ _ h => h) (Or.inl ⟨by rfl, ?hyrw9⟩) hH1 ?rrw9
  case hyrw9 => (intro w' hSw; clear hSw; go_simp; try with_reducible rfl)
  simp only [Act.put, List.setIfInBounds_toArray, List.set_cons_zero, List.set_cons_succ]
  refine wpAnyH_done (by kernel_rfl) ?_ _
  refine NoPanic.normal ?_
  have HK := K1.trans ((Keep.refl (fun _ => False) v1).drew.trans k2)
  go_wp2_with fail
  go_ret
  exact ⟨rfl, HK⟩
set_option maxRecDepth 100000 in
set_option maxHeartbeats 2000000 in
theorem rcall_any (w : World) {c : Cf} (hS : Span c) {n f : Int} (h1 : 1 ≤ n) (h2 : n ≤ c.c) (h3 : 0 ≤ f) (h4 : f ≤ 1000) : Calls Try.prog 19 #[.agg #[.int .i64 c.b, .int .i64 c.p, .int .i64 c.c, .int .i64 c.s, .int .i64 c.m, .int .i64 c.w, .bool c.f], .int .i64 n, .int .i64 f] w fun e w' => e = .returned (.int .i64 (cpI c n f)) ∧ Keep (fun _ => False) w w' := by
  have B1 : Blk (w.alloc (.cells #[.int .i64 c.b, .int .i64 c.p, .int .i64 c.c, .int .i64 c.s, .int .i64 c.m, .int .i64 c.w, .bool c.f] 29)) w.heap.size 7 (ccell c) := blk_cf w c
  have K1 : Keep (fun _ => False) w (w.alloc (.cells #[.int .i64 c.b, .int .i64 c.p, .int .i64 c.c, .int .i64 c.s, .int .i64 c.m, .int .i64 c.w, .bool c.f] 29)) := (Keep.refl _ _).alloc _
  have hof := fun w => rof_any w hS
  have hrw := fun w => rrew_any w hS h1 h2
  have b1 := rw_bd hS h1 h2
  have b2 := rww_bd hS h1 h2
  have b3 := un_bd hS h1 h2
  have b4 := rc_bd hS h1 h2
  have b5 := rcp_bd hS h1 h2
  have b6 := fp_bd hS h3 h4
  have b7 := sp_bd hS
  have b8 := cp_bd hS h1 h2 h3 h4
  have b9 := rp_bd hS
  have p1 := hS.p1
  have p2 := hS.p2
  have c2 := hS.c2
  have eC : cpI c n f = 4 * (n + rwI c n * c.w + 2 * c.p) + 2 * rcI c n * rpI c + 2 * spI c + 4 * (1 + f) * c.p := rfl
  have eR : rcI c n = 6 + rwI c n + 4 * upI (n + rwI c n * c.w) c.p := rfl
  have hu := fun w => same_keep (rup_any (a := n + rwI c n * c.w) (b := c.p) (by omega) (by omega) (by omega) (by omega) w)
  have q1 := wrapI (x := 6 + rwI c n) (by omega) (by omega)
  have q2 := wrapI (x := rwI c n * c.w) (by omega) (by omega)
  have q3 := wrapI (x := n + rwI c n * c.w) (by omega) (by omega)
  have q4 := wrapI (x := 4 * upI (n + rwI c n * c.w) c.p) (by omega) (by omega)
  have q5 : IntKind.i64.wrap (6 + rwI c n + 4 * upI (n + rwI c n * c.w) c.p) = rcI c n := by rw [← eR]; exact wrapI (by omega) (by omega)
  have q6 := wrapI (x := 2 * c.p) (by omega) (by omega)
  have q7 := wrapI (x := n + rwI c n * c.w + 2 * c.p) (by omega) (by omega)
  have q8 := wrapI (x := 4 * (n + rwI c n * c.w + 2 * c.p)) (by omega) (by omega)
  have q9 := wrapI (x := 2 * rcI c n) (by omega) (by omega)
  have q10 := wrapI (x := 2 * rcI c n * rpI c) (by omega) (by omega)
  have q11 := wrapI (x := 4 * (n + rwI c n * c.w + 2 * c.p) + 2 * rcI c n * rpI c) (by omega) (by omega)
  have q12 := wrapI (x := 2 * spI c) (by omega) (by omega)
  have q13 := wrapI (x := 4 * (n + rwI c n * c.w + 2 * c.p) + 2 * rcI c n * rpI c + 2 * spI c) (by omega) (by omega)
  have q14 := wrapI (x := 1 + f) (by omega) (by omega)
  have q15 := wrapI (x := 4 * (1 + f)) (by omega) (by omega)
  have q16 := wrapI (x := 4 * (1 + f) * c.p) (by omega) (by omega)
  have q17 : IntKind.i64.wrap (4 * (n + rwI c n * c.w + 2 * c.p) + 2 * rcI c n * rpI c + 2 * spI c + 4 * (1 + f) * c.p) = cpI c n f := by rw [← eC]; exact wrapI (by omega) (by omega)
  obtain ⟨RW, hRW⟩ : ∃ x, x = rwI c n * c.w := ⟨_, rfl⟩
  obtain ⟨RR, hRR⟩ : ∃ x, x = 2 * rcI c n * rpI c := ⟨_, rfl⟩
  obtain ⟨FF, hFF⟩ : ∃ x, x = 4 * (1 + f) * c.p := ⟨_, rfl⟩
  rw [← hRW] at hu q3 q4 q5 q7 q8 q11 q13 q17
  rw [← hRR] at q11 q13 q17
  rw [← hFF] at q17
  replace q2 : IntKind.i64.wrap (rwI c n * c.w) = RW := by rw [hRW]; exact q2
  replace q10 : IntKind.i64.wrap (2 * rcI c n * rpI c) = RR := by rw [hRR]; exact q10
  replace q16 : IntKind.i64.wrap (4 * (1 + f) * c.p) = FF := by rw [hFF]; exact q16
  clear hRW hRR hFF eC eR b1 b2 b3 b4 b5 b6 b7 b8 b9 p1 p2 c2 h1 h2 h3 h4 hS
  generalize upI (n + RW) c.p = UN at hu q4 q5
  go_enter Try.func19, Try.ntmps19
  go_upto_region 1 with fail
  generalize w.alloc (.cells #[.int .i64 c.b, .int .i64 c.p, .int .i64 c.c, .int .i64 c.s, .int .i64 c.m, .int .i64 c.w, .bool c.f] 29) = v1 at B1 K1 ⊢
  generalize w.heap.size = g at B1 ⊢
  have cc0 : v1.cell? ⟨g, 0, none⟩ = some (.int .i64 c.b) := (B1 0 (by omega)).1
  have cc1 : v1.cell? ⟨g, 1, none⟩ = some (.int .i64 c.p) := (B1 1 (by omega)).1
  have cc2 : v1.cell? ⟨g, 2, none⟩ = some (.int .i64 c.c) := (B1 2 (by omega)).1
  have cc3 : v1.cell? ⟨g, 3, none⟩ = some (.int .i64 c.s) := (B1 3 (by omega)).1
  have cc4 : v1.cell? ⟨g, 4, none⟩ = some (.int .i64 c.m) := (B1 4 (by omega)).1
  have cc5 : v1.cell? ⟨g, 5, none⟩ = some (.int .i64 c.w) := (B1 5 (by omega)).1
  have cc6 : v1.cell? ⟨g, 6, none⟩ = some (.bool c.f) := (B1 6 (by omega)).1
  go_wp2_with fail
  refine (hof _).mono ?_
  rintro e v2 ⟨rfl, k2⟩
  have B2 := (B1.keep k2 (fun e => e)).alloc (.cells #[.int .i64 (rbI c), .int .i64 (spI c), .int .i64 (omI c), .int .i64 (obI c), .int .i64 (rpI c), .int .i64 (lpI c), .int .i64 (ebI c), .int .i64 (mbI c), .int .i64 (wnI c), .int .i64 (slI c), .int .i64 (mrI c)] 35)
  have K2 := (K1.trans k2).alloc (.cells #[.int .i64 (rbI c), .int .i64 (spI c), .int .i64 (omI c), .int .i64 (obI c), .int .i64 (rpI c), .int .i64 (lpI c), .int .i64 (ebI c), .int .i64 (mbI c), .int .i64 (wnI c), .int .i64 (slI c), .int .i64 (mrI c)] 35)
  have Z2 : Blk (v2.alloc (.cells #[.int .i64 (rbI c), .int .i64 (spI c), .int .i64 (omI c), .int .i64 (obI c), .int .i64 (rpI c), .int .i64 (lpI c), .int .i64 (ebI c), .int .i64 (mbI c), .int .i64 (wnI c), .int .i64 (slI c), .int .i64 (mrI c)] 35)) v2.heap.size 11 (scell [rbI c, spI c, omI c, obI c, rpI c, lpI c, ebI c, mbI c, wnI c, slI c, mrI c]) := blk_alloc v2 _ 35 11 _ (fun i hi => by
    have : i = 0 ∨ i = 1 ∨ i = 2 ∨ i = 3 ∨ i = 4 ∨ i = 5 ∨ i = 6 ∨ i = 7 ∨ i = 8 ∨ i = 9 ∨ i = 10 := by omega
    rcases this with rfl | rfl | rfl | rfl | rfl | rfl | rfl | rfl | rfl | rfl | rfl <;> rfl)
  clear hof cc0 cc1 cc2 cc3 cc4 cc5 cc6 B1
  go_upto_region 2 with fail
  generalize v2.alloc (.cells #[.int .i64 (rbI c), .int .i64 (spI c), .int .i64 (omI c), .int .i64 (obI c), .int .i64 (rpI c), .int .i64 (lpI c), .int .i64 (ebI c), .int .i64 (mbI c), .int .i64 (wnI c), .int .i64 (slI c), .int .i64 (mrI c)] 35) = v3 at B2 K2 Z2 ⊢
  generalize v2.heap.size = h at Z2 ⊢
  have cc0 : v3.cell? ⟨g, 0, none⟩ = some (.int .i64 c.b) := (B2 0 (by omega)).1
  have cc1 : v3.cell? ⟨g, 1, none⟩ = some (.int .i64 c.p) := (B2 1 (by omega)).1
  have cc2 : v3.cell? ⟨g, 2, none⟩ = some (.int .i64 c.c) := (B2 2 (by omega)).1
  have cc3 : v3.cell? ⟨g, 3, none⟩ = some (.int .i64 c.s) := (B2 3 (by omega)).1
  have cc4 : v3.cell? ⟨g, 4, none⟩ = some (.int .i64 c.m) := (B2 4 (by omega)).1
  have cc5 : v3.cell? ⟨g, 5, none⟩ = some (.int .i64 c.w) := (B2 5 (by omega)).1
  have cc6 : v3.cell? ⟨g, 6, none⟩ = some (.bool c.f) := (B2 6 (by omega)).1
  go_wp2_with fail
  refine (hrw _).mono ?_
  rintro e v4 ⟨rfl, k4⟩
  have B4 := B2.keep k4 (fun e => e)
  have Z4 := Z2.keep k4 (fun e => e)
  clear hrw cc0 cc1 cc2 cc3 cc4 cc5 cc6 B2 Z2
  have cc1 : v4.cell? ⟨g, 1, none⟩ = some (.int .i64 c.p) := (B4 1 (by omega)).1
  have cc5 : v4.cell? ⟨g, 5, none⟩ = some (.int .i64 c.w) := (B4 5 (by omega)).1
  go_wp2_with fail
  refine (hu _).mono ?_
  rintro e v5 ⟨rfl, k5⟩
  have B5 := B4.keep k5 (fun e => e)
  have Z5 := Z4.keep k5 (fun e => e)
  clear hu cc1 cc5 B4 Z4
  have cc1 : v5.cell? ⟨g, 1, none⟩ = some (.int .i64 c.p) := (B5 1 (by omega)).1
  have cc5 : v5.cell? ⟨g, 5, none⟩ = some (.int .i64 c.w) := (B5 5 (by omega)).1
  have z1 : v5.cell? ⟨h, 1, none⟩ = some (.int .i64 (spI c)) := (Z5 1 (by omega)).1
  have z4 : v5.cell? ⟨h, 4, none⟩ = some (.int .i64 (rpI c)) := (Z5 4 (by omega)).1
  have HK := (K2.trans k4).trans k5
  go_wp2_with fail
  go_ret
  exact ⟨rfl, HK⟩
end Tg
end Go.Proofs.Ytoobjmhllfeffaa
