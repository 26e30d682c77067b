/-
  The program's within, up, lenOf, inSpans.
-/
import Derived.Test.YtoobjmhllfeffaaZn
import Derived.Test.YtoobjmhllfeffaaZe
import Derived.Deep.CutBlock
namespace Go.Proofs.Ytoobjmhllfeffaa
open Go.ChangeShapes Go.WideShapes Go.ChangeAt Go.RowKit
namespace Tg
theorem within_yes {v a b : Int} (h1 : a ≤ v) (h2 : v ≤ b) (w : World) : Calls Try.prog 24 #[.int .i64 v, .int .i64 a, .int .i64 b] w fun e w' => e = .returned (.bool true) ∧ w' = w := by
  go_enter Try.func24, Try.ntmps24
  go_wp2_with fail
  go_ret
  exact ⟨rfl, rfl⟩
theorem within_no {v a b : Int} (h : ¬ (a ≤ v ∧ v ≤ b)) (w : World) : Calls Try.prog 24 #[.int .i64 v, .int .i64 a, .int .i64 b] w fun e w' => e = .returned (.bool false) ∧ w' = w := by
  by_cases h1 : a ≤ v
  · have h2 : ¬ v ≤ b := fun x => h ⟨h1, x⟩
    clear h
    go_enter Try.func24, Try.ntmps24
    go_wp2_with fail
    go_ret
    exact ⟨rfl, rfl⟩
  · clear h
    go_enter Try.func24, Try.ntmps24
    go_wp2_with fail
    go_ret
    exact ⟨rfl, rfl⟩
theorem up_any {a b : Int} (ha : 0 ≤ a) (hb : 1 ≤ b) (h1 : a ≤ 1000000000) (h2 : b ≤ 1000000000) (w : World) : Calls Try.prog 33 #[.int .i64 a, .int .i64 b] w fun e w' => e = .returned (.int .i64 (upI a b)) ∧ w' = w := by
  have q1 := wrapI (x := a + b) (by omega) (by omega)
  have q2 := wrapI (x := a + b - 1) (by omega) (by omega)
  have q3 : (a + b - 1).tdiv b = upI a b := by unfold upI; rw [Int.tdiv_eq_ediv_of_nonneg (by omega)]
  have hu := upI_bd hb ha
  have q4 := wrapI (x := upI a b) (by omega) (by omega)
  have q5 : ¬ b = 0 := by omega
  generalize upI a b = r at *
  clear ha hb h1 h2 hu
  go_enter Try.func33, Try.ntmps33
  go_wp2_with fail
  go_ret
  exact ⟨rfl, rfl⟩
theorem lenOf_any {v : Int} (h0 : 0 ≤ v) (h1 : v < 16384) (w : World) : Calls Try.prog 35 #[.int .i64 v] w fun e w' => e = .returned (.int .i64 (lV v)) ∧ w' = w := by
  have hp := fun w => vlen_any h0 h1 w
  have e3 : IntKind.u64.wrap v = v := by rw [IntKind.wrap_u64]; omega
  generalize lV v = r at hp ⊢
  clear h0 h1
  go_enter Try.func35, Try.ntmps35
  go_wp2_with fail
  refine (hp _).mono ?_
  rintro e w1 ⟨rfl, e1⟩
  subst e1
  clear hp
  go_wp2_with fail
  go_ret
  exact ⟨rfl, rfl⟩
set_option maxRecDepth 100000 in
set_option maxHeartbeats 2000000 in
theorem inSpans_any (w : World) (c : Cf) : Calls Try.prog 21 #[.agg #[.int .i64 c.b, .int .i64 c.p, .int .i64 c.c, .int .i64 c.s, .int .i64 c.m, .int .i64 c.w, .bool c.f]] w fun e w' => e = .returned (.bool (spanB c)) ∧ Keep (fun _ => False) w w' := by
  have B1 : Blk (w.alloc (.cells #[.int .i64 c.b, .int .i64 c.p, .int .i64 c.c, .int .i64 c.s, .int .i64 c.m, .int .i64 c.w, .bool c.f] 29)) w.heap.size 7 (ccell c) := blk_cf w c
  have K1 : Keep (fun _ => False) w (w.alloc (.cells #[.int .i64 c.b, .int .i64 c.p, .int .i64 c.c, .int .i64 c.s, .int .i64 c.m, .int .i64 c.w, .bool c.f] 29)) := (Keep.refl _ _).alloc _
  by_cases h0 : 8 ≤ c.b ∧ c.b ≤ 64
  · skip
    by_cases h1 : 4 ≤ c.p ∧ c.p ≤ 32
    · skip
      by_cases h2 : 0 ≤ c.s ∧ c.s ≤ 4
      · skip
        by_cases h3 : 1 ≤ c.c ∧ c.c ≤ 512
        · skip
          by_cases hm : c.c < c.p
          · skip
            by_cases h4 : 1 ≤ c.w ∧ c.w ≤ c.c
            · skip
              by_cases h5 : 1 ≤ c.m ∧ c.m ≤ 512
              · skip
                have W0 := fun w => within_yes (v := c.b) (a := 8) (b := 64) h0.1 h0.2 w
                have W1 := fun w => within_yes (v := c.p) (a := 4) (b := 32) h1.1 h1.2 w
                have W2 := fun w => within_yes (v := c.s) (a := 0) (b := 4) h2.1 h2.2 w
                have W3 := fun w => within_yes (v := c.c) (a := 1) (b := 512) h3.1 h3.2 w
                have W4 := fun w => within_yes (v := c.w) (a := 1) (b := c.c) h4.1 h4.2 w
                have W5 := fun w => within_yes (v := c.m) (a := 1) (b := 512) h5.1 h5.2 w
                have hF : Hid (spanB c = true) := by
                  show spanB c = true
                  rw [span_iff]; exact ⟨h0.1, h0.2, h1.1, h1.2, h2.1, h2.2, h3.1, h3.2, h4.1, by omega, by omega, h5.1, h5.2⟩
                clear h0 h1 h2 h3 h4 h5
                go_enter Try.func21, Try.ntmps21
                go_upto_region 1 with fail
                generalize w.alloc (.cells #[.int .i64 c.b, .int .i64 c.p, .int .i64 c.c, .int .i64 c.s, .int .i64 c.m, .int .i64 c.w, .bool c.f] 29) = v1 at B1 K1 ⊢
                generalize w.heap.size = g at B1 ⊢
                have cc0 : v1.cell? ⟨g, 0, none⟩ = some (.int .i64 c.b) := (B1 0 (by omega)).1
                have cc1 : v1.cell? ⟨g, 1, none⟩ = some (.int .i64 c.p) := (B1 1 (by omega)).1
                have cc2 : v1.cell? ⟨g, 2, none⟩ = some (.int .i64 c.c) := (B1 2 (by omega)).1
                have cc3 : v1.cell? ⟨g, 3, none⟩ = some (.int .i64 c.s) := (B1 3 (by omega)).1
                have cc4 : v1.cell? ⟨g, 4, none⟩ = some (.int .i64 c.m) := (B1 4 (by omega)).1
                have cc5 : v1.cell? ⟨g, 5, none⟩ = some (.int .i64 c.w) := (B1 5 (by omega)).1
                have cc6 : v1.cell? ⟨g, 6, none⟩ = some (.bool c.f) := (B1 6 (by omega)).1
                go_wp2_with fail
                refine (W0 _).mono ?_
                rintro e z0 ⟨rfl, e0⟩
                have e0 := e0.symm
                subst e0
                clear W0
                go_wp2_with fail
                refine (W1 _).mono ?_
                rintro e z1 ⟨rfl, e0⟩
                have e0 := e0.symm
                subst e0
                clear W1
                go_wp2_with fail
                refine (W2 _).mono ?_
                rintro e z2 ⟨rfl, e0⟩
                have e0 := e0.symm
                subst e0
                clear W2
                go_wp2_with fail
                refine (W3 _).mono ?_
                rintro e z3 ⟨rfl, e0⟩
                have e0 := e0.symm
                subst e0
                clear W3
                go_wp2_with fail
                refine (W4 _).mono ?_
                rintro e z4 ⟨rfl, e0⟩
                have e0 := e0.symm
                subst e0
                clear W4
                go_wp2_with fail
                refine (W5 _).mono ?_
                rintro e z5 ⟨rfl, e0⟩
                have e0 := e0.symm
                subst e0
                clear W5
                go_wp2_with fail
                go_ret
                exact ⟨by rw [show spanB c = _ from hF]; rfl, K1⟩
              · skip
                have W0 := fun w => within_yes (v := c.b) (a := 8) (b := 64) h0.1 h0.2 w
                have W1 := fun w => within_yes (v := c.p) (a := 4) (b := 32) h1.1 h1.2 w
                have W2 := fun w => within_yes (v := c.s) (a := 0) (b := 4) h2.1 h2.2 w
                have W3 := fun w => within_yes (v := c.c) (a := 1) (b := 512) h3.1 h3.2 w
                have W4 := fun w => within_yes (v := c.w) (a := 1) (b := c.c) h4.1 h4.2 w
                have W5 := fun w => within_no (v := c.m) (a := 1) (b := 512) h5 w
                have hF : Hid (spanB c = false) := by
                  show spanB c = false
                  rw [Bool.eq_false_iff]; intro e; have := span_iff.1 e; exact h5 ⟨this.m1, this.m2⟩
                clear h0 h1 h2 h3 h4 h5
                go_enter Try.func21, Try.ntmps21
                go_upto_region 1 with fail
                generalize w.alloc (.cells #[.int .i64 c.b, .int .i64 c.p, .int .i64 c.c, .int .i64 c.s, .int .i64 c.m, .int .i64 c.w, .bool c.f] 29) = v1 at B1 K1 ⊢
                generalize w.heap.size = g at B1 ⊢
                have cc0 : v1.cell? ⟨g, 0, none⟩ = some (.int .i64 c.b) := (B1 0 (by omega)).1
                have cc1 : v1.cell? ⟨g, 1, none⟩ = some (.int .i64 c.p) := (B1 1 (by omega)).1
                have cc2 : v1.cell? ⟨g, 2, none⟩ = some (.int .i64 c.c) := (B1 2 (by omega)).1
                have cc3 : v1.cell? ⟨g, 3, none⟩ = some (.int .i64 c.s) := (B1 3 (by omega)).1
                have cc4 : v1.cell? ⟨g, 4, none⟩ = some (.int .i64 c.m) := (B1 4 (by omega)).1
                have cc5 : v1.cell? ⟨g, 5, none⟩ = some (.int .i64 c.w) := (B1 5 (by omega)).1
                have cc6 : v1.cell? ⟨g, 6, none⟩ = some (.bool c.f) := (B1 6 (by omega)).1
                go_wp2_with fail
                refine (W0 _).mono ?_
                rintro e z0 ⟨rfl, e0⟩
                have e0 := e0.symm
                subst e0
                clear W0
                go_wp2_with fail
                refine (W1 _).mono ?_
                rintro e z1 ⟨rfl, e0⟩
                have e0 := e0.symm
                subst e0
                clear W1
                go_wp2_with fail
                refine (W2 _).mono ?_
                rintro e z2 ⟨rfl, e0⟩
                have e0 := e0.symm
                subst e0
                clear W2
                go_wp2_with fail
                refine (W3 _).mono ?_
                rintro e z3 ⟨rfl, e0⟩
                have e0 := e0.symm
                subst e0
                clear W3
                go_wp2_with fail
                refine (W4 _).mono ?_
                rintro e z4 ⟨rfl, e0⟩
                have e0 := e0.symm
                subst e0
                clear W4
                go_wp2_with fail
                refine (W5 _).mono ?_
                rintro e z5 ⟨rfl, e0⟩
                have e0 := e0.symm
                subst e0
                clear W5
                go_wp2_with fail
                go_ret
                exact ⟨by rw [show spanB c = _ from hF]; rfl, K1⟩
            · skip
              have W0 := fun w => within_yes (v := c.b) (a := 8) (b := 64) h0.1 h0.2 w
              have W1 := fun w => within_yes (v := c.p) (a := 4) (b := 32) h1.1 h1.2 w
              have W2 := fun w => within_yes (v := c.s) (a := 0) (b := 4) h2.1 h2.2 w
              have W3 := fun w => within_yes (v := c.c) (a := 1) (b := 512) h3.1 h3.2 w
              have W4 := fun w => within_no (v := c.w) (a := 1) (b := c.c) h4 w
              have hF : Hid (spanB c = false) := by
                show spanB c = false
                rw [Bool.eq_false_iff]; intro e; have := span_iff.1 e; have x2 := this.w2; have x3 := this.w3; exact h4 ⟨this.w1, by omega⟩
              clear h0 h1 h2 h3 h4
              go_enter Try.func21, Try.ntmps21
              go_upto_region 1 with fail
              generalize w.alloc (.cells #[.int .i64 c.b, .int .i64 c.p, .int .i64 c.c, .int .i64 c.s, .int .i64 c.m, .int .i64 c.w, .bool c.f] 29) = v1 at B1 K1 ⊢
              generalize w.heap.size = g at B1 ⊢
              have cc0 : v1.cell? ⟨g, 0, none⟩ = some (.int .i64 c.b) := (B1 0 (by omega)).1
              have cc1 : v1.cell? ⟨g, 1, none⟩ = some (.int .i64 c.p) := (B1 1 (by omega)).1
              have cc2 : v1.cell? ⟨g, 2, none⟩ = some (.int .i64 c.c) := (B1 2 (by omega)).1
              have cc3 : v1.cell? ⟨g, 3, none⟩ = some (.int .i64 c.s) := (B1 3 (by omega)).1
              have cc4 : v1.cell? ⟨g, 4, none⟩ = some (.int .i64 c.m) := (B1 4 (by omega)).1
              have cc5 : v1.cell? ⟨g, 5, none⟩ = some (.int .i64 c.w) := (B1 5 (by omega)).1
              have cc6 : v1.cell? ⟨g, 6, none⟩ = some (.bool c.f) := (B1 6 (by omega)).1
              go_wp2_with fail
              refine (W0 _).mono ?_
              rintro e z0 ⟨rfl, e0⟩
              have e0 := e0.symm
              subst e0
              clear W0
              go_wp2_with fail
              refine (W1 _).mono ?_
              rintro e z1 ⟨rfl, e0⟩
              have e0 := e0.symm
              subst e0
              clear W1
              go_wp2_with fail
              refine (W2 _).mono ?_
              rintro e z2 ⟨rfl, e0⟩
              have e0 := e0.symm
              subst e0
              clear W2
              go_wp2_with fail
              refine (W3 _).mono ?_
              rintro e z3 ⟨rfl, e0⟩
              have e0 := e0.symm
              subst e0
              clear W3
              go_wp2_with fail
              refine (W4 _).mono ?_
              rintro e z4 ⟨rfl, e0⟩
              have e0 := e0.symm
              subst e0
              clear W4
              go_wp2_with fail
              go_ret
              exact ⟨by rw [show spanB c = _ from hF]; rfl, K1⟩
          · skip
            by_cases h4 : 1 ≤ c.w ∧ c.w ≤ c.p
            · skip
              by_cases h5 : 1 ≤ c.m ∧ c.m ≤ 512
              · skip
                have W0 := fun w => within_yes (v := c.b) (a := 8) (b := 64) h0.1 h0.2 w
                have W1 := fun w => within_yes (v := c.p) (a := 4) (b := 32) h1.1 h1.2 w
                have W2 := fun w => within_yes (v := c.s) (a := 0) (b := 4) h2.1 h2.2 w
                have W3 := fun w => within_yes (v := c.c) (a := 1) (b := 512) h3.1 h3.2 w
                have W4 := fun w => within_yes (v := c.w) (a := 1) (b := c.p) h4.1 h4.2 w
                have W5 := fun w => within_yes (v := c.m) (a := 1) (b := 512) h5.1 h5.2 w
                have hF : Hid (spanB c = true) := by
                  show spanB c = true
                  rw [span_iff]; exact ⟨h0.1, h0.2, h1.1, h1.2, h2.1, h2.2, h3.1, h3.2, h4.1, by omega, by omega, h5.1, h5.2⟩
                clear h0 h1 h2 h3 h4 h5
                go_enter Try.func21, Try.ntmps21
                go_upto_region 1 with fail
                generalize w.alloc (.cells #[.int .i64 c.b, .int .i64 c.p, .int .i64 c.c, .int .i64 c.s, .int .i64 c.m, .int .i64 c.w, .bool c.f] 29) = v1 at B1 K1 ⊢
                generalize w.heap.size = g at B1 ⊢
                have cc0 : v1.cell? ⟨g, 0, none⟩ = some (.int .i64 c.b) := (B1 0 (by omega)).1
                have cc1 : v1.cell? ⟨g, 1, none⟩ = some (.int .i64 c.p) := (B1 1 (by omega)).1
                have cc2 : v1.cell? ⟨g, 2, none⟩ = some (.int .i64 c.c) := (B1 2 (by omega)).1
                have cc3 : v1.cell? ⟨g, 3, none⟩ = some (.int .i64 c.s) := (B1 3 (by omega)).1
                have cc4 : v1.cell? ⟨g, 4, none⟩ = some (.int .i64 c.m) := (B1 4 (by omega)).1
                have cc5 : v1.cell? ⟨g, 5, none⟩ = some (.int .i64 c.w) := (B1 5 (by omega)).1
                have cc6 : v1.cell? ⟨g, 6, none⟩ = some (.bool c.f) := (B1 6 (by omega)).1
                go_wp2_with fail
                refine (W0 _).mono ?_
                rintro e z0 ⟨rfl, e0⟩
                have e0 := e0.symm
                subst e0
                clear W0
                go_wp2_with fail
                refine (W1 _).mono ?_
                rintro e z1 ⟨rfl, e0⟩
                have e0 := e0.symm
                subst e0
                clear W1
                go_wp2_with fail
                refine (W2 _).mono ?_
                rintro e z2 ⟨rfl, e0⟩
                have e0 := e0.symm
                subst e0
                clear W2
                go_wp2_with fail
                refine (W3 _).mono ?_
                rintro e z3 ⟨rfl, e0⟩
                have e0 := e0.symm
                subst e0
                clear W3
                go_wp2_with fail
                refine (W4 _).mono ?_
                rintro e z4 ⟨rfl, e0⟩
                have e0 := e0.symm
                subst e0
                clear W4
                go_wp2_with fail
                refine (W5 _).mono ?_
                rintro e z5 ⟨rfl, e0⟩
                have e0 := e0.symm
                subst e0
                clear W5
                go_wp2_with fail
                go_ret
                exact ⟨by rw [show spanB c = _ from hF]; rfl, K1⟩
              · skip
                have W0 := fun w => within_yes (v := c.b) (a := 8) (b := 64) h0.1 h0.2 w
                have W1 := fun w => within_yes (v := c.p) (a := 4) (b := 32) h1.1 h1.2 w
                have W2 := fun w => within_yes (v := c.s) (a := 0) (b := 4) h2.1 h2.2 w
                have W3 := fun w => within_yes (v := c.c) (a := 1) (b := 512) h3.1 h3.2 w
                have W4 := fun w => within_yes (v := c.w) (a := 1) (b := c.p) h4.1 h4.2 w
                have W5 := fun w => within_no (v := c.m) (a := 1) (b := 512) h5 w
                have hF : Hid (spanB c = false) := by
                  show spanB c = false
                  rw [Bool.eq_false_iff]; intro e; have := span_iff.1 e; exact h5 ⟨this.m1, this.m2⟩
                clear h0 h1 h2 h3 h4 h5
                go_enter Try.func21, Try.ntmps21
                go_upto_region 1 with fail
                generalize w.alloc (.cells #[.int .i64 c.b, .int .i64 c.p, .int .i64 c.c, .int .i64 c.s, .int .i64 c.m, .int .i64 c.w, .bool c.f] 29) = v1 at B1 K1 ⊢
                generalize w.heap.size = g at B1 ⊢
                have cc0 : v1.cell? ⟨g, 0, none⟩ = some (.int .i64 c.b) := (B1 0 (by omega)).1
                have cc1 : v1.cell? ⟨g, 1, none⟩ = some (.int .i64 c.p) := (B1 1 (by omega)).1
                have cc2 : v1.cell? ⟨g, 2, none⟩ = some (.int .i64 c.c) := (B1 2 (by omega)).1
                have cc3 : v1.cell? ⟨g, 3, none⟩ = some (.int .i64 c.s) := (B1 3 (by omega)).1
                have cc4 : v1.cell? ⟨g, 4, none⟩ = some (.int .i64 c.m) := (B1 4 (by omega)).1
                have cc5 : v1.cell? ⟨g, 5, none⟩ = some (.int .i64 c.w) := (B1 5 (by omega)).1
                have cc6 : v1.cell? ⟨g, 6, none⟩ = some (.bool c.f) := (B1 6 (by omega)).1
                go_wp2_with fail
                refine (W0 _).mono ?_
                rintro e z0 ⟨rfl, e0⟩
                have e0 := e0.symm
                subst e0
                clear W0
                go_wp2_with fail
                refine (W1 _).mono ?_
                rintro e z1 ⟨rfl, e0⟩
                have e0 := e0.symm
                subst e0
                clear W1
                go_wp2_with fail
                refine (W2 _).mono ?_
                rintro e z2 ⟨rfl, e0⟩
                have e0 := e0.symm
                subst e0
                clear W2
                go_wp2_with fail
                refine (W3 _).mono ?_
                rintro e z3 ⟨rfl, e0⟩
                have e0 := e0.symm
                subst e0
                clear W3
                go_wp2_with fail
                refine (W4 _).mono ?_
                rintro e z4 ⟨rfl, e0⟩
                have e0 := e0.symm
                subst e0
                clear W4
                go_wp2_with fail
                refine (W5 _).mono ?_
                rintro e z5 ⟨rfl, e0⟩
                have e0 := e0.symm
                subst e0
                clear W5
                go_wp2_with fail
                go_ret
                exact ⟨by rw [show spanB c = _ from hF]; rfl, K1⟩
            · skip
              have W0 := fun w => within_yes (v := c.b) (a := 8) (b := 64) h0.1 h0.2 w
              have W1 := fun w => within_yes (v := c.p) (a := 4) (b := 32) h1.1 h1.2 w
              have W2 := fun w => within_yes (v := c.s) (a := 0) (b := 4) h2.1 h2.2 w
              have W3 := fun w => within_yes (v := c.c) (a := 1) (b := 512) h3.1 h3.2 w
              have W4 := fun w => within_no (v := c.w) (a := 1) (b := c.p) h4 w
              have hF : Hid (spanB c = false) := by
                show spanB c = false
                rw [Bool.eq_false_iff]; intro e; have := span_iff.1 e; have x2 := this.w2; have x3 := this.w3; exact h4 ⟨this.w1, by omega⟩
              clear h0 h1 h2 h3 h4
              go_enter Try.func21, Try.ntmps21
              go_upto_region 1 with fail
              generalize w.alloc (.cells #[.int .i64 c.b, .int .i64 c.p, .int .i64 c.c, .int .i64 c.s, .int .i64 c.m, .int .i64 c.w, .bool c.f] 29) = v1 at B1 K1 ⊢
              generalize w.heap.size = g at B1 ⊢
              have cc0 : v1.cell? ⟨g, 0, none⟩ = some (.int .i64 c.b) := (B1 0 (by omega)).1
              have cc1 : v1.cell? ⟨g, 1, none⟩ = some (.int .i64 c.p) := (B1 1 (by omega)).1
              have cc2 : v1.cell? ⟨g, 2, none⟩ = some (.int .i64 c.c) := (B1 2 (by omega)).1
              have cc3 : v1.cell? ⟨g, 3, none⟩ = some (.int .i64 c.s) := (B1 3 (by omega)).1
              have cc4 : v1.cell? ⟨g, 4, none⟩ = some (.int .i64 c.m) := (B1 4 (by omega)).1
              have cc5 : v1.cell? ⟨g, 5, none⟩ = some (.int .i64 c.w) := (B1 5 (by omega)).1
              have cc6 : v1.cell? ⟨g, 6, none⟩ = some (.bool c.f) := (B1 6 (by omega)).1
              go_wp2_with fail
              refine (W0 _).mono ?_
              rintro e z0 ⟨rfl, e0⟩
              have e0 := e0.symm
              subst e0
              clear W0
              go_wp2_with fail
              refine (W1 _).mono ?_
              rintro e z1 ⟨rfl, e0⟩
              have e0 := e0.symm
              subst e0
              clear W1
              go_wp2_with fail
              refine (W2 _).mono ?_
              rintro e z2 ⟨rfl, e0⟩
              have e0 := e0.symm
              subst e0
              clear W2
              go_wp2_with fail
              refine (W3 _).mono ?_
              rintro e z3 ⟨rfl, e0⟩
              have e0 := e0.symm
              subst e0
              clear W3
              go_wp2_with fail
              refine (W4 _).mono ?_
              rintro e z4 ⟨rfl, e0⟩
              have e0 := e0.symm
              subst e0
              clear W4
              go_wp2_with fail
              go_ret
              exact ⟨by rw [show spanB c = _ from hF]; rfl, K1⟩
        · skip
          have W0 := fun w => within_yes (v := c.b) (a := 8) (b := 64) h0.1 h0.2 w
          have W1 := fun w => within_yes (v := c.p) (a := 4) (b := 32) h1.1 h1.2 w
          have W2 := fun w => within_yes (v := c.s) (a := 0) (b := 4) h2.1 h2.2 w
          have W3 := fun w => within_no (v := c.c) (a := 1) (b := 512) h3 w
          have hF : Hid (spanB c = false) := by
            show spanB c = false
            rw [Bool.eq_false_iff]; intro e; have := span_iff.1 e; exact h3 ⟨this.c1, this.c2⟩
          clear h0 h1 h2 h3
          go_enter Try.func21, Try.ntmps21
          go_upto_region 1 with fail
          generalize w.alloc (.cells #[.int .i64 c.b, .int .i64 c.p, .int .i64 c.c, .int .i64 c.s, .int .i64 c.m, .int .i64 c.w, .bool c.f] 29) = v1 at B1 K1 ⊢
          generalize w.heap.size = g at B1 ⊢
          have cc0 : v1.cell? ⟨g, 0, none⟩ = some (.int .i64 c.b) := (B1 0 (by omega)).1
          have cc1 : v1.cell? ⟨g, 1, none⟩ = some (.int .i64 c.p) := (B1 1 (by omega)).1
          have cc2 : v1.cell? ⟨g, 2, none⟩ = some (.int .i64 c.c) := (B1 2 (by omega)).1
          have cc3 : v1.cell? ⟨g, 3, none⟩ = some (.int .i64 c.s) := (B1 3 (by omega)).1
          have cc4 : v1.cell? ⟨g, 4, none⟩ = some (.int .i64 c.m) := (B1 4 (by omega)).1
          have cc5 : v1.cell? ⟨g, 5, none⟩ = some (.int .i64 c.w) := (B1 5 (by omega)).1
          have cc6 : v1.cell? ⟨g, 6, none⟩ = some (.bool c.f) := (B1 6 (by omega)).1
          go_wp2_with fail
          refine (W0 _).mono ?_
          rintro e z0 ⟨rfl, e0⟩
          have e0 := e0.symm
          subst e0
          clear W0
          go_wp2_with fail
          refine (W1 _).mono ?_
          rintro e z1 ⟨rfl, e0⟩
          have e0 := e0.symm
          subst e0
          clear W1
          go_wp2_with fail
          refine (W2 _).mono ?_
          rintro e z2 ⟨rfl, e0⟩
          have e0 := e0.symm
          subst e0
          clear W2
          go_wp2_with fail
          refine (W3 _).mono ?_
          rintro e z3 ⟨rfl, e0⟩
          have e0 := e0.symm
          subst e0
          clear W3
          go_wp2_with fail
          go_ret
          exact ⟨by rw [show spanB c = _ from hF]; rfl, K1⟩
      · skip
        have W0 := fun w => within_yes (v := c.b) (a := 8) (b := 64) h0.1 h0.2 w
        have W1 := fun w => within_yes (v := c.p) (a := 4) (b := 32) h1.1 h1.2 w
        have W2 := fun w => within_no (v := c.s) (a := 0) (b := 4) h2 w
        have hF : Hid (spanB c = false) := by
          show spanB c = false
          rw [Bool.eq_false_iff]; intro e; have := span_iff.1 e; exact h2 ⟨this.s1, this.s2⟩
        clear h0 h1 h2
        go_enter Try.func21, Try.ntmps21
        go_upto_region 1 with fail
        generalize w.alloc (.cells #[.int .i64 c.b, .int .i64 c.p, .int .i64 c.c, .int .i64 c.s, .int .i64 c.m, .int .i64 c.w, .bool c.f] 29) = v1 at B1 K1 ⊢
        generalize w.heap.size = g at B1 ⊢
        have cc0 : v1.cell? ⟨g, 0, none⟩ = some (.int .i64 c.b) := (B1 0 (by omega)).1
        have cc1 : v1.cell? ⟨g, 1, none⟩ = some (.int .i64 c.p) := (B1 1 (by omega)).1
        have cc2 : v1.cell? ⟨g, 2, none⟩ = some (.int .i64 c.c) := (B1 2 (by omega)).1
        have cc3 : v1.cell? ⟨g, 3, none⟩ = some (.int .i64 c.s) := (B1 3 (by omega)).1
        have cc4 : v1.cell? ⟨g, 4, none⟩ = some (.int .i64 c.m) := (B1 4 (by omega)).1
        have cc5 : v1.cell? ⟨g, 5, none⟩ = some (.int .i64 c.w) := (B1 5 (by omega)).1
        have cc6 : v1.cell? ⟨g, 6, none⟩ = some (.bool c.f) := (B1 6 (by omega)).1
        go_wp2_with fail
        refine (W0 _).mono ?_
        rintro e z0 ⟨rfl, e0⟩
        have e0 := e0.symm
        subst e0
        clear W0
        go_wp2_with fail
        refine (W1 _).mono ?_
        rintro e z1 ⟨rfl, e0⟩
        have e0 := e0.symm
        subst e0
        clear W1
        go_wp2_with fail
        refine (W2 _).mono ?_
        rintro e z2 ⟨rfl, e0⟩
        have e0 := e0.symm
        subst e0
        clear W2
        go_wp2_with fail
        go_ret
        exact ⟨by rw [show spanB c = _ from hF]; rfl, K1⟩
    · skip
      have W0 := fun w => within_yes (v := c.b) (a := 8) (b := 64) h0.1 h0.2 w
      have W1 := fun w => within_no (v := c.p) (a := 4) (b := 32) h1 w
      have hF : Hid (spanB c = false) := by
        show spanB c = false
        rw [Bool.eq_false_iff]; intro e; have := span_iff.1 e; exact h1 ⟨this.p1, this.p2⟩
      clear h0 h1
      go_enter Try.func21, Try.ntmps21
      go_upto_region 1 with fail
      generalize w.alloc (.cells #[.int .i64 c.b, .int .i64 c.p, .int .i64 c.c, .int .i64 c.s, .int .i64 c.m, .int .i64 c.w, .bool c.f] 29) = v1 at B1 K1 ⊢
      generalize w.heap.size = g at B1 ⊢
      have cc0 : v1.cell? ⟨g, 0, none⟩ = some (.int .i64 c.b) := (B1 0 (by omega)).1
      have cc1 : v1.cell? ⟨g, 1, none⟩ = some (.int .i64 c.p) := (B1 1 (by omega)).1
      have cc2 : v1.cell? ⟨g, 2, none⟩ = some (.int .i64 c.c) := (B1 2 (by omega)).1
      have cc3 : v1.cell? ⟨g, 3, none⟩ = some (.int .i64 c.s) := (B1 3 (by omega)).1
      have cc4 : v1.cell? ⟨g, 4, none⟩ = some (.int .i64 c.m) := (B1 4 (by omega)).1
      have cc5 : v1.cell? ⟨g, 5, none⟩ = some (.int .i64 c.w) := (B1 5 (by omega)).1
      have cc6 : v1.cell? ⟨g, 6, none⟩ = some (.bool c.f) := (B1 6 (by omega)).1
      go_wp2_with fail
      refine (W0 _).mono ?_
      rintro e z0 ⟨rfl, e0⟩
      have e0 := e0.symm
      subst e0
      clear W0
      go_wp2_with fail
      refine (W1 _).mono ?_
      rintro e z1 ⟨rfl, e0⟩
      have e0 := e0.symm
      subst e0
      clear W1
      go_wp2_with fail
      go_ret
      exact ⟨by rw [show spanB c = _ from hF]; rfl, K1⟩
  · skip
    have W0 := fun w => within_no (v := c.b) (a := 8) (b := 64) h0 w
    have hF : Hid (spanB c = false) := by
      show spanB c = false
      rw [Bool.eq_false_iff]; intro e; have := span_iff.1 e; exact h0 ⟨this.b1, this.b2⟩
    clear h0
    go_enter Try.func21, Try.ntmps21
    go_upto_region 1 with fail
    generalize w.alloc (.cells #[.int .i64 c.b, .int .i64 c.p, .int .i64 c.c, .int .i64 c.s, .int .i64 c.m, .int .i64 c.w, .bool c.f] 29) = v1 at B1 K1 ⊢
    generalize w.heap.size = g at B1 ⊢
    have cc0 : v1.cell? ⟨g, 0, none⟩ = some (.int .i64 c.b) := (B1 0 (by omega)).1
    have cc1 : v1.cell? ⟨g, 1, none⟩ = some (.int .i64 c.p) := (B1 1 (by omega)).1
    have cc2 : v1.cell? ⟨g, 2, none⟩ = some (.int .i64 c.c) := (B1 2 (by omega)).1
    have cc3 : v1.cell? ⟨g, 3, none⟩ = some (.int .i64 c.s) := (B1 3 (by omega)).1
    have cc4 : v1.cell? ⟨g, 4, none⟩ = some (.int .i64 c.m) := (B1 4 (by omega)).1
    have cc5 : v1.cell? ⟨g, 5, none⟩ = some (.int .i64 c.w) := (B1 5 (by omega)).1
    have cc6 : v1.cell? ⟨g, 6, none⟩ = some (.bool c.f) := (B1 6 (by omega)).1
    go_wp2_with fail
    refine (W0 _).mono ?_
    rintro e z0 ⟨rfl, e0⟩
    have e0 := e0.symm
    subst e0
    clear W0
    go_wp2_with fail
    go_ret
    exact ⟨by rw [show spanB c = _ from hF]; rfl, K1⟩
end Tg
end Go.Proofs.Ytoobjmhllfeffaa
