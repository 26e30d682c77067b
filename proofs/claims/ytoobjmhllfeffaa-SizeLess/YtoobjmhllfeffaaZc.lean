/-
  The document's own Span.
-/
import Derived.Test.YtoobjmhllfeffaaZb
namespace Go.Proofs.Ytoobjmhllfeffaa
open Go.ChangeShapes Go.WideShapes Go.ChangeAt Go.RowKit
namespace Tg
set_option maxRecDepth 100000 in
set_option maxHeartbeats 1000000 in
theorem rspan_any (w : World) (c : Cf) : Calls Try.prog 13 #[.agg #[.int .i64 c.b, .int .i64 c.p, .int .i64 c.c, .int .i64 c.s, .int .i64 c.m, .int .i64 c.w, .bool c.f]] w fun e w' => e = .returned (.bool (spanB c)) ∧ Keep (fun _ => False) w w' := by
  have K1 : Keep (fun _ => False) w (w.alloc (.cells #[.int .i64 c.b, .int .i64 c.p, .int .i64 c.c, .int .i64 c.s, .int .i64 c.m, .int .i64 c.w, .bool c.f] 29)) := (Keep.refl _ _).alloc _
  by_cases h0 : 8 ≤ c.b
  · have n0 : ¬ c.b < 8 := by omega
    by_cases h1 : c.b ≤ 64
    · have n1 : ¬ 64 < c.b := by omega
      by_cases h2 : 4 ≤ c.p
      · have n2 : ¬ c.p < 4 := by omega
        by_cases h3 : c.p ≤ 32
        · have n3 : ¬ 32 < c.p := by omega
          by_cases h4 : 0 ≤ c.s
          · have n4 : ¬ c.s < 0 := by omega
            by_cases h5 : c.s ≤ 4
            · have n5 : ¬ 4 < c.s := by omega
              by_cases h6 : 1 ≤ c.c
              · have n6 : ¬ c.c < 1 := by omega
                by_cases h7 : c.c ≤ 512
                · have n7 : ¬ 512 < c.c := by omega
                  by_cases h8 : 1 ≤ c.w
                  · have n8 := h8
                    by_cases h9 : c.w ≤ c.p
                    · have n9 := h9
                      by_cases h10 : c.w ≤ c.c
                      · have n10 := h10
                        by_cases h11 : 1 ≤ c.m
                        · have n11 := h11
                          by_cases h12 : c.m ≤ 512
                          · have n12 := h12
                            have hF : Hid (spanB c = true) := by show spanB c = true; rw [span_iff]; exact ⟨h0, h1, h2, h3, h4, h5, h6, h7, h8, h9, h10, h11, h12⟩
                            go_enter Try.func13, Try.ntmps13
                            go_wp2_with fail
                            go_ret
                            exact ⟨by rw [show spanB c = _ from hF]; rfl, K1⟩
                          · have hF : Hid (spanB c = false) := by show spanB c = false; rw [Bool.eq_false_iff]; intro e; have := span_iff.1 e; exact h12 this.m2
                            go_enter Try.func13, Try.ntmps13
                            go_wp2_with fail
                            go_ret
                            exact ⟨by rw [show spanB c = _ from hF]; rfl, K1⟩
                        · have hF : Hid (spanB c = false) := by show spanB c = false; rw [Bool.eq_false_iff]; intro e; have := span_iff.1 e; exact h11 this.m1
                          go_enter Try.func13, Try.ntmps13
                          go_wp2_with fail
                          go_ret
                          exact ⟨by rw [show spanB c = _ from hF]; rfl, K1⟩
                      · have hF : Hid (spanB c = false) := by show spanB c = false; rw [Bool.eq_false_iff]; intro e; have := span_iff.1 e; exact h10 this.w3
                        go_enter Try.func13, Try.ntmps13
                        go_wp2_with fail
                        go_ret
                        exact ⟨by rw [show spanB c = _ from hF]; rfl, K1⟩
                    · have hF : Hid (spanB c = false) := by show spanB c = false; rw [Bool.eq_false_iff]; intro e; have := span_iff.1 e; exact h9 this.w2
                      go_enter Try.func13, Try.ntmps13
                      go_wp2_with fail
                      go_ret
                      exact ⟨by rw [show spanB c = _ from hF]; rfl, K1⟩
                  · have hF : Hid (spanB c = false) := by show spanB c = false; rw [Bool.eq_false_iff]; intro e; have := span_iff.1 e; exact h8 this.w1
                    go_enter Try.func13, Try.ntmps13
                    go_wp2_with fail
                    go_ret
                    exact ⟨by rw [show spanB c = _ from hF]; rfl, K1⟩
                · have n7 : 512 < c.c := by omega
                  have hF : Hid (spanB c = false) := by show spanB c = false; rw [Bool.eq_false_iff]; intro e; have := span_iff.1 e; exact h7 this.c2
                  go_enter Try.func13, Try.ntmps13
                  go_wp2_with fail
                  go_ret
                  exact ⟨by rw [show spanB c = _ from hF]; rfl, K1⟩
              · have n6 : c.c < 1 := by omega
                have hF : Hid (spanB c = false) := by show spanB c = false; rw [Bool.eq_false_iff]; intro e; have := span_iff.1 e; exact h6 this.c1
                go_enter Try.func13, Try.ntmps13
                go_wp2_with fail
                go_ret
                exact ⟨by rw [show spanB c = _ from hF]; rfl, K1⟩
            · have n5 : 4 < c.s := by omega
              have hF : Hid (spanB c = false) := by show spanB c = false; rw [Bool.eq_false_iff]; intro e; have := span_iff.1 e; exact h5 this.s2
              go_enter Try.func13, Try.ntmps13
              go_wp2_with fail
              go_ret
              exact ⟨by rw [show spanB c = _ from hF]; rfl, K1⟩
          · have n4 : c.s < 0 := by omega
            have hF : Hid (spanB c = false) := by show spanB c = false; rw [Bool.eq_false_iff]; intro e; have := span_iff.1 e; exact h4 this.s1
            go_enter Try.func13, Try.ntmps13
            go_wp2_with fail
            go_ret
            exact ⟨by rw [show spanB c = _ from hF]; rfl, K1⟩
        · have n3 : 32 < c.p := by omega
          have hF : Hid (spanB c = false) := by show spanB c = false; rw [Bool.eq_false_iff]; intro e; have := span_iff.1 e; exact h3 this.p2
          go_enter Try.func13, Try.ntmps13
          go_wp2_with fail
          go_ret
          exact ⟨by rw [show spanB c = _ from hF]; rfl, K1⟩
      · have n2 : c.p < 4 := by omega
        have hF : Hid (spanB c = false) := by show spanB c = false; rw [Bool.eq_false_iff]; intro e; have := span_iff.1 e; exact h2 this.p1
        go_enter Try.func13, Try.ntmps13
        go_wp2_with fail
        go_ret
        exact ⟨by rw [show spanB c = _ from hF]; rfl, K1⟩
    · have n1 : 64 < c.b := by omega
      have hF : Hid (spanB c = false) := by show spanB c = false; rw [Bool.eq_false_iff]; intro e; have := span_iff.1 e; exact h1 this.b2
      go_enter Try.func13, Try.ntmps13
      go_wp2_with fail
      go_ret
      exact ⟨by rw [show spanB c = _ from hF]; rfl, K1⟩
  · have n0 : c.b < 8 := by omega
    have hF : Hid (spanB c = false) := by show spanB c = false; rw [Bool.eq_false_iff]; intro e; have := span_iff.1 e; exact h0 this.b1
    go_enter Try.func13, Try.ntmps13
    go_wp2_with fail
    go_ret
    exact ⟨by rw [show spanB c = _ from hF]; rfl, K1⟩
end Tg
end Go.Proofs.Ytoobjmhllfeffaa
