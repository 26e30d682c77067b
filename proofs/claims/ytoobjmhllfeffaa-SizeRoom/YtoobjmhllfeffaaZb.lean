/-
  The document's own l, Pages, Up; a Config and sizes in memory.
-/
import Derived.Test.YtoobjmhllfeffaaZa
import Derived.Test.YtoobjmhllfeffaaZm
namespace Go.Proofs.Ytoobjmhllfeffaa
open Go.ChangeShapes Go.WideShapes Go.ChangeAt Go.RowKit
namespace Tg
open Vi
theorem wrapI {x : Int} (h1 : -9223372036854775808 ≤ x) (h2 : x ≤ 9223372036854775807) : IntKind.i64.wrap x = x := by rw [IntKind.wrap_i64] <;> omega
theorem vb_lV {v : Int} (h : v < 16384) : ((vb v).length : Int) = lV v := by
  unfold lV
  by_cases c : 128 ≤ v
  · rw [if_neg (by omega), vb_big c, vb_small (v := v / 128) (by omega)]; rfl
  · rw [if_pos (by omega), vb_small c]; rfl
theorem l_any {v : Int} (h0 : 0 ≤ v) (h1 : v < 16384) (w : World) : Calls Try.prog 27 #[.int .i64 v] w fun e w' => e = .returned (.int .i64 (lV v)) ∧ Keep (fun _ => False) w w' := by
  have hp := fun w => rput_any v w ⟨h0, by omega⟩
  rw [← vb_lV h1]
  have e3 : IntKind.u64.wrap v = v := by rw [IntKind.wrap_u64]; omega
  have hl : ((vb v).length : Int) ≤ 2 := by rw [vb_lV h1]; exact (lV_bd v).2
  generalize (vb v).length = n at *
  clear h0 h1
  go_enter Try.func27, Try.ntmps27
  go_wp2_with fail
  refine (hp _).mono ?_
  rintro e w1 ⟨g, cap, rfl, G⟩
  have hk := G.keep
  clear hp G
  go_wp2_with fail
  go_ret
  exact ⟨rfl, hk⟩
theorem pages_any {n : Int} (h0 : 1 ≤ n) (h1 : n ≤ 65536) (w : World) : Calls Try.prog 28 #[.int .i64 n] w fun e w' => e = .returned (.int .i64 (pgI n)) ∧ w' = w := by
  have d1 : ¬ n < 0 := by omega
  have d2 : ¬ 65536 < n := by omega
  have d3 : (n == 0) = false := by simp; omega
  have q1 := wrapI (x := n + 32) (by omega) (by omega)
  have q2 := wrapI (x := n + 32 - 1) (by omega) (by omega)
  have q3 : (n + 32 - 1).tdiv 32 = pgI n := by unfold pgI; rw [Int.tdiv_eq_ediv_of_nonneg (by omega)]; congr 1; omega
  have q4 := wrapI (x := pgI n) (by unfold pgI; omega) (by unfold pgI; omega)
  generalize pgI n = r at *
  clear h0 h1
  go_enter Try.func28, Try.ntmps28
  go_wp2_with fail
  go_ret
  exact ⟨rfl, rfl⟩
theorem rup_any {a b : Int} (ha : 0 ≤ a) (hb : 1 ≤ b) (h1 : a ≤ 1000000000) (h2 : b ≤ 1000000000) (w : World) : Calls Try.prog 29 #[.int .i64 a, .int .i64 b] w fun e w' => e = .returned (.int .i64 (upI a b)) ∧ w' = w := by
  have q1 := wrapI (x := a + b) (by omega) (by omega)
  have q2 := wrapI (x := a + b - 1) (by omega) (by omega)
  have q3 : (a + b - 1).tdiv b = upI a b := by unfold upI; rw [Int.tdiv_eq_ediv_of_nonneg (by omega)]
  have hu := upI_bd hb ha
  have q4 := wrapI (x := upI a b) (by omega) (by omega)
  have q5 : ¬ b = 0 := by omega
  generalize upI a b = r at *
  clear ha hb h1 h2 hu
  go_enter Try.func29, Try.ntmps29
  go_wp2_with fail
  go_ret
  exact ⟨rfl, rfl⟩
end Tg
end Go.Proofs.Ytoobjmhllfeffaa
