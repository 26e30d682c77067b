/-
  The program's vint.Len and leaf.Pages, as far as sizes ask them.
-/
import Derived.Test.YtoobjmhllfeffaaZb
namespace Go.Proofs.Ytoobjmhllfeffaa
open Go.ChangeShapes Go.WideShapes Go.ChangeAt Go.RowKit
namespace Tg
open Vi
theorem vlen_any {v : Int} (h0 : 0 ≤ v) (h1 : v < 16384) (w : World) : Calls Try.prog 37 #[.int .u64 v] w fun e w' => e = .returned (.int .i64 (lV v)) ∧ w' = w := by
  rw [← vb_lV h1]
  exact len_any ⟨h0, by omega⟩ w
theorem lpages_any {n : Int} (h0 : 1 ≤ n) (h1 : n ≤ 65536) (w : World) : Calls Try.prog 36 #[.int .i64 n] w fun e w' => e = .returned (.int .i64 (pgI n)) ∧ w' = w := by
  have d1 : ¬ n < 0 := by omega
  have d2 : ¬ 65536 < n := by omega
  have q1 := wrapI (x := n + 32) (by omega) (by omega)
  have q2 := wrapI (x := n + 32 - 1) (by omega) (by omega)
  have q3 : (n + 32 - 1).tdiv 32 = pgI n := by unfold pgI; rw [Int.tdiv_eq_ediv_of_nonneg (by omega)]; congr 1; omega
  have q4 := wrapI (x := pgI n) (by unfold pgI; omega) (by unfold pgI; omega)
  have q5 : 1 ≤ pgI n := by unfold pgI; omega
  generalize pgI n = r at *
  clear h0 h1
  by_cases hr : 1 < r
  · have hr' : ¬ r ≤ 1 := by omega
    go_enter Try.func36, Try.ntmps36
    go_wp2_with fail
    go_ret
    exact ⟨rfl, rfl⟩
  · have hr2 : r = 1 := by omega
    subst hr2
    clear hr q5
    go_enter Try.func36, Try.ntmps36
    go_wp2_with fail
    go_ret
    exact ⟨rfl, rfl⟩
end Tg
end Go.Proofs.Ytoobjmhllfeffaa
