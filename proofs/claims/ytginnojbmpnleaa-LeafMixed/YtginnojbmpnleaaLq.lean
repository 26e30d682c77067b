/-
  The document's own Pages, ahead and Cut, walked.
-/
import Derived.Test.YtginnojbmpnleaaLp
namespace Go.Proofs.Ytginnojbmpnleaa
open Go.ChangeShapes Go.WideShapes Go.ChangeAt Go.RowKit
namespace Tg
/-- How many pages, for any number. -/
def npI (n : Int) : Int := if n < 0 ∨ 65536 < n then 0 else (npg n.toNat : Int)
theorem npI_nat {n : Nat} (h : n ≤ 65536) : npI (n : Int) = (npg n : Int) := by unfold npI; rw [if_neg (by omega), Int.toNat_natCast]
theorem rpages_any {n : Int} (w : World) : Calls Try.prog 11 #[.int .i64 n] w fun e w' => e = .returned (.int .i64 (npI n)) ∧ w' = w := by
  unfold npI
  by_cases h1 : n < 0
  · rw [if_pos (Or.inl h1)]
    go_enter Try.func11, Try.ntmps11
    go_wp2_with fail
    go_ret
    exact ⟨rfl, rfl⟩
  · by_cases h2 : 65536 < n
    · rw [if_pos (Or.inr h2)]
      go_enter Try.func11, Try.ntmps11
      go_wp2_with fail
      go_ret
      exact ⟨rfl, rfl⟩
    · rw [if_neg (by omega)]
      by_cases h3 : n = 0
      · subst h3
        go_enter Try.func11, Try.ntmps11
        go_wp2_with fail
        go_ret
        exact ⟨rfl, rfl⟩
      · have e : (npg n.toNat : Int) = (n + 32 - 1) / 32 := by
          unfold npg
          rw [if_neg (by omega)]
          omega
        rw [e]
        have f1 : IntKind.i64.wrap (n + 32) = n + 32 := by rw [IntKind.wrap_i64]; omega
        have f2 : IntKind.i64.wrap (n + 32 - 1) = n + 32 - 1 := by rw [IntKind.wrap_i64]; omega
        have f3 : (n + 32 - 1).tdiv 32 = (n + 32 - 1) / 32 := Int.tdiv_eq_ediv_of_nonneg (by omega)
        have f4 : IntKind.i64.wrap ((n + 32 - 1) / 32) = (n + 32 - 1) / 32 := by rw [IntKind.wrap_i64]; omega
        clear e
        generalize hQ : (n + 32 - 1) / 32 = Q at f3 f4
        go_enter Try.func11, Try.ntmps11
        go_wp2_with fail
        go_ret
        exact ⟨by simp [*], rfl⟩
/-- Does the three of one page come ahead of another's? -/
def ahB (p q : Pg) : Bool := if p.ep = q.ep then (if p.kind = q.kind then decide (p.gr < q.gr) else decide (p.kind < q.kind)) else decide (p.ep < q.ep)
theorem ahead_any (p q : Pg) (w : World) : Calls Try.prog 23 #[.agg (pgA p), .agg (pgA q)] w fun e w' => e = .returned (.bool (ahB p q)) ∧ Keep (fun _ => False) w w' := by
  have hb1 := blk_alloc w _ 33 39 _ (pgA_get p)
  have hb2 := blk_alloc (w.alloc (.cells (pgA p) 33)) _ 33 39 _ (pgA_get q)
  have hsz1 := pgA_size p
  have hsz2 := pgA_size q
  have K := ((Keep.refl (fun _ => False) w).alloc (.cells (pgA p) 33)).alloc (.cells (pgA q) 33)
  have P1 : Pv ((w.alloc (.cells (pgA p) 33)).alloc (.cells (pgA q) 33)) w.heap.size p := Blk.keep hb1 ((Keep.refl (fun _ => False) _).alloc _) (fun e => e)
  have P2 : Pv ((w.alloc (.cells (pgA p) 33)).alloc (.cells (pgA q) 33)) (w.heap.size + 1) q := by
    have : (w.alloc (.cells (pgA p) 33)).heap.size = w.heap.size + 1 := by simp
    rw [this] at hb2
    exact hb2
  have x0 := P1.kind
  have x3 := P1.ep
  have x4 := P1.gr
  have y0 := P2.kind
  have y3 := P2.ep
  have y4 := P2.gr
  clear hb1 hb2 P1 P2
  generalize pgA p = A at *
  generalize pgA q = B at *
  unfold ahB
  by_cases h1 : p.ep = q.ep
  · rw [if_pos h1]
    have e1 : (p.ep != q.ep) = false := by simp [h1]
    by_cases h2 : p.kind = q.kind
    · rw [if_pos h2]
      have e2 : (p.kind != q.kind) = false := by simp [h2]
      clear h1 h2
      go_enter Try.func23, Try.ntmps23
      go_wp2_with fail
      go_ret
      exact ⟨rfl, K⟩
    · rw [if_neg h2]
      have e2 : (p.kind != q.kind) = true := by simp [h2]
      clear h1 h2
      go_enter Try.func23, Try.ntmps23
      go_wp2_with fail
      go_ret
      exact ⟨rfl, K⟩
  · rw [if_neg h1]
    have e1 : (p.ep != q.ep) = true := by simp [h1]
    clear h1
    go_enter Try.func23, Try.ntmps23
    go_wp2_with fail
    go_ret
    exact ⟨rfl, K⟩
end Tg
end Go.Proofs.Ytginnojbmpnleaa
