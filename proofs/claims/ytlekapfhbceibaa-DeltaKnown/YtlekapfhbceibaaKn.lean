/-
  The statement of the document's examples, walked: it returns true, and whatever was in memory is as it was.
-/
import Derived.Test.YtlekapfhbceibaaAw
namespace Go.Proofs.Ytlekapfhbceibaa
open Go.ChangeShapes Go.WideShapes Go.ChangeAt Go.RowKit
namespace Tg
open Vi
theorem rz_nil (w : World) : Rz w none 0 [] := ⟨by simp, by omega, Or.inl rfl⟩
set_option maxRecDepth 100000 in
set_option maxHeartbeats 1000000 in
theorem known_any (w : World) : Calls Try.prog 3 #[] w fun e w' => e = .returned (.bool true) ∧ Keep (fun _ => False) w w' := by
  have haw := awake_ok w
  go_enter Try.func3, Try.ntmps3
  go_wp2_with fail
  refine haw.mono ?_
  rintro e w0 ⟨rfl, k0⟩
  go_wp2_with fail
  refine (rec_call (rs_new w0 #[.int .i64 5, .int .i64 2, .int .i64 100, .int .i64 7, .int .i64 1, .int .i64 102, .int .i64 0, .int .i64 1, .int .i64 (-1)] 28 [⟨5, 2, 100⟩, ⟨7, 1, 102⟩, ⟨0, 1, -1⟩] rfl (by decide)).rz rfl recC3).mono ?_
  rintro e w1 ⟨a1, c1, rfl, r1, k1⟩
  go_wp2_with fail
  refine (rec_call (rz_nil w1) rfl recC0).mono ?_
  rintro e w2 ⟨a2, c2, rfl, r2, k2⟩
  go_wp2_with fail
  refine (chg_no (row_new w2 [1, 10] (0, 0) w2.heap.size 2 rfl (by decide) (by decide) (bys_lit (by decide))) (by decide) litN1).mono ?_
  rintro e w3 ⟨a3, c3, rfl, k3⟩
  go_wp2_with fail
  refine (run_no (row_new w3 [1, 0, 0, 0, 9] (0, 0) w3.heap.size 5 rfl (by decide) (by decide) (bys_lit (by decide))) (by decide) litN2).mono ?_
  rintro e w4 ⟨a4, c4, rfl, k4⟩
  go_wp2_with fail
  refine (run_no (row_new w4 [2, 0, 0, 0, 0, 0, 0] (0, 0) w4.heap.size 7 rfl (by decide) (by decide) (bys_lit (by decide))) (by decide) litN3).mono ?_
  rintro e w5 ⟨a5, c5, rfl, k5⟩
  have kk1 : Keep (fun _ => False) w2 w3 := ((Keep.refl _ w2).alloc _).trans k3
  have kk2 : Keep (fun _ => False) w3 w4 := ((Keep.refl _ w3).alloc _).trans k4
  have kk3 : Keep (fun _ => False) w4 w5 := ((Keep.refl _ w4).alloc _).trans k5
  have kk := kk1.trans (kk2.trans kk3)
  have t1 : (convert 23 9 (.slice a1 11 c1)).run Try.prog w5 = .ok (.string { data := #[3, 10, 2, 202, 1, 0, 1, 2, 15, 1, 0] }) w5 := (r1.moreV (k2.trans kk)).text
  have t2 : (convert 23 9 (.slice a2 1 c2)).run Try.prog w5 = .ok (.string { data := #[0] }) w5 := (r2.moreV kk).text
  have hK : Keep (fun _ => False) w w5 := ((k0.alloc _).trans k1).trans (k2.trans kk)
  clear r1 r2 k0 k1 k2 k3 k4 k5 kk1 kk2 kk3 kk haw
  go_wp2_with fail
  go_ret
  exact ⟨rfl, hK⟩
theorem known_walk (w : World) : Calls Try.prog 3 #[] w fun e w' => e = .returned (.bool true) ∧ Below w.heap.size w w' :=
  (known_any w).mono (fun _ _ h => ⟨h.1, h.2.below (Nat.le_refl _) (fun _ e => e.elim)⟩)
end Tg
end Go.Proofs.Ytlekapfhbceibaa
