/-
  The statement of the document's examples, walked: it returns true, and whatever was in memory is as it was.
-/
import Derived.Test.YtkddonmddgfpnaaAwS
namespace Go.Proofs.Ytkddonmddgfpnaa
open Go.ChangeShapes Go.WideShapes Go.ChangeAt Go.RowKit
namespace Tg

def e1o : List Rn := [⟨0, 2, 10⟩, ⟨1, 1, -1⟩]
def e2o : List Rn := [⟨3, 1, 5⟩, ⟨9, 1, 1⟩]
def e1t : List Int := [10, -1, -1, -1]
theorem e1_run : runL 1 e1o z0 = (e1t, 0) := by kernel_rfl
theorem e1_all : allL 1 e1o z0 = e1t := by unfold allL; rw [e1_run]; rfl
theorem e2_run : (runL 1 e2o e1t).2 = 5 := by kernel_rfl
theorem e2_all : allL 1 e2o e1t = e1t := by unfold allL; rw [e2_run]; rfl
theorem e1_runs : refR e1t 4 = [⟨0, 1, 10⟩] := by kernel_rfl
def g1 : List Rn := [⟨0, 2, 10⟩, ⟨2, 1, 12⟩]
def g2 : List Rn := [⟨0, 2, 10⟩, ⟨2, 1, 13⟩]
def g3 : List Rn := [⟨2, 1, 0⟩, ⟨0, 1, 5⟩]
theorem g1_form : formP none g1 = false := by kernel_rfl
theorem g2_form : formP none g2 = true := by kernel_rfl
theorem g3_form : formP none g3 = false := by kernel_rfl
theorem fits_e1 : Fits e1o := by
  unfold Fits e1o
  intro x hx
  simp at hx
  rcases hx with rfl | rfl <;> simp
theorem fits_e2 : Fits e2o := by
  unfold Fits e2o
  intro x hx
  simp at hx
  rcases hx with rfl | rfl <;> simp
set_option maxRecDepth 100000 in
set_option maxHeartbeats 4000000 in
theorem known_any (w : World) : Calls Try.prog 3 #[] w fun e w' => e = .returned (.bool true) ∧ Keep (fun _ => False) w w' := by
  have haw := awake_any w
  have hn1 := fun w => newS false (w := w) (C := 4) (N := 1) (by omega) (by omega) (by omega) (by omega)
  rw [show ((4 : Nat) : Int) = 4 from rfl, show ((1 : Nat) : Int) = 1 from rfl] at hn1
  have hn2 := fun w => newS_no true (w := w) (c := 0) (n := 1) (by omega)
  unfold mapV at hn1
  go_enter Try.func3, Try.ntmps3
  go_upto_region 4 with (first | (go_at_call 9; refine haw.mono ?_; rintro e w1 ⟨rfl, k1⟩) | (go_at_call 10; refine (hn1 _).mono ?_; rintro e w2 ⟨q, S, rfl, A0⟩))
  have A2 := A0.older k1
  rw [show List.replicate 4 (-1 : Int) = z0 from rfl] at A2
  clear haw hn1 k1 A0
  have K3 : Keep (fun _ => False) w2 (w2.alloc (.cells #[.int .i64 0, .int .i64 2, .int .i64 10, .int .i64 1, .int .i64 1, .int .i64 (-1)] 30)) := (Keep.refl _ _).alloc _
  have A3 := A2.more K3
  have R3 : Rs (w2.alloc (.cells #[.int .i64 0, .int .i64 2, .int .i64 10, .int .i64 1, .int .i64 1, .int .i64 (-1)] 30)) (some ⟨w2.heap.size, 0, none⟩) 2 e1o := rs_new w2 _ 30 e1o rfl (by decide)
  have c3 := apply_any A3 R3.rz fits_e1 (fun g o e _ hs => by
    injection e with e; injection e with e1 e2; subst e1
    have := (A2.sw _ hs).2.1; omega)
  unfold Apd at c3
  rw [e1_run, e1_all] at c3
  rw [show e1o.length = 2 from rfl] at c3
  unfold mapV at c3
  go_wp2_with fail
  refine c3.mono ?_
  rintro e w4 ⟨rfl, A4, -⟩
  clear c3 A2 A3 R3 K3
  have K5 : Keep (fun _ => False) w4 (w4.alloc (.cells #[.int .i64 3, .int .i64 1, .int .i64 5, .int .i64 9, .int .i64 1, .int .i64 1] 30)) := (Keep.refl _ _).alloc _
  have A5 := A4.more K5
  have R5 : Rs (w4.alloc (.cells #[.int .i64 3, .int .i64 1, .int .i64 5, .int .i64 9, .int .i64 1, .int .i64 1] 30)) (some ⟨w4.heap.size, 0, none⟩) 2 e2o := rs_new w4 _ 30 e2o rfl (by decide)
  have c5 := apply_any A5 R5.rz fits_e2 (fun g o e _ hs => by
    injection e with e; injection e with e1 e2; subst e1
    have := (A4.sw _ hs).2.1; omega)
  unfold Apd at c5
  rw [e2_run, e2_all] at c5
  rw [show e2o.length = 2 from rfl] at c5
  unfold mapV at c5
  go_wp2_with fail
  refine c5.mono ?_
  rintro e w6 ⟨rfl, A6, -⟩
  clear c5 A4 A5 R5 K5
  have c6 := A6.runs
  have mr := mRuns44 q
  unfold fRuns at c6
  rw [e1_runs, show ([⟨0, 1, 10⟩] : List Rn).length = 1 from rfl] at c6
  go_wp2_with fail
  refine c6.mono ?_
  rintro e w7 ⟨a7, d7, rfl, S7, k7, -⟩
  have A7 := A6.more k7
  clear c6 k7 A6 mr
  go_wp2_with fail
  refine (hn2 _).mono ?_
  rintro e w8 ⟨rfl, k8⟩
  have S8 := S7.more k8
  have HK8 := (A7.more k8).keep
  have hc := S8.1
  obtain ⟨g, rfl, y0, y1, y2⟩ := S8.at (i := 0) (x := ⟨0, 1, 10⟩) rfl
  simp only [Nat.zero_mul, Nat.zero_add, List.length_cons, List.length_nil] at y0 y1 y2 hc
  clear hn2 S7 A7 k8 S8
  have fa := fun w => form_any (rs_new w #[.int .i64 0, .int .i64 2, .int .i64 10, .int .i64 2, .int .i64 1, .int .i64 12] 34 g1 rfl (by decide)).rz (by decide)
  have fb := fun w => form_any (rs_new w #[.int .i64 0, .int .i64 2, .int .i64 10, .int .i64 2, .int .i64 1, .int .i64 13] 34 g2 rfl (by decide)).rz (by decide)
  have fc := fun w => form_any (rs_new w #[.int .i64 2, .int .i64 1, .int .i64 0, .int .i64 0, .int .i64 1, .int .i64 5] 34 g3 rfl (by decide)).rz (by decide)
  have fd : ∀ w, Calls Try.prog 12 #[.slice none 0 0] w fun e w' => e = .returned (.bool true) ∧ Keep (fun _ => False) w w' := fun w => form_any (w := w) (a := none) (cap := 0) (l := []) ⟨by simp, by omega, Or.inl rfl⟩ (by simp)
  rw [g1_form, show g1.length = 2 from rfl] at fa
  rw [g2_form, show g2.length = 2 from rfl] at fb
  rw [g3_form, show g3.length = 2 from rfl] at fc
  go_wp2_with fail
  refine (fa _).mono ?_
  rintro e w9 ⟨rfl, k9⟩
  have HK9 := HK8.trans (((Keep.refl _ w8).alloc _).trans k9)
  clear fa k9 HK8 y0 y1 y2
  go_wp2_with fail
  refine (fb _).mono ?_
  rintro e w10 ⟨rfl, k10⟩
  have HK10 := HK9.trans (((Keep.refl _ w9).alloc _).trans k10)
  clear fb k10 HK9
  go_wp2_with fail
  refine (fc _).mono ?_
  rintro e w11 ⟨rfl, k11⟩
  have HK11 := HK10.trans (((Keep.refl _ w10).alloc _).trans k11)
  clear fc k11 HK10
  go_wp2_with fail
  refine (fd _).mono ?_
  rintro e w12 ⟨rfl, k12⟩
  have HK12 := HK11.trans k12
  clear fd k12 HK11
  go_wp2_with fail
  go_ret
  exact ⟨rfl, HK12⟩
theorem known_walk (w : World) : Calls Try.prog 3 #[] w fun e w' => e = .returned (.bool true) ∧ Below w.heap.size w w' :=
  (known_any w).mono fun _ _ ⟨h1, h2⟩ => ⟨h1, h2.below (Nat.le_refl _) (fun _ e => e.elim)⟩
end Tg
end Go.Proofs.Ytkddonmddgfpnaa
