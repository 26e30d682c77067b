/-
  The awakening call of the statements: it returns true, and whatever was in memory is as it was.
-/
import Derived.Test.YtkddonmddgfpnaaTwo
import Derived.Lib.Builder
namespace Go.Proofs.Ytkddonmddgfpnaa
open Go.ChangeShapes Go.WideShapes Go.ChangeAt Go.RowKit
namespace Tg

theorem info77 : (Try.prog.info? 77).isSome = true := by kernel_rfl
theorem ptr_neq (q : Nat) (w : World) : (binOp .neq 44 (.pointer (some ⟨q, 0, none⟩)) (.pointer (some ⟨q, 0, none⟩))).run Try.prog w = .ok (.bool false) w := by
  obtain ⟨j, hj⟩ := Option.isSome_iff_exists.1 info77
  exact Lib.run_neq_ptr_same w _ Try.underlying44 hj
theorem ptr_eql (q : Nat) (w : World) : (binOp .eql 44 (.pointer (some ⟨q, 0, none⟩)) (.pointer (some ⟨q, 0, none⟩))).run Try.prog w = .ok (.bool true) w := by
  obtain ⟨j, hj⟩ := Option.isSome_iff_exists.1 info77
  exact run_eql_ptr_same w _ Try.underlying44 hj
def z0 : List Int := [-1, -1, -1, -1]
def z1 : List Int := [10, 11, -1, -1]
def zr : List Rn := [⟨0, 2, 10⟩]
def zp : List Rn := [⟨0, 4, 10⟩, ⟨1, 1, -1⟩, ⟨2, 1, 3⟩]
theorem z1_run : runL 4 zr z0 = (z1, 0) := by kernel_rfl
theorem z1_all : allL 4 zr z0 = z1 := by unfold allL; rw [z1_run]; rfl
theorem z1_runs : refR z1 4 = zr := by kernel_rfl
theorem z1_form : formP none zr = true := by kernel_rfl
theorem zp_fold : foldR zp = [⟨0, 2, 10⟩, ⟨2, 1, 3⟩, ⟨3, 1, 13⟩] := by kernel_rfl
theorem fits_zr : Fits zr := by unfold Fits zr; intro x hx; simp at hx; subst hx; simp
theorem fits_zp : Fits zp := by
  unfold Fits zp
  intro x hx
  simp at hx
  rcases hx with rfl | rfl | rfl <;> simp
set_option maxRecDepth 100000 in
set_option maxHeartbeats 4000000 in
theorem awake_any (w : World) : Calls Try.prog 9 #[] w fun e w' => e = .returned (.bool true) ∧ Keep (fun _ => False) w w' := by
  have hn1 := fun w => newS false (w := w) (C := 4) (N := 4) (by omega) (by omega) (by omega) (by omega)
  have hn2 := fun w => newS true (w := w) (C := 4) (N := 4) (by omega) (by omega) (by omega) (by omega)
  rw [show ((4 : Nat) : Int) = 4 from rfl] at hn1 hn2
  have t1 := fun q w => tree_any false q w
  have t2 := fun q w => tree_any true q w
  have f1 := fun q w => flat_any false q w
  have f2 := fun q w => flat_any true q w
  unfold mapV at hn1 hn2 t1 t2 f1 f2
  unfold treeV at t1 t2
  unfold flatV at f1 f2
  go_enter Try.func9, Try.ntmps9
  go_upto_region 2 with (go_at_call 10; refine (hn1 _).mono ?_; rintro e w1 ⟨qa, Sa, rfl, A1⟩)
  go_upto_region 3 with (go_at_call 10; refine (hn2 _).mono ?_; rintro e w2 ⟨qb, Sb, rfl, B2⟩)
  have D2 := Two.new A1 B2
  rw [show List.replicate 4 (-1 : Int) = z0 from rfl] at D2
  clear A1 B2 hn1 hn2
  go_wp2_with fail
  refine (t1 _ _).mono ?_
  rintro e w3 ⟨rfl, e1⟩; have e1 := e1.symm; subst e1
  go_wp2_with fail
  refine (t2 _ _).mono ?_
  rintro e w3 ⟨rfl, e1⟩; have e1 := e1.symm; subst e1
  go_wp2_with fail
  refine (f2 _ _).mono ?_
  rintro e w3 ⟨rfl, e1⟩; have e1 := e1.symm; subst e1
  go_wp2_with fail
  refine (f1 _ _).mono ?_
  rintro e w3 ⟨rfl, e1⟩; have e1 := e1.symm; subst e1
  clear t1 t2 f1 f2
  have K3 : Keep (fun _ => False) w2 (w2.alloc (.cells #[.int .i64 0, .int .i64 2, .int .i64 10] 30)) := (Keep.refl _ _).alloc _
  have D3 := D2.more K3
  have R3 : Rs (w2.alloc (.cells #[.int .i64 0, .int .i64 2, .int .i64 10] 30)) (some ⟨w2.heap.size, 0, none⟩) 1 zr := rs_new w2 _ 30 zr rfl (by decide)
  have c3 := apply_any D3.a R3.rz fits_zr (fun g o e _ hs => by
    injection e with e; injection e with e1 e2; subst e1
    have := (D2.a.sw _ hs).2.1; omega)
  unfold Apd at c3
  rw [z1_run, z1_all] at c3
  rw [show zr.length = 1 from rfl] at c3
  unfold mapV at c3
  go_wp2_with fail
  refine c3.mono ?_
  rintro e w4 ⟨rfl, A4, k4⟩
  have D4 := D3.setA A4 k4
  clear c3 D2 D3 R3 K3 A4 k4
  have K5 : Keep (fun _ => False) w4 (w4.alloc (.cells #[.int .i64 0, .int .i64 2, .int .i64 10] 30)) := (Keep.refl _ _).alloc _
  have D5 := D4.more K5
  have R5 : Rs (w4.alloc (.cells #[.int .i64 0, .int .i64 2, .int .i64 10] 30)) (some ⟨w4.heap.size, 0, none⟩) 1 zr := rs_new w4 _ 30 zr rfl (by decide)
  have c5 := apply_any D5.b R5.rz fits_zr (fun g o e _ hs => by
    injection e with e; injection e with e1 e2; subst e1
    have := (D4.b.sw _ hs).2.1; omega)
  unfold Apd at c5
  rw [z1_run, z1_all] at c5
  rw [show zr.length = 1 from rfl] at c5
  unfold mapV at c5
  go_wp2_with fail
  refine c5.mono ?_
  rintro e w6 ⟨rfl, B6, k6⟩
  have D6 := D5.setB B6 k6
  clear c5 D4 D5 R5 K5 B6 k6
  have mt := mustTree_any qa w6
  unfold mapV at mt
  go_wp2_with fail
  refine mt.mono ?_
  rintro e w7 ⟨rfl, e1⟩; have e1 := e1.symm; subst e1
  clear mt
  have hpn := ptr_neq qa w6
  go_upto_region 13 with fail
  clear hpn
  have K7 : Keep (fun _ => False) w6 (w6.alloc (.cells #[.int .i64 0, .int .i64 4, .int .i64 10, .int .i64 1, .int .i64 1, .int .i64 (-1), .int .i64 2, .int .i64 1, .int .i64 3] 57)) := (Keep.refl _ _).alloc _
  have R7 : Rs (w6.alloc (.cells #[.int .i64 0, .int .i64 4, .int .i64 10, .int .i64 1, .int .i64 1, .int .i64 (-1), .int .i64 2, .int .i64 1, .int .i64 3] 57)) (some ⟨w6.heap.size, 0, none⟩) 3 zp := rs_new w6 _ 57 zp rfl (by decide)
  have c7 := fold_any R7.rz fits_zp
  rw [zp_fold, show zp.length = 3 from rfl] at c7
  go_wp2_with fail
  refine c7.mono ?_
  rintro e w8 ⟨a8, c8, rfl, R8, k8, -⟩
  have D8 := D6.more (K7.trans k8)
  clear c7 R7 K7 k8 D6
  have kd1 := kind_any false qa w8
  have kd2 := kind_any true qb w8
  unfold mapV kindV at kd1 kd2
  go_wp2_with fail
  refine kd1.mono ?_
  rintro e w9 ⟨rfl, e1⟩; have e1 := e1.symm; subst e1
  clear kd1
  go_wp2_with fail
  refine kd2.mono ?_
  rintro e w9 ⟨rfl, e1⟩; have e1 := e1.symm; subst e1
  clear kd2
  have c9 := sameS D8.a D8.b
  rw [z1_runs, show (decide (4 = 4) && sameL zr zr) = true by rfl] at c9
  unfold mapV at c9
  go_wp2_with fail
  refine c9.mono ?_
  rintro e w9 ⟨rfl, k9⟩
  have D9 := D8.more k9
  have R9 := R8.more k9
  clear c9 k9 D8 R8
  have c10 := D9.a.runs
  have mr := mRuns44 qa
  unfold fRuns at c10
  rw [z1_runs, show zr.length = 1 from rfl] at c10
  go_wp2_with fail
  refine c10.mono ?_
  rintro e w10 ⟨a10, d10, rfl, S10, k10, -⟩
  have D10 := D9.more k10
  have R10 := R9.more k10
  clear c10 S10 k10 D9 R9
  have c11 := D10.a.runs
  unfold fRuns at c11
  rw [z1_runs, show zr.length = 1 from rfl] at c11
  go_wp2_with fail
  refine c11.mono ?_
  rintro e w11 ⟨a11, d11, rfl, S11, k11, -⟩
  have D11 := D10.more k11
  have R11 := R10.more k11
  clear c11 k11 D10 R10
  have c12 := form_any S11.rz (by decide)
  rw [z1_form, show zr.length = 1 from rfl] at c12
  go_wp2_with fail
  refine c12.mono ?_
  rintro e w12 ⟨rfl, k12⟩
  have R12 := R11.more k12
  have HK := (D11.more k12).a.keep
  have hc := R12.1
  obtain ⟨g, rfl, y0, y1, y2⟩ := R12.at (i := 2) (x := ⟨3, 1, 13⟩) rfl
  simp only [Nat.reduceMul, Nat.reduceAdd, List.length_cons, List.length_nil] at y0 y1 y2 hc
  clear c12 R11 R12 D11 S11 mr
  go_wp2_with fail
  go_ret
  exact ⟨rfl, HK⟩
end Tg
end Go.Proofs.Ytkddonmddgfpnaa
