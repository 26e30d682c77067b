/-
  The examples of chapter 9 answer as told.
-/
import Derived.Test.YtbdankhlbepjoaaAwF
namespace Go.Proofs.Ytbdankhlbepjoaa
open Go.ChangeShapes Go.WideShapes Go.ChangeAt Go.RowKit
namespace Tg

def y5 : List Int := [100, 101, 102, 103, -1, 105, -1, -1, -1, -1]
theorem y2_is' : putN y0 0 100 6 = y2 := by kernel_rfl
theorem y2_is'' : putN y3 2 102 1 = y2 := by kernel_rfl
theorem y5_is : putN y2 4 (-1) 1 = y5 := by kernel_rfl

set_option maxRecDepth 100000 in
set_option maxHeartbeats 600000 in
theorem known_any (w : World) : Calls Try.prog 3 #[] w fun e w' => e = .returned (.bool true) ∧ Keep (fun _ => False) w w' := by
  have haw := awake_any w
  go_enter Try.func3, Try.ntmps3
  go_upto_region 3 with (go_at_call 7; refine haw.mono ?_; rintro e w1 ⟨rfl, k1⟩)
  clear haw
  have c1 := newF_no (w := w1) (c := 0) (n := 3) (by omega)
  go_upto_region 4 with (go_at_call 8; refine c1.mono ?_; rintro e wz ⟨rfl, ez⟩; have ez := ez.symm; subst ez)
  clear c1
  have c2 := newF_no (w := w1) (c := 513) (n := 3) (by omega)
  go_upto_region 5 with (go_at_call 8; refine c2.mono ?_; rintro e wz ⟨rfl, ez⟩; have ez := ez.symm; subst ez)
  clear c2
  have c3 := newF_no (w := w1) (c := 10) (n := 513) (by omega)
  go_upto_region 6 with (go_at_call 8; refine c3.mono ?_; rintro e wz ⟨rfl, ez⟩; have ez := ez.symm; subst ez)
  clear c3
  have hnew := newF_any (w := w1) (C := 10) (N := 3) (by omega) (by omega) (by omega) (by omega)
  rw [show ((10 : Nat) : Int) = 10 from rfl, show ((3 : Nat) : Int) = 3 from rfl] at hnew
  go_upto_region 7 with (go_at_call 8; refine hnew.mono ?_; rintro e w5 ⟨q, rfl, F5, k5⟩)
  clear hnew
  have M5 : Mf w1 w5 q 3 10 y0 := ⟨F5, k5⟩
  clear F5 k5
  have c5 : Calls Try.prog 9 #[.pointer (some ⟨q, 0, none⟩), .int .i64 0, .int .i64 6, .int .i64 100] w5 _ := fyes M5 (fset M5.fm (L := 0) (M := 6) (phys := 100) (by omega) (by omega) (by omega) (by omega)) y2_is' (by decide +kernel)
  go_upto_region 8 with (go_at_call 9; refine c5.mono ?_; rintro e w6 ⟨rfl, M6, -⟩)
  clear c5 M5
  have c6 : Calls Try.prog 9 #[.pointer (some ⟨q, 0, none⟩), .int .i64 2, .int .i64 1, .int .i64 50] w6 _ := fyes M6 (fset M6.fm (L := 2) (M := 1) (phys := 50) (by omega) (by omega) (by omega) (by omega)) y3_is (by decide +kernel)
  go_upto_region 9 with (go_at_call 9; refine c6.mono ?_; rintro e w7 ⟨rfl, M7, -⟩)
  clear c6 M6
  have c7 : Calls Try.prog 10 #[.pointer (some ⟨q, 0, none⟩), .int .i64 4, .int .i64 1] w7 _ := ffull (fclear M7.fm (L := 4) (M := 1) (by omega) (by omega)) (by decide +kernel)
  go_upto_region 10 with (go_at_call 10; refine c7.mono ?_; rintro e w8 ⟨rfl, k8⟩)
  have M8 := M7.more k8
  clear c7 M7 k8
  have c8 : Calls Try.prog 9 #[.pointer (some ⟨q, 0, none⟩), .int .i64 2, .int .i64 1, .int .i64 102] w8 _ := fyes M8 (fset M8.fm (L := 2) (M := 1) (phys := 102) (by omega) (by omega) (by omega) (by omega)) y2_is'' (by decide +kernel)
  go_upto_region 11 with (go_at_call 9; refine c8.mono ?_; rintro e w9 ⟨rfl, M9, -⟩)
  clear c8 M8
  have c9 : Calls Try.prog 10 #[.pointer (some ⟨q, 0, none⟩), .int .i64 4, .int .i64 1] w9 _ := fyes M9 (fclear M9.fm (L := 4) (M := 1) (by omega) (by omega)) y5_is (by decide +kernel)
  go_upto_region 12 with (go_at_call 10; refine c9.mono ?_; rintro e w10 ⟨rfl, M10, -⟩)
  clear c9 M9
  have hcount := fcount M10.fm
  rw [show (refR y5 10).length = 2 by decide +kernel, show ((2 : Nat) : Int) = 2 from rfl] at hcount
  have d1 := fun (w' : World) (hk : Keep (fun _ => False) w10 w') => fset_no (M10.more hk).fm (lba := 9) (n := 2) (phys := 0) (by omega) (Or.inl (by decide))
  have d2 := fun (w' : World) (hk : Keep (fun _ => False) w10 w') => fset_no (M10.more hk).fm (lba := -1) (n := 1) (phys := 0) (by omega) (Or.inl (by decide))
  have d3 := fun (w' : World) (hk : Keep (fun _ => False) w10 w') => fclear_no (M10.more hk).fm (lba := 0) (n := 0) (by omega) (by decide)
  have d4 := fun (w' : World) (hk : Keep (fun _ => False) w10 w') => fset_no (M10.more hk).fm (lba := 0) (n := 1) (phys := -1) (by omega) (Or.inr (Or.inl (by omega)))
  have HK := k1.trans M10.keep
  clear M10 k1
  go_wp2_with (go_at_call 11; refine hcount.mono ?_; rintro e w11 ⟨rfl, k11⟩)
  refine (d1 _ k11).mono ?_
  rintro e w12 ⟨rfl, e12⟩
  have e12 := e12.symm
  subst e12
  go_wp2_with fail
  refine (d2 _ k11).mono ?_
  rintro e w12 ⟨rfl, e12⟩
  have e12 := e12.symm
  subst e12
  go_wp2_with fail
  refine (d3 _ k11).mono ?_
  rintro e w12 ⟨rfl, e12⟩
  have e12 := e12.symm
  subst e12
  go_wp2_with fail
  refine (d4 _ k11).mono ?_
  rintro e w12 ⟨rfl, e12⟩
  have e12 := e12.symm
  subst e12
  go_wp2_with fail
  go_ret
  exact ⟨rfl, HK.trans k11⟩
theorem known_walk (w : World) : Calls Try.prog 3 #[] w fun e w' => e = .returned (.bool true) ∧ Below w.heap.size w w' :=
  (known_any w).mono (by rintro e w' ⟨h1, h2⟩; exact ⟨h1, h2.below (Nat.le_refl _) (fun _ e => e.elim)⟩)
end Tg
end Go.Proofs.Ytbdankhlbepjoaa
