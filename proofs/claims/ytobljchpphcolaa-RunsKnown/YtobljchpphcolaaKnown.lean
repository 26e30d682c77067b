/-
  The examples of chapter 8, told by the first statement.
-/
import Derived.Test.YtobljchpphcolaaAwakeW
namespace Go.Proofs.Ytobljchpphcolaa
open Go.ChangeShapes Go.WideShapes Go.ChangeAt Go.RowKit
namespace Tg

def x5 : List Rn := [⟨0, 4, 100⟩, ⟨5, 1, 105⟩]
theorem x2_is' : setL ⟨0, 6, 100⟩ [] = x2 := by kernel_rfl
theorem x3_full' : 3 < (clearL 4 (4 + 1) x3).length := by decide +kernel
theorem x2_is'' : setL ⟨2, 1, 102⟩ x3 = x2 := by kernel_rfl
theorem x5_is : clearL 4 (4 + 1) x2 = x5 := by kernel_rfl

set_option maxRecDepth 100000 in
set_option maxHeartbeats 600000 in
theorem known_any (w : World) : Calls Try.prog 3 #[] w fun e w' => e = .returned (.bool true) ∧ Keep (fun _ => False) w w' := by
  have haw := awake_any w
  go_enter Try.func3, Try.ntmps3
  go_upto_region 3 with (go_at_call 8; refine haw.mono ?_; rintro e w1 ⟨rfl, k1⟩)
  clear haw
  have c1 := newMap_no (w := w1) (c := 0) (n := 3) (by omega)
  go_upto_region 4 with (go_at_call 9; refine c1.mono ?_; rintro e w2 ⟨rfl, k2⟩)
  clear c1
  have c2 := newMap_no (w := w2) (c := 513) (n := 3) (by omega)
  go_upto_region 5 with (go_at_call 9; refine c2.mono ?_; rintro e w3 ⟨rfl, k3⟩)
  clear c2
  have c3 := newMap_no (w := w3) (c := 10) (n := 513) (by omega)
  go_upto_region 6 with (go_at_call 9; refine c3.mono ?_; rintro e w4 ⟨rfl, k4⟩)
  clear c3
  have K4 := ((k1.trans k2).trans k3).trans k4
  clear k1 k2 k3 k4
  have hnew := newMap_any (w := w4) (cap := 10) (N := 3) (by omega) (by omega) (by omega) (by omega)
  rw [show ((10 : Nat) : Int) = 10 from rfl, show ((3 : Nat) : Int) = 3 from rfl] at hnew
  go_upto_region 7 with (go_at_call 9; refine hnew.mono ?_; rintro e w5 ⟨q, b, p, k, rfl, M5⟩)
  clear hnew
  have c5 : Calls Try.prog 10 #[.pointer (some ⟨q, 0, none⟩), .int .i64 0, .int .i64 6, .int .i64 100] w5 _ := call_yes (set_map M5 (r := ⟨0, 6, 100⟩) (by simp) (by simp) (by simp) (by simp) (by simp)) x2_is' (by simp [x2])
  go_upto_region 8 with (go_at_call 10; refine c5.mono ?_; rintro e w6 ⟨rfl, M6, -⟩)
  clear c5 M5
  have c6 : Calls Try.prog 10 #[.pointer (some ⟨q, 0, none⟩), .int .i64 2, .int .i64 1, .int .i64 50] w6 _ := call_yes (set_map M6 (r := ⟨2, 1, 50⟩) (by simp) (by simp) (by simp) (by simp) (by simp)) x3_is (by simp [x3])
  go_upto_region 9 with (go_at_call 10; refine c6.mono ?_; rintro e w7 ⟨rfl, M7, -⟩)
  clear c6 M6
  have c7 : Calls Try.prog 11 #[.pointer (some ⟨q, 0, none⟩), .int .i64 4, .int .i64 1] w7 _ := call_full (clear_map M7 (lba := 4) (n := 1) (by omega) (by omega) (by omega)) x3_full'
  go_upto_region 10 with (go_at_call 11; refine c7.mono ?_; rintro e w8 ⟨rfl, k8⟩)
  have M8 := M7.more k8
  clear c7 M7 k8
  have c8 : Calls Try.prog 10 #[.pointer (some ⟨q, 0, none⟩), .int .i64 2, .int .i64 1, .int .i64 102] w8 _ := call_yes (set_map M8 (r := ⟨2, 1, 102⟩) (by simp) (by simp) (by simp) (by simp) (by simp)) x2_is'' (by simp [x2])
  go_upto_region 11 with (go_at_call 10; refine c8.mono ?_; rintro e w9 ⟨rfl, M9, -⟩)
  clear c8 M8
  have c9 : Calls Try.prog 11 #[.pointer (some ⟨q, 0, none⟩), .int .i64 4, .int .i64 1] w9 _ := call_yes (clear_map M9 (lba := 4) (n := 1) (by omega) (by omega) (by omega)) x5_is (by simp [x5])
  go_upto_region 12 with (go_at_call 11; refine c9.mono ?_; rintro e w10 ⟨rfl, M10, -⟩)
  clear c9 M9
  have hcount := count_any M10
  rw [show x5.length = 2 from rfl, show ((2 : Nat) : Int) = 2 from rfl] at hcount
  have d1 := fun (w' : World) (hk : Keep (fun _ => False) w10 w') => set_no (M10.more hk) (lba := 9) (n := 2) (phys := 0) (by omega) (Or.inl (by decide))
  have d2 := fun (w' : World) (hk : Keep (fun _ => False) w10 w') => set_no (M10.more hk) (lba := -1) (n := 1) (phys := 0) (by omega) (Or.inl (by decide))
  have d3 := fun (w' : World) (hk : Keep (fun _ => False) w10 w') => clear_no (M10.more hk) (lba := 0) (n := 0) (by omega) (by decide)
  have d4 := fun (w' : World) (hk : Keep (fun _ => False) w10 w') => set_no (M10.more hk) (lba := 0) (n := 1) (phys := -1) (by omega) (Or.inr (Or.inl (by omega)))
  have HK := M10.keep
  have K0 := Keep.refl (fun _ => False) w10
  clear M10
  go_wp2_with (go_at_call 12; refine hcount.mono ?_; rintro e w11 ⟨rfl, e11⟩; have e11 := e11.symm; subst e11)
  refine (d1 _ K0).mono ?_
  rintro e w12 ⟨rfl, k12⟩
  go_wp2_with fail
  refine (d2 _ k12).mono ?_
  rintro e w13 ⟨rfl, k13⟩
  go_wp2_with fail
  refine (d3 _ (k12.trans k13)).mono ?_
  rintro e w14 ⟨rfl, k14⟩
  go_wp2_with fail
  refine (d4 _ ((k12.trans k13).trans k14)).mono ?_
  rintro e w15 ⟨rfl, k15⟩
  go_wp2_with fail
  go_ret
  exact ⟨rfl, (K4.trans HK).trans (((k12.trans k13).trans k14).trans k15)⟩
theorem known_walk (w : World) : Calls Try.prog 3 #[] w fun e w' => e = .returned (.bool true) ∧ Below w.heap.size w w' :=
  (known_any w).mono (by rintro e w' ⟨h1, h2⟩; exact ⟨h1, h2.below (Nat.le_refl _) (fun _ e => e.elim)⟩)
end Tg
end Go.Proofs.Ytobljchpphcolaa
