/-
  VolKnown, given what a store's calls answer.
-/
import Derived.Test.YtjgnajopomadpaaGreatRh
namespace Go.Proofs.YtjgnajopomadpaaGreat
open Go.ChangeShapes Go.WideShapes Go.ChangeAt Go.RowKit
namespace Tg
open Qm Crc
theorem gY : goodS (bs nY) = false := by decide +kernel
theorem gN : goodS (bs ⟨#[]⟩) = false := by decide +kernel
theorem q1 : readS l2 s2 nZ 0 1 = ([], 4) := by
  have : placeS s2 nZ 0 1 = (0, 4) := by decide +kernel
  unfold readS; rw [this]; rfl
theorem q2 : readS l2 s2 nB 5 2 = ([], 1) := by
  have : placeS s2 nB 5 2 = (0, 1) := by decide +kernel
  unfold readS; rw [this]; rfl
theorem q3 : createS 20 l2 s2 nC 3 = ⟨l2, s2, 5⟩ := create_full gC (by decide) (by decide +kernel) (by decide +kernel)
theorem q4 : createS 20 l2 s2 nA 1 = ⟨l2, s2, 8⟩ := create_has gA (by decide) (by decide +kernel)
theorem q5 : createS 20 l2 s2 ⟨#[]⟩ 1 = ⟨l2, s2, 1⟩ := create_arg (Or.inl gN)
theorem q6 : createS 20 l2 s2 nY 1 = ⟨l2, s2, 1⟩ := create_arg (Or.inl gY)
theorem q7 : deleteS l2 s2 nZ = ⟨l2, s2, 4⟩ := by
  have : volOf (lst s2) nZ = none := rfl
  unfold deleteS; rw [this]
theorem q8 : renameS l2 s2 nA nB = ⟨l2, s2, 8⟩ := by
  have h1 : (volOf (lst s2) nB).isSome = true := by decide +kernel
  unfold renameS; rw [e2a]
  simp only []
  rw [gB, if_neg (by decide), h1, if_pos rfl]
theorem q9 : renameS l2 s2 nA nA = ⟨l2, s2, 8⟩ := by
  unfold renameS; rw [e2a]
  simp only []
  rw [gA, if_neg (by decide)]
  rfl
section
variable {SV : (Nat → Prop) → World → Nat → Nat → Nat → List Int → (Nat → Option En) → Prop}
set_option maxRecDepth 100000 in
set_option maxHeartbeats 8000000 in
theorem known_law (H : StOk SV) (w : World) : Calls Tryz.prog 3 #[] w fun e w' => e = .returned (.bool true) ∧ Below w.heap.size w w' := by
  refine bel ?_
  have c0 := awake25 H w
  go_enter Tryz.func3, Tryz.ntmps3
  go_wp2_with fail
  refine c0.mono ?_
  rintro e w0 ⟨rfl, K0⟩
  have c1 := new_yes w0 (n := 20) (by omega) (by omega)
  clear c0
  go_wp2_with fail
  refine c1.mono ?_
  rintro e w1 ⟨p, S, rfl, ⟨g, cap, hA, hS⟩, hlo, K1⟩
  have hs0 := K0.size
  have hp : w.heap.size ≤ p ∧ w.heap.size ≤ g := ⟨Nat.le_trans hs0 (hlo p ((hS p).2 (Or.inl rfl))), Nat.le_trans hs0 (hlo g ((hS g).2 (Or.inr rfl)))⟩
  have cb := new_yes w1 (n := 8) (by omega) (by omega)
  have K1' := K0.trans K1
  clear c1 hS hlo K0 K1 hs0
  go_wp2_with fail
  refine cb.mono ?_
  rintro e wb ⟨pb, Sb, rfl, ⟨gb, capb, hB, -⟩, -, Kb⟩
  have c2 := vf_open H (hA.keep Kb (fun e => e) (fun e => e)) hp (K1'.trans Kb) (N := 20) (by rw [List.length_replicate]) (by omega)
  rw [show plc (20 : Nat) (List.replicate (20 * 32) 0) = s0 from plc0] at c2
  clear cb hp hA K1' Kb
  go_wp2_with fail
  refine c2.mono ?_
  rintro e w2 ⟨q, rfl, V2, K2⟩
  have co := H.open_no (hB.keep K2 (fun e => e) (fun e => e)) (N := 8) (by rw [List.length_replicate]) (by omega)
  clear c2 hB K2
  go_wp2_with fail
  refine co.mono ?_
  rintro e w3 ⟨rfl, K3⟩
  have c3 := vf_create H (V2.more H K3) nA 4 sz.1 (i64 4)
  rw [show createS 20 (List.replicate (20 * 32) 0) s0 nA 4 = ⟨l1, s1, 0⟩ from k1] at c3
  clear co V2 K3
  go_wp2_with fail
  refine c3.mono ?_
  rintro e w4 ⟨rfl, V3, -⟩
  have c4 := vf_create H V3 nB 6 sz.2.1 (i64 6)
  rw [k2] at c4
  clear c3 V3
  go_wp2_with fail
  refine c4.mono ?_
  rintro e w5 ⟨rfl, V4, -⟩
  have V4 : Vf SV (fun _ => False) w w5 q p 20 l2 s2 := V4
  have r1 := vf_read H V4 nZ 0 1 sz.2.2.2.1 (i64 0) (i64 1)
  rw [q1] at r1
  clear c4 V4
  go_wp2_with fail
  refine r1.mono ?_
  rintro e w6 ⟨rfl, V6, -⟩
  have r2 := vf_read H V6 nB 5 2 sz.2.1 (i64 5) (i64 2)
  rw [q2] at r2
  clear r1 V6
  go_wp2_with fail
  refine r2.mono ?_
  rintro e w7 ⟨rfl, V7, -⟩
  have r3 := vf_create H V7 nC 3 sz.2.2.1 (i64 3)
  rw [q3] at r3
  clear r2 V7
  go_wp2_with fail
  refine r3.mono ?_
  rintro e w8 ⟨rfl, V8, -⟩
  have V8 : Vf SV (fun _ => False) w w8 q p 20 l2 s2 := V8
  have r4 := vf_create H V8 nA 1 sz.1 (i64 1)
  rw [q4] at r4
  clear r3 V8
  go_wp2_with fail
  refine r4.mono ?_
  rintro e w9 ⟨rfl, V9, -⟩
  have V9 : Vf SV (fun _ => False) w w9 q p 20 l2 s2 := V9
  have r5 := vf_create H V9 ⟨#[]⟩ 1 (by decide) (i64 1)
  rw [q5] at r5
  clear r4 V9
  go_wp2_with fail
  refine r5.mono ?_
  rintro e w10 ⟨rfl, V10, -⟩
  have V10 : Vf SV (fun _ => False) w w10 q p 20 l2 s2 := V10
  have r6 := vf_create H V10 nY 1 sz.2.2.2.2.2 (i64 1)
  rw [q6] at r6
  clear r5 V10
  go_wp2_with fail
  refine r6.mono ?_
  rintro e w11 ⟨rfl, V11, -⟩
  have V11 : Vf SV (fun _ => False) w w11 q p 20 l2 s2 := V11
  have r7 := vf_delete H V11 nZ sz.2.2.2.1
  rw [q7] at r7
  clear r6 V11
  go_wp2_with fail
  refine r7.mono ?_
  rintro e w12 ⟨rfl, V12, -⟩
  have V12 : Vf SV (fun _ => False) w w12 q p 20 l2 s2 := V12
  have r8 := vf_rename H V12 nA nB sz.1 sz.2.1
  rw [q8] at r8
  clear r7 V12
  go_wp2_with fail
  refine r8.mono ?_
  rintro e w13 ⟨rfl, V13, -⟩
  have V13 : Vf SV (fun _ => False) w w13 q p 20 l2 s2 := V13
  have r9 := vf_rename H V13 nA nA sz.1 sz.1
  rw [q9] at r9
  clear r8 V13
  go_wp2_with fail
  refine r9.mono ?_
  rintro e w14 ⟨rfl, V14, -⟩
  have KK : RowKit.Hid (Keep (fun _ => False) w w14) := V14.kp
  clear r9 V14
  go_wp2_with fail
  go_ret
  exact ⟨rfl, KK⟩
end
end Tg
end Go.Proofs.YtjgnajopomadpaaGreat
