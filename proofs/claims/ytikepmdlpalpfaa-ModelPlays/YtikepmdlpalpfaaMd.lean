/-
  ModelApart: the other ways.
-/
import Derived.Test.YtikepmdlpalpfaaMa
namespace Go.Proofs.Ytikepmdlpalpfaa
open Go.ChangeShapes Go.WideShapes Go.ChangeAt Go.RowKit
namespace Tg
set_option linter.unusedVariables false
set_option maxRecDepth 100000 in
set_option maxHeartbeats 2000000 in
theorem apart_l_ny {M : (Nat → Prop) → World → Nat → List Int → Prop} (H : ArrOk M) (w : World) {N : Nat} {ao bo : Int} {al an : Int} {bl bn : Nat} {ad bd : ByteArray} (h1 : 1 ≤ N) (h2 : N ≤ 512) (d1 : ¬ an < 1) (d2 : ¬ (bn : Int) < 1) (d3 : ¬ (N : Int) < an) (d4 : ¬ (N : Int) < (bn : Int)) (d5 : ¬ al < IntKind.i64.wrap ((bl : Int) + (bn : Int))) (sa : ad.size ≤ 9223372036854775807) (sb : bd.size ≤ 9223372036854775807) (ra : okR N al an = false) (rb : okR N bl bn = true) (ia : I64 al ∧ I64 an) :
    Calls Try.prog 5 #[.int .i64 (N : Int), .agg #[.int .i64 ao, .int .i64 al, .int .i64 an, .string ad], .agg #[.int .i64 bo, .int .i64 (bl : Int), .int .i64 (bn : Int), .string bd]] w fun e w' => e = .returned (.bool true) ∧ Keep (fun _ => False) w w' := by
  obtain ⟨Vb, q7⟩ : ∃ x, x = IntKind.i64.wrap ((bl : Int) + (bn : Int)) := ⟨_, rfl⟩
  rw [← q7] at d5
  replace q7 := q7.symm
  have pb := okR_iff.1 rb
  have z0 : (List.replicate (N * 32) (0 : Int)).length = N * 32 := by simp
  have z8 := b8_zero (N * 32)
  have Ba : Blk ((w.alloc (.cells #[.int .i64 ao, .int .i64 al, .int .i64 an, .string ad] 35)).alloc (.cells #[.int .i64 bo, .int .i64 (bl : Int), .int .i64 (bn : Int), .string bd] 35)) w.heap.size 4 (acell ao al an ad) := (blk_act w ao al an ad).alloc _
  have Bb : Blk ((w.alloc (.cells #[.int .i64 ao, .int .i64 al, .int .i64 an, .string ad] 35)).alloc (.cells #[.int .i64 bo, .int .i64 (bl : Int), .int .i64 (bn : Int), .string bd] 35)) (w.heap.size + 1) 4 (acell bo (bl : Int) (bn : Int) bd) := by
    have := blk_act (w.alloc (.cells #[.int .i64 ao, .int .i64 al, .int .i64 an, .string ad] 35)) bo (bl : Int) (bn : Int) bd
    rwa [World.size_alloc] at this
  have K0 : Keep (fun _ => False) w ((w.alloc (.cells #[.int .i64 ao, .int .i64 al, .int .i64 an, .string ad] 35)).alloc (.cells #[.int .i64 bo, .int .i64 (bl : Int), .int .i64 (bn : Int), .string bd] 35)) := ((Keep.refl _ _).alloc _).alloc _
  go_enter Try.func5, Try.ntmps5
  go_upto_region 1 with fail
  generalize (w.alloc (.cells #[.int .i64 ao, .int .i64 al, .int .i64 an, .string ad] 35)).alloc (.cells #[.int .i64 bo, .int .i64 (bl : Int), .int .i64 (bn : Int), .string bd] 35) = v1 at Ba Bb K0 ⊢
  generalize hgb : w.heap.size + 1 = gb at Bb ⊢
  generalize hga : w.heap.size = ga at Ba hgb ⊢
  clear hga hgb
  have hA := awake_any H v1
  go_wp2_with fail
  refine (hA).mono ?_
  rintro e v2 ⟨rfl, a2⟩
  clear hA
  have c1 := one_new H a2 (n := N) h1 h2
  go_wp2_with fail
  refine (c1).mono ?_
  rintro e v3 ⟨p, rfl, O3⟩
  clear c1
  have c2 := two_new H O3 (n := N) h1 h2
  go_wp2_with fail
  refine (c2).mono ?_
  rintro e v4 ⟨q, rfl, T4⟩
  clear c2 O3
  generalize List.replicate (N * 32) (0 : Int) = Z at z0 z8 T4
  have ca0 : v4.cell? ⟨ga, 0, none⟩ = some (.int .i64 ao) := ((Ba.keep T4.kp (fun e => e)) 0 (by omega)).1
  have ca1 : v4.cell? ⟨ga, 1, none⟩ = some (.int .i64 al) := ((Ba.keep T4.kp (fun e => e)) 1 (by omega)).1
  have ca2 : v4.cell? ⟨ga, 2, none⟩ = some (.int .i64 an) := ((Ba.keep T4.kp (fun e => e)) 2 (by omega)).1
  have ca3 : v4.cell? ⟨ga, 3, none⟩ = some (.string ad) := ((Ba.keep T4.kp (fun e => e)) 3 (by omega)).1
  have cb0 : v4.cell? ⟨gb, 0, none⟩ = some (.int .i64 bo) := ((Bb.keep T4.kp (fun e => e)) 0 (by omega)).1
  have cb1 : v4.cell? ⟨gb, 1, none⟩ = some (.int .i64 (bl : Int)) := ((Bb.keep T4.kp (fun e => e)) 1 (by omega)).1
  have cb2 : v4.cell? ⟨gb, 2, none⟩ = some (.int .i64 (bn : Int)) := ((Bb.keep T4.kp (fun e => e)) 2 (by omega)).1
  have cb3 : v4.cell? ⟨gb, 3, none⟩ = some (.string bd) := ((Bb.keep T4.kp (fun e => e)) 3 (by omega)).1
  have c3 := two_write_no H T4 z0 h2 ia.1 ia.2 ad sa ra
  go_wp2_with fail
  refine (c3).mono ?_
  rintro e v5 ⟨rfl, T5⟩
  clear c3 T4
  clear ca0 ca1 ca2 ca3 cb0 cb1 cb2 cb3
  have z1 : (Z).length = N * 32 := z0
  have y1 : B8 (Z) := z8
  have ca0 : v5.cell? ⟨ga, 0, none⟩ = some (.int .i64 ao) := ((Ba.keep T5.kp (fun e => e)) 0 (by omega)).1
  have ca1 : v5.cell? ⟨ga, 1, none⟩ = some (.int .i64 al) := ((Ba.keep T5.kp (fun e => e)) 1 (by omega)).1
  have ca2 : v5.cell? ⟨ga, 2, none⟩ = some (.int .i64 an) := ((Ba.keep T5.kp (fun e => e)) 2 (by omega)).1
  have ca3 : v5.cell? ⟨ga, 3, none⟩ = some (.string ad) := ((Ba.keep T5.kp (fun e => e)) 3 (by omega)).1
  have cb0 : v5.cell? ⟨gb, 0, none⟩ = some (.int .i64 bo) := ((Bb.keep T5.kp (fun e => e)) 0 (by omega)).1
  have cb1 : v5.cell? ⟨gb, 1, none⟩ = some (.int .i64 (bl : Int)) := ((Bb.keep T5.kp (fun e => e)) 1 (by omega)).1
  have cb2 : v5.cell? ⟨gb, 2, none⟩ = some (.int .i64 (bn : Int)) := ((Bb.keep T5.kp (fun e => e)) 2 (by omega)).1
  have cb3 : v5.cell? ⟨gb, 3, none⟩ = some (.string bd) := ((Bb.keep T5.kp (fun e => e)) 3 (by omega)).1
  have c4 := two_write H T5 z1 h2 (lba := bl) (n := bn) bd sb rb
  go_wp2_with fail
  refine (c4).mono ?_
  rintro e v6 ⟨rfl, T6⟩
  clear c4 T5
  clear ca0 ca1 ca2 ca3 cb0 cb1 cb2 cb3
  have z2 : (wrL (Z) bl bn (nums bd)).length = N * 32 := by rw [wrL_len (by rw [z1]; omega)]; exact z1
  have y2 : B8 (wrL (Z) bl bn (nums bd)) := wrL_b8 y1 (nums_b8 bd)
  have T6 := T6.symm
  have ca0 : v6.cell? ⟨ga, 0, none⟩ = some (.int .i64 ao) := ((Ba.keep T6.kp (fun e => e)) 0 (by omega)).1
  have ca1 : v6.cell? ⟨ga, 1, none⟩ = some (.int .i64 al) := ((Ba.keep T6.kp (fun e => e)) 1 (by omega)).1
  have ca2 : v6.cell? ⟨ga, 2, none⟩ = some (.int .i64 an) := ((Ba.keep T6.kp (fun e => e)) 2 (by omega)).1
  have ca3 : v6.cell? ⟨ga, 3, none⟩ = some (.string ad) := ((Ba.keep T6.kp (fun e => e)) 3 (by omega)).1
  have cb0 : v6.cell? ⟨gb, 0, none⟩ = some (.int .i64 bo) := ((Bb.keep T6.kp (fun e => e)) 0 (by omega)).1
  have cb1 : v6.cell? ⟨gb, 1, none⟩ = some (.int .i64 (bl : Int)) := ((Bb.keep T6.kp (fun e => e)) 1 (by omega)).1
  have cb2 : v6.cell? ⟨gb, 2, none⟩ = some (.int .i64 (bn : Int)) := ((Bb.keep T6.kp (fun e => e)) 2 (by omega)).1
  have cb3 : v6.cell? ⟨gb, 3, none⟩ = some (.string bd) := ((Bb.keep T6.kp (fun e => e)) 3 (by omega)).1
  have c5 := two_write H T6 z0 h2 (lba := bl) (n := bn) bd sb rb
  go_wp2_with fail
  refine (c5).mono ?_
  rintro e v7 ⟨rfl, T7⟩
  clear c5 T6
  clear ca0 ca1 ca2 ca3 cb0 cb1 cb2 cb3
  have z3 : (wrL Z bl bn (nums bd)).length = N * 32 := by rw [wrL_len (by omega)]; exact z0
  have y3 : B8 (wrL Z bl bn (nums bd)) := wrL_b8 z8 (nums_b8 bd)
  have ca0 : v7.cell? ⟨ga, 0, none⟩ = some (.int .i64 ao) := ((Ba.keep T7.kp (fun e => e)) 0 (by omega)).1
  have ca1 : v7.cell? ⟨ga, 1, none⟩ = some (.int .i64 al) := ((Ba.keep T7.kp (fun e => e)) 1 (by omega)).1
  have ca2 : v7.cell? ⟨ga, 2, none⟩ = some (.int .i64 an) := ((Ba.keep T7.kp (fun e => e)) 2 (by omega)).1
  have ca3 : v7.cell? ⟨ga, 3, none⟩ = some (.string ad) := ((Ba.keep T7.kp (fun e => e)) 3 (by omega)).1
  have cb0 : v7.cell? ⟨gb, 0, none⟩ = some (.int .i64 bo) := ((Bb.keep T7.kp (fun e => e)) 0 (by omega)).1
  have cb1 : v7.cell? ⟨gb, 1, none⟩ = some (.int .i64 (bl : Int)) := ((Bb.keep T7.kp (fun e => e)) 1 (by omega)).1
  have cb2 : v7.cell? ⟨gb, 2, none⟩ = some (.int .i64 (bn : Int)) := ((Bb.keep T7.kp (fun e => e)) 2 (by omega)).1
  have cb3 : v7.cell? ⟨gb, 3, none⟩ = some (.string bd) := ((Bb.keep T7.kp (fun e => e)) 3 (by omega)).1
  have c6 := two_write_no H T7 z3 h2 ia.1 ia.2 ad sa ra
  go_wp2_with fail
  refine (c6).mono ?_
  rintro e v8 ⟨rfl, T8⟩
  clear c6 T7
  clear ca0 ca1 ca2 ca3 cb0 cb1 cb2 cb3
  have T8 := T8.symm
  generalize wrL (Z) bl bn (nums bd) = X at T8 z2 y2
  have hE : Hid (X = X) := rfl
  have c7 := two_cont H T8 z2 h2
  go_wp2_with fail
  refine (c7).mono ?_
  rintro e v9 ⟨rfl, T9⟩
  clear c7 T8
  have T9 := T9.symm
  have c8 := two_cont H T9 z2 h2
  go_wp2_with fail
  refine (c8).mono ?_
  rintro e v10 ⟨rfl, T10⟩
  clear c8 T9
  have T10 := T10.symm
  have c9 := two_dif H T10 z2 h2 z2 h2 y2 y2
  rw [difL_same] at c9
  go_wp2_with fail
  refine (c9).mono ?_
  rintro e v11 ⟨a11, n11, rfl, I11, T11⟩
  clear c9 T10 I11
  simp only [List.length_nil]
  have HK := K0.trans T11.kp
  go_wp2_with fail
  go_ret
  exact ⟨rfl, HK⟩
set_option maxRecDepth 100000 in
set_option maxHeartbeats 2000000 in
theorem apart_l_nn {M : (Nat → Prop) → World → Nat → List Int → Prop} (H : ArrOk M) (w : World) {N : Nat} {ao bo : Int} {al an : Int} {bl bn : Int} {ad bd : ByteArray} (h1 : 1 ≤ N) (h2 : N ≤ 512) (d1 : ¬ an < 1) (d2 : ¬ bn < 1) (d3 : ¬ (N : Int) < an) (d4 : ¬ (N : Int) < bn) (d5 : ¬ al < IntKind.i64.wrap (bl + bn)) (sa : ad.size ≤ 9223372036854775807) (sb : bd.size ≤ 9223372036854775807) (ra : okR N al an = false) (rb : okR N bl bn = false) (ia : I64 al ∧ I64 an) (ib : I64 bl ∧ I64 bn) :
    Calls Try.prog 5 #[.int .i64 (N : Int), .agg #[.int .i64 ao, .int .i64 al, .int .i64 an, .string ad], .agg #[.int .i64 bo, .int .i64 bl, .int .i64 bn, .string bd]] w fun e w' => e = .returned (.bool true) ∧ Keep (fun _ => False) w w' := by
  obtain ⟨Vb, q7⟩ : ∃ x, x = IntKind.i64.wrap (bl + bn) := ⟨_, rfl⟩
  rw [← q7] at d5
  replace q7 := q7.symm
  have z0 : (List.replicate (N * 32) (0 : Int)).length = N * 32 := by simp
  have z8 := b8_zero (N * 32)
  have Ba : Blk ((w.alloc (.cells #[.int .i64 ao, .int .i64 al, .int .i64 an, .string ad] 35)).alloc (.cells #[.int .i64 bo, .int .i64 bl, .int .i64 bn, .string bd] 35)) w.heap.size 4 (acell ao al an ad) := (blk_act w ao al an ad).alloc _
  have Bb : Blk ((w.alloc (.cells #[.int .i64 ao, .int .i64 al, .int .i64 an, .string ad] 35)).alloc (.cells #[.int .i64 bo, .int .i64 bl, .int .i64 bn, .string bd] 35)) (w.heap.size + 1) 4 (acell bo bl bn bd) := by
    have := blk_act (w.alloc (.cells #[.int .i64 ao, .int .i64 al, .int .i64 an, .string ad] 35)) bo bl bn bd
    rwa [World.size_alloc] at this
  have K0 : Keep (fun _ => False) w ((w.alloc (.cells #[.int .i64 ao, .int .i64 al, .int .i64 an, .string ad] 35)).alloc (.cells #[.int .i64 bo, .int .i64 bl, .int .i64 bn, .string bd] 35)) := ((Keep.refl _ _).alloc _).alloc _
  go_enter Try.func5, Try.ntmps5
  go_upto_region 1 with fail
  generalize (w.alloc (.cells #[.int .i64 ao, .int .i64 al, .int .i64 an, .string ad] 35)).alloc (.cells #[.int .i64 bo, .int .i64 bl, .int .i64 bn, .string bd] 35) = v1 at Ba Bb K0 ⊢
  generalize hgb : w.heap.size + 1 = gb at Bb ⊢
  generalize hga : w.heap.size = ga at Ba hgb ⊢
  clear hga hgb
  have hA := awake_any H v1
  go_wp2_with fail
  refine (hA).mono ?_
  rintro e v2 ⟨rfl, a2⟩
  clear hA
  have c1 := one_new H a2 (n := N) h1 h2
  go_wp2_with fail
  refine (c1).mono ?_
  rintro e v3 ⟨p, rfl, O3⟩
  clear c1
  have c2 := two_new H O3 (n := N) h1 h2
  go_wp2_with fail
  refine (c2).mono ?_
  rintro e v4 ⟨q, rfl, T4⟩
  clear c2 O3
  generalize List.replicate (N * 32) (0 : Int) = Z at z0 z8 T4
  have ca0 : v4.cell? ⟨ga, 0, none⟩ = some (.int .i64 ao) := ((Ba.keep T4.kp (fun e => e)) 0 (by omega)).1
  have ca1 : v4.cell? ⟨ga, 1, none⟩ = some (.int .i64 al) := ((Ba.keep T4.kp (fun e => e)) 1 (by omega)).1
  have ca2 : v4.cell? ⟨ga, 2, none⟩ = some (.int .i64 an) := ((Ba.keep T4.kp (fun e => e)) 2 (by omega)).1
  have ca3 : v4.cell? ⟨ga, 3, none⟩ = some (.string ad) := ((Ba.keep T4.kp (fun e => e)) 3 (by omega)).1
  have cb0 : v4.cell? ⟨gb, 0, none⟩ = some (.int .i64 bo) := ((Bb.keep T4.kp (fun e => e)) 0 (by omega)).1
  have cb1 : v4.cell? ⟨gb, 1, none⟩ = some (.int .i64 bl) := ((Bb.keep T4.kp (fun e => e)) 1 (by omega)).1
  have cb2 : v4.cell? ⟨gb, 2, none⟩ = some (.int .i64 bn) := ((Bb.keep T4.kp (fun e => e)) 2 (by omega)).1
  have cb3 : v4.cell? ⟨gb, 3, none⟩ = some (.string bd) := ((Bb.keep T4.kp (fun e => e)) 3 (by omega)).1
  have c3 := two_write_no H T4 z0 h2 ia.1 ia.2 ad sa ra
  go_wp2_with fail
  refine (c3).mono ?_
  rintro e v5 ⟨rfl, T5⟩
  clear c3 T4
  clear ca0 ca1 ca2 ca3 cb0 cb1 cb2 cb3
  have z1 : (Z).length = N * 32 := z0
  have y1 : B8 (Z) := z8
  have ca0 : v5.cell? ⟨ga, 0, none⟩ = some (.int .i64 ao) := ((Ba.keep T5.kp (fun e => e)) 0 (by omega)).1
  have ca1 : v5.cell? ⟨ga, 1, none⟩ = some (.int .i64 al) := ((Ba.keep T5.kp (fun e => e)) 1 (by omega)).1
  have ca2 : v5.cell? ⟨ga, 2, none⟩ = some (.int .i64 an) := ((Ba.keep T5.kp (fun e => e)) 2 (by omega)).1
  have ca3 : v5.cell? ⟨ga, 3, none⟩ = some (.string ad) := ((Ba.keep T5.kp (fun e => e)) 3 (by omega)).1
  have cb0 : v5.cell? ⟨gb, 0, none⟩ = some (.int .i64 bo) := ((Bb.keep T5.kp (fun e => e)) 0 (by omega)).1
  have cb1 : v5.cell? ⟨gb, 1, none⟩ = some (.int .i64 bl) := ((Bb.keep T5.kp (fun e => e)) 1 (by omega)).1
  have cb2 : v5.cell? ⟨gb, 2, none⟩ = some (.int .i64 bn) := ((Bb.keep T5.kp (fun e => e)) 2 (by omega)).1
  have cb3 : v5.cell? ⟨gb, 3, none⟩ = some (.string bd) := ((Bb.keep T5.kp (fun e => e)) 3 (by omega)).1
  have c4 := two_write_no H T5 z1 h2 ib.1 ib.2 bd sb rb
  go_wp2_with fail
  refine (c4).mono ?_
  rintro e v6 ⟨rfl, T6⟩
  clear c4 T5
  clear ca0 ca1 ca2 ca3 cb0 cb1 cb2 cb3
  have z2 : (Z).length = N * 32 := z1
  have y2 : B8 (Z) := y1
  have T6 := T6.symm
  have ca0 : v6.cell? ⟨ga, 0, none⟩ = some (.int .i64 ao) := ((Ba.keep T6.kp (fun e => e)) 0 (by omega)).1
  have ca1 : v6.cell? ⟨ga, 1, none⟩ = some (.int .i64 al) := ((Ba.keep T6.kp (fun e => e)) 1 (by omega)).1
  have ca2 : v6.cell? ⟨ga, 2, none⟩ = some (.int .i64 an) := ((Ba.keep T6.kp (fun e => e)) 2 (by omega)).1
  have ca3 : v6.cell? ⟨ga, 3, none⟩ = some (.string ad) := ((Ba.keep T6.kp (fun e => e)) 3 (by omega)).1
  have cb0 : v6.cell? ⟨gb, 0, none⟩ = some (.int .i64 bo) := ((Bb.keep T6.kp (fun e => e)) 0 (by omega)).1
  have cb1 : v6.cell? ⟨gb, 1, none⟩ = some (.int .i64 bl) := ((Bb.keep T6.kp (fun e => e)) 1 (by omega)).1
  have cb2 : v6.cell? ⟨gb, 2, none⟩ = some (.int .i64 bn) := ((Bb.keep T6.kp (fun e => e)) 2 (by omega)).1
  have cb3 : v6.cell? ⟨gb, 3, none⟩ = some (.string bd) := ((Bb.keep T6.kp (fun e => e)) 3 (by omega)).1
  have c5 := two_write_no H T6 z0 h2 ib.1 ib.2 bd sb rb
  go_wp2_with fail
  refine (c5).mono ?_
  rintro e v7 ⟨rfl, T7⟩
  clear c5 T6
  clear ca0 ca1 ca2 ca3 cb0 cb1 cb2 cb3
  have z3 : (Z).length = N * 32 := z0
  have y3 : B8 (Z) := z8
  have ca0 : v7.cell? ⟨ga, 0, none⟩ = some (.int .i64 ao) := ((Ba.keep T7.kp (fun e => e)) 0 (by omega)).1
  have ca1 : v7.cell? ⟨ga, 1, none⟩ = some (.int .i64 al) := ((Ba.keep T7.kp (fun e => e)) 1 (by omega)).1
  have ca2 : v7.cell? ⟨ga, 2, none⟩ = some (.int .i64 an) := ((Ba.keep T7.kp (fun e => e)) 2 (by omega)).1
  have ca3 : v7.cell? ⟨ga, 3, none⟩ = some (.string ad) := ((Ba.keep T7.kp (fun e => e)) 3 (by omega)).1
  have cb0 : v7.cell? ⟨gb, 0, none⟩ = some (.int .i64 bo) := ((Bb.keep T7.kp (fun e => e)) 0 (by omega)).1
  have cb1 : v7.cell? ⟨gb, 1, none⟩ = some (.int .i64 bl) := ((Bb.keep T7.kp (fun e => e)) 1 (by omega)).1
  have cb2 : v7.cell? ⟨gb, 2, none⟩ = some (.int .i64 bn) := ((Bb.keep T7.kp (fun e => e)) 2 (by omega)).1
  have cb3 : v7.cell? ⟨gb, 3, none⟩ = some (.string bd) := ((Bb.keep T7.kp (fun e => e)) 3 (by omega)).1
  have c6 := two_write_no H T7 z3 h2 ia.1 ia.2 ad sa ra
  go_wp2_with fail
  refine (c6).mono ?_
  rintro e v8 ⟨rfl, T8⟩
  clear c6 T7
  clear ca0 ca1 ca2 ca3 cb0 cb1 cb2 cb3
  have T8 := T8.symm
  generalize Z = X at T8 z2 y2
  have hE : Hid (X = X) := rfl
  have c7 := two_cont H T8 z2 h2
  go_wp2_with fail
  refine (c7).mono ?_
  rintro e v9 ⟨rfl, T9⟩
  clear c7 T8
  have T9 := T9.symm
  have c8 := two_cont H T9 z2 h2
  go_wp2_with fail
  refine (c8).mono ?_
  rintro e v10 ⟨rfl, T10⟩
  clear c8 T9
  have T10 := T10.symm
  have c9 := two_dif H T10 z2 h2 z2 h2 y2 y2
  rw [difL_same] at c9
  go_wp2_with fail
  refine (c9).mono ?_
  rintro e v11 ⟨a11, n11, rfl, I11, T11⟩
  clear c9 T10 I11
  simp only [List.length_nil]
  have HK := K0.trans T11.kp
  go_wp2_with fail
  go_ret
  exact ⟨rfl, HK⟩
set_option maxRecDepth 100000 in
set_option maxHeartbeats 2000000 in
theorem apart_r_ny {M : (Nat → Prop) → World → Nat → List Int → Prop} (H : ArrOk M) (w : World) {N : Nat} {ao bo : Int} {al an : Int} {bl bn : Nat} {ad bd : ByteArray} (h1 : 1 ≤ N) (h2 : N ≤ 512) (d1 : ¬ an < 1) (d2 : ¬ (bn : Int) < 1) (d3 : ¬ (N : Int) < an) (d4 : ¬ (N : Int) < (bn : Int)) (d5 : al < IntKind.i64.wrap ((bl : Int) + (bn : Int))) (d6 : ¬ (bl : Int) < IntKind.i64.wrap (al + an)) (sa : ad.size ≤ 9223372036854775807) (sb : bd.size ≤ 9223372036854775807) (ra : okR N al an = false) (rb : okR N bl bn = true) (ia : I64 al ∧ I64 an) :
    Calls Try.prog 5 #[.int .i64 (N : Int), .agg #[.int .i64 ao, .int .i64 al, .int .i64 an, .string ad], .agg #[.int .i64 bo, .int .i64 (bl : Int), .int .i64 (bn : Int), .string bd]] w fun e w' => e = .returned (.bool true) ∧ Keep (fun _ => False) w w' := by
  obtain ⟨Vb, q7⟩ : ∃ x, x = IntKind.i64.wrap ((bl : Int) + (bn : Int)) := ⟨_, rfl⟩
  rw [← q7] at d5
  replace q7 := q7.symm
  obtain ⟨Va, q8⟩ : ∃ x, x = IntKind.i64.wrap (al + an) := ⟨_, rfl⟩
  rw [← q8] at d6
  replace q8 := q8.symm
  have pb := okR_iff.1 rb
  have z0 : (List.replicate (N * 32) (0 : Int)).length = N * 32 := by simp
  have z8 := b8_zero (N * 32)
  have Ba : Blk ((w.alloc (.cells #[.int .i64 ao, .int .i64 al, .int .i64 an, .string ad] 35)).alloc (.cells #[.int .i64 bo, .int .i64 (bl : Int), .int .i64 (bn : Int), .string bd] 35)) w.heap.size 4 (acell ao al an ad) := (blk_act w ao al an ad).alloc _
  have Bb : Blk ((w.alloc (.cells #[.int .i64 ao, .int .i64 al, .int .i64 an, .string ad] 35)).alloc (.cells #[.int .i64 bo, .int .i64 (bl : Int), .int .i64 (bn : Int), .string bd] 35)) (w.heap.size + 1) 4 (acell bo (bl : Int) (bn : Int) bd) := by
    have := blk_act (w.alloc (.cells #[.int .i64 ao, .int .i64 al, .int .i64 an, .string ad] 35)) bo (bl : Int) (bn : Int) bd
    rwa [World.size_alloc] at this
  have K0 : Keep (fun _ => False) w ((w.alloc (.cells #[.int .i64 ao, .int .i64 al, .int .i64 an, .string ad] 35)).alloc (.cells #[.int .i64 bo, .int .i64 (bl : Int), .int .i64 (bn : Int), .string bd] 35)) := ((Keep.refl _ _).alloc _).alloc _
  go_enter Try.func5, Try.ntmps5
  go_upto_region 1 with fail
  generalize (w.alloc (.cells #[.int .i64 ao, .int .i64 al, .int .i64 an, .string ad] 35)).alloc (.cells #[.int .i64 bo, .int .i64 (bl : Int), .int .i64 (bn : Int), .string bd] 35) = v1 at Ba Bb K0 ⊢
  generalize hgb : w.heap.size + 1 = gb at Bb ⊢
  generalize hga : w.heap.size = ga at Ba hgb ⊢
  clear hga hgb
  have hA := awake_any H v1
  go_wp2_with fail
  refine (hA).mono ?_
  rintro e v2 ⟨rfl, a2⟩
  clear hA
  have c1 := one_new H a2 (n := N) h1 h2
  go_wp2_with fail
  refine (c1).mono ?_
  rintro e v3 ⟨p, rfl, O3⟩
  clear c1
  have c2 := two_new H O3 (n := N) h1 h2
  go_wp2_with fail
  refine (c2).mono ?_
  rintro e v4 ⟨q, rfl, T4⟩
  clear c2 O3
  generalize List.replicate (N * 32) (0 : Int) = Z at z0 z8 T4
  have ca0 : v4.cell? ⟨ga, 0, none⟩ = some (.int .i64 ao) := ((Ba.keep T4.kp (fun e => e)) 0 (by omega)).1
  have ca1 : v4.cell? ⟨ga, 1, none⟩ = some (.int .i64 al) := ((Ba.keep T4.kp (fun e => e)) 1 (by omega)).1
  have ca2 : v4.cell? ⟨ga, 2, none⟩ = some (.int .i64 an) := ((Ba.keep T4.kp (fun e => e)) 2 (by omega)).1
  have ca3 : v4.cell? ⟨ga, 3, none⟩ = some (.string ad) := ((Ba.keep T4.kp (fun e => e)) 3 (by omega)).1
  have cb0 : v4.cell? ⟨gb, 0, none⟩ = some (.int .i64 bo) := ((Bb.keep T4.kp (fun e => e)) 0 (by omega)).1
  have cb1 : v4.cell? ⟨gb, 1, none⟩ = some (.int .i64 (bl : Int)) := ((Bb.keep T4.kp (fun e => e)) 1 (by omega)).1
  have cb2 : v4.cell? ⟨gb, 2, none⟩ = some (.int .i64 (bn : Int)) := ((Bb.keep T4.kp (fun e => e)) 2 (by omega)).1
  have cb3 : v4.cell? ⟨gb, 3, none⟩ = some (.string bd) := ((Bb.keep T4.kp (fun e => e)) 3 (by omega)).1
  have c3 := two_write_no H T4 z0 h2 ia.1 ia.2 ad sa ra
  go_wp2_with fail
  refine (c3).mono ?_
  rintro e v5 ⟨rfl, T5⟩
  clear c3 T4
  clear ca0 ca1 ca2 ca3 cb0 cb1 cb2 cb3
  have z1 : (Z).length = N * 32 := z0
  have y1 : B8 (Z) := z8
  have ca0 : v5.cell? ⟨ga, 0, none⟩ = some (.int .i64 ao) := ((Ba.keep T5.kp (fun e => e)) 0 (by omega)).1
  have ca1 : v5.cell? ⟨ga, 1, none⟩ = some (.int .i64 al) := ((Ba.keep T5.kp (fun e => e)) 1 (by omega)).1
  have ca2 : v5.cell? ⟨ga, 2, none⟩ = some (.int .i64 an) := ((Ba.keep T5.kp (fun e => e)) 2 (by omega)).1
  have ca3 : v5.cell? ⟨ga, 3, none⟩ = some (.string ad) := ((Ba.keep T5.kp (fun e => e)) 3 (by omega)).1
  have cb0 : v5.cell? ⟨gb, 0, none⟩ = some (.int .i64 bo) := ((Bb.keep T5.kp (fun e => e)) 0 (by omega)).1
  have cb1 : v5.cell? ⟨gb, 1, none⟩ = some (.int .i64 (bl : Int)) := ((Bb.keep T5.kp (fun e => e)) 1 (by omega)).1
  have cb2 : v5.cell? ⟨gb, 2, none⟩ = some (.int .i64 (bn : Int)) := ((Bb.keep T5.kp (fun e => e)) 2 (by omega)).1
  have cb3 : v5.cell? ⟨gb, 3, none⟩ = some (.string bd) := ((Bb.keep T5.kp (fun e => e)) 3 (by omega)).1
  have c4 := two_write H T5 z1 h2 (lba := bl) (n := bn) bd sb rb
  go_wp2_with fail
  refine (c4).mono ?_
  rintro e v6 ⟨rfl, T6⟩
  clear c4 T5
  clear ca0 ca1 ca2 ca3 cb0 cb1 cb2 cb3
  have z2 : (wrL (Z) bl bn (nums bd)).length = N * 32 := by rw [wrL_len (by rw [z1]; omega)]; exact z1
  have y2 : B8 (wrL (Z) bl bn (nums bd)) := wrL_b8 y1 (nums_b8 bd)
  have T6 := T6.symm
  have ca0 : v6.cell? ⟨ga, 0, none⟩ = some (.int .i64 ao) := ((Ba.keep T6.kp (fun e => e)) 0 (by omega)).1
  have ca1 : v6.cell? ⟨ga, 1, none⟩ = some (.int .i64 al) := ((Ba.keep T6.kp (fun e => e)) 1 (by omega)).1
  have ca2 : v6.cell? ⟨ga, 2, none⟩ = some (.int .i64 an) := ((Ba.keep T6.kp (fun e => e)) 2 (by omega)).1
  have ca3 : v6.cell? ⟨ga, 3, none⟩ = some (.string ad) := ((Ba.keep T6.kp (fun e => e)) 3 (by omega)).1
  have cb0 : v6.cell? ⟨gb, 0, none⟩ = some (.int .i64 bo) := ((Bb.keep T6.kp (fun e => e)) 0 (by omega)).1
  have cb1 : v6.cell? ⟨gb, 1, none⟩ = some (.int .i64 (bl : Int)) := ((Bb.keep T6.kp (fun e => e)) 1 (by omega)).1
  have cb2 : v6.cell? ⟨gb, 2, none⟩ = some (.int .i64 (bn : Int)) := ((Bb.keep T6.kp (fun e => e)) 2 (by omega)).1
  have cb3 : v6.cell? ⟨gb, 3, none⟩ = some (.string bd) := ((Bb.keep T6.kp (fun e => e)) 3 (by omega)).1
  have c5 := two_write H T6 z0 h2 (lba := bl) (n := bn) bd sb rb
  go_wp2_with fail
  refine (c5).mono ?_
  rintro e v7 ⟨rfl, T7⟩
  clear c5 T6
  clear ca0 ca1 ca2 ca3 cb0 cb1 cb2 cb3
  have z3 : (wrL Z bl bn (nums bd)).length = N * 32 := by rw [wrL_len (by omega)]; exact z0
  have y3 : B8 (wrL Z bl bn (nums bd)) := wrL_b8 z8 (nums_b8 bd)
  have ca0 : v7.cell? ⟨ga, 0, none⟩ = some (.int .i64 ao) := ((Ba.keep T7.kp (fun e => e)) 0 (by omega)).1
  have ca1 : v7.cell? ⟨ga, 1, none⟩ = some (.int .i64 al) := ((Ba.keep T7.kp (fun e => e)) 1 (by omega)).1
  have ca2 : v7.cell? ⟨ga, 2, none⟩ = some (.int .i64 an) := ((Ba.keep T7.kp (fun e => e)) 2 (by omega)).1
  have ca3 : v7.cell? ⟨ga, 3, none⟩ = some (.string ad) := ((Ba.keep T7.kp (fun e => e)) 3 (by omega)).1
  have cb0 : v7.cell? ⟨gb, 0, none⟩ = some (.int .i64 bo) := ((Bb.keep T7.kp (fun e => e)) 0 (by omega)).1
  have cb1 : v7.cell? ⟨gb, 1, none⟩ = some (.int .i64 (bl : Int)) := ((Bb.keep T7.kp (fun e => e)) 1 (by omega)).1
  have cb2 : v7.cell? ⟨gb, 2, none⟩ = some (.int .i64 (bn : Int)) := ((Bb.keep T7.kp (fun e => e)) 2 (by omega)).1
  have cb3 : v7.cell? ⟨gb, 3, none⟩ = some (.string bd) := ((Bb.keep T7.kp (fun e => e)) 3 (by omega)).1
  have c6 := two_write_no H T7 z3 h2 ia.1 ia.2 ad sa ra
  go_wp2_with fail
  refine (c6).mono ?_
  rintro e v8 ⟨rfl, T8⟩
  clear c6 T7
  clear ca0 ca1 ca2 ca3 cb0 cb1 cb2 cb3
  have T8 := T8.symm
  generalize wrL (Z) bl bn (nums bd) = X at T8 z2 y2
  have hE : Hid (X = X) := rfl
  have c7 := two_cont H T8 z2 h2
  go_wp2_with fail
  refine (c7).mono ?_
  rintro e v9 ⟨rfl, T9⟩
  clear c7 T8
  have T9 := T9.symm
  have c8 := two_cont H T9 z2 h2
  go_wp2_with fail
  refine (c8).mono ?_
  rintro e v10 ⟨rfl, T10⟩
  clear c8 T9
  have T10 := T10.symm
  have c9 := two_dif H T10 z2 h2 z2 h2 y2 y2
  rw [difL_same] at c9
  go_wp2_with fail
  refine (c9).mono ?_
  rintro e v11 ⟨a11, n11, rfl, I11, T11⟩
  clear c9 T10 I11
  simp only [List.length_nil]
  have HK := K0.trans T11.kp
  go_wp2_with fail
  go_ret
  exact ⟨rfl, HK⟩
set_option maxRecDepth 100000 in
set_option maxHeartbeats 2000000 in
theorem apart_r_nn {M : (Nat → Prop) → World → Nat → List Int → Prop} (H : ArrOk M) (w : World) {N : Nat} {ao bo : Int} {al an : Int} {bl bn : Int} {ad bd : ByteArray} (h1 : 1 ≤ N) (h2 : N ≤ 512) (d1 : ¬ an < 1) (d2 : ¬ bn < 1) (d3 : ¬ (N : Int) < an) (d4 : ¬ (N : Int) < bn) (d5 : al < IntKind.i64.wrap (bl + bn)) (d6 : ¬ bl < IntKind.i64.wrap (al + an)) (sa : ad.size ≤ 9223372036854775807) (sb : bd.size ≤ 9223372036854775807) (ra : okR N al an = false) (rb : okR N bl bn = false) (ia : I64 al ∧ I64 an) (ib : I64 bl ∧ I64 bn) :
    Calls Try.prog 5 #[.int .i64 (N : Int), .agg #[.int .i64 ao, .int .i64 al, .int .i64 an, .string ad], .agg #[.int .i64 bo, .int .i64 bl, .int .i64 bn, .string bd]] w fun e w' => e = .returned (.bool true) ∧ Keep (fun _ => False) w w' := by
  obtain ⟨Vb, q7⟩ : ∃ x, x = IntKind.i64.wrap (bl + bn) := ⟨_, rfl⟩
  rw [← q7] at d5
  replace q7 := q7.symm
  obtain ⟨Va, q8⟩ : ∃ x, x = IntKind.i64.wrap (al + an) := ⟨_, rfl⟩
  rw [← q8] at d6
  replace q8 := q8.symm
  have z0 : (List.replicate (N * 32) (0 : Int)).length = N * 32 := by simp
  have z8 := b8_zero (N * 32)
  have Ba : Blk ((w.alloc (.cells #[.int .i64 ao, .int .i64 al, .int .i64 an, .string ad] 35)).alloc (.cells #[.int .i64 bo, .int .i64 bl, .int .i64 bn, .string bd] 35)) w.heap.size 4 (acell ao al an ad) := (blk_act w ao al an ad).alloc _
  have Bb : Blk ((w.alloc (.cells #[.int .i64 ao, .int .i64 al, .int .i64 an, .string ad] 35)).alloc (.cells #[.int .i64 bo, .int .i64 bl, .int .i64 bn, .string bd] 35)) (w.heap.size + 1) 4 (acell bo bl bn bd) := by
    have := blk_act (w.alloc (.cells #[.int .i64 ao, .int .i64 al, .int .i64 an, .string ad] 35)) bo bl bn bd
    rwa [World.size_alloc] at this
  have K0 : Keep (fun _ => False) w ((w.alloc (.cells #[.int .i64 ao, .int .i64 al, .int .i64 an, .string ad] 35)).alloc (.cells #[.int .i64 bo, .int .i64 bl, .int .i64 bn, .string bd] 35)) := ((Keep.refl _ _).alloc _).alloc _
  go_enter Try.func5, Try.ntmps5
  go_upto_region 1 with fail
  generalize (w.alloc (.cells #[.int .i64 ao, .int .i64 al, .int .i64 an, .string ad] 35)).alloc (.cells #[.int .i64 bo, .int .i64 bl, .int .i64 bn, .string bd] 35) = v1 at Ba Bb K0 ⊢
  generalize hgb : w.heap.size + 1 = gb at Bb ⊢
  generalize hga : w.heap.size = ga at Ba hgb ⊢
  clear hga hgb
  have hA := awake_any H v1
  go_wp2_with fail
  refine (hA).mono ?_
  rintro e v2 ⟨rfl, a2⟩
  clear hA
  have c1 := one_new H a2 (n := N) h1 h2
  go_wp2_with fail
  refine (c1).mono ?_
  rintro e v3 ⟨p, rfl, O3⟩
  clear c1
  have c2 := two_new H O3 (n := N) h1 h2
  go_wp2_with fail
  refine (c2).mono ?_
  rintro e v4 ⟨q, rfl, T4⟩
  clear c2 O3
  generalize List.replicate (N * 32) (0 : Int) = Z at z0 z8 T4
  have ca0 : v4.cell? ⟨ga, 0, none⟩ = some (.int .i64 ao) := ((Ba.keep T4.kp (fun e => e)) 0 (by omega)).1
  have ca1 : v4.cell? ⟨ga, 1, none⟩ = some (.int .i64 al) := ((Ba.keep T4.kp (fun e => e)) 1 (by omega)).1
  have ca2 : v4.cell? ⟨ga, 2, none⟩ = some (.int .i64 an) := ((Ba.keep T4.kp (fun e => e)) 2 (by omega)).1
  have ca3 : v4.cell? ⟨ga, 3, none⟩ = some (.string ad) := ((Ba.keep T4.kp (fun e => e)) 3 (by omega)).1
  have cb0 : v4.cell? ⟨gb, 0, none⟩ = some (.int .i64 bo) := ((Bb.keep T4.kp (fun e => e)) 0 (by omega)).1
  have cb1 : v4.cell? ⟨gb, 1, none⟩ = some (.int .i64 bl) := ((Bb.keep T4.kp (fun e => e)) 1 (by omega)).1
  have cb2 : v4.cell? ⟨gb, 2, none⟩ = some (.int .i64 bn) := ((Bb.keep T4.kp (fun e => e)) 2 (by omega)).1
  have cb3 : v4.cell? ⟨gb, 3, none⟩ = some (.string bd) := ((Bb.keep T4.kp (fun e => e)) 3 (by omega)).1
  have c3 := two_write_no H T4 z0 h2 ia.1 ia.2 ad sa ra
  go_wp2_with fail
  refine (c3).mono ?_
  rintro e v5 ⟨rfl, T5⟩
  clear c3 T4
  clear ca0 ca1 ca2 ca3 cb0 cb1 cb2 cb3
  have z1 : (Z).length = N * 32 := z0
  have y1 : B8 (Z) := z8
  have ca0 : v5.cell? ⟨ga, 0, none⟩ = some (.int .i64 ao) := ((Ba.keep T5.kp (fun e => e)) 0 (by omega)).1
  have ca1 : v5.cell? ⟨ga, 1, none⟩ = some (.int .i64 al) := ((Ba.keep T5.kp (fun e => e)) 1 (by omega)).1
  have ca2 : v5.cell? ⟨ga, 2, none⟩ = some (.int .i64 an) := ((Ba.keep T5.kp (fun e => e)) 2 (by omega)).1
  have ca3 : v5.cell? ⟨ga, 3, none⟩ = some (.string ad) := ((Ba.keep T5.kp (fun e => e)) 3 (by omega)).1
  have cb0 : v5.cell? ⟨gb, 0, none⟩ = some (.int .i64 bo) := ((Bb.keep T5.kp (fun e => e)) 0 (by omega)).1
  have cb1 : v5.cell? ⟨gb, 1, none⟩ = some (.int .i64 bl) := ((Bb.keep T5.kp (fun e => e)) 1 (by omega)).1
  have cb2 : v5.cell? ⟨gb, 2, none⟩ = some (.int .i64 bn) := ((Bb.keep T5.kp (fun e => e)) 2 (by omega)).1
  have cb3 : v5.cell? ⟨gb, 3, none⟩ = some (.string bd) := ((Bb.keep T5.kp (fun e => e)) 3 (by omega)).1
  have c4 := two_write_no H T5 z1 h2 ib.1 ib.2 bd sb rb
  go_wp2_with fail
  refine (c4).mono ?_
  rintro e v6 ⟨rfl, T6⟩
  clear c4 T5
  clear ca0 ca1 ca2 ca3 cb0 cb1 cb2 cb3
  have z2 : (Z).length = N * 32 := z1
  have y2 : B8 (Z) := y1
  have T6 := T6.symm
  have ca0 : v6.cell? ⟨ga, 0, none⟩ = some (.int .i64 ao) := ((Ba.keep T6.kp (fun e => e)) 0 (by omega)).1
  have ca1 : v6.cell? ⟨ga, 1, none⟩ = some (.int .i64 al) := ((Ba.keep T6.kp (fun e => e)) 1 (by omega)).1
  have ca2 : v6.cell? ⟨ga, 2, none⟩ = some (.int .i64 an) := ((Ba.keep T6.kp (fun e => e)) 2 (by omega)).1
  have ca3 : v6.cell? ⟨ga, 3, none⟩ = some (.string ad) := ((Ba.keep T6.kp (fun e => e)) 3 (by omega)).1
  have cb0 : v6.cell? ⟨gb, 0, none⟩ = some (.int .i64 bo) := ((Bb.keep T6.kp (fun e => e)) 0 (by omega)).1
  have cb1 : v6.cell? ⟨gb, 1, none⟩ = some (.int .i64 bl) := ((Bb.keep T6.kp (fun e => e)) 1 (by omega)).1
  have cb2 : v6.cell? ⟨gb, 2, none⟩ = some (.int .i64 bn) := ((Bb.keep T6.kp (fun e => e)) 2 (by omega)).1
  have cb3 : v6.cell? ⟨gb, 3, none⟩ = some (.string bd) := ((Bb.keep T6.kp (fun e => e)) 3 (by omega)).1
  have c5 := two_write_no H T6 z0 h2 ib.1 ib.2 bd sb rb
  go_wp2_with fail
  refine (c5).mono ?_
  rintro e v7 ⟨rfl, T7⟩
  clear c5 T6
  clear ca0 ca1 ca2 ca3 cb0 cb1 cb2 cb3
  have z3 : (Z).length = N * 32 := z0
  have y3 : B8 (Z) := z8
  have ca0 : v7.cell? ⟨ga, 0, none⟩ = some (.int .i64 ao) := ((Ba.keep T7.kp (fun e => e)) 0 (by omega)).1
  have ca1 : v7.cell? ⟨ga, 1, none⟩ = some (.int .i64 al) := ((Ba.keep T7.kp (fun e => e)) 1 (by omega)).1
  have ca2 : v7.cell? ⟨ga, 2, none⟩ = some (.int .i64 an) := ((Ba.keep T7.kp (fun e => e)) 2 (by omega)).1
  have ca3 : v7.cell? ⟨ga, 3, none⟩ = some (.string ad) := ((Ba.keep T7.kp (fun e => e)) 3 (by omega)).1
  have cb0 : v7.cell? ⟨gb, 0, none⟩ = some (.int .i64 bo) := ((Bb.keep T7.kp (fun e => e)) 0 (by omega)).1
  have cb1 : v7.cell? ⟨gb, 1, none⟩ = some (.int .i64 bl) := ((Bb.keep T7.kp (fun e => e)) 1 (by omega)).1
  have cb2 : v7.cell? ⟨gb, 2, none⟩ = some (.int .i64 bn) := ((Bb.keep T7.kp (fun e => e)) 2 (by omega)).1
  have cb3 : v7.cell? ⟨gb, 3, none⟩ = some (.string bd) := ((Bb.keep T7.kp (fun e => e)) 3 (by omega)).1
  have c6 := two_write_no H T7 z3 h2 ia.1 ia.2 ad sa ra
  go_wp2_with fail
  refine (c6).mono ?_
  rintro e v8 ⟨rfl, T8⟩
  clear c6 T7
  clear ca0 ca1 ca2 ca3 cb0 cb1 cb2 cb3
  have T8 := T8.symm
  generalize Z = X at T8 z2 y2
  have hE : Hid (X = X) := rfl
  have c7 := two_cont H T8 z2 h2
  go_wp2_with fail
  refine (c7).mono ?_
  rintro e v9 ⟨rfl, T9⟩
  clear c7 T8
  have T9 := T9.symm
  have c8 := two_cont H T9 z2 h2
  go_wp2_with fail
  refine (c8).mono ?_
  rintro e v10 ⟨rfl, T10⟩
  clear c8 T9
  have T10 := T10.symm
  have c9 := two_dif H T10 z2 h2 z2 h2 y2 y2
  rw [difL_same] at c9
  go_wp2_with fail
  refine (c9).mono ?_
  rintro e v11 ⟨a11, n11, rfl, I11, T11⟩
  clear c9 T10 I11
  simp only [List.length_nil]
  have HK := K0.trans T11.kp
  go_wp2_with fail
  go_ret
  exact ⟨rfl, HK⟩
end Tg
end Go.Proofs.Ytikepmdlpalpfaa
