/-
  ModelApart's body, given what the program's calls answer.
-/
import Derived.Test.YtikepmdlpalpfaaMl
namespace Go.Proofs.Ytikepmdlpalpfaa
open Go.ChangeShapes Go.WideShapes Go.ChangeAt Go.RowKit
namespace Tg
/-- A call's cells. -/
def acell (o l n : Int) (d : ByteArray) (i : Nat) : Value := if i = 0 then .int .i64 o else if i = 1 then .int .i64 l else if i = 2 then .int .i64 n else .string d
theorem blk_act (w : World) (o l n : Int) (d : ByteArray) : Blk (w.alloc (.cells #[.int .i64 o, .int .i64 l, .int .i64 n, .string d] 35)) w.heap.size 4 (acell o l n d) := blk_alloc w _ 35 4 _ (fun i hi => by
  have : i = 0 ∨ i = 1 ∨ i = 2 ∨ i = 3 := by omega
  rcases this with rfl | rfl | rfl | rfl <;> rfl)
theorem call10 (args : Array Value) (w : World) : (callFunc 10 args).run Try.prog w = .ok (.enter 10 args) w := enters Try.func10 (by kernel_rfl) (by kernel_rfl) args w
set_option maxRecDepth 100000 in
set_option maxHeartbeats 2000000 in
theorem apart_none {M : (Nat → Prop) → World → Nat → List Int → Prop} (H : ArrOk M) (w : World) {cp ao al an bo bl bn : Int} {ad bd : ByteArray} (i0 : I64 cp) (hc : ¬ (1 ≤ cp ∧ cp ≤ 512)) :
    Calls Try.prog 5 #[.int .i64 cp, .agg #[.int .i64 ao, .int .i64 al, .int .i64 an, .string ad], .agg #[.int .i64 bo, .int .i64 bl, .int .i64 bn, .string bd]] w fun e w' => e = .returned (.bool true) ∧ Keep (fun _ => False) w w' := by
  have Ba : Blk ((w.alloc (.cells #[.int .i64 ao, .int .i64 al, .int .i64 an, .string ad] 35)).alloc (.cells #[.int .i64 bo, .int .i64 bl, .int .i64 bn, .string bd] 35)) w.heap.size 4 (acell ao al an ad) := (blk_act w ao al an ad).alloc _
  have Bb : Blk ((w.alloc (.cells #[.int .i64 ao, .int .i64 al, .int .i64 an, .string ad] 35)).alloc (.cells #[.int .i64 bo, .int .i64 bl, .int .i64 bn, .string bd] 35)) (w.heap.size + 1) 4 (acell bo bl bn bd) := by
    have := blk_act (w.alloc (.cells #[.int .i64 ao, .int .i64 al, .int .i64 an, .string ad] 35)) bo bl bn bd
    rwa [World.size_alloc] at this
  have K0 : Keep (fun _ => False) w ((w.alloc (.cells #[.int .i64 ao, .int .i64 al, .int .i64 an, .string ad] 35)).alloc (.cells #[.int .i64 bo, .int .i64 bl, .int .i64 bn, .string bd] 35)) := ((Keep.refl _ _).alloc _).alloc _
  go_enter Try.func5, Try.ntmps5
  go_upto_region 1 with fail
  generalize (w.alloc (.cells #[.int .i64 ao, .int .i64 al, .int .i64 an, .string ad] 35)).alloc (.cells #[.int .i64 bo, .int .i64 bl, .int .i64 bn, .string bd] 35) = v1 at Ba Bb K0 ⊢
  generalize hgb : w.heap.size + 1 = gb at Bb ⊢
  generalize hga : w.heap.size = ga at Ba hgb ⊢
  clear hga hgb
  have hA := awake_any H v1
  go_wp2_with fail
  refine (hA).mono ?_
  rintro e v2 ⟨rfl, a2⟩
  clear hA
  have c1 := H.new_no v2 i0 hc
  go_wp2_with fail
  refine (c1).mono ?_
  rintro e v3 ⟨rfl, a3⟩
  clear c1
  have c2 := H.new_no v3 i0 hc
  go_wp2_with fail
  refine (c2).mono ?_
  rintro e v4 ⟨rfl, a4⟩
  clear c2
  have HK := ((K0.trans a2).trans a3).trans a4
  go_wp2_with fail
  go_ret
  exact ⟨rfl, HK⟩
set_option maxRecDepth 100000 in
set_option maxHeartbeats 2000000 in
theorem apart_out_a {M : (Nat → Prop) → World → Nat → List Int → Prop} (H : ArrOk M) (w : World) {N : Nat} {ao al an bo bl bn : Int} {ad bd : ByteArray} (h1 : 1 ≤ N) (h2 : N ≤ 512) (d1 : an < 1) :
    Calls Try.prog 5 #[.int .i64 (N : Int), .agg #[.int .i64 ao, .int .i64 al, .int .i64 an, .string ad], .agg #[.int .i64 bo, .int .i64 bl, .int .i64 bn, .string bd]] w fun e w' => e = .returned (.bool true) ∧ Keep (fun _ => False) w w' := by
  have Ba : Blk ((w.alloc (.cells #[.int .i64 ao, .int .i64 al, .int .i64 an, .string ad] 35)).alloc (.cells #[.int .i64 bo, .int .i64 bl, .int .i64 bn, .string bd] 35)) w.heap.size 4 (acell ao al an ad) := (blk_act w ao al an ad).alloc _
  have Bb : Blk ((w.alloc (.cells #[.int .i64 ao, .int .i64 al, .int .i64 an, .string ad] 35)).alloc (.cells #[.int .i64 bo, .int .i64 bl, .int .i64 bn, .string bd] 35)) (w.heap.size + 1) 4 (acell bo bl bn bd) := by
    have := blk_act (w.alloc (.cells #[.int .i64 ao, .int .i64 al, .int .i64 an, .string ad] 35)) bo bl bn bd
    rwa [World.size_alloc] at this
  have K0 : Keep (fun _ => False) w ((w.alloc (.cells #[.int .i64 ao, .int .i64 al, .int .i64 an, .string ad] 35)).alloc (.cells #[.int .i64 bo, .int .i64 bl, .int .i64 bn, .string bd] 35)) := ((Keep.refl _ _).alloc _).alloc _
  go_enter Try.func5, Try.ntmps5
  go_upto_region 1 with fail
  generalize (w.alloc (.cells #[.int .i64 ao, .int .i64 al, .int .i64 an, .string ad] 35)).alloc (.cells #[.int .i64 bo, .int .i64 bl, .int .i64 bn, .string bd] 35) = v1 at Ba Bb K0 ⊢
  generalize hgb : w.heap.size + 1 = gb at Bb ⊢
  generalize hga : w.heap.size = ga at Ba hgb ⊢
  clear hga hgb
  have hA := awake_any H v1
  go_wp2_with fail
  refine (hA).mono ?_
  rintro e v2 ⟨rfl, a2⟩
  clear hA
  have c1 := one_new H a2 (n := N) h1 h2
  go_wp2_with fail
  refine (c1).mono ?_
  rintro e v3 ⟨p, rfl, O3⟩
  clear c1
  have c2 := two_new H O3 (n := N) h1 h2
  go_wp2_with fail
  refine (c2).mono ?_
  rintro e v4 ⟨q, rfl, T4⟩
  clear c2 O3
  have ca0 : v4.cell? ⟨ga, 0, none⟩ = some (.int .i64 ao) := ((Ba.keep T4.kp (fun e => e)) 0 (by omega)).1
  have ca1 : v4.cell? ⟨ga, 1, none⟩ = some (.int .i64 al) := ((Ba.keep T4.kp (fun e => e)) 1 (by omega)).1
  have ca2 : v4.cell? ⟨ga, 2, none⟩ = some (.int .i64 an) := ((Ba.keep T4.kp (fun e => e)) 2 (by omega)).1
  have ca3 : v4.cell? ⟨ga, 3, none⟩ = some (.string ad) := ((Ba.keep T4.kp (fun e => e)) 3 (by omega)).1
  have cb0 : v4.cell? ⟨gb, 0, none⟩ = some (.int .i64 bo) := ((Bb.keep T4.kp (fun e => e)) 0 (by omega)).1
  have cb1 : v4.cell? ⟨gb, 1, none⟩ = some (.int .i64 bl) := ((Bb.keep T4.kp (fun e => e)) 1 (by omega)).1
  have cb2 : v4.cell? ⟨gb, 2, none⟩ = some (.int .i64 bn) := ((Bb.keep T4.kp (fun e => e)) 2 (by omega)).1
  have cb3 : v4.cell? ⟨gb, 3, none⟩ = some (.string bd) := ((Bb.keep T4.kp (fun e => e)) 3 (by omega)).1
  have HK := K0.trans T4.kp
  go_wp2_with fail
  go_ret
  exact ⟨rfl, HK⟩
set_option maxRecDepth 100000 in
set_option maxHeartbeats 2000000 in
theorem apart_out_b {M : (Nat → Prop) → World → Nat → List Int → Prop} (H : ArrOk M) (w : World) {N : Nat} {ao al an bo bl bn : Int} {ad bd : ByteArray} (h1 : 1 ≤ N) (h2 : N ≤ 512) (d1 : ¬ an < 1) (d2 : bn < 1) :
    Calls Try.prog 5 #[.int .i64 (N : Int), .agg #[.int .i64 ao, .int .i64 al, .int .i64 an, .string ad], .agg #[.int .i64 bo, .int .i64 bl, .int .i64 bn, .string bd]] w fun e w' => e = .returned (.bool true) ∧ Keep (fun _ => False) w w' := by
  have Ba : Blk ((w.alloc (.cells #[.int .i64 ao, .int .i64 al, .int .i64 an, .string ad] 35)).alloc (.cells #[.int .i64 bo, .int .i64 bl, .int .i64 bn, .string bd] 35)) w.heap.size 4 (acell ao al an ad) := (blk_act w ao al an ad).alloc _
  have Bb : Blk ((w.alloc (.cells #[.int .i64 ao, .int .i64 al, .int .i64 an, .string ad] 35)).alloc (.cells #[.int .i64 bo, .int .i64 bl, .int .i64 bn, .string bd] 35)) (w.heap.size + 1) 4 (acell bo bl bn bd) := by
    have := blk_act (w.alloc (.cells #[.int .i64 ao, .int .i64 al, .int .i64 an, .string ad] 35)) bo bl bn bd
    rwa [World.size_alloc] at this
  have K0 : Keep (fun _ => False) w ((w.alloc (.cells #[.int .i64 ao, .int .i64 al, .int .i64 an, .string ad] 35)).alloc (.cells #[.int .i64 bo, .int .i64 bl, .int .i64 bn, .string bd] 35)) := ((Keep.refl _ _).alloc _).alloc _
  go_enter Try.func5, Try.ntmps5
  go_upto_region 1 with fail
  generalize (w.alloc (.cells #[.int .i64 ao, .int .i64 al, .int .i64 an, .string ad] 35)).alloc (.cells #[.int .i64 bo, .int .i64 bl, .int .i64 bn, .string bd] 35) = v1 at Ba Bb K0 ⊢
  generalize hgb : w.heap.size + 1 = gb at Bb ⊢
  generalize hga : w.heap.size = ga at Ba hgb ⊢
  clear hga hgb
  have hA := awake_any H v1
  go_wp2_with fail
  refine (hA).mono ?_
  rintro e v2 ⟨rfl, a2⟩
  clear hA
  have c1 := one_new H a2 (n := N) h1 h2
  go_wp2_with fail
  refine (c1).mono ?_
  rintro e v3 ⟨p, rfl, O3⟩
  clear c1
  have c2 := two_new H O3 (n := N) h1 h2
  go_wp2_with fail
  refine (c2).mono ?_
  rintro e v4 ⟨q, rfl, T4⟩
  clear c2 O3
  have ca0 : v4.cell? ⟨ga, 0, none⟩ = some (.int .i64 ao) := ((Ba.keep T4.kp (fun e => e)) 0 (by omega)).1
  have ca1 : v4.cell? ⟨ga, 1, none⟩ = some (.int .i64 al) := ((Ba.keep T4.kp (fun e => e)) 1 (by omega)).1
  have ca2 : v4.cell? ⟨ga, 2, none⟩ = some (.int .i64 an) := ((Ba.keep T4.kp (fun e => e)) 2 (by omega)).1
  have ca3 : v4.cell? ⟨ga, 3, none⟩ = some (.string ad) := ((Ba.keep T4.kp (fun e => e)) 3 (by omega)).1
  have cb0 : v4.cell? ⟨gb, 0, none⟩ = some (.int .i64 bo) := ((Bb.keep T4.kp (fun e => e)) 0 (by omega)).1
  have cb1 : v4.cell? ⟨gb, 1, none⟩ = some (.int .i64 bl) := ((Bb.keep T4.kp (fun e => e)) 1 (by omega)).1
  have cb2 : v4.cell? ⟨gb, 2, none⟩ = some (.int .i64 bn) := ((Bb.keep T4.kp (fun e => e)) 2 (by omega)).1
  have cb3 : v4.cell? ⟨gb, 3, none⟩ = some (.string bd) := ((Bb.keep T4.kp (fun e => e)) 3 (by omega)).1
  have HK := K0.trans T4.kp
  go_wp2_with fail
  go_ret
  exact ⟨rfl, HK⟩
set_option maxRecDepth 100000 in
set_option maxHeartbeats 2000000 in
theorem apart_out_c {M : (Nat → Prop) → World → Nat → List Int → Prop} (H : ArrOk M) (w : World) {N : Nat} {ao al an bo bl bn : Int} {ad bd : ByteArray} (h1 : 1 ≤ N) (h2 : N ≤ 512) (d1 : ¬ an < 1) (d2 : ¬ bn < 1) (d3 : (N : Int) < an) :
    Calls Try.prog 5 #[.int .i64 (N : Int), .agg #[.int .i64 ao, .int .i64 al, .int .i64 an, .string ad], .agg #[.int .i64 bo, .int .i64 bl, .int .i64 bn, .string bd]] w fun e w' => e = .returned (.bool true) ∧ Keep (fun _ => False) w w' := by
  have Ba : Blk ((w.alloc (.cells #[.int .i64 ao, .int .i64 al, .int .i64 an, .string ad] 35)).alloc (.cells #[.int .i64 bo, .int .i64 bl, .int .i64 bn, .string bd] 35)) w.heap.size 4 (acell ao al an ad) := (blk_act w ao al an ad).alloc _
  have Bb : Blk ((w.alloc (.cells #[.int .i64 ao, .int .i64 al, .int .i64 an, .string ad] 35)).alloc (.cells #[.int .i64 bo, .int .i64 bl, .int .i64 bn, .string bd] 35)) (w.heap.size + 1) 4 (acell bo bl bn bd) := by
    have := blk_act (w.alloc (.cells #[.int .i64 ao, .int .i64 al, .int .i64 an, .string ad] 35)) bo bl bn bd
    rwa [World.size_alloc] at this
  have K0 : Keep (fun _ => False) w ((w.alloc (.cells #[.int .i64 ao, .int .i64 al, .int .i64 an, .string ad] 35)).alloc (.cells #[.int .i64 bo, .int .i64 bl, .int .i64 bn, .string bd] 35)) := ((Keep.refl _ _).alloc _).alloc _
  go_enter Try.func5, Try.ntmps5
  go_upto_region 1 with fail
  generalize (w.alloc (.cells #[.int .i64 ao, .int .i64 al, .int .i64 an, .string ad] 35)).alloc (.cells #[.int .i64 bo, .int .i64 bl, .int .i64 bn, .string bd] 35) = v1 at Ba Bb K0 ⊢
  generalize hgb : w.heap.size + 1 = gb at Bb ⊢
  generalize hga : w.heap.size = ga at Ba hgb ⊢
  clear hga hgb
  have hA := awake_any H v1
  go_wp2_with fail
  refine (hA).mono ?_
  rintro e v2 ⟨rfl, a2⟩
  clear hA
  have c1 := one_new H a2 (n := N) h1 h2
  go_wp2_with fail
  refine (c1).mono ?_
  rintro e v3 ⟨p, rfl, O3⟩
  clear c1
  have c2 := two_new H O3 (n := N) h1 h2
  go_wp2_with fail
  refine (c2).mono ?_
  rintro e v4 ⟨q, rfl, T4⟩
  clear c2 O3
  have ca0 : v4.cell? ⟨ga, 0, none⟩ = some (.int .i64 ao) := ((Ba.keep T4.kp (fun e => e)) 0 (by omega)).1
  have ca1 : v4.cell? ⟨ga, 1, none⟩ = some (.int .i64 al) := ((Ba.keep T4.kp (fun e => e)) 1 (by omega)).1
  have ca2 : v4.cell? ⟨ga, 2, none⟩ = some (.int .i64 an) := ((Ba.keep T4.kp (fun e => e)) 2 (by omega)).1
  have ca3 : v4.cell? ⟨ga, 3, none⟩ = some (.string ad) := ((Ba.keep T4.kp (fun e => e)) 3 (by omega)).1
  have cb0 : v4.cell? ⟨gb, 0, none⟩ = some (.int .i64 bo) := ((Bb.keep T4.kp (fun e => e)) 0 (by omega)).1
  have cb1 : v4.cell? ⟨gb, 1, none⟩ = some (.int .i64 bl) := ((Bb.keep T4.kp (fun e => e)) 1 (by omega)).1
  have cb2 : v4.cell? ⟨gb, 2, none⟩ = some (.int .i64 bn) := ((Bb.keep T4.kp (fun e => e)) 2 (by omega)).1
  have cb3 : v4.cell? ⟨gb, 3, none⟩ = some (.string bd) := ((Bb.keep T4.kp (fun e => e)) 3 (by omega)).1
  have HK := K0.trans T4.kp
  go_wp2_with fail
  go_ret
  exact ⟨rfl, HK⟩
set_option maxRecDepth 100000 in
set_option maxHeartbeats 2000000 in
theorem apart_out_d {M : (Nat → Prop) → World → Nat → List Int → Prop} (H : ArrOk M) (w : World) {N : Nat} {ao al an bo bl bn : Int} {ad bd : ByteArray} (h1 : 1 ≤ N) (h2 : N ≤ 512) (d1 : ¬ an < 1) (d2 : ¬ bn < 1) (d3 : ¬ (N : Int) < an) (d4 : (N : Int) < bn) :
    Calls Try.prog 5 #[.int .i64 (N : Int), .agg #[.int .i64 ao, .int .i64 al, .int .i64 an, .string ad], .agg #[.int .i64 bo, .int .i64 bl, .int .i64 bn, .string bd]] w fun e w' => e = .returned (.bool true) ∧ Keep (fun _ => False) w w' := by
  have Ba : Blk ((w.alloc (.cells #[.int .i64 ao, .int .i64 al, .int .i64 an, .string ad] 35)).alloc (.cells #[.int .i64 bo, .int .i64 bl, .int .i64 bn, .string bd] 35)) w.heap.size 4 (acell ao al an ad) := (blk_act w ao al an ad).alloc _
  have Bb : Blk ((w.alloc (.cells #[.int .i64 ao, .int .i64 al, .int .i64 an, .string ad] 35)).alloc (.cells #[.int .i64 bo, .int .i64 bl, .int .i64 bn, .string bd] 35)) (w.heap.size + 1) 4 (acell bo bl bn bd) := by
    have := blk_act (w.alloc (.cells #[.int .i64 ao, .int .i64 al, .int .i64 an, .string ad] 35)) bo bl bn bd
    rwa [World.size_alloc] at this
  have K0 : Keep (fun _ => False) w ((w.alloc (.cells #[.int .i64 ao, .int .i64 al, .int .i64 an, .string ad] 35)).alloc (.cells #[.int .i64 bo, .int .i64 bl, .int .i64 bn, .string bd] 35)) := ((Keep.refl _ _).alloc _).alloc _
  go_enter Try.func5, Try.ntmps5
  go_upto_region 1 with fail
  generalize (w.alloc (.cells #[.int .i64 ao, .int .i64 al, .int .i64 an, .string ad] 35)).alloc (.cells #[.int .i64 bo, .int .i64 bl, .int .i64 bn, .string bd] 35) = v1 at Ba Bb K0 ⊢
  generalize hgb : w.heap.size + 1 = gb at Bb ⊢
  generalize hga : w.heap.size = ga at Ba hgb ⊢
  clear hga hgb
  have hA := awake_any H v1
  go_wp2_with fail
  refine (hA).mono ?_
  rintro e v2 ⟨rfl, a2⟩
  clear hA
  have c1 := one_new H a2 (n := N) h1 h2
  go_wp2_with fail
  refine (c1).mono ?_
  rintro e v3 ⟨p, rfl, O3⟩
  clear c1
  have c2 := two_new H O3 (n := N) h1 h2
  go_wp2_with fail
  refine (c2).mono ?_
  rintro e v4 ⟨q, rfl, T4⟩
  clear c2 O3
  have ca0 : v4.cell? ⟨ga, 0, none⟩ = some (.int .i64 ao) := ((Ba.keep T4.kp (fun e => e)) 0 (by omega)).1
  have ca1 : v4.cell? ⟨ga, 1, none⟩ = some (.int .i64 al) := ((Ba.keep T4.kp (fun e => e)) 1 (by omega)).1
  have ca2 : v4.cell? ⟨ga, 2, none⟩ = some (.int .i64 an) := ((Ba.keep T4.kp (fun e => e)) 2 (by omega)).1
  have ca3 : v4.cell? ⟨ga, 3, none⟩ = some (.string ad) := ((Ba.keep T4.kp (fun e => e)) 3 (by omega)).1
  have cb0 : v4.cell? ⟨gb, 0, none⟩ = some (.int .i64 bo) := ((Bb.keep T4.kp (fun e => e)) 0 (by omega)).1
  have cb1 : v4.cell? ⟨gb, 1, none⟩ = some (.int .i64 bl) := ((Bb.keep T4.kp (fun e => e)) 1 (by omega)).1
  have cb2 : v4.cell? ⟨gb, 2, none⟩ = some (.int .i64 bn) := ((Bb.keep T4.kp (fun e => e)) 2 (by omega)).1
  have cb3 : v4.cell? ⟨gb, 3, none⟩ = some (.string bd) := ((Bb.keep T4.kp (fun e => e)) 3 (by omega)).1
  have HK := K0.trans T4.kp
  go_wp2_with fail
  go_ret
  exact ⟨rfl, HK⟩
set_option maxRecDepth 100000 in
set_option maxHeartbeats 2000000 in
theorem apart_out_e {M : (Nat → Prop) → World → Nat → List Int → Prop} (H : ArrOk M) (w : World) {N : Nat} {ao al an bo bl bn : Int} {ad bd : ByteArray} (h1 : 1 ≤ N) (h2 : N ≤ 512) (d1 : ¬ an < 1) (d2 : ¬ bn < 1) (d3 : ¬ (N : Int) < an) (d4 : ¬ (N : Int) < bn) (d5 : al < IntKind.i64.wrap (bl + bn)) (d6 : bl < IntKind.i64.wrap (al + an)) :
    Calls Try.prog 5 #[.int .i64 (N : Int), .agg #[.int .i64 ao, .int .i64 al, .int .i64 an, .string ad], .agg #[.int .i64 bo, .int .i64 bl, .int .i64 bn, .string bd]] w fun e w' => e = .returned (.bool true) ∧ Keep (fun _ => False) w w' := by
  have d7 : ∃ x, x = IntKind.i64.wrap (bl + bn) := ⟨_, rfl⟩
  have d8 : ∃ x, x = IntKind.i64.wrap (al + an) := ⟨_, rfl⟩
  obtain ⟨Vb, q7⟩ := d7
  obtain ⟨Va, q8⟩ := d8
  rw [← q7] at d5
  rw [← q8] at d6
  replace q7 := q7.symm
  replace q8 := q8.symm
  have Ba : Blk ((w.alloc (.cells #[.int .i64 ao, .int .i64 al, .int .i64 an, .string ad] 35)).alloc (.cells #[.int .i64 bo, .int .i64 bl, .int .i64 bn, .string bd] 35)) w.heap.size 4 (acell ao al an ad) := (blk_act w ao al an ad).alloc _
  have Bb : Blk ((w.alloc (.cells #[.int .i64 ao, .int .i64 al, .int .i64 an, .string ad] 35)).alloc (.cells #[.int .i64 bo, .int .i64 bl, .int .i64 bn, .string bd] 35)) (w.heap.size + 1) 4 (acell bo bl bn bd) := by
    have := blk_act (w.alloc (.cells #[.int .i64 ao, .int .i64 al, .int .i64 an, .string ad] 35)) bo bl bn bd
    rwa [World.size_alloc] at this
  have K0 : Keep (fun _ => False) w ((w.alloc (.cells #[.int .i64 ao, .int .i64 al, .int .i64 an, .string ad] 35)).alloc (.cells #[.int .i64 bo, .int .i64 bl, .int .i64 bn, .string bd] 35)) := ((Keep.refl _ _).alloc _).alloc _
  go_enter Try.func5, Try.ntmps5
  go_upto_region 1 with fail
  generalize (w.alloc (.cells #[.int .i64 ao, .int .i64 al, .int .i64 an, .string ad] 35)).alloc (.cells #[.int .i64 bo, .int .i64 bl, .int .i64 bn, .string bd] 35) = v1 at Ba Bb K0 ⊢
  generalize hgb : w.heap.size + 1 = gb at Bb ⊢
  generalize hga : w.heap.size = ga at Ba hgb ⊢
  clear hga hgb
  have hA := awake_any H v1
  go_wp2_with fail
  refine (hA).mono ?_
  rintro e v2 ⟨rfl, a2⟩
  clear hA
  have c1 := one_new H a2 (n := N) h1 h2
  go_wp2_with fail
  refine (c1).mono ?_
  rintro e v3 ⟨p, rfl, O3⟩
  clear c1
  have c2 := two_new H O3 (n := N) h1 h2
  go_wp2_with fail
  refine (c2).mono ?_
  rintro e v4 ⟨q, rfl, T4⟩
  clear c2 O3
  have ca0 : v4.cell? ⟨ga, 0, none⟩ = some (.int .i64 ao) := ((Ba.keep T4.kp (fun e => e)) 0 (by omega)).1
  have ca1 : v4.cell? ⟨ga, 1, none⟩ = some (.int .i64 al) := ((Ba.keep T4.kp (fun e => e)) 1 (by omega)).1
  have ca2 : v4.cell? ⟨ga, 2, none⟩ = some (.int .i64 an) := ((Ba.keep T4.kp (fun e => e)) 2 (by omega)).1
  have ca3 : v4.cell? ⟨ga, 3, none⟩ = some (.string ad) := ((Ba.keep T4.kp (fun e => e)) 3 (by omega)).1
  have cb0 : v4.cell? ⟨gb, 0, none⟩ = some (.int .i64 bo) := ((Bb.keep T4.kp (fun e => e)) 0 (by omega)).1
  have cb1 : v4.cell? ⟨gb, 1, none⟩ = some (.int .i64 bl) := ((Bb.keep T4.kp (fun e => e)) 1 (by omega)).1
  have cb2 : v4.cell? ⟨gb, 2, none⟩ = some (.int .i64 bn) := ((Bb.keep T4.kp (fun e => e)) 2 (by omega)).1
  have cb3 : v4.cell? ⟨gb, 3, none⟩ = some (.string bd) := ((Bb.keep T4.kp (fun e => e)) 3 (by omega)).1
  have HK := K0.trans T4.kp
  go_wp2_with fail
  go_ret
  exact ⟨rfl, HK⟩
end Tg
end Go.Proofs.Ytikepmdlpalpfaa
