/-
  ModelApart: the other ways.
-/
import Derived.Test.YtikepmdlpalpfaaMa
namespace Go.Proofs.Ytikepmdlpalpfaa
open Go.ChangeShapes Go.WideShapes Go.ChangeAt Go.RowKit
namespace Tg
set_option linter.unusedVariables false
set_option maxRecDepth 100000 in
set_option maxHeartbeats 2000000 in
theorem apart_l_yy {M : (Nat → Prop) → World → Nat → List Int → Prop} (H : ArrOk M) (w : World) {N : Nat} {ao bo : Int} {al an : Nat} {bl bn : Nat} {ad bd : ByteArray} (h1 : 1 ≤ N) (h2 : N ≤ 512) (d1 : ¬ (an : Int) < 1) (d2 : ¬ (bn : Int) < 1) (d3 : ¬ (N : Int) < (an : Int)) (d4 : ¬ (N : Int) < (bn : Int)) (d5 : ¬ (al : Int) < IntKind.i64.wrap ((bl : Int) + (bn : Int))) (sa : ad.size ≤ 9223372036854775807) (sb : bd.size ≤ 9223372036854775807) (ra : okR N al an = true) (rb : okR N bl bn = true) (hap : al + an ≤ bl ∨ bl + bn ≤ al) :
    Calls Try.prog 5 #[.int .i64 (N : Int), .agg #[.int .i64 ao, .int .i64 (al : Int), .int .i64 (an : Int), .string ad], .agg #[.int .i64 bo, .int .i64 (bl : Int), .int .i64 (bn : Int), .string bd]] w fun e w' => e = .returned (.bool true) ∧ Keep (fun _ => False) w w' := by
  obtain ⟨Vb, q7⟩ : ∃ x, x = IntKind.i64.wrap ((bl : Int) + (bn : Int)) := ⟨_, rfl⟩
  rw [← q7] at d5
  replace q7 := q7.symm
  have pa := okR_iff.1 ra
  have pb := okR_iff.1 rb
  have z0 : (List.replicate (N * 32) (0 : Int)).length = N * 32 := by simp
  have z8 := b8_zero (N * 32)
  have Ba : Blk ((w.alloc (.cells #[.int .i64 ao, .int .i64 (al : Int), .int .i64 (an : Int), .string ad] 35)).alloc (.cells #[.int .i64 bo, .int .i64 (bl : Int), .int .i64 (bn : Int), .string bd] 35)) w.heap.size 4 (acell ao (al : Int) (an : Int) ad) := (blk_act w ao (al : Int) (an : Int) ad).alloc _
  have Bb : Blk ((w.alloc (.cells #[.int .i64 ao, .int .i64 (al : Int), .int .i64 (an : Int), .string ad] 35)).alloc (.cells #[.int .i64 bo, .int .i64 (bl : Int), .int .i64 (bn : Int), .string bd] 35)) (w.heap.size + 1) 4 (acell bo (bl : Int) (bn : Int) bd) := by
    have := blk_act (w.alloc (.cells #[.int .i64 ao, .int .i64 (al : Int), .int .i64 (an : Int), .string ad] 35)) bo (bl : Int) (bn : Int) bd
    rwa [World.size_alloc] at this
  have K0 : Keep (fun _ => False) w ((w.alloc (.cells #[.int .i64 ao, .int .i64 (al : Int), .int .i64 (an : Int), .string ad] 35)).alloc (.cells #[.int .i64 bo, .int .i64 (bl : Int), .int .i64 (bn : Int), .string bd] 35)) := ((Keep.refl _ _).alloc _).alloc _
  go_enter Try.func5, Try.ntmps5
  go_upto_region 1 with fail
  generalize (w.alloc (.cells #[.int .i64 ao, .int .i64 (al : Int), .int .i64 (an : Int), .string ad] 35)).alloc (.cells #[.int .i64 bo, .int .i64 (bl : Int), .int .i64 (bn : Int), .string bd] 35) = v1 at Ba Bb K0 ⊢
  generalize hgb : w.heap.size + 1 = gb at Bb ⊢
  generalize hga : w.heap.size = ga at Ba hgb ⊢
  clear hga hgb
  have hA := awake_any H v1
  go_wp2_with fail
  refine (hA).mono ?_
  rintro e v2 ⟨rfl, a2⟩
  clear hA
  have c1 := one_new H a2 (n := N) h1 h2
  go_wp2_with fail
  refine (c1).mono ?_
  rintro e v3 ⟨p, rfl, O3⟩
  clear c1
  have c2 := two_new H O3 (n := N) h1 h2
  go_wp2_with fail
  refine (c2).mono ?_
  rintro e v4 ⟨q, rfl, T4⟩
  clear c2 O3
  generalize List.replicate (N * 32) (0 : Int) = Z at z0 z8 T4
  have ca0 : v4.cell? ⟨ga, 0, none⟩ = some (.int .i64 ao) := ((Ba.keep T4.kp (fun e => e)) 0 (by omega)).1
  have ca1 : v4.cell? ⟨ga, 1, none⟩ = some (.int .i64 (al : Int)) := ((Ba.keep T4.kp (fun e => e)) 1 (by omega)).1
  have ca2 : v4.cell? ⟨ga, 2, none⟩ = some (.int .i64 (an : Int)) := ((Ba.keep T4.kp (fun e => e)) 2 (by omega)).1
  have ca3 : v4.cell? ⟨ga, 3, none⟩ = some (.string ad) := ((Ba.keep T4.kp (fun e => e)) 3 (by omega)).1
  have cb0 : v4.cell? ⟨gb, 0, none⟩ = some (.int .i64 bo) := ((Bb.keep T4.kp (fun e => e)) 0 (by omega)).1
  have cb1 : v4.cell? ⟨gb, 1, none⟩ = some (.int .i64 (bl : Int)) := ((Bb.keep T4.kp (fun e => e)) 1 (by omega)).1
  have cb2 : v4.cell? ⟨gb, 2, none⟩ = some (.int .i64 (bn : Int)) := ((Bb.keep T4.kp (fun e => e)) 2 (by omega)).1
  have cb3 : v4.cell? ⟨gb, 3, none⟩ = some (.string bd) := ((Bb.keep T4.kp (fun e => e)) 3 (by omega)).1
  have c3 := two_write H T4 z0 h2 (lba := al) (n := an) ad sa ra
  go_wp2_with fail
  refine (c3).mono ?_
  rintro e v5 ⟨rfl, T5⟩
  clear c3 T4
  clear ca0 ca1 ca2 ca3 cb0 cb1 cb2 cb3
  have z1 : (wrL Z al an (nums ad)).length = N * 32 := by rw [wrL_len (by omega)]; exact z0
  have y1 : B8 (wrL Z al an (nums ad)) := wrL_b8 z8 (nums_b8 ad)
  have ca0 : v5.cell? ⟨ga, 0, none⟩ = some (.int .i64 ao) := ((Ba.keep T5.kp (fun e => e)) 0 (by omega)).1
  have ca1 : v5.cell? ⟨ga, 1, none⟩ = some (.int .i64 (al : Int)) := ((Ba.keep T5.kp (fun e => e)) 1 (by omega)).1
  have ca2 : v5.cell? ⟨ga, 2, none⟩ = some (.int .i64 (an : Int)) := ((Ba.keep T5.kp (fun e => e)) 2 (by omega)).1
  have ca3 : v5.cell? ⟨ga, 3, none⟩ = some (.string ad) := ((Ba.keep T5.kp (fun e => e)) 3 (by omega)).1
  have cb0 : v5.cell? ⟨gb, 0, none⟩ = some (.int .i64 bo) := ((Bb.keep T5.kp (fun e => e)) 0 (by omega)).1
  have cb1 : v5.cell? ⟨gb, 1, none⟩ = some (.int .i64 (bl : Int)) := ((Bb.keep T5.kp (fun e => e)) 1 (by omega)).1
  have cb2 : v5.cell? ⟨gb, 2, none⟩ = some (.int .i64 (bn : Int)) := ((Bb.keep T5.kp (fun e => e)) 2 (by omega)).1
  have cb3 : v5.cell? ⟨gb, 3, none⟩ = some (.string bd) := ((Bb.keep T5.kp (fun e => e)) 3 (by omega)).1
  have c4 := two_write H T5 z1 h2 (lba := bl) (n := bn) bd sb rb
  go_wp2_with fail
  refine (c4).mono ?_
  rintro e v6 ⟨rfl, T6⟩
  clear c4 T5
  clear ca0 ca1 ca2 ca3 cb0 cb1 cb2 cb3
  have z2 : (wrL (wrL Z al an (nums ad)) bl bn (nums bd)).length = N * 32 := by rw [wrL_len (by rw [z1]; omega)]; exact z1
  have y2 : B8 (wrL (wrL Z al an (nums ad)) bl bn (nums bd)) := wrL_b8 y1 (nums_b8 bd)
  have T6 := T6.symm
  have ca0 : v6.cell? ⟨ga, 0, none⟩ = some (.int .i64 ao) := ((Ba.keep T6.kp (fun e => e)) 0 (by omega)).1
  have ca1 : v6.cell? ⟨ga, 1, none⟩ = some (.int .i64 (al : Int)) := ((Ba.keep T6.kp (fun e => e)) 1 (by omega)).1
  have ca2 : v6.cell? ⟨ga, 2, none⟩ = some (.int .i64 (an : Int)) := ((Ba.keep T6.kp (fun e => e)) 2 (by omega)).1
  have ca3 : v6.cell? ⟨ga, 3, none⟩ = some (.string ad) := ((Ba.keep T6.kp (fun e => e)) 3 (by omega)).1
  have cb0 : v6.cell? ⟨gb, 0, none⟩ = some (.int .i64 bo) := ((Bb.keep T6.kp (fun e => e)) 0 (by omega)).1
  have cb1 : v6.cell? ⟨gb, 1, none⟩ = some (.int .i64 (bl : Int)) := ((Bb.keep T6.kp (fun e => e)) 1 (by omega)).1
  have cb2 : v6.cell? ⟨gb, 2, none⟩ = some (.int .i64 (bn : Int)) := ((Bb.keep T6.kp (fun e => e)) 2 (by omega)).1
  have cb3 : v6.cell? ⟨gb, 3, none⟩ = some (.string bd) := ((Bb.keep T6.kp (fun e => e)) 3 (by omega)).1
  have c5 := two_write H T6 z0 h2 (lba := bl) (n := bn) bd sb rb
  go_wp2_with fail
  refine (c5).mono ?_
  rintro e v7 ⟨rfl, T7⟩
  clear c5 T6
  clear ca0 ca1 ca2 ca3 cb0 cb1 cb2 cb3
  have z3 : (wrL Z bl bn (nums bd)).length = N * 32 := by rw [wrL_len (by omega)]; exact z0
  have y3 : B8 (wrL Z bl bn (nums bd)) := wrL_b8 z8 (nums_b8 bd)
  have ca0 : v7.cell? ⟨ga, 0, none⟩ = some (.int .i64 ao) := ((Ba.keep T7.kp (fun e => e)) 0 (by omega)).1
  have ca1 : v7.cell? ⟨ga, 1, none⟩ = some (.int .i64 (al : Int)) := ((Ba.keep T7.kp (fun e => e)) 1 (by omega)).1
  have ca2 : v7.cell? ⟨ga, 2, none⟩ = some (.int .i64 (an : Int)) := ((Ba.keep T7.kp (fun e => e)) 2 (by omega)).1
  have ca3 : v7.cell? ⟨ga, 3, none⟩ = some (.string ad) := ((Ba.keep T7.kp (fun e => e)) 3 (by omega)).1
  have cb0 : v7.cell? ⟨gb, 0, none⟩ = some (.int .i64 bo) := ((Bb.keep T7.kp (fun e => e)) 0 (by omega)).1
  have cb1 : v7.cell? ⟨gb, 1, none⟩ = some (.int .i64 (bl : Int)) := ((Bb.keep T7.kp (fun e => e)) 1 (by omega)).1
  have cb2 : v7.cell? ⟨gb, 2, none⟩ = some (.int .i64 (bn : Int)) := ((Bb.keep T7.kp (fun e => e)) 2 (by omega)).1
  have cb3 : v7.cell? ⟨gb, 3, none⟩ = some (.string bd) := ((Bb.keep T7.kp (fun e => e)) 3 (by omega)).1
  have c6 := two_write H T7 z3 h2 (lba := al) (n := an) ad sa ra
  go_wp2_with fail
  refine (c6).mono ?_
  rintro e v8 ⟨rfl, T8⟩
  clear c6 T7
  clear ca0 ca1 ca2 ca3 cb0 cb1 cb2 cb3
  rw [← wrL_comm (l := Z) (d := nums ad) (e := nums bd) (by omega) (by omega) hap] at T8
  have T8 := T8.symm
  have hrd : rdL (wrL (wrL Z al an (nums ad)) bl bn (nums bd)) al an = padL (an * 32) (nums ad) := by rw [wrL_comm (by omega) (by omega) hap]; exact rd_wr (by rw [wrL_len (by omega)]; omega)
  have hrz : ∀ l : List Int, (al + an) * 32 ≤ l.length → rdL (wrL l al an []) al an = List.replicate (an * 32) 0 := fun l hl => by rw [rd_wr hl, padL_nil]
  generalize wrL (wrL Z al an (nums ad)) bl bn (nums bd) = X at T8 z2 y2 hrd
  have hE : Hid (X = X) := rfl
  have c7 := two_cont H T8 z2 h2
  go_wp2_with fail
  refine (c7).mono ?_
  rintro e v9 ⟨rfl, T9⟩
  clear c7 T8
  have T9 := T9.symm
  have c8 := two_cont H T9 z2 h2
  go_wp2_with fail
  refine (c8).mono ?_
  rintro e v10 ⟨rfl, T10⟩
  clear c8 T9
  have T10 := T10.symm
  have c9 := two_dif H T10 z2 h2 z2 h2 y2 y2
  rw [difL_same] at c9
  go_wp2_with fail
  refine (c9).mono ?_
  rintro e v11 ⟨a11, n11, rfl, I11, T11⟩
  clear c9 T10 I11
  simp only [List.length_nil]
  clear hE d1 d2 d3 d4 d5
  clear q7
  have ca0 : v11.cell? ⟨ga, 0, none⟩ = some (.int .i64 ao) := ((Ba.keep T11.kp (fun e => e)) 0 (by omega)).1
  have ca1 : v11.cell? ⟨ga, 1, none⟩ = some (.int .i64 (al : Int)) := ((Ba.keep T11.kp (fun e => e)) 1 (by omega)).1
  have ca2 : v11.cell? ⟨ga, 2, none⟩ = some (.int .i64 (an : Int)) := ((Ba.keep T11.kp (fun e => e)) 2 (by omega)).1
  have ca3 : v11.cell? ⟨ga, 3, none⟩ = some (.string ad) := ((Ba.keep T11.kp (fun e => e)) 3 (by omega)).1
  have c10 := two_read H T11 z2 h2 (lba := al) (n := an) ra
  rw [hrd] at c10
  go_wp2_with fail
  refine (c10).mono ?_
  rintro e v12 ⟨rfl, T12⟩
  clear c10 T11
  clear ca0 ca1 ca2 ca3
  have hsz : (strOfNums (padL (an * 32) (nums ad))).size = an * 32 := by rw [strOfNums_size, padL_len]
  have hcmp : ∀ k, k ≤ an * 32 → k ≤ ad.size → (strOfNums (padL (an * 32) (nums ad))).extract 0 k = ad.extract 0 k := fun k k1 k2 => by
    conv => rhs; rw [← str_nums ad]
    rw [str_extract, str_extract, List.drop_zero, List.drop_zero, padL_take k1 (by rw [nums_len]; exact k2)]
  have c11 := two_trim H T12 z2 h2 (lba := al) (n := an) ra
  have hzz := hrz X (by omega)
  have hX3 : (wrL X al an []).length = N * 32 := by rw [wrL_len (by omega)]; exact z2
  generalize strOfNums (padL (an * 32) (nums ad)) = PS at hsz hcmp ⊢
  generalize hX3e : wrL X al an [] = X3 at c11 hzz hX3
  have hw1 : IntKind.i64.wrap ((an : Int) * 32) = ((an * 32 : Nat) : Int) := by rw [show (an : Int) * 32 = ((an * 32 : Nat) : Int) by omega]; exact wrapI (by omega) (by omega)
  have han : Hid (an * 32 ≤ 16384) := by show _ ≤ _; omega
  have ca0 : v12.cell? ⟨ga, 0, none⟩ = some (.int .i64 ao) := ((Ba.keep T12.kp (fun e => e)) 0 (by omega)).1
  have ca1 : v12.cell? ⟨ga, 1, none⟩ = some (.int .i64 ((al : Int) : Int)) := ((Ba.keep T12.kp (fun e => e)) 1 (by omega)).1
  have ca2 : v12.cell? ⟨ga, 2, none⟩ = some (.int .i64 ((an : Int) : Int)) := ((Ba.keep T12.kp (fun e => e)) 2 (by omega)).1
  have ca3 : v12.cell? ⟨ga, 3, none⟩ = some (.string ad) := ((Ba.keep T12.kp (fun e => e)) 3 (by omega)).1
  by_cases hbig : an * 32 < ad.size
  · have e1 : ((an * 32 : Nat) : Int) < (ad.size : Int) := by omega
    have hcm := hcmp (an * 32) (Nat.le_refl _) (by omega)
    have x1 : an * 32 ≤ ad.size := by omega
    have bb1 : ((PS.extract 0 (an * 32)).toList == (ad.extract 0 (an * 32)).toList) = true := by rw [hcm]; simp
    have hP : PS = ad.extract 0 (an * 32) := by rw [← hcm, ← hsz]; simp
    have bb2 : (PS.toList == (ad.extract 0 (an * 32)).toList) = true := by rw [← hP]; simp
    clear hP
    clear hcmp hcm hrz hrd
    have hZS : ∀ i (h : i < (strOfNums (List.replicate (an * 32) 0)).size), ((strOfNums (List.replicate (an * 32) 0))[i]'h).toNat = 0 := fun i h => by
      rw [strOfNums_size, List.length_replicate] at h
      simp [strOfNums, ByteArray.getElem_eq_getElem_data]
    have hZz : (strOfNums (List.replicate (an * 32) 0)).size = an * 32 := by rw [strOfNums_size, List.length_replicate]
    rw [← hzz] at hZS hZz
    clear c11
    generalize an * 32 = L at *
    go_upto_region 19 with fail
    clear ca0 ca1 ca2 ca3
    have T12 := T12.more H ((Keep.refl (fun _ => False) v12).drew)
    have c11 := two_trim H T12 z2 h2 (lba := al) (n := an) ra
    have hX3b : wrL X al an [] = X3 := hX3e
    rw [hX3b] at c11
    clear hX3b
    refine wp_region_noPanic ?_
    refine wp_region_held_drew (S := fun w' => Keep (fun _ => False) v1 w') (by kernel_rfl) (T12.kp) (fun hH0 => ?_)
    refine' wpAnyH_take (i := 0) (oi := { dst := some 157, op := Op.move (Operand.tmp 8), type := 24, pos := "more.go:33", after := #[], guard := none }) (v := _) rfl (by kernel_rfl) (by kernel_rfl) (by kernel_rfl) (fun _ _ _ h => h) (Or.inl ⟨by rfl, ?hyma10⟩) hH0 ?rma10
    case hyma10 => (intro w' hSw; clear hSw; go_simp; try with_reducible rfl)
    simp only [Act.put, List.setIfInBounds_toArray, List.set_cons_zero, List.set_cons_succ]
    refine' wpAnyH_take (i := 1) (oi := { dst := some 158, op := Op.binOp BinOp.neq 24 (Operand.tmp 157) (Operand.const (Value.int IntKind.i64 0)) 24, type := 4, pos := "more.go:33", after := #[{ on := 0, ground := Ground.data }], guard := none }) (v := _) rfl (by kernel_rfl) (by kernel_rfl) (by kernel_rfl) (fun _ _ _ h => h) (Or.inl ⟨by rfl, ?hyma11⟩) hH0 ?rma11
    case hyma11 => (intro w' hSw; clear hSw; go_simp; try with_reducible rfl)
    simp only [Act.put, List.setIfInBounds_toArray, List.set_cons_zero, List.set_cons_succ]
    refine' wpAnyH_take (i := 2) (oi := { dst := some 159, op := Op.move (Operand.tmp 158), type := 4, pos := "more.go:33", after := #[{ on := 1, ground := Ground.data }], guard := none }) (v := _) rfl (by kernel_rfl) (by kernel_rfl) (by kernel_rfl) (fun _ _ _ h => h) (Or.inl ⟨by rfl, ?hyma12⟩) hH0 ?rma12
    case hyma12 => (intro w' hSw; clear hSw; go_simp; try with_reducible rfl)
    simp only [Act.put, List.setIfInBounds_toArray, List.set_cons_zero, List.set_cons_succ]
    refine' wpAnyH_take (i := 3) (oi := { dst := some 160, op := Op.move (Operand.tmp 15), type := 9, pos := "more.go:33", after := #[{ on := 2, ground := Ground.guard }], guard := some (2, false) }) (v := _) rfl (by kernel_rfl) (by kernel_rfl) (by kernel_rfl) (fun _ _ _ h => h) (Or.inl ⟨by rfl, ?hyma13⟩) hH0 ?rma13
    case hyma13 => (intro w' hSw; clear hSw; go_simp; try with_reducible rfl)
    simp only [Act.put, List.setIfInBounds_toArray, List.set_cons_zero, List.set_cons_succ]
    refine' wpAnyH_take (i := 4) (oi := { dst := some 161, op := Op.move (Operand.tmp 16), type := 3, pos := "more.go:33", after := #[{ on := 2, ground := Ground.guard }], guard := some (2, false) }) (v := _) rfl (by kernel_rfl) (by kernel_rfl) (by kernel_rfl) (fun _ _ _ h => h) (Or.inl ⟨by rfl, ?hyma14⟩) hH0 ?rma14
    case hyma14 => (intro w' hSw; clear hSw; go_simp; try with_reducible rfl)
    simp only [Act.put, List.setIfInBounds_toArray, List.set_cons_zero, List.set_cons_succ]
    refine' wpAnyH_take (i := 5) (oi := { dst := some 162, op := Op.slice 9 (Operand.tmp 160) none (some (Operand.tmp 161)) none, type := 9, pos := "more.go:33", after := #[{ on := 3, ground := Ground.data }, { on := 4, ground := Ground.data }, { on := 2, ground := Ground.guard }], guard := some (2, false) }) (v := _) rfl (by kernel_rfl) (by kernel_rfl) (by kernel_rfl) (fun _ _ _ h => h) (Or.inl ⟨by rfl, ?hyma15⟩) hH0 ?rma15
    case hyma15 => (intro w' hSw; clear hSw; go_simp; try with_reducible rfl)
    simp only [Act.put, List.setIfInBounds_toArray, List.set_cons_zero, List.set_cons_succ]
    refine' wpAnyH_take (i := 6) (oi := { dst := some 163, op := Op.fieldAddr 35 (Operand.tmp 4) 3, type := 0, pos := "more.go:33", after := #[{ on := 2, ground := Ground.guard }], guard := some (2, false) }) (v := _) rfl (by kernel_rfl) (by kernel_rfl) (by kernel_rfl) (fun _ _ _ h => h) (Or.inl ⟨by rfl, ?hyma16⟩) hH0 ?rma16
    case hyma16 => (intro w' hSw; clear hSw; go_simp; try with_reducible rfl)
    simp only [Act.put, List.setIfInBounds_toArray, List.set_cons_zero, List.set_cons_succ]
    refine' wpAnyH_take (i := 7) (oi := { dst := some 164, op := Op.load 9 (Operand.tmp 163), type := 9, pos := "more.go:33", after := #[{ on := 6, ground := Ground.data }, { on := 2, ground := Ground.guard }], guard := some (2, false) }) (v := _) rfl (by kernel_rfl) (by kernel_rfl) (by kernel_rfl) (fun _ _ _ h => h) (Or.inl ⟨by rfl, ?hyma17⟩) hH0 ?rma17
    case hyma17 => (intro w' hSw; have zz1 : w'.cell? ⟨ga, 1, none⟩ = some (.int .i64 (al : Int)) := ((Ba.keep hSw (fun e => e)) 1 (by omega)).1; have zz2 : w'.cell? ⟨ga, 2, none⟩ = some (.int .i64 (an : Int)) := ((Ba.keep hSw (fun e => e)) 2 (by omega)).1; have zz3 : w'.cell? ⟨ga, 3, none⟩ = some (.string ad) := ((Ba.keep hSw (fun e => e)) 3 (by omega)).1; clear hSw; go_simp; try with_reducible rfl)
    simp only [Act.put, List.setIfInBounds_toArray, List.set_cons_zero, List.set_cons_succ]
    refine' wpAnyH_take (i := 8) (oi := { dst := some 165, op := Op.move (Operand.tmp 16), type := 3, pos := "more.go:33", after := #[{ on := 2, ground := Ground.guard }], guard := some (2, false) }) (v := _) rfl (by kernel_rfl) (by kernel_rfl) (by kernel_rfl) (fun _ _ _ h => h) (Or.inl ⟨by rfl, ?hyma18⟩) hH0 ?rma18
    case hyma18 => (intro w' hSw; clear hSw; go_simp; try with_reducible rfl)
    simp only [Act.put, List.setIfInBounds_toArray, List.set_cons_zero, List.set_cons_succ]
    refine' wpAnyH_take (i := 9) (oi := { dst := some 166, op := Op.slice 9 (Operand.tmp 164) none (some (Operand.tmp 165)) none, type := 9, pos := "more.go:33", after := #[{ on := 7, ground := Ground.data }, { on := 8, ground := Ground.data }, { on := 2, ground := Ground.guard }], guard := some (2, false) }) (v := _) rfl (by kernel_rfl) (by kernel_rfl) (by kernel_rfl) (fun _ _ _ h => h) (Or.inl ⟨by rfl, ?hyma19⟩) hH0 ?rma19
    case hyma19 => (intro w' hSw; clear hSw; go_simp; try with_reducible rfl)
    simp only [Act.put, List.setIfInBounds_toArray, List.set_cons_zero, List.set_cons_succ]
    refine' wpAnyH_take (i := 10) (oi := { dst := some 167, op := Op.binOp BinOp.neq 9 (Operand.tmp 162) (Operand.tmp 166) 9, type := 4, pos := "more.go:33", after := #[{ on := 5, ground := Ground.data }, { on := 9, ground := Ground.data }, { on := 2, ground := Ground.guard }], guard := some (2, false) }) (v := _) rfl (by kernel_rfl) (by kernel_rfl) (by kernel_rfl) (fun _ _ _ h => h) (Or.inl ⟨by rfl, ?hyma110⟩) hH0 ?rma110
    case hyma110 => (intro w' hSw; clear hSw; go_simp; try with_reducible rfl)
    simp only [Act.put, List.setIfInBounds_toArray, List.set_cons_zero, List.set_cons_succ]
    refine' wpAnyH_take (i := 11) (oi := { dst := some 168, op := Op.pick (Operand.tmp 159) (Operand.const (Value.bool true)) (Operand.tmp 167), type := 4, pos := "more.go:33", after := #[{ on := 2, ground := Ground.data }, { on := 10, ground := Ground.data }], guard := none }) (v := _) rfl (by kernel_rfl) (by kernel_rfl) (by kernel_rfl) (fun _ _ _ h => h) (Or.inl ⟨by rfl, ?hyma111⟩) hH0 ?rma111
    case hyma111 => (intro w' hSw; clear hSw; go_simp; try with_reducible rfl)
    simp only [Act.put, List.setIfInBounds_toArray, List.set_cons_zero, List.set_cons_succ]
    refine' wpAnyH_take (i := 12) (oi := { dst := some 169, op := Op.move (Operand.tmp 168), type := 4, pos := "more.go:33", after := #[{ on := 11, ground := Ground.data }, { on := 2, ground := Ground.chain }], guard := none }) (v := _) rfl (by kernel_rfl) (by kernel_rfl) (by kernel_rfl) (fun _ _ _ h => h) (Or.inl ⟨by rfl, ?hyma112⟩) hH0 ?rma112
    case hyma112 => (intro w' hSw; clear hSw; go_simp; try with_reducible rfl)
    simp only [Act.put, List.setIfInBounds_toArray, List.set_cons_zero, List.set_cons_succ]
    refine' wpAnyH_take (i := 13) (oi := { dst := some 170, op := Op.move (Operand.tmp 7), type := 23, pos := "more.go:33", after := #[{ on := 12, ground := Ground.guard }], guard := some (12, false) }) (v := _) rfl (by kernel_rfl) (by kernel_rfl) (by kernel_rfl) (fun _ _ _ h => h) (Or.inl ⟨by rfl, ?hyma113⟩) hH0 ?rma113
    case hyma113 => (intro w' hSw; clear hSw; go_simp; try with_reducible rfl)
    simp only [Act.put, List.setIfInBounds_toArray, List.set_cons_zero, List.set_cons_succ]
    refine' wpAnyH_take (i := 14) (oi := { dst := some 171, op := Op.fieldAddr 35 (Operand.tmp 4) 1, type := 0, pos := "more.go:33", after := #[{ on := 12, ground := Ground.guard }], guard := some (12, false) }) (v := _) rfl (by kernel_rfl) (by kernel_rfl) (by kernel_rfl) (fun _ _ _ h => h) (Or.inl ⟨by rfl, ?hyma114⟩) hH0 ?rma114
    case hyma114 => (intro w' hSw; clear hSw; go_simp; try with_reducible rfl)
    simp only [Act.put, List.setIfInBounds_toArray, List.set_cons_zero, List.set_cons_succ]
    refine' wpAnyH_take (i := 15) (oi := { dst := some 172, op := Op.load 3 (Operand.tmp 171), type := 3, pos := "more.go:33", after := #[{ on := 14, ground := Ground.data }, { on := 12, ground := Ground.guard }], guard := some (12, false) }) (v := _) rfl (by kernel_rfl) (by kernel_rfl) (by kernel_rfl) (fun _ _ _ h => h) (Or.inl ⟨by rfl, ?hyma115⟩) hH0 ?rma115
    case hyma115 => (intro w' hSw; have zz1 : w'.cell? ⟨ga, 1, none⟩ = some (.int .i64 (al : Int)) := ((Ba.keep hSw (fun e => e)) 1 (by omega)).1; have zz2 : w'.cell? ⟨ga, 2, none⟩ = some (.int .i64 (an : Int)) := ((Ba.keep hSw (fun e => e)) 2 (by omega)).1; have zz3 : w'.cell? ⟨ga, 3, none⟩ = some (.string ad) := ((Ba.keep hSw (fun e => e)) 3 (by omega)).1; clear hSw; go_simp; try with_reducible rfl)
    simp only [Act.put, List.setIfInBounds_toArray, List.set_cons_zero, List.set_cons_succ]
    refine' wpAnyH_take (i := 16) (oi := { dst := some 173, op := Op.fieldAddr 35 (Operand.tmp 4) 2, type := 0, pos := "more.go:33", after := #[{ on := 12, ground := Ground.guard }], guard := some (12, false) }) (v := _) rfl (by kernel_rfl) (by kernel_rfl) (by kernel_rfl) (fun _ _ _ h => h) (Or.inl ⟨by rfl, ?hyma116⟩) hH0 ?rma116
    case hyma116 => (intro w' hSw; clear hSw; go_simp; try with_reducible rfl)
    simp only [Act.put, List.setIfInBounds_toArray, List.set_cons_zero, List.set_cons_succ]
    refine' wpAnyH_take (i := 17) (oi := { dst := some 174, op := Op.load 3 (Operand.tmp 173), type := 3, pos := "more.go:33", after := #[{ on := 16, ground := Ground.data }, { on := 12, ground := Ground.guard }], guard := some (12, false) }) (v := _) rfl (by kernel_rfl) (by kernel_rfl) (by kernel_rfl) (fun _ _ _ h => h) (Or.inl ⟨by rfl, ?hyma117⟩) hH0 ?rma117
    case hyma117 => (intro w' hSw; have zz1 : w'.cell? ⟨ga, 1, none⟩ = some (.int .i64 (al : Int)) := ((Ba.keep hSw (fun e => e)) 1 (by omega)).1; have zz2 : w'.cell? ⟨ga, 2, none⟩ = some (.int .i64 (an : Int)) := ((Ba.keep hSw (fun e => e)) 2 (by omega)).1; have zz3 : w'.cell? ⟨ga, 3, none⟩ = some (.string ad) := ((Ba.keep hSw (fun e => e)) 3 (by omega)).1; clear hSw; go_simp; try with_reducible rfl)
    simp only [Act.put, List.setIfInBounds_toArray, List.set_cons_zero, List.set_cons_succ]
    refine wpAnyH_ready (rs := [18]) (by kernel_rfl) (by simp) ?_
    refine AllReadyH.cons (o := { dst := some 175, op := Op.call { callee := Callee.value (Operand.func 10), args := #[Operand.tmp 170, Operand.tmp 172, Operand.tmp 174], argTypes := #[23, 3, 3] }, type := 24, pos := "more.go:33", after := #[{ on := 13, ground := Ground.data }, { on := 15, ground := Ground.data }, { on := 17, ground := Ground.data }, { on := 12, ground := Ground.chain }, { on := 12, ground := Ground.guard }], guard := some (12, false) }) rfl (fun K hK => ?_) AllReadyH.nil
    refine step_call_want (vs := #[Ptr p, .int .i64 (al : Int), .int .i64 (an : Int)]) (R := fun u wz => u = .int .i64 0 ∧ Two M v1 wz p q X3 X) (by rfl) 10 #[Operand.tmp 170, Operand.tmp 172, Operand.tmp 174] #[23, 3, 3] rfl (by simp [Act.eval]) call10 (post_of c11) ?_
    rintro _ v13 ⟨rfl, T13⟩
    refine hK.out _ _ (T13.kp) (fun hH1 => ?_)
    clear hK K hH0
    simp only [Act.put, List.setIfInBounds_toArray, List.set_cons_zero, List.set_cons_succ]
    refine' wpAnyH_take (i := 19) (oi := { dst := some 176, op := Op.binOp BinOp.neq 24 (Operand.tmp 175) (Operand.const (Value.int IntKind.i64 0)) 24, type := 4, pos := "more.go:33", after := #[{ on := 18, ground := Ground.data }, { on := 12, ground := Ground.guard }], guard := some (12, false) }) (v := _) rfl (by kernel_rfl) (by kernel_rfl) (by kernel_rfl) (fun _ _ _ h => h) (Or.inl ⟨by rfl, ?hyma119⟩) hH1 ?rma119
    case hyma119 => (intro w' hSw; clear hSw; go_simp; try with_reducible rfl)
    simp only [Act.put, List.setIfInBounds_toArray, List.set_cons_zero, List.set_cons_succ]
    refine' wpAnyH_take (i := 20) (oi := { dst := some 177, op := Op.pick (Operand.tmp 169) (Operand.const (Value.bool true)) (Operand.tmp 176), type := 4, pos := "more.go:33", after := #[{ on := 12, ground := Ground.data }, { on := 19, ground := Ground.data }], guard := none }) (v := _) rfl (by kernel_rfl) (by kernel_rfl) (by kernel_rfl) (fun _ _ _ h => h) (Or.inl ⟨by rfl, ?hyma120⟩) hH1 ?rma120
    case hyma120 => (intro w' hSw; clear hSw; go_simp; try with_reducible rfl)
    simp only [Act.put, List.setIfInBounds_toArray, List.set_cons_zero, List.set_cons_succ]
    refine wpAnyH_done (by kernel_rfl) ?_ _
    refine NoPanic.normal ?_
    clear c11 T12 bb1 bb2 e1
    have ca0 : v13.cell? ⟨ga, 0, none⟩ = some (.int .i64 ao) := ((Ba.keep T13.kp (fun e => e)) 0 (by omega)).1
    have ca1 : v13.cell? ⟨ga, 1, none⟩ = some (.int .i64 (al : Int)) := ((Ba.keep T13.kp (fun e => e)) 1 (by omega)).1
    have ca2 : v13.cell? ⟨ga, 2, none⟩ = some (.int .i64 (an : Int)) := ((Ba.keep T13.kp (fun e => e)) 2 (by omega)).1
    have ca3 : v13.cell? ⟨ga, 3, none⟩ = some (.string ad) := ((Ba.keep T13.kp (fun e => e)) 3 (by omega)).1
    have c12 := two_read H T13 hX3 h2 (lba := al) (n := an) ra
    go_wp2_with fail
    refine (c12).mono ?_
    rintro e v14 ⟨rfl, T14⟩
    clear c12 T13 ca0 ca1 ca2 ca3
    generalize strOfNums (rdL X3 al an) = ZS at hZS hZz ⊢
    go_wp2_with fail
    go_loopw [17] (fun kv wx => ∃ k : Nat, k ≤ L ∧ kv = .int .i64 (k : Int) ∧ wx = v14) (fun kv _ => L - (intOf kv).toNat)
    case atStart => exact ⟨0, by omega, rfl, rfl⟩
    case round =>
      obtain ⟨k, hk, rfl, rfl⟩ := hrel
      by_cases hlt : k < L
      · have hkz : k < ZS.size := by omega
        have d0 := hZS k hkz
        have dk : (k : Int) < (L : Int) := by omega
        have dw := wrapI (x := (k : Int) + 1) (by have : L ≤ 16384 := han; omega) (by have : L ≤ 16384 := han; omega)
        have hlt' : Hid (k < L) := hlt
        clear hlt hk
        go_wp2_with fail
        go_roundw
        case rel => exact ⟨k + 1, hlt', by go_num, by first | rfl | trivial⟩
        case measure => have : k < L := hlt'; simp [intOf]; omega
      · have dk : ¬ (k : Int) < (L : Int) := by omega
        have HK := K0.trans T14.kp
        have ca0 : wr.cell? ⟨ga, 0, none⟩ = some (.int .i64 ao) := ((Ba.keep T14.kp (fun e => e)) 0 (by omega)).1
        have ca1 : wr.cell? ⟨ga, 1, none⟩ = some (.int .i64 (al : Int)) := ((Ba.keep T14.kp (fun e => e)) 1 (by omega)).1
        have ca2 : wr.cell? ⟨ga, 2, none⟩ = some (.int .i64 (an : Int)) := ((Ba.keep T14.kp (fun e => e)) 2 (by omega)).1
        have ca3 : wr.cell? ⟨ga, 3, none⟩ = some (.string ad) := ((Ba.keep T14.kp (fun e => e)) 3 (by omega)).1
        clear hlt hk
        go_wp2_with fail
        go_ret
        exact ⟨rfl, HK⟩
  · have e1 : ¬ ((an * 32 : Nat) : Int) < (ad.size : Int) := by omega
    have hcm := hcmp ad.size (by omega) (Nat.le_refl _)
    have bb1 : ((PS.extract 0 ad.size).toList == (ad.extract 0 ad.size).toList) = true := by rw [hcm]; simp
    have hQ : ad.extract 0 ad.size = ad := by simp
    have bb2 : ((PS.extract 0 ad.size).toList == ad.toList) = true := by rw [hcm, hQ]; simp
    have x1 : ad.size ≤ PS.size := by omega
    clear hQ
    clear hcmp hcm hrz hrd
    have hZS : ∀ i (h : i < (strOfNums (List.replicate (an * 32) 0)).size), ((strOfNums (List.replicate (an * 32) 0))[i]'h).toNat = 0 := fun i h => by
      rw [strOfNums_size, List.length_replicate] at h
      simp [strOfNums, ByteArray.getElem_eq_getElem_data]
    have hZz : (strOfNums (List.replicate (an * 32) 0)).size = an * 32 := by rw [strOfNums_size, List.length_replicate]
    rw [← hzz] at hZS hZz
    clear c11
    generalize an * 32 = L at *
    go_upto_region 19 with fail
    clear ca0 ca1 ca2 ca3
    have T12 := T12.more H ((Keep.refl (fun _ => False) v12).drew)
    have c11 := two_trim H T12 z2 h2 (lba := al) (n := an) ra
    have hX3b : wrL X al an [] = X3 := hX3e
    rw [hX3b] at c11
    clear hX3b
    refine wp_region_noPanic ?_
    refine wp_region_held_drew (S := fun w' => Keep (fun _ => False) v1 w') (by kernel_rfl) (T12.kp) (fun hH0 => ?_)
    refine' wpAnyH_take (i := 0) (oi := { dst := some 157, op := Op.move (Operand.tmp 8), type := 24, pos := "more.go:33", after := #[], guard := none }) (v := _) rfl (by kernel_rfl) (by kernel_rfl) (by kernel_rfl) (fun _ _ _ h => h) (Or.inl ⟨by rfl, ?hyma00⟩) hH0 ?rma00
    case hyma00 => (intro w' hSw; clear hSw; go_simp; try with_reducible rfl)
    simp only [Act.put, List.setIfInBounds_toArray, List.set_cons_zero, List.set_cons_succ]
    refine' wpAnyH_take (i := 1) (oi := { dst := some 158, op := Op.binOp BinOp.neq 24 (Operand.tmp 157) (Operand.const (Value.int IntKind.i64 0)) 24, type := 4, pos := "more.go:33", after := #[{ on := 0, ground := Ground.data }], guard := none }) (v := _) rfl (by kernel_rfl) (by kernel_rfl) (by kernel_rfl) (fun _ _ _ h => h) (Or.inl ⟨by rfl, ?hyma01⟩) hH0 ?rma01
    case hyma01 => (intro w' hSw; clear hSw; go_simp; try with_reducible rfl)
    simp only [Act.put, List.setIfInBounds_toArray, List.set_cons_zero, List.set_cons_succ]
    refine' wpAnyH_take (i := 2) (oi := { dst := some 159, op := Op.move (Operand.tmp 158), type := 4, pos := "more.go:33", after := #[{ on := 1, ground := Ground.data }], guard := none }) (v := _) rfl (by kernel_rfl) (by kernel_rfl) (by kernel_rfl) (fun _ _ _ h => h) (Or.inl ⟨by rfl, ?hyma02⟩) hH0 ?rma02
    case hyma02 => (intro w' hSw; clear hSw; go_simp; try with_reducible rfl)
    simp only [Act.put, List.setIfInBounds_toArray, List.set_cons_zero, List.set_cons_succ]
    refine' wpAnyH_take (i := 3) (oi := { dst := some 160, op := Op.move (Operand.tmp 15), type := 9, pos := "more.go:33", after := #[{ on := 2, ground := Ground.guard }], guard := some (2, false) }) (v := _) rfl (by kernel_rfl) (by kernel_rfl) (by kernel_rfl) (fun _ _ _ h => h) (Or.inl ⟨by rfl, ?hyma03⟩) hH0 ?rma03
    case hyma03 => (intro w' hSw; clear hSw; go_simp; try with_reducible rfl)
    simp only [Act.put, List.setIfInBounds_toArray, List.set_cons_zero, List.set_cons_succ]
    refine' wpAnyH_take (i := 4) (oi := { dst := some 161, op := Op.move (Operand.tmp 16), type := 3, pos := "more.go:33", after := #[{ on := 2, ground := Ground.guard }], guard := some (2, false) }) (v := _) rfl (by kernel_rfl) (by kernel_rfl) (by kernel_rfl) (fun _ _ _ h => h) (Or.inl ⟨by rfl, ?hyma04⟩) hH0 ?rma04
    case hyma04 => (intro w' hSw; clear hSw; go_simp; try with_reducible rfl)
    simp only [Act.put, List.setIfInBounds_toArray, List.set_cons_zero, List.set_cons_succ]
    refine' wpAnyH_take (i := 5) (oi := { dst := some 162, op := Op.slice 9 (Operand.tmp 160) none (some (Operand.tmp 161)) none, type := 9, pos := "more.go:33", after := #[{ on := 3, ground := Ground.data }, { on := 4, ground := Ground.data }, { on := 2, ground := Ground.guard }], guard := some (2, false) }) (v := _) rfl (by kernel_rfl) (by kernel_rfl) (by kernel_rfl) (fun _ _ _ h => h) (Or.inl ⟨by rfl, ?hyma05⟩) hH0 ?rma05
    case hyma05 => (intro w' hSw; clear hSw; go_simp; try with_reducible rfl)
    simp only [Act.put, List.setIfInBounds_toArray, List.set_cons_zero, List.set_cons_succ]
    refine' wpAnyH_take (i := 6) (oi := { dst := some 163, op := Op.fieldAddr 35 (Operand.tmp 4) 3, type := 0, pos := "more.go:33", after := #[{ on := 2, ground := Ground.guard }], guard := some (2, false) }) (v := _) rfl (by kernel_rfl) (by kernel_rfl) (by kernel_rfl) (fun _ _ _ h => h) (Or.inl ⟨by rfl, ?hyma06⟩) hH0 ?rma06
    case hyma06 => (intro w' hSw; clear hSw; go_simp; try with_reducible rfl)
    simp only [Act.put, List.setIfInBounds_toArray, List.set_cons_zero, List.set_cons_succ]
    refine' wpAnyH_take (i := 7) (oi := { dst := some 164, op := Op.load 9 (Operand.tmp 163), type := 9, pos := "more.go:33", after := #[{ on := 6, ground := Ground.data }, { on := 2, ground := Ground.guard }], guard := some (2, false) }) (v := _) rfl (by kernel_rfl) (by kernel_rfl) (by kernel_rfl) (fun _ _ _ h => h) (Or.inl ⟨by rfl, ?hyma07⟩) hH0 ?rma07
    case hyma07 => (intro w' hSw; have zz1 : w'.cell? ⟨ga, 1, none⟩ = some (.int .i64 (al : Int)) := ((Ba.keep hSw (fun e => e)) 1 (by omega)).1; have zz2 : w'.cell? ⟨ga, 2, none⟩ = some (.int .i64 (an : Int)) := ((Ba.keep hSw (fun e => e)) 2 (by omega)).1; have zz3 : w'.cell? ⟨ga, 3, none⟩ = some (.string ad) := ((Ba.keep hSw (fun e => e)) 3 (by omega)).1; clear hSw; go_simp; try with_reducible rfl)
    simp only [Act.put, List.setIfInBounds_toArray, List.set_cons_zero, List.set_cons_succ]
    refine' wpAnyH_take (i := 8) (oi := { dst := some 165, op := Op.move (Operand.tmp 16), type := 3, pos := "more.go:33", after := #[{ on := 2, ground := Ground.guard }], guard := some (2, false) }) (v := _) rfl (by kernel_rfl) (by kernel_rfl) (by kernel_rfl) (fun _ _ _ h => h) (Or.inl ⟨by rfl, ?hyma08⟩) hH0 ?rma08
    case hyma08 => (intro w' hSw; clear hSw; go_simp; try with_reducible rfl)
    simp only [Act.put, List.setIfInBounds_toArray, List.set_cons_zero, List.set_cons_succ]
    refine' wpAnyH_take (i := 9) (oi := { dst := some 166, op := Op.slice 9 (Operand.tmp 164) none (some (Operand.tmp 165)) none, type := 9, pos := "more.go:33", after := #[{ on := 7, ground := Ground.data }, { on := 8, ground := Ground.data }, { on := 2, ground := Ground.guard }], guard := some (2, false) }) (v := _) rfl (by kernel_rfl) (by kernel_rfl) (by kernel_rfl) (fun _ _ _ h => h) (Or.inl ⟨by rfl, ?hyma09⟩) hH0 ?rma09
    case hyma09 => (intro w' hSw; clear hSw; go_simp; try with_reducible rfl)
    simp only [Act.put, List.setIfInBounds_toArray, List.set_cons_zero, List.set_cons_succ]
    refine' wpAnyH_take (i := 10) (oi := { dst := some 167, op := Op.binOp BinOp.neq 9 (Operand.tmp 162) (Operand.tmp 166) 9, type := 4, pos := "more.go:33", after := #[{ on := 5, ground := Ground.data }, { on := 9, ground := Ground.data }, { on := 2, ground := Ground.guard }], guard := some (2, false) }) (v := _) rfl (by kernel_rfl) (by kernel_rfl) (by kernel_rfl) (fun _ _ _ h => h) (Or.inl ⟨by rfl, ?hyma010⟩) hH0 ?rma010
    case hyma010 => (intro w' hSw; clear hSw; go_simp; try with_reducible rfl)
    simp only [Act.put, List.setIfInBounds_toArray, List.set_cons_zero, List.set_cons_succ]
    refine' wpAnyH_take (i := 11) (oi := { dst := some 168, op := Op.pick (Operand.tmp 159) (Operand.const (Value.bool true)) (Operand.tmp 167), type := 4, pos := "more.go:33", after := #[{ on := 2, ground := Ground.data }, { on := 10, ground := Ground.data }], guard := none }) (v := _) rfl (by kernel_rfl) (by kernel_rfl) (by kernel_rfl) (fun _ _ _ h => h) (Or.inl ⟨by rfl, ?hyma011⟩) hH0 ?rma011
    case hyma011 => (intro w' hSw; clear hSw; go_simp; try with_reducible rfl)
    simp only [Act.put, List.setIfInBounds_toArray, List.set_cons_zero, List.set_cons_succ]
    refine' wpAnyH_take (i := 12) (oi := { dst := some 169, op := Op.move (Operand.tmp 168), type := 4, pos := "more.go:33", after := #[{ on := 11, ground := Ground.data }, { on := 2, ground := Ground.chain }], guard := none }) (v := _) rfl (by kernel_rfl) (by kernel_rfl) (by kernel_rfl) (fun _ _ _ h => h) (Or.inl ⟨by rfl, ?hyma012⟩) hH0 ?rma012
    case hyma012 => (intro w' hSw; clear hSw; go_simp; try with_reducible rfl)
    simp only [Act.put, List.setIfInBounds_toArray, List.set_cons_zero, List.set_cons_succ]
    refine' wpAnyH_take (i := 13) (oi := { dst := some 170, op := Op.move (Operand.tmp 7), type := 23, pos := "more.go:33", after := #[{ on := 12, ground := Ground.guard }], guard := some (12, false) }) (v := _) rfl (by kernel_rfl) (by kernel_rfl) (by kernel_rfl) (fun _ _ _ h => h) (Or.inl ⟨by rfl, ?hyma013⟩) hH0 ?rma013
    case hyma013 => (intro w' hSw; clear hSw; go_simp; try with_reducible rfl)
    simp only [Act.put, List.setIfInBounds_toArray, List.set_cons_zero, List.set_cons_succ]
    refine' wpAnyH_take (i := 14) (oi := { dst := some 171, op := Op.fieldAddr 35 (Operand.tmp 4) 1, type := 0, pos := "more.go:33", after := #[{ on := 12, ground := Ground.guard }], guard := some (12, false) }) (v := _) rfl (by kernel_rfl) (by kernel_rfl) (by kernel_rfl) (fun _ _ _ h => h) (Or.inl ⟨by rfl, ?hyma014⟩) hH0 ?rma014
    case hyma014 => (intro w' hSw; clear hSw; go_simp; try with_reducible rfl)
    simp only [Act.put, List.setIfInBounds_toArray, List.set_cons_zero, List.set_cons_succ]
    refine' wpAnyH_take (i := 15) (oi := { dst := some 172, op := Op.load 3 (Operand.tmp 171), type := 3, pos := "more.go:33", after := #[{ on := 14, ground := Ground.data }, { on := 12, ground := Ground.guard }], guard := some (12, false) }) (v := _) rfl (by kernel_rfl) (by kernel_rfl) (by kernel_rfl) (fun _ _ _ h => h) (Or.inl ⟨by rfl, ?hyma015⟩) hH0 ?rma015
    case hyma015 => (intro w' hSw; have zz1 : w'.cell? ⟨ga, 1, none⟩ = some (.int .i64 (al : Int)) := ((Ba.keep hSw (fun e => e)) 1 (by omega)).1; have zz2 : w'.cell? ⟨ga, 2, none⟩ = some (.int .i64 (an : Int)) := ((Ba.keep hSw (fun e => e)) 2 (by omega)).1; have zz3 : w'.cell? ⟨ga, 3, none⟩ = some (.string ad) := ((Ba.keep hSw (fun e => e)) 3 (by omega)).1; clear hSw; go_simp; try with_reducible rfl)
    simp only [Act.put, List.setIfInBounds_toArray, List.set_cons_zero, List.set_cons_succ]
    refine' wpAnyH_take (i := 16) (oi := { dst := some 173, op := Op.fieldAddr 35 (Operand.tmp 4) 2, type := 0, pos := "more.go:33", after := #[{ on := 12, ground := Ground.guard }], guard := some (12, false) }) (v := _) rfl (by kernel_rfl) (by kernel_rfl) (by kernel_rfl) (fun _ _ _ h => h) (Or.inl ⟨by rfl, ?hyma016⟩) hH0 ?rma016
    case hyma016 => (intro w' hSw; clear hSw; go_simp; try with_reducible rfl)
    simp only [Act.put, List.setIfInBounds_toArray, List.set_cons_zero, List.set_cons_succ]
    refine' wpAnyH_take (i := 17) (oi := { dst := some 174, op := Op.load 3 (Operand.tmp 173), type := 3, pos := "more.go:33", after := #[{ on := 16, ground := Ground.data }, { on := 12, ground := Ground.guard }], guard := some (12, false) }) (v := _) rfl (by kernel_rfl) (by kernel_rfl) (by kernel_rfl) (fun _ _ _ h => h) (Or.inl ⟨by rfl, ?hyma017⟩) hH0 ?rma017
    case hyma017 => (intro w' hSw; have zz1 : w'.cell? ⟨ga, 1, none⟩ = some (.int .i64 (al : Int)) := ((Ba.keep hSw (fun e => e)) 1 (by omega)).1; have zz2 : w'.cell? ⟨ga, 2, none⟩ = some (.int .i64 (an : Int)) := ((Ba.keep hSw (fun e => e)) 2 (by omega)).1; have zz3 : w'.cell? ⟨ga, 3, none⟩ = some (.string ad) := ((Ba.keep hSw (fun e => e)) 3 (by omega)).1; clear hSw; go_simp; try with_reducible rfl)
    simp only [Act.put, List.setIfInBounds_toArray, List.set_cons_zero, List.set_cons_succ]
    refine wpAnyH_ready (rs := [18]) (by kernel_rfl) (by simp) ?_
    refine AllReadyH.cons (o := { dst := some 175, op := Op.call { callee := Callee.value (Operand.func 10), args := #[Operand.tmp 170, Operand.tmp 172, Operand.tmp 174], argTypes := #[23, 3, 3] }, type := 24, pos := "more.go:33", after := #[{ on := 13, ground := Ground.data }, { on := 15, ground := Ground.data }, { on := 17, ground := Ground.data }, { on := 12, ground := Ground.chain }, { on := 12, ground := Ground.guard }], guard := some (12, false) }) rfl (fun K hK => ?_) AllReadyH.nil
    refine step_call_want (vs := #[Ptr p, .int .i64 (al : Int), .int .i64 (an : Int)]) (R := fun u wz => u = .int .i64 0 ∧ Two M v1 wz p q X3 X) (by rfl) 10 #[Operand.tmp 170, Operand.tmp 172, Operand.tmp 174] #[23, 3, 3] rfl (by simp [Act.eval]) call10 (post_of c11) ?_
    rintro _ v13 ⟨rfl, T13⟩
    refine hK.out _ _ (T13.kp) (fun hH1 => ?_)
    clear hK K hH0
    simp only [Act.put, List.setIfInBounds_toArray, List.set_cons_zero, List.set_cons_succ]
    refine' wpAnyH_take (i := 19) (oi := { dst := some 176, op := Op.binOp BinOp.neq 24 (Operand.tmp 175) (Operand.const (Value.int IntKind.i64 0)) 24, type := 4, pos := "more.go:33", after := #[{ on := 18, ground := Ground.data }, { on := 12, ground := Ground.guard }], guard := some (12, false) }) (v := _) rfl (by kernel_rfl) (by kernel_rfl) (by kernel_rfl) (fun _ _ _ h => h) (Or.inl ⟨by rfl, ?hyma019⟩) hH1 ?rma019
    case hyma019 => (intro w' hSw; clear hSw; go_simp; try with_reducible rfl)
    simp only [Act.put, List.setIfInBounds_toArray, List.set_cons_zero, List.set_cons_succ]
    refine' wpAnyH_take (i := 20) (oi := { dst := some 177, op := Op.pick (Operand.tmp 169) (Operand.const (Value.bool true)) (Operand.tmp 176), type := 4, pos := "more.go:33", after := #[{ on := 12, ground := Ground.data }, { on := 19, ground := Ground.data }], guard := none }) (v := _) rfl (by kernel_rfl) (by kernel_rfl) (by kernel_rfl) (fun _ _ _ h => h) (Or.inl ⟨by rfl, ?hyma020⟩) hH1 ?rma020
    case hyma020 => (intro w' hSw; clear hSw; go_simp; try with_reducible rfl)
    simp only [Act.put, List.setIfInBounds_toArray, List.set_cons_zero, List.set_cons_succ]
    refine wpAnyH_done (by kernel_rfl) ?_ _
    refine NoPanic.normal ?_
    clear c11 T12 bb1 bb2 e1
    have ca0 : v13.cell? ⟨ga, 0, none⟩ = some (.int .i64 ao) := ((Ba.keep T13.kp (fun e => e)) 0 (by omega)).1
    have ca1 : v13.cell? ⟨ga, 1, none⟩ = some (.int .i64 (al : Int)) := ((Ba.keep T13.kp (fun e => e)) 1 (by omega)).1
    have ca2 : v13.cell? ⟨ga, 2, none⟩ = some (.int .i64 (an : Int)) := ((Ba.keep T13.kp (fun e => e)) 2 (by omega)).1
    have ca3 : v13.cell? ⟨ga, 3, none⟩ = some (.string ad) := ((Ba.keep T13.kp (fun e => e)) 3 (by omega)).1
    have c12 := two_read H T13 hX3 h2 (lba := al) (n := an) ra
    go_wp2_with fail
    refine (c12).mono ?_
    rintro e v14 ⟨rfl, T14⟩
    clear c12 T13 ca0 ca1 ca2 ca3
    generalize strOfNums (rdL X3 al an) = ZS at hZS hZz ⊢
    go_wp2_with fail
    go_loopw [17] (fun kv wx => ∃ k : Nat, k ≤ L ∧ kv = .int .i64 (k : Int) ∧ wx = v14) (fun kv _ => L - (intOf kv).toNat)
    case atStart => exact ⟨0, by omega, rfl, rfl⟩
    case round =>
      obtain ⟨k, hk, rfl, rfl⟩ := hrel
      by_cases hlt : k < L
      · have hkz : k < ZS.size := by omega
        have d0 := hZS k hkz
        have dk : (k : Int) < (L : Int) := by omega
        have dw := wrapI (x := (k : Int) + 1) (by have : L ≤ 16384 := han; omega) (by have : L ≤ 16384 := han; omega)
        have hlt' : Hid (k < L) := hlt
        clear hlt hk
        go_wp2_with fail
        go_roundw
        case rel => exact ⟨k + 1, hlt', by go_num, by first | rfl | trivial⟩
        case measure => have : k < L := hlt'; simp [intOf]; omega
      · have dk : ¬ (k : Int) < (L : Int) := by omega
        have HK := K0.trans T14.kp
        have ca0 : wr.cell? ⟨ga, 0, none⟩ = some (.int .i64 ao) := ((Ba.keep T14.kp (fun e => e)) 0 (by omega)).1
        have ca1 : wr.cell? ⟨ga, 1, none⟩ = some (.int .i64 (al : Int)) := ((Ba.keep T14.kp (fun e => e)) 1 (by omega)).1
        have ca2 : wr.cell? ⟨ga, 2, none⟩ = some (.int .i64 (an : Int)) := ((Ba.keep T14.kp (fun e => e)) 2 (by omega)).1
        have ca3 : wr.cell? ⟨ga, 3, none⟩ = some (.string ad) := ((Ba.keep T14.kp (fun e => e)) 3 (by omega)).1
        clear hlt hk
        go_wp2_with fail
        go_ret
        exact ⟨rfl, HK⟩
end Tg
end Go.Proofs.Ytikepmdlpalpfaa
