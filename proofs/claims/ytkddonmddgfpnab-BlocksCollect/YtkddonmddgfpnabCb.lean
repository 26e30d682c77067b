/-
  The landed within, inBounds, follows, formed, onFlash of blocks, walked.
-/
import Derived.Test.YtkddonmddgfpnabCa
import Derived.Deep.RegionHeld3
namespace Go.Proofs.Ytkddonmddgfpnab
open Go.ChangeShapes Go.WideShapes Go.ChangeAt Go.RowKit
namespace Tg
theorem within_any (w : World) (v a b : Int) : Calls Try.prog 21 #[.int .i64 v, .int .i64 a, .int .i64 b] w fun e w' => e = .returned (.bool (decide (a ≤ v) && decide (v ≤ b))) ∧ w' = w := by
  by_cases c : a ≤ v
  · go_enter Try.func21, Try.ntmps21
    go_wp2_with fail
    go_ret
    exact ⟨by simp [c], rfl⟩
  · go_enter Try.func21, Try.ntmps21
    go_wp2_with fail
    go_ret
    exact ⟨by simp; intros; omega, rfl⟩
set_option maxRecDepth 100000 in
set_option maxHeartbeats 1000000 in
theorem inBL_any (w : World) (x : Rn) (hx : x.lba ≤ 9223372036854775807) : Calls Try.prog 39 #[.agg #[.int .i64 x.lba, .int .i64 x.len, .int .i64 x.phys]] w fun e w' => e = .returned (.bool (inL x)) ∧ Keep (fun _ => False) w w' := by
  have K1 : Keep (fun _ => False) w (w.alloc (.cells #[.int .i64 x.lba, .int .i64 x.len, .int .i64 x.phys] 35)) := (Keep.refl _ _).alloc _
  unfold inL
  by_cases c1 : 0 ≤ x.lba
  · have d1 := wrapI (x := 512 - x.lba) (by omega) (by omega)
    by_cases c2 : 1 ≤ x.len
    · by_cases c3 : x.len ≤ 512 - x.lba
      · go_enter Try.func39, Try.ntmps39
        go_wp2_with fail
        go_ret
        exact ⟨by simp [c1, c2, c3], K1⟩
      · go_enter Try.func39, Try.ntmps39
        go_wp2_with fail
        go_ret
        exact ⟨by simp; intros; omega, K1⟩
    · go_enter Try.func39, Try.ntmps39
      go_wp2_with fail
      go_ret
      exact ⟨by simp; intros; omega, K1⟩
  · go_enter Try.func39, Try.ntmps39
    go_wp2_with fail
    go_ret
    exact ⟨by simp; intros; omega, K1⟩
set_option maxRecDepth 100000 in
set_option maxHeartbeats 1000000 in
theorem folL_any (w : World) (x a : Rn) (ha : inL a = true) (hx : inL x = true) (hap : a.phys ≤ 9223372036854775807) (hxp : x.phys ≤ 9223372036854775807) : Calls Try.prog 40 #[.agg #[.int .i64 x.lba, .int .i64 x.len, .int .i64 x.phys], .agg #[.int .i64 a.lba, .int .i64 a.len, .int .i64 a.phys]] w fun e w' => e = .returned (.bool (foL a x)) ∧ Keep (fun _ => False) w w' := by
  have K1 : Keep (fun _ => False) w ((w.alloc (.cells #[.int .i64 x.lba, .int .i64 x.len, .int .i64 x.phys] 35)).alloc (.cells #[.int .i64 a.lba, .int .i64 a.len, .int .i64 a.phys] 35)) := ((Keep.refl _ _).alloc _).alloc _
  rw [inL_iff] at ha hx
  have d1 := wrapI (x := a.lba + a.len) (by omega) (by omega)
  have d2 := wrapI (x := x.phys - a.phys) (by omega) (by omega)
  unfold foL
  clear ha hx hap hxp
  by_cases c : a.lba + a.len < x.lba
  · have cb : decide (a.lba + a.len < x.lba) = true := decide_eq_true c
    rw [cb, Bool.true_or]
    go_enter Try.func40, Try.ntmps40
    go_wp2_with fail
    go_ret
    exact ⟨rfl, K1⟩
  · have cb : decide (a.lba + a.len < x.lba) = false := decide_eq_false c
    rw [cb, Bool.false_or]
    by_cases c2 : x.lba = a.lba + a.len
    · have cc : (x.lba == a.lba + a.len) = true := by simp [c2]
      rw [cc, Bool.true_and]
      clear c2
      go_enter Try.func40, Try.ntmps40
      go_wp2_with fail
      go_ret
      exact ⟨rfl, K1⟩
    · have cc : (x.lba == a.lba + a.len) = false := by simp [c2]
      rw [cc, Bool.false_and]
      clear c2
      go_enter Try.func40, Try.ntmps40
      go_wp2_with fail
      go_ret
      exact ⟨rfl, K1⟩
theorem call39 (args : Array Value) (w : World) : (callFunc 39 args).run Try.prog w = .ok (.enter 39 args) w := enters Try.func39 (by kernel_rfl) (by kernel_rfl) args w
theorem call40 (args : Array Value) (w : World) : (callFunc 40 args).run Try.prog w = .ok (.enter 40 args) w := enters Try.func40 (by kernel_rfl) (by kernel_rfl) args w
set_option maxRecDepth 100000 in
set_option maxHeartbeats 2000000 in
theorem formed_any {w : World} {a : Option Addr} {cap : Nat} {l : List Rn} (hR : Rz w a cap l) (hfi : Fits l) :
    Calls Try.prog 22 #[.slice a l.length cap] w fun e w' => e = .returned (.bool (fmB l)) ∧ Keep (fun _ => False) w w' := by
  have hlc := hR.1
  have hlc2 := hR.2.1
  unfold fmB
  by_cases hl5 : l.length ≤ 512
  · have dl : ¬ (512 : Int) < (l.length : Int) := by omega
    rw [decide_eq_true hl5, Bool.true_and]
    have h0 : fmP none l = fmP (prev l 0) (l.drop 0) := by rw [List.drop_zero]; rfl
    go_enter Try.func22, Try.ntmps22
    go_wp2_with fail
    go_loopw [10] (fun v wx => ∃ i : Nat, i ≤ l.length ∧ v = .int .i64 (i : Int) ∧ Hid (fmP none l = fmP (prev l i) (l.drop i)) ∧ Hid (∀ y, prev l i = some y → inL y = true ∧ y.phys ≤ 9223372036854775807) ∧ Keep (fun _ => False) w wx) (fun v _ => l.length - (intOf v).toNat)
    case atStart => exact ⟨0, by omega, rfl, h0, (fun y e => by cases e), Keep.refl _ _⟩
    case round =>
      clear h0
      obtain ⟨i, hi, rfl, hI, hP, k1⟩ := hrel
      by_cases hlt : i < l.length
      · obtain ⟨x, hx⟩ := get_rn hlt
        obtain ⟨g, o, rfl, c0, c1, c2⟩ := (hR.more k1).at hx
        have hxf := hfi x (List.mem_of_getElem? hx)
        have hxl : Hid (x.lba ≤ 9223372036854775807) := hxf.1.2
        have hxp : Hid (x.phys ≤ 9223372036854775807) := hxf.2.2.2
        have hstep : fmP none l = (okL (prev l i) x && fmP (some x) (l.drop (i + 1))) := by
          rw [show fmP none l = fmP (prev l i) (l.drop i) from hI, drop_at hx, fmP]
        have hP2 := show ∀ y, prev l i = some y → inL y = true ∧ y.phys ≤ 9223372036854775807 from hP
        have di : (i : Int) < (l.length : Int) := by omega
        have dw := wrapI (x := (i : Int) + 1) (by omega) (by omega)
        have hlt' : Hid (i < l.length) := hlt
        have hx' : Hid (l[i]? = some x) := hx
        have K2 : Keep (fun _ => False) wr (wr.alloc (.cells #[.int .i64 x.lba, .int .i64 x.len, .int .i64 x.phys] 35)) := (Keep.refl _ _).alloc _
        have L1 : Blk (wr.alloc (.cells #[.int .i64 x.lba, .int .i64 x.len, .int .i64 x.phys] 35)) wr.heap.size 3 (rcell x) := blk_alloc wr _ 35 3 _ (fun i hi => by
          have : i = 0 ∨ i = 1 ∨ i = 2 := by omega
          rcases this with rfl | rfl | rfl <;> rfl)
        have R2 := hR.more (k1.trans K2)
        clear hxf
        go_upto_region 6 with fail
        generalize wr.alloc (.cells #[.int .i64 x.lba, .int .i64 x.len, .int .i64 x.phys] 35) = w2 at K2 L1 R2 ⊢
        generalize wr.heap.size = G at L1 ⊢
        have k2 := k1.trans K2
        clear c0 c1 c2 hI hP K2 k1 hR hlt hx hfi
        cases hb : inL x with
        | false =>
          have hF : Hid (fmP none l = false) := by show fmP none l = false; rw [hstep]; unfold okL; rw [hb]; rfl
          have hin := fun w => inBL_any w x hxl
          rw [hb] at hin
          have hS : ∀ w', Keep (fun _ => False) w2.drew w' → w'.cell? ⟨G, 0, none⟩ = some (.int .i64 x.lba) ∧ w'.cell? ⟨G, 1, none⟩ = some (.int .i64 x.len) ∧ w'.cell? ⟨G, 2, none⟩ = some (.int .i64 x.phys) := fun w' hk => by
            have L2 := Blk.keep L1 ((Keep.refl (fun _ => False) w2).drew.trans hk) (fun e => e)
            exact ⟨(L2 0 (by omega)).1, (L2 1 (by omega)).1, (L2 2 (by omega)).1⟩
          clear hstep hP2 L1 R2 hb
          refine wp_region_noPanic ?_
          refine wp_region_held_drew (S := fun w' => w'.cell? ⟨G, 0, none⟩ = some (.int .i64 x.lba) ∧ w'.cell? ⟨G, 1, none⟩ = some (.int .i64 x.len) ∧ w'.cell? ⟨G, 2, none⟩ = some (.int .i64 x.phys)) (by kernel_rfl) (hS _ (Keep.refl _ _)) (fun hH0 => ?_)
          refine' wpAnyH_take (i := 0) (oi := { dst := some 15, op := Op.load 35 (Operand.tmp 4), type := 35, pos := "blocks.go:69", after := #[], guard := none }) (v := _) rfl (by kernel_rfl) (by kernel_rfl) (by kernel_rfl) (fun _ _ _ h => h) (Or.inl ⟨by rfl, ?hya0⟩) hH0 ?ra0
          case hya0 => (intro w' hSw; obtain ⟨z0, z1, z2⟩ := hSw; go_simp; try with_reducible rfl)
          simp only [Act.put, List.setIfInBounds_toArray, List.set_cons_zero, List.set_cons_succ]
          refine wpAnyH_ready (rs := [1]) (by kernel_rfl) (by simp) ?_
          refine AllReadyH.cons (o := { dst := some 16, op := Op.call { callee := Callee.value (Operand.func 39), args := #[Operand.tmp 15], argTypes := #[35] }, type := 4, pos := "blocks.go:69", after := #[{ on := 0, ground := Ground.data }], guard := none }) rfl (fun K hK => ?_) AllReadyH.nil
          refine step_call_want (vs := #[.agg #[.int .i64 x.lba, .int .i64 x.len, .int .i64 x.phys]]) (R := fun u wz => u = .bool false ∧ Keep (fun _ => False) w2.drew wz) (by rfl) 39 #[Operand.tmp 15] #[35] rfl (by simp [Act.eval]) call39 (post_of (hin _)) ?_
          rintro _ w3 ⟨rfl, k3⟩
          refine hK.out _ _ (hS _ k3) (fun hH1 => ?_)
          clear hK K hH0
          simp only [Act.put, List.setIfInBounds_toArray, List.set_cons_zero, List.set_cons_succ]
          refine' wpAnyH_take (i := 2) (oi := { dst := some 17, op := Op.unOp UnOp.not 4 (Operand.tmp 16), type := 4, pos := "blocks.go:69", after := #[{ on := 1, ground := Ground.data }], guard := none }) (v := _) rfl (by kernel_rfl) (by kernel_rfl) (by kernel_rfl) (fun _ _ _ h => h) (Or.inl ⟨by rfl, ?hya2⟩) hH1 ?ra2
          case hya2 => (intro w' hSw; clear hSw; go_simp; try with_reducible rfl)
          simp only [Act.put, List.setIfInBounds_toArray, List.set_cons_zero, List.set_cons_succ]
          refine' wpAnyH_take (i := 3) (oi := { dst := some 18, op := Op.move (Operand.tmp 17), type := 4, pos := "blocks.go:69", after := #[{ on := 2, ground := Ground.data }, { on := 1, ground := Ground.chain }], guard := none }) (v := _) rfl (by kernel_rfl) (by kernel_rfl) (by kernel_rfl) (fun _ _ _ h => h) (Or.inl ⟨by rfl, ?hya3⟩) hH1 ?ra3
          case hya3 => (intro w' hSw; clear hSw; go_simp; try with_reducible rfl)
          simp only [Act.put, List.setIfInBounds_toArray, List.set_cons_zero, List.set_cons_succ]
          refine' wpAnyH_take (i := 4) (oi := { dst := some 19, op := Op.move (Operand.tmp 3), type := 3, pos := "blocks.go:69", after := #[{ on := 3, ground := Ground.guard }], guard := some (3, false) }) (v := undef) rfl (by kernel_rfl) (by kernel_rfl) (by kernel_rfl) (fun _ _ _ h => h) (Or.inr ⟨by rfl, rfl⟩) hH1 ?ra4
          simp only [Act.put, List.setIfInBounds_toArray, List.set_cons_zero, List.set_cons_succ]
          refine' wpAnyH_take (i := 5) (oi := { dst := some 20, op := Op.binOp BinOp.gtr 3 (Operand.tmp 19) (Operand.const (Value.int IntKind.i64 0)) 3, type := 4, pos := "blocks.go:69", after := #[{ on := 4, ground := Ground.data }, { on := 3, ground := Ground.guard }], guard := some (3, false) }) (v := undef) rfl (by kernel_rfl) (by kernel_rfl) (by kernel_rfl) (fun _ _ _ h => h) (Or.inr ⟨by rfl, rfl⟩) hH1 ?ra5
          simp only [Act.put, List.setIfInBounds_toArray, List.set_cons_zero, List.set_cons_succ]
          refine' wpAnyH_take (i := 6) (oi := { dst := some 21, op := Op.move (Operand.tmp 20), type := 4, pos := "blocks.go:69", after := #[{ on := 5, ground := Ground.data }, { on := 3, ground := Ground.chain }, { on := 3, ground := Ground.guard }], guard := some (3, false) }) (v := undef) rfl (by kernel_rfl) (by kernel_rfl) (by kernel_rfl) (fun _ _ _ h => h) (Or.inr ⟨by rfl, rfl⟩) hH1 ?ra6
          simp only [Act.put, List.setIfInBounds_toArray, List.set_cons_zero, List.set_cons_succ]
          refine' wpAnyH_take (i := 7) (oi := { dst := some 22, op := Op.load 35 (Operand.tmp 4), type := 35, pos := "blocks.go:69", after := #[{ on := 6, ground := Ground.guard }], guard := some (6, true) }) (v := undef) rfl (by kernel_rfl) (by kernel_rfl) (by kernel_rfl) (fun _ _ _ h => h) (Or.inr ⟨by rfl, rfl⟩) hH1 ?ra7
          simp only [Act.put, List.setIfInBounds_toArray, List.set_cons_zero, List.set_cons_succ]
          refine' wpAnyH_take (i := 8) (oi := { dst := some 23, op := Op.move (Operand.tmp 0), type := 27, pos := "blocks.go:69", after := #[{ on := 6, ground := Ground.guard }], guard := some (6, true) }) (v := undef) rfl (by kernel_rfl) (by kernel_rfl) (by kernel_rfl) (fun _ _ _ h => h) (Or.inr ⟨by rfl, rfl⟩) hH1 ?ra8
          simp only [Act.put, List.setIfInBounds_toArray, List.set_cons_zero, List.set_cons_succ]
          refine' wpAnyH_take (i := 9) (oi := { dst := some 24, op := Op.move (Operand.tmp 3), type := 3, pos := "blocks.go:69", after := #[{ on := 6, ground := Ground.guard }], guard := some (6, true) }) (v := undef) rfl (by kernel_rfl) (by kernel_rfl) (by kernel_rfl) (fun _ _ _ h => h) (Or.inr ⟨by rfl, rfl⟩) hH1 ?ra9
          simp only [Act.put, List.setIfInBounds_toArray, List.set_cons_zero, List.set_cons_succ]
          refine' wpAnyH_take (i := 10) (oi := { dst := some 25, op := Op.binOp BinOp.sub 3 (Operand.tmp 24) (Operand.const (Value.int IntKind.i64 1)) 3, type := 3, pos := "blocks.go:69", after := #[{ on := 9, ground := Ground.data }, { on := 6, ground := Ground.guard }], guard := some (6, true) }) (v := undef) rfl (by kernel_rfl) (by kernel_rfl) (by kernel_rfl) (fun _ _ _ h => h) (Or.inr ⟨by rfl, rfl⟩) hH1 ?ra10
          simp only [Act.put, List.setIfInBounds_toArray, List.set_cons_zero, List.set_cons_succ]
          refine' wpAnyH_take (i := 11) (oi := { dst := some 26, op := Op.indexAddr 27 (Operand.tmp 23) (Operand.tmp 25), type := 0, pos := "blocks.go:69", after := #[{ on := 8, ground := Ground.data }, { on := 10, ground := Ground.data }, { on := 6, ground := Ground.guard }], guard := some (6, true) }) (v := undef) rfl (by kernel_rfl) (by kernel_rfl) (by kernel_rfl) (fun _ _ _ h => h) (Or.inr ⟨by rfl, rfl⟩) hH1 ?ra11
          simp only [Act.put, List.setIfInBounds_toArray, List.set_cons_zero, List.set_cons_succ]
          refine' wpAnyH_take (i := 12) (oi := { dst := some 27, op := Op.load 35 (Operand.tmp 26), type := 35, pos := "blocks.go:69", after := #[{ on := 11, ground := Ground.data }, { on := 6, ground := Ground.guard }], guard := some (6, true) }) (v := undef) rfl (by kernel_rfl) (by kernel_rfl) (by kernel_rfl) (fun _ _ _ h => h) (Or.inr ⟨by rfl, rfl⟩) hH1 ?ra12
          simp only [Act.put, List.setIfInBounds_toArray, List.set_cons_zero, List.set_cons_succ]
          refine' wpAnyH_take (i := 13) (oi := { dst := some 28, op := Op.call { callee := Callee.value (Operand.func 40), args := #[Operand.tmp 22, Operand.tmp 27], argTypes := #[35, 35] }, type := 4, pos := "blocks.go:69", after := #[{ on := 7, ground := Ground.data }, { on := 12, ground := Ground.data }, { on := 6, ground := Ground.chain }, { on := 6, ground := Ground.guard }], guard := some (6, true) }) (v := undef) rfl (by kernel_rfl) (by kernel_rfl) (by kernel_rfl) (fun _ _ _ h => h) (Or.inr ⟨by rfl, rfl⟩) hH1 ?ra13
          simp only [Act.put, List.setIfInBounds_toArray, List.set_cons_zero, List.set_cons_succ]
          refine' wpAnyH_take (i := 14) (oi := { dst := some 29, op := Op.unOp UnOp.not 4 (Operand.tmp 28), type := 4, pos := "blocks.go:69", after := #[{ on := 13, ground := Ground.data }, { on := 6, ground := Ground.guard }], guard := some (6, true) }) (v := undef) rfl (by kernel_rfl) (by kernel_rfl) (by kernel_rfl) (fun _ _ _ h => h) (Or.inr ⟨by rfl, rfl⟩) hH1 ?ra14
          simp only [Act.put, List.setIfInBounds_toArray, List.set_cons_zero, List.set_cons_succ]
          refine' wpAnyH_take (i := 15) (oi := { dst := some 30, op := Op.pick (Operand.tmp 21) (Operand.tmp 29) (Operand.const (Value.bool false)), type := 4, pos := "blocks.go:69", after := #[{ on := 6, ground := Ground.data }, { on := 14, ground := Ground.data }, { on := 3, ground := Ground.guard }], guard := some (3, false) }) (v := undef) rfl (by kernel_rfl) (by kernel_rfl) (by kernel_rfl) (fun _ _ _ h => h) (Or.inr ⟨by rfl, rfl⟩) hH1 ?ra15
          simp only [Act.put, List.setIfInBounds_toArray, List.set_cons_zero, List.set_cons_succ]
          refine' wpAnyH_take (i := 16) (oi := { dst := some 31, op := Op.pick (Operand.tmp 18) (Operand.const (Value.bool true)) (Operand.tmp 30), type := 4, pos := "blocks.go:69", after := #[{ on := 3, ground := Ground.data }, { on := 15, ground := Ground.data }], guard := none }) (v := _) rfl (by kernel_rfl) (by kernel_rfl) (by kernel_rfl) (fun _ _ _ h => h) (Or.inl ⟨by rfl, ?hya16⟩) hH1 ?ra16
          case hya16 => (intro w' hSw; clear hSw; go_simp; try with_reducible rfl)
          simp only [Act.put, List.setIfInBounds_toArray, List.set_cons_zero, List.set_cons_succ]
          refine wpAnyH_done (by kernel_rfl) ?_ _
          refine NoPanic.normal ?_
          have HK := (k2.trans (Keep.refl (fun _ => False) w2).drew).trans k3
          clear hin hS
          go_wp2_with fail
          go_ret
          exact ⟨by rw [show fmP none l = false from hF]; rfl, HK⟩
        | true =>
          cases i with
          | zero =>
            have hF : Hid (fmP none l = fmP (some x) (l.drop 1)) := by show fmP none l = _; rw [hstep]; unfold okL prev; rw [hb]; simp
            have hin := fun w => inBL_any w x hxl
            rw [hb] at hin
            have hS : ∀ w', Keep (fun _ => False) w2.drew w' → w'.cell? ⟨G, 0, none⟩ = some (.int .i64 x.lba) ∧ w'.cell? ⟨G, 1, none⟩ = some (.int .i64 x.len) ∧ w'.cell? ⟨G, 2, none⟩ = some (.int .i64 x.phys) := fun w' hk => by
              have L2 := Blk.keep L1 ((Keep.refl (fun _ => False) w2).drew.trans hk) (fun e => e)
              exact ⟨(L2 0 (by omega)).1, (L2 1 (by omega)).1, (L2 2 (by omega)).1⟩
            have hb' : Hid (inL x = true) := hb
            clear hstep hP2 L1 R2 hb
            refine wp_region_noPanic ?_
            refine wp_region_held_drew (S := fun w' => w'.cell? ⟨G, 0, none⟩ = some (.int .i64 x.lba) ∧ w'.cell? ⟨G, 1, none⟩ = some (.int .i64 x.len) ∧ w'.cell? ⟨G, 2, none⟩ = some (.int .i64 x.phys)) (by kernel_rfl) (hS _ (Keep.refl _ _)) (fun hH0 => ?_)
            refine' wpAnyH_take (i := 0) (oi := { dst := some 15, op := Op.load 35 (Operand.tmp 4), type := 35, pos := "blocks.go:69", after := #[], guard := none }) (v := _) rfl (by kernel_rfl) (by kernel_rfl) (by kernel_rfl) (fun _ _ _ h => h) (Or.inl ⟨by rfl, ?hyb0⟩) hH0 ?rb0
            case hyb0 => (intro w' hSw; obtain ⟨z0, z1, z2⟩ := hSw; go_simp; try with_reducible rfl)
            simp only [Act.put, List.setIfInBounds_toArray, List.set_cons_zero, List.set_cons_succ]
            refine wpAnyH_ready (rs := [1]) (by kernel_rfl) (by simp) ?_
            refine AllReadyH.cons (o := { dst := some 16, op := Op.call { callee := Callee.value (Operand.func 39), args := #[Operand.tmp 15], argTypes := #[35] }, type := 4, pos := "blocks.go:69", after := #[{ on := 0, ground := Ground.data }], guard := none }) rfl (fun K hK => ?_) AllReadyH.nil
            refine step_call_want (vs := #[.agg #[.int .i64 x.lba, .int .i64 x.len, .int .i64 x.phys]]) (R := fun u wz => u = .bool true ∧ Keep (fun _ => False) w2.drew wz) (by rfl) 39 #[Operand.tmp 15] #[35] rfl (by simp [Act.eval]) call39 (post_of (hin _)) ?_
            rintro _ w3 ⟨rfl, k3⟩
            refine hK.out _ _ (hS _ k3) (fun hH1 => ?_)
            clear hK K hH0
            simp only [Act.put, List.setIfInBounds_toArray, List.set_cons_zero, List.set_cons_succ]
            refine' wpAnyH_take (i := 2) (oi := { dst := some 17, op := Op.unOp UnOp.not 4 (Operand.tmp 16), type := 4, pos := "blocks.go:69", after := #[{ on := 1, ground := Ground.data }], guard := none }) (v := _) rfl (by kernel_rfl) (by kernel_rfl) (by kernel_rfl) (fun _ _ _ h => h) (Or.inl ⟨by rfl, ?hyb2⟩) hH1 ?rb2
            case hyb2 => (intro w' hSw; clear hSw; go_simp; try with_reducible rfl)
            simp only [Act.put, List.setIfInBounds_toArray, List.set_cons_zero, List.set_cons_succ]
            refine' wpAnyH_take (i := 3) (oi := { dst := some 18, op := Op.move (Operand.tmp 17), type := 4, pos := "blocks.go:69", after := #[{ on := 2, ground := Ground.data }, { on := 1, ground := Ground.chain }], guard := none }) (v := _) rfl (by kernel_rfl) (by kernel_rfl) (by kernel_rfl) (fun _ _ _ h => h) (Or.inl ⟨by rfl, ?hyb3⟩) hH1 ?rb3
            case hyb3 => (intro w' hSw; clear hSw; go_simp; try with_reducible rfl)
            simp only [Act.put, List.setIfInBounds_toArray, List.set_cons_zero, List.set_cons_succ]
            refine' wpAnyH_take (i := 4) (oi := { dst := some 19, op := Op.move (Operand.tmp 3), type := 3, pos := "blocks.go:69", after := #[{ on := 3, ground := Ground.guard }], guard := some (3, false) }) (v := _) rfl (by kernel_rfl) (by kernel_rfl) (by kernel_rfl) (fun _ _ _ h => h) (Or.inl ⟨by rfl, ?hyb4⟩) hH1 ?rb4
            case hyb4 => (intro w' hSw; clear hSw; go_simp; try with_reducible rfl)
            simp only [Act.put, List.setIfInBounds_toArray, List.set_cons_zero, List.set_cons_succ]
            refine' wpAnyH_take (i := 5) (oi := { dst := some 20, op := Op.binOp BinOp.gtr 3 (Operand.tmp 19) (Operand.const (Value.int IntKind.i64 0)) 3, type := 4, pos := "blocks.go:69", after := #[{ on := 4, ground := Ground.data }, { on := 3, ground := Ground.guard }], guard := some (3, false) }) (v := _) rfl (by kernel_rfl) (by kernel_rfl) (by kernel_rfl) (fun _ _ _ h => h) (Or.inl ⟨by rfl, ?hyb5⟩) hH1 ?rb5
            case hyb5 => (intro w' hSw; clear hSw; go_simp; try with_reducible rfl)
            simp only [Act.put, List.setIfInBounds_toArray, List.set_cons_zero, List.set_cons_succ]
            refine' wpAnyH_take (i := 6) (oi := { dst := some 21, op := Op.move (Operand.tmp 20), type := 4, pos := "blocks.go:69", after := #[{ on := 5, ground := Ground.data }, { on := 3, ground := Ground.chain }, { on := 3, ground := Ground.guard }], guard := some (3, false) }) (v := _) rfl (by kernel_rfl) (by kernel_rfl) (by kernel_rfl) (fun _ _ _ h => h) (Or.inl ⟨by rfl, ?hyb6⟩) hH1 ?rb6
            case hyb6 => (intro w' hSw; clear hSw; go_simp; try with_reducible rfl)
            simp only [Act.put, List.setIfInBounds_toArray, List.set_cons_zero, List.set_cons_succ]
            refine' wpAnyH_take (i := 7) (oi := { dst := some 22, op := Op.load 35 (Operand.tmp 4), type := 35, pos := "blocks.go:69", after := #[{ on := 6, ground := Ground.guard }], guard := some (6, true) }) (v := undef) rfl (by kernel_rfl) (by kernel_rfl) (by kernel_rfl) (fun _ _ _ h => h) (Or.inr ⟨by rfl, rfl⟩) hH1 ?rb7
            simp only [Act.put, List.setIfInBounds_toArray, List.set_cons_zero, List.set_cons_succ]
            refine' wpAnyH_take (i := 8) (oi := { dst := some 23, op := Op.move (Operand.tmp 0), type := 27, pos := "blocks.go:69", after := #[{ on := 6, ground := Ground.guard }], guard := some (6, true) }) (v := undef) rfl (by kernel_rfl) (by kernel_rfl) (by kernel_rfl) (fun _ _ _ h => h) (Or.inr ⟨by rfl, rfl⟩) hH1 ?rb8
            simp only [Act.put, List.setIfInBounds_toArray, List.set_cons_zero, List.set_cons_succ]
            refine' wpAnyH_take (i := 9) (oi := { dst := some 24, op := Op.move (Operand.tmp 3), type := 3, pos := "blocks.go:69", after := #[{ on := 6, ground := Ground.guard }], guard := some (6, true) }) (v := undef) rfl (by kernel_rfl) (by kernel_rfl) (by kernel_rfl) (fun _ _ _ h => h) (Or.inr ⟨by rfl, rfl⟩) hH1 ?rb9
            simp only [Act.put, List.setIfInBounds_toArray, List.set_cons_zero, List.set_cons_succ]
            refine' wpAnyH_take (i := 10) (oi := { dst := some 25, op := Op.binOp BinOp.sub 3 (Operand.tmp 24) (Operand.const (Value.int IntKind.i64 1)) 3, type := 3, pos := "blocks.go:69", after := #[{ on := 9, ground := Ground.data }, { on := 6, ground := Ground.guard }], guard := some (6, true) }) (v := undef) rfl (by kernel_rfl) (by kernel_rfl) (by kernel_rfl) (fun _ _ _ h => h) (Or.inr ⟨by rfl, rfl⟩) hH1 ?rb10
            simp only [Act.put, List.setIfInBounds_toArray, List.set_cons_zero, List.set_cons_succ]
            refine' wpAnyH_take (i := 11) (oi := { dst := some 26, op := Op.indexAddr 27 (Operand.tmp 23) (Operand.tmp 25), type := 0, pos := "blocks.go:69", after := #[{ on := 8, ground := Ground.data }, { on := 10, ground := Ground.data }, { on := 6, ground := Ground.guard }], guard := some (6, true) }) (v := undef) rfl (by kernel_rfl) (by kernel_rfl) (by kernel_rfl) (fun _ _ _ h => h) (Or.inr ⟨by rfl, rfl⟩) hH1 ?rb11
            simp only [Act.put, List.setIfInBounds_toArray, List.set_cons_zero, List.set_cons_succ]
            refine' wpAnyH_take (i := 12) (oi := { dst := some 27, op := Op.load 35 (Operand.tmp 26), type := 35, pos := "blocks.go:69", after := #[{ on := 11, ground := Ground.data }, { on := 6, ground := Ground.guard }], guard := some (6, true) }) (v := undef) rfl (by kernel_rfl) (by kernel_rfl) (by kernel_rfl) (fun _ _ _ h => h) (Or.inr ⟨by rfl, rfl⟩) hH1 ?rb12
            simp only [Act.put, List.setIfInBounds_toArray, List.set_cons_zero, List.set_cons_succ]
            refine' wpAnyH_take (i := 13) (oi := { dst := some 28, op := Op.call { callee := Callee.value (Operand.func 40), args := #[Operand.tmp 22, Operand.tmp 27], argTypes := #[35, 35] }, type := 4, pos := "blocks.go:69", after := #[{ on := 7, ground := Ground.data }, { on := 12, ground := Ground.data }, { on := 6, ground := Ground.chain }, { on := 6, ground := Ground.guard }], guard := some (6, true) }) (v := undef) rfl (by kernel_rfl) (by kernel_rfl) (by kernel_rfl) (fun _ _ _ h => h) (Or.inr ⟨by rfl, rfl⟩) hH1 ?rb13
            simp only [Act.put, List.setIfInBounds_toArray, List.set_cons_zero, List.set_cons_succ]
            refine' wpAnyH_take (i := 14) (oi := { dst := some 29, op := Op.unOp UnOp.not 4 (Operand.tmp 28), type := 4, pos := "blocks.go:69", after := #[{ on := 13, ground := Ground.data }, { on := 6, ground := Ground.guard }], guard := some (6, true) }) (v := undef) rfl (by kernel_rfl) (by kernel_rfl) (by kernel_rfl) (fun _ _ _ h => h) (Or.inr ⟨by rfl, rfl⟩) hH1 ?rb14
            simp only [Act.put, List.setIfInBounds_toArray, List.set_cons_zero, List.set_cons_succ]
            refine' wpAnyH_take (i := 15) (oi := { dst := some 30, op := Op.pick (Operand.tmp 21) (Operand.tmp 29) (Operand.const (Value.bool false)), type := 4, pos := "blocks.go:69", after := #[{ on := 6, ground := Ground.data }, { on := 14, ground := Ground.data }, { on := 3, ground := Ground.guard }], guard := some (3, false) }) (v := _) rfl (by kernel_rfl) (by kernel_rfl) (by kernel_rfl) (fun _ _ _ h => h) (Or.inl ⟨by rfl, ?hyb15⟩) hH1 ?rb15
            case hyb15 => (intro w' hSw; clear hSw; go_simp; try with_reducible rfl)
            simp only [Act.put, List.setIfInBounds_toArray, List.set_cons_zero, List.set_cons_succ]
            refine' wpAnyH_take (i := 16) (oi := { dst := some 31, op := Op.pick (Operand.tmp 18) (Operand.const (Value.bool true)) (Operand.tmp 30), type := 4, pos := "blocks.go:69", after := #[{ on := 3, ground := Ground.data }, { on := 15, ground := Ground.data }], guard := none }) (v := _) rfl (by kernel_rfl) (by kernel_rfl) (by kernel_rfl) (fun _ _ _ h => h) (Or.inl ⟨by rfl, ?hyb16⟩) hH1 ?rb16
            case hyb16 => (intro w' hSw; clear hSw; go_simp; try with_reducible rfl)
            simp only [Act.put, List.setIfInBounds_toArray, List.set_cons_zero, List.set_cons_succ]
            refine wpAnyH_done (by kernel_rfl) ?_ _
            refine NoPanic.normal ?_
            have HK := (k2.trans (Keep.refl (fun _ => False) w2).drew).trans k3
            clear hin hS
            go_wp2_with fail
            go_roundw
            case rel => exact ⟨0 + 1, hlt', by go_num, by show fmP none l = _; rw [show fmP none l = fmP (some x) (l.drop 1) from hF, prev_succ, show l[0]? = some x from hx'], (fun y e => by rw [prev_succ, show l[0]? = some x from hx'] at e; injection e with e; subst e; exact ⟨hb', hxp⟩), HK⟩
            case measure => have : 0 < l.length := hlt'; simp [intOf]; omega
          | succ j =>
            obtain ⟨y, hy⟩ := get_rn (m := l) (i := j) (by have : j + 1 < l.length := hlt'; omega)
            have hyb := hP2 y hy
            have hF : Hid (fmP none l = (foL y x && fmP (some x) (l.drop (j + 1 + 1)))) := by show fmP none l = _; rw [hstep]; unfold okL; rw [prev_succ, hb, hy]; simp
            have hin := fun w => inBL_any w x hxl
            have hfo := fun w => folL_any w x y hyb.1 hb hyb.2 hxp
            rw [hb] at hin
            have hS : ∀ w', Keep (fun _ => False) w2.drew w' → (w'.cell? ⟨G, 0, none⟩ = some (.int .i64 x.lba) ∧ w'.cell? ⟨G, 1, none⟩ = some (.int .i64 x.len) ∧ w'.cell? ⟨G, 2, none⟩ = some (.int .i64 x.phys)) ∧ w'.cell? ⟨g, o + j * 3, none⟩ = some (.int .i64 y.lba) ∧ w'.cell? ⟨g, o + j * 3 + 1, none⟩ = some (.int .i64 y.len) ∧ w'.cell? ⟨g, o + j * 3 + 2, none⟩ = some (.int .i64 y.phys) := fun w' hk => by
              have kk := (Keep.refl (fun _ => False) w2).drew.trans hk
              have L2 := Blk.keep L1 kk (fun e => e)
              obtain ⟨g', o', eg, h1, h2, h3⟩ := (R2.more kk).at hy
              injection eg with eg; injection eg with e1 e2; subst e1; subst e2
              exact ⟨⟨(L2 0 (by omega)).1, (L2 1 (by omega)).1, (L2 2 (by omega)).1⟩, h1, h2, h3⟩
            have hb' : Hid (inL x = true) := hb
            have dj1 : IntKind.i64.wrap (((j + 1 : Nat) : Int) - 1) = (j : Int) := by rw [wrapI (by omega) (by omega)]; omega
            have dj4 := wrapI (x := (j : Int)) (by omega) (by omega)
            have dj2 : (0 : Int) < ((j + 1 : Nat) : Int) := by omega
            have dj3 : (j : Int) < (l.length : Int) := by omega
            clear hstep hP2 L1 R2 hb hyb hy
            cases hfb : foL y x with
            | false =>
              rw [hfb] at hfo hF
              clear hfb
              refine wp_region_noPanic ?_
              refine wp_region_held_drew (S := fun w' => (w'.cell? ⟨G, 0, none⟩ = some (.int .i64 x.lba) ∧ w'.cell? ⟨G, 1, none⟩ = some (.int .i64 x.len) ∧ w'.cell? ⟨G, 2, none⟩ = some (.int .i64 x.phys)) ∧ w'.cell? ⟨g, o + j * 3, none⟩ = some (.int .i64 y.lba) ∧ w'.cell? ⟨g, o + j * 3 + 1, none⟩ = some (.int .i64 y.len) ∧ w'.cell? ⟨g, o + j * 3 + 2, none⟩ = some (.int .i64 y.phys)) (by kernel_rfl) (hS _ (Keep.refl _ _)) (fun hH0 => ?_)
              refine' wpAnyH_take (i := 0) (oi := { dst := some 15, op := Op.load 35 (Operand.tmp 4), type := 35, pos := "blocks.go:69", after := #[], guard := none }) (v := _) rfl (by kernel_rfl) (by kernel_rfl) (by kernel_rfl) (fun _ _ _ h => h) (Or.inl ⟨by rfl, ?hyc0⟩) hH0 ?rc0
              case hyc0 => (intro w' hSw; obtain ⟨⟨z0, z1, z2⟩, y0, y1, y2⟩ := hSw; go_simp; try with_reducible rfl)
              simp only [Act.put, List.setIfInBounds_toArray, List.set_cons_zero, List.set_cons_succ]
              refine wpAnyH_ready (rs := [1]) (by kernel_rfl) (by simp) ?_
              refine AllReadyH.cons (o := { dst := some 16, op := Op.call { callee := Callee.value (Operand.func 39), args := #[Operand.tmp 15], argTypes := #[35] }, type := 4, pos := "blocks.go:69", after := #[{ on := 0, ground := Ground.data }], guard := none }) rfl (fun K hK => ?_) AllReadyH.nil
              refine step_call_want (vs := #[.agg #[.int .i64 x.lba, .int .i64 x.len, .int .i64 x.phys]]) (R := fun u wz => u = .bool true ∧ Keep (fun _ => False) w2.drew wz) (by rfl) 39 #[Operand.tmp 15] #[35] rfl (by simp [Act.eval]) call39 (post_of (hin _)) ?_
              rintro _ w3 ⟨rfl, k3⟩
              refine hK.out _ _ (hS _ k3) (fun hH1 => ?_)
              clear hK K hH0
              simp only [Act.put, List.setIfInBounds_toArray, List.set_cons_zero, List.set_cons_succ]
              refine' wpAnyH_take (i := 2) (oi := { dst := some 17, op := Op.unOp UnOp.not 4 (Operand.tmp 16), type := 4, pos := "blocks.go:69", after := #[{ on := 1, ground := Ground.data }], guard := none }) (v := _) rfl (by kernel_rfl) (by kernel_rfl) (by kernel_rfl) (fun _ _ _ h => h) (Or.inl ⟨by rfl, ?hyc2⟩) hH1 ?rc2
              case hyc2 => (intro w' hSw; clear hSw; go_simp; try with_reducible rfl)
              simp only [Act.put, List.setIfInBounds_toArray, List.set_cons_zero, List.set_cons_succ]
              refine' wpAnyH_take (i := 3) (oi := { dst := some 18, op := Op.move (Operand.tmp 17), type := 4, pos := "blocks.go:69", after := #[{ on := 2, ground := Ground.data }, { on := 1, ground := Ground.chain }], guard := none }) (v := _) rfl (by kernel_rfl) (by kernel_rfl) (by kernel_rfl) (fun _ _ _ h => h) (Or.inl ⟨by rfl, ?hyc3⟩) hH1 ?rc3
              case hyc3 => (intro w' hSw; clear hSw; go_simp; try with_reducible rfl)
              simp only [Act.put, List.setIfInBounds_toArray, List.set_cons_zero, List.set_cons_succ]
              refine' wpAnyH_take (i := 4) (oi := { dst := some 19, op := Op.move (Operand.tmp 3), type := 3, pos := "blocks.go:69", after := #[{ on := 3, ground := Ground.guard }], guard := some (3, false) }) (v := _) rfl (by kernel_rfl) (by kernel_rfl) (by kernel_rfl) (fun _ _ _ h => h) (Or.inl ⟨by rfl, ?hyc4⟩) hH1 ?rc4
              case hyc4 => (intro w' hSw; clear hSw; go_simp; try with_reducible rfl)
              simp only [Act.put, List.setIfInBounds_toArray, List.set_cons_zero, List.set_cons_succ]
              refine' wpAnyH_take (i := 5) (oi := { dst := some 20, op := Op.binOp BinOp.gtr 3 (Operand.tmp 19) (Operand.const (Value.int IntKind.i64 0)) 3, type := 4, pos := "blocks.go:69", after := #[{ on := 4, ground := Ground.data }, { on := 3, ground := Ground.guard }], guard := some (3, false) }) (v := _) rfl (by kernel_rfl) (by kernel_rfl) (by kernel_rfl) (fun _ _ _ h => h) (Or.inl ⟨by rfl, ?hyc5⟩) hH1 ?rc5
              case hyc5 => (intro w' hSw; clear hSw; go_simp; try with_reducible rfl)
              simp only [Act.put, List.setIfInBounds_toArray, List.set_cons_zero, List.set_cons_succ]
              refine' wpAnyH_take (i := 6) (oi := { dst := some 21, op := Op.move (Operand.tmp 20), type := 4, pos := "blocks.go:69", after := #[{ on := 5, ground := Ground.data }, { on := 3, ground := Ground.chain }, { on := 3, ground := Ground.guard }], guard := some (3, false) }) (v := _) rfl (by kernel_rfl) (by kernel_rfl) (by kernel_rfl) (fun _ _ _ h => h) (Or.inl ⟨by rfl, ?hyc6⟩) hH1 ?rc6
              case hyc6 => (intro w' hSw; clear hSw; go_simp; try with_reducible rfl)
              simp only [Act.put, List.setIfInBounds_toArray, List.set_cons_zero, List.set_cons_succ]
              refine' wpAnyH_take (i := 7) (oi := { dst := some 22, op := Op.load 35 (Operand.tmp 4), type := 35, pos := "blocks.go:69", after := #[{ on := 6, ground := Ground.guard }], guard := some (6, true) }) (v := _) rfl (by kernel_rfl) (by kernel_rfl) (by kernel_rfl) (fun _ _ _ h => h) (Or.inl ⟨by rfl, ?hyc7⟩) hH1 ?rc7
              case hyc7 => (intro w' hSw; obtain ⟨⟨z0, z1, z2⟩, y0, y1, y2⟩ := hSw; go_simp; try with_reducible rfl)
              simp only [Act.put, List.setIfInBounds_toArray, List.set_cons_zero, List.set_cons_succ]
              refine' wpAnyH_take (i := 8) (oi := { dst := some 23, op := Op.move (Operand.tmp 0), type := 27, pos := "blocks.go:69", after := #[{ on := 6, ground := Ground.guard }], guard := some (6, true) }) (v := _) rfl (by kernel_rfl) (by kernel_rfl) (by kernel_rfl) (fun _ _ _ h => h) (Or.inl ⟨by rfl, ?hyc8⟩) hH1 ?rc8
              case hyc8 => (intro w' hSw; clear hSw; go_simp; try with_reducible rfl)
              simp only [Act.put, List.setIfInBounds_toArray, List.set_cons_zero, List.set_cons_succ]
              refine' wpAnyH_take (i := 9) (oi := { dst := some 24, op := Op.move (Operand.tmp 3), type := 3, pos := "blocks.go:69", after := #[{ on := 6, ground := Ground.guard }], guard := some (6, true) }) (v := _) rfl (by kernel_rfl) (by kernel_rfl) (by kernel_rfl) (fun _ _ _ h => h) (Or.inl ⟨by rfl, ?hyc9⟩) hH1 ?rc9
              case hyc9 => (intro w' hSw; clear hSw; go_simp; try with_reducible rfl)
              simp only [Act.put, List.setIfInBounds_toArray, List.set_cons_zero, List.set_cons_succ]
              refine' wpAnyH_take (i := 10) (oi := { dst := some 25, op := Op.binOp BinOp.sub 3 (Operand.tmp 24) (Operand.const (Value.int IntKind.i64 1)) 3, type := 3, pos := "blocks.go:69", after := #[{ on := 9, ground := Ground.data }, { on := 6, ground := Ground.guard }], guard := some (6, true) }) (v := _) rfl (by kernel_rfl) (by kernel_rfl) (by kernel_rfl) (fun _ _ _ h => h) (Or.inl ⟨by rfl, ?hyc10⟩) hH1 ?rc10
              case hyc10 => (intro w' hSw; clear hSw; go_simp; try with_reducible rfl)
              simp only [Act.put, List.setIfInBounds_toArray, List.set_cons_zero, List.set_cons_succ]
              refine' wpAnyH_take (i := 11) (oi := { dst := some 26, op := Op.indexAddr 27 (Operand.tmp 23) (Operand.tmp 25), type := 0, pos := "blocks.go:69", after := #[{ on := 8, ground := Ground.data }, { on := 10, ground := Ground.data }, { on := 6, ground := Ground.guard }], guard := some (6, true) }) (v := _) rfl (by kernel_rfl) (by kernel_rfl) (by kernel_rfl) (fun _ _ _ h => h) (Or.inl ⟨by rfl, ?hyc11⟩) hH1 ?rc11
              case hyc11 => (intro w' hSw; clear hSw; go_simp; try with_reducible rfl)
              simp only [Act.put, List.setIfInBounds_toArray, List.set_cons_zero, List.set_cons_succ]
              refine' wpAnyH_take (i := 12) (oi := { dst := some 27, op := Op.load 35 (Operand.tmp 26), type := 35, pos := "blocks.go:69", after := #[{ on := 11, ground := Ground.data }, { on := 6, ground := Ground.guard }], guard := some (6, true) }) (v := _) rfl (by kernel_rfl) (by kernel_rfl) (by kernel_rfl) (fun _ _ _ h => h) (Or.inl ⟨by rfl, ?hyc12⟩) hH1 ?rc12
              case hyc12 => (intro w' hSw; obtain ⟨⟨z0, z1, z2⟩, y0, y1, y2⟩ := hSw; go_simp; try with_reducible rfl)
              simp only [Act.put, List.setIfInBounds_toArray, List.set_cons_zero, List.set_cons_succ]
              refine wpAnyH_ready (rs := [13]) (by kernel_rfl) (by simp) ?_
              refine AllReadyH.cons (o := { dst := some 28, op := Op.call { callee := Callee.value (Operand.func 40), args := #[Operand.tmp 22, Operand.tmp 27], argTypes := #[35, 35] }, type := 4, pos := "blocks.go:69", after := #[{ on := 7, ground := Ground.data }, { on := 12, ground := Ground.data }, { on := 6, ground := Ground.chain }, { on := 6, ground := Ground.guard }], guard := some (6, true) }) rfl (fun K hK => ?_) AllReadyH.nil
              refine step_call_want (vs := #[.agg #[.int .i64 x.lba, .int .i64 x.len, .int .i64 x.phys], .agg #[.int .i64 y.lba, .int .i64 y.len, .int .i64 y.phys]]) (R := fun u wz => u = .bool false ∧ Keep (fun _ => False) w3 wz) (by rfl) 40 #[Operand.tmp 22, Operand.tmp 27] #[35, 35] rfl (by simp [Act.eval]) call40 (post_of (hfo _)) ?_
              rintro _ w4 ⟨rfl, k4⟩
              refine hK.out _ _ (hS _ (k3.trans k4)) (fun hH2 => ?_)
              clear hK K hH1
              simp only [Act.put, List.setIfInBounds_toArray, List.set_cons_zero, List.set_cons_succ]
              refine' wpAnyH_take (i := 14) (oi := { dst := some 29, op := Op.unOp UnOp.not 4 (Operand.tmp 28), type := 4, pos := "blocks.go:69", after := #[{ on := 13, ground := Ground.data }, { on := 6, ground := Ground.guard }], guard := some (6, true) }) (v := _) rfl (by kernel_rfl) (by kernel_rfl) (by kernel_rfl) (fun _ _ _ h => h) (Or.inl ⟨by rfl, ?hyc14⟩) hH2 ?rc14
              case hyc14 => (intro w' hSw; clear hSw; go_simp; try with_reducible rfl)
              simp only [Act.put, List.setIfInBounds_toArray, List.set_cons_zero, List.set_cons_succ]
              refine' wpAnyH_take (i := 15) (oi := { dst := some 30, op := Op.pick (Operand.tmp 21) (Operand.tmp 29) (Operand.const (Value.bool false)), type := 4, pos := "blocks.go:69", after := #[{ on := 6, ground := Ground.data }, { on := 14, ground := Ground.data }, { on := 3, ground := Ground.guard }], guard := some (3, false) }) (v := _) rfl (by kernel_rfl) (by kernel_rfl) (by kernel_rfl) (fun _ _ _ h => h) (Or.inl ⟨by rfl, ?hyc15⟩) hH2 ?rc15
              case hyc15 => (intro w' hSw; clear hSw; go_simp; try with_reducible rfl)
              simp only [Act.put, List.setIfInBounds_toArray, List.set_cons_zero, List.set_cons_succ]
              refine' wpAnyH_take (i := 16) (oi := { dst := some 31, op := Op.pick (Operand.tmp 18) (Operand.const (Value.bool true)) (Operand.tmp 30), type := 4, pos := "blocks.go:69", after := #[{ on := 3, ground := Ground.data }, { on := 15, ground := Ground.data }], guard := none }) (v := _) rfl (by kernel_rfl) (by kernel_rfl) (by kernel_rfl) (fun _ _ _ h => h) (Or.inl ⟨by rfl, ?hyc16⟩) hH2 ?rc16
              case hyc16 => (intro w' hSw; clear hSw; go_simp; try with_reducible rfl)
              simp only [Act.put, List.setIfInBounds_toArray, List.set_cons_zero, List.set_cons_succ]
              refine wpAnyH_done (by kernel_rfl) ?_ _
              refine NoPanic.normal ?_
              have HK := ((k2.trans (Keep.refl (fun _ => False) w2).drew).trans k3).trans k4
              clear hin hfo hS
              go_wp2_with fail
              go_ret
              exact ⟨by rw [show fmP none l = (false && _) from hF]; rfl, HK⟩
            | true =>
              rw [hfb] at hfo hF
              clear hfb
              refine wp_region_noPanic ?_
              refine wp_region_held_drew (S := fun w' => (w'.cell? ⟨G, 0, none⟩ = some (.int .i64 x.lba) ∧ w'.cell? ⟨G, 1, none⟩ = some (.int .i64 x.len) ∧ w'.cell? ⟨G, 2, none⟩ = some (.int .i64 x.phys)) ∧ w'.cell? ⟨g, o + j * 3, none⟩ = some (.int .i64 y.lba) ∧ w'.cell? ⟨g, o + j * 3 + 1, none⟩ = some (.int .i64 y.len) ∧ w'.cell? ⟨g, o + j * 3 + 2, none⟩ = some (.int .i64 y.phys)) (by kernel_rfl) (hS _ (Keep.refl _ _)) (fun hH0 => ?_)
              refine' wpAnyH_take (i := 0) (oi := { dst := some 15, op := Op.load 35 (Operand.tmp 4), type := 35, pos := "blocks.go:69", after := #[], guard := none }) (v := _) rfl (by kernel_rfl) (by kernel_rfl) (by kernel_rfl) (fun _ _ _ h => h) (Or.inl ⟨by rfl, ?hyd0⟩) hH0 ?rd0
              case hyd0 => (intro w' hSw; obtain ⟨⟨z0, z1, z2⟩, y0, y1, y2⟩ := hSw; go_simp; try with_reducible rfl)
              simp only [Act.put, List.setIfInBounds_toArray, List.set_cons_zero, List.set_cons_succ]
              refine wpAnyH_ready (rs := [1]) (by kernel_rfl) (by simp) ?_
              refine AllReadyH.cons (o := { dst := some 16, op := Op.call { callee := Callee.value (Operand.func 39), args := #[Operand.tmp 15], argTypes := #[35] }, type := 4, pos := "blocks.go:69", after := #[{ on := 0, ground := Ground.data }], guard := none }) rfl (fun K hK => ?_) AllReadyH.nil
              refine step_call_want (vs := #[.agg #[.int .i64 x.lba, .int .i64 x.len, .int .i64 x.phys]]) (R := fun u wz => u = .bool true ∧ Keep (fun _ => False) w2.drew wz) (by rfl) 39 #[Operand.tmp 15] #[35] rfl (by simp [Act.eval]) call39 (post_of (hin _)) ?_
              rintro _ w3 ⟨rfl, k3⟩
              refine hK.out _ _ (hS _ k3) (fun hH1 => ?_)
              clear hK K hH0
              simp only [Act.put, List.setIfInBounds_toArray, List.set_cons_zero, List.set_cons_succ]
              refine' wpAnyH_take (i := 2) (oi := { dst := some 17, op := Op.unOp UnOp.not 4 (Operand.tmp 16), type := 4, pos := "blocks.go:69", after := #[{ on := 1, ground := Ground.data }], guard := none }) (v := _) rfl (by kernel_rfl) (by kernel_rfl) (by kernel_rfl) (fun _ _ _ h => h) (Or.inl ⟨by rfl, ?hyd2⟩) hH1 ?rd2
              case hyd2 => (intro w' hSw; clear hSw; go_simp; try with_reducible rfl)
              simp only [Act.put, List.setIfInBounds_toArray, List.set_cons_zero, List.set_cons_succ]
              refine' wpAnyH_take (i := 3) (oi := { dst := some 18, op := Op.move (Operand.tmp 17), type := 4, pos := "blocks.go:69", after := #[{ on := 2, ground := Ground.data }, { on := 1, ground := Ground.chain }], guard := none }) (v := _) rfl (by kernel_rfl) (by kernel_rfl) (by kernel_rfl) (fun _ _ _ h => h) (Or.inl ⟨by rfl, ?hyd3⟩) hH1 ?rd3
              case hyd3 => (intro w' hSw; clear hSw; go_simp; try with_reducible rfl)
              simp only [Act.put, List.setIfInBounds_toArray, List.set_cons_zero, List.set_cons_succ]
              refine' wpAnyH_take (i := 4) (oi := { dst := some 19, op := Op.move (Operand.tmp 3), type := 3, pos := "blocks.go:69", after := #[{ on := 3, ground := Ground.guard }], guard := some (3, false) }) (v := _) rfl (by kernel_rfl) (by kernel_rfl) (by kernel_rfl) (fun _ _ _ h => h) (Or.inl ⟨by rfl, ?hyd4⟩) hH1 ?rd4
              case hyd4 => (intro w' hSw; clear hSw; go_simp; try with_reducible rfl)
              simp only [Act.put, List.setIfInBounds_toArray, List.set_cons_zero, List.set_cons_succ]
              refine' wpAnyH_take (i := 5) (oi := { dst := some 20, op := Op.binOp BinOp.gtr 3 (Operand.tmp 19) (Operand.const (Value.int IntKind.i64 0)) 3, type := 4, pos := "blocks.go:69", after := #[{ on := 4, ground := Ground.data }, { on := 3, ground := Ground.guard }], guard := some (3, false) }) (v := _) rfl (by kernel_rfl) (by kernel_rfl) (by kernel_rfl) (fun _ _ _ h => h) (Or.inl ⟨by rfl, ?hyd5⟩) hH1 ?rd5
              case hyd5 => (intro w' hSw; clear hSw; go_simp; try with_reducible rfl)
              simp only [Act.put, List.setIfInBounds_toArray, List.set_cons_zero, List.set_cons_succ]
              refine' wpAnyH_take (i := 6) (oi := { dst := some 21, op := Op.move (Operand.tmp 20), type := 4, pos := "blocks.go:69", after := #[{ on := 5, ground := Ground.data }, { on := 3, ground := Ground.chain }, { on := 3, ground := Ground.guard }], guard := some (3, false) }) (v := _) rfl (by kernel_rfl) (by kernel_rfl) (by kernel_rfl) (fun _ _ _ h => h) (Or.inl ⟨by rfl, ?hyd6⟩) hH1 ?rd6
              case hyd6 => (intro w' hSw; clear hSw; go_simp; try with_reducible rfl)
              simp only [Act.put, List.setIfInBounds_toArray, List.set_cons_zero, List.set_cons_succ]
              refine' wpAnyH_take (i := 7) (oi := { dst := some 22, op := Op.load 35 (Operand.tmp 4), type := 35, pos := "blocks.go:69", after := #[{ on := 6, ground := Ground.guard }], guard := some (6, true) }) (v := _) rfl (by kernel_rfl) (by kernel_rfl) (by kernel_rfl) (fun _ _ _ h => h) (Or.inl ⟨by rfl, ?hyd7⟩) hH1 ?rd7
              case hyd7 => (intro w' hSw; obtain ⟨⟨z0, z1, z2⟩, y0, y1, y2⟩ := hSw; go_simp; try with_reducible rfl)
              simp only [Act.put, List.setIfInBounds_toArray, List.set_cons_zero, List.set_cons_succ]
              refine' wpAnyH_take (i := 8) (oi := { dst := some 23, op := Op.move (Operand.tmp 0), type := 27, pos := "blocks.go:69", after := #[{ on := 6, ground := Ground.guard }], guard := some (6, true) }) (v := _) rfl (by kernel_rfl) (by kernel_rfl) (by kernel_rfl) (fun _ _ _ h => h) (Or.inl ⟨by rfl, ?hyd8⟩) hH1 ?rd8
              case hyd8 => (intro w' hSw; clear hSw; go_simp; try with_reducible rfl)
              simp only [Act.put, List.setIfInBounds_toArray, List.set_cons_zero, List.set_cons_succ]
              refine' wpAnyH_take (i := 9) (oi := { dst := some 24, op := Op.move (Operand.tmp 3), type := 3, pos := "blocks.go:69", after := #[{ on := 6, ground := Ground.guard }], guard := some (6, true) }) (v := _) rfl (by kernel_rfl) (by kernel_rfl) (by kernel_rfl) (fun _ _ _ h => h) (Or.inl ⟨by rfl, ?hyd9⟩) hH1 ?rd9
              case hyd9 => (intro w' hSw; clear hSw; go_simp; try with_reducible rfl)
              simp only [Act.put, List.setIfInBounds_toArray, List.set_cons_zero, List.set_cons_succ]
              refine' wpAnyH_take (i := 10) (oi := { dst := some 25, op := Op.binOp BinOp.sub 3 (Operand.tmp 24) (Operand.const (Value.int IntKind.i64 1)) 3, type := 3, pos := "blocks.go:69", after := #[{ on := 9, ground := Ground.data }, { on := 6, ground := Ground.guard }], guard := some (6, true) }) (v := _) rfl (by kernel_rfl) (by kernel_rfl) (by kernel_rfl) (fun _ _ _ h => h) (Or.inl ⟨by rfl, ?hyd10⟩) hH1 ?rd10
              case hyd10 => (intro w' hSw; clear hSw; go_simp; try with_reducible rfl)
              simp only [Act.put, List.setIfInBounds_toArray, List.set_cons_zero, List.set_cons_succ]
              refine' wpAnyH_take (i := 11) (oi := { dst := some 26, op := Op.indexAddr 27 (Operand.tmp 23) (Operand.tmp 25), type := 0, pos := "blocks.go:69", after := #[{ on := 8, ground := Ground.data }, { on := 10, ground := Ground.data }, { on := 6, ground := Ground.guard }], guard := some (6, true) }) (v := _) rfl (by kernel_rfl) (by kernel_rfl) (by kernel_rfl) (fun _ _ _ h => h) (Or.inl ⟨by rfl, ?hyd11⟩) hH1 ?rd11
              case hyd11 => (intro w' hSw; clear hSw; go_simp; try with_reducible rfl)
              simp only [Act.put, List.setIfInBounds_toArray, List.set_cons_zero, List.set_cons_succ]
              refine' wpAnyH_take (i := 12) (oi := { dst := some 27, op := Op.load 35 (Operand.tmp 26), type := 35, pos := "blocks.go:69", after := #[{ on := 11, ground := Ground.data }, { on := 6, ground := Ground.guard }], guard := some (6, true) }) (v := _) rfl (by kernel_rfl) (by kernel_rfl) (by kernel_rfl) (fun _ _ _ h => h) (Or.inl ⟨by rfl, ?hyd12⟩) hH1 ?rd12
              case hyd12 => (intro w' hSw; obtain ⟨⟨z0, z1, z2⟩, y0, y1, y2⟩ := hSw; go_simp; try with_reducible rfl)
              simp only [Act.put, List.setIfInBounds_toArray, List.set_cons_zero, List.set_cons_succ]
              refine wpAnyH_ready (rs := [13]) (by kernel_rfl) (by simp) ?_
              refine AllReadyH.cons (o := { dst := some 28, op := Op.call { callee := Callee.value (Operand.func 40), args := #[Operand.tmp 22, Operand.tmp 27], argTypes := #[35, 35] }, type := 4, pos := "blocks.go:69", after := #[{ on := 7, ground := Ground.data }, { on := 12, ground := Ground.data }, { on := 6, ground := Ground.chain }, { on := 6, ground := Ground.guard }], guard := some (6, true) }) rfl (fun K hK => ?_) AllReadyH.nil
              refine step_call_want (vs := #[.agg #[.int .i64 x.lba, .int .i64 x.len, .int .i64 x.phys], .agg #[.int .i64 y.lba, .int .i64 y.len, .int .i64 y.phys]]) (R := fun u wz => u = .bool true ∧ Keep (fun _ => False) w3 wz) (by rfl) 40 #[Operand.tmp 22, Operand.tmp 27] #[35, 35] rfl (by simp [Act.eval]) call40 (post_of (hfo _)) ?_
              rintro _ w4 ⟨rfl, k4⟩
              refine hK.out _ _ (hS _ (k3.trans k4)) (fun hH2 => ?_)
              clear hK K hH1
              simp only [Act.put, List.setIfInBounds_toArray, List.set_cons_zero, List.set_cons_succ]
              refine' wpAnyH_take (i := 14) (oi := { dst := some 29, op := Op.unOp UnOp.not 4 (Operand.tmp 28), type := 4, pos := "blocks.go:69", after := #[{ on := 13, ground := Ground.data }, { on := 6, ground := Ground.guard }], guard := some (6, true) }) (v := _) rfl (by kernel_rfl) (by kernel_rfl) (by kernel_rfl) (fun _ _ _ h => h) (Or.inl ⟨by rfl, ?hyd14⟩) hH2 ?rd14
              case hyd14 => (intro w' hSw; clear hSw; go_simp; try with_reducible rfl)
              simp only [Act.put, List.setIfInBounds_toArray, List.set_cons_zero, List.set_cons_succ]
              refine' wpAnyH_take (i := 15) (oi := { dst := some 30, op := Op.pick (Operand.tmp 21) (Operand.tmp 29) (Operand.const (Value.bool false)), type := 4, pos := "blocks.go:69", after := #[{ on := 6, ground := Ground.data }, { on := 14, ground := Ground.data }, { on := 3, ground := Ground.guard }], guard := some (3, false) }) (v := _) rfl (by kernel_rfl) (by kernel_rfl) (by kernel_rfl) (fun _ _ _ h => h) (Or.inl ⟨by rfl, ?hyd15⟩) hH2 ?rd15
              case hyd15 => (intro w' hSw; clear hSw; go_simp; try with_reducible rfl)
              simp only [Act.put, List.setIfInBounds_toArray, List.set_cons_zero, List.set_cons_succ]
              refine' wpAnyH_take (i := 16) (oi := { dst := some 31, op := Op.pick (Operand.tmp 18) (Operand.const (Value.bool true)) (Operand.tmp 30), type := 4, pos := "blocks.go:69", after := #[{ on := 3, ground := Ground.data }, { on := 15, ground := Ground.data }], guard := none }) (v := _) rfl (by kernel_rfl) (by kernel_rfl) (by kernel_rfl) (fun _ _ _ h => h) (Or.inl ⟨by rfl, ?hyd16⟩) hH2 ?rd16
              case hyd16 => (intro w' hSw; clear hSw; go_simp; try with_reducible rfl)
              simp only [Act.put, List.setIfInBounds_toArray, List.set_cons_zero, List.set_cons_succ]
              refine wpAnyH_done (by kernel_rfl) ?_ _
              refine NoPanic.normal ?_
              have HK := ((k2.trans (Keep.refl (fun _ => False) w2).drew).trans k3).trans k4
              clear hin hfo hS
              go_wp2_with fail
              go_roundw
              case rel => exact ⟨j + 1 + 1, hlt', by go_num, by show fmP none l = _; rw [show fmP none l = (true && _) from hF, Bool.true_and, prev_succ, show l[j + 1]? = some x from hx'], (fun y e => by rw [prev_succ, show l[j + 1]? = some x from hx'] at e; injection e with e; subst e; exact ⟨hb', hxp⟩), HK⟩
              case measure => have : j + 1 < l.length := hlt'; simp [intOf]; omega
      · have di : ¬ (i : Int) < (l.length : Int) := by omega
        have hF : Hid (fmP none l = true) := by show fmP none l = true; rw [show fmP none l = fmP (prev l i) (l.drop i) from hI, List.drop_of_length_le (by omega)]; cases prev l i <;> rfl
        clear hI hP hlt
        go_wp2_with fail
        go_ret
        exact ⟨by rw [show fmP none l = true from hF]; rfl, k1⟩
  · have dl : (512 : Int) < (l.length : Int) := by omega
    rw [decide_eq_false hl5, Bool.false_and]
    go_enter Try.func22, Try.ntmps22
    go_wp2_with fail
    go_ret
    exact ⟨rfl, Keep.refl _ _⟩
theorem inP_at {P : Int} {l : List Rn} {i : Nat} {x : Rn} (h : l[i]? = some x) : inP P (l.drop i) = (decide (x.phys + x.len ≤ P) && inP P (l.drop (i + 1))) := by
  rw [drop_at h]; rfl
set_option maxRecDepth 100000 in
set_option maxHeartbeats 1000000 in
theorem onFlash_any {w : World} {a : Option Addr} {cap : Nat} {l : List Rn} (hR : Rz w a cap l) (hin : ∀ x ∈ l, inL x = true) {P : Int} (hP : 0 ≤ P ∧ P ≤ 2048) :
    Calls Try.prog 23 #[.slice a l.length cap, .int .i64 P] w fun e w' => e = .returned (.bool (inP P l)) ∧ Keep (fun _ => False) w w' := by
  have hlc := hR.1
  have hlc2 := hR.2.1
  have h0 : inP P l = inP P (l.drop 0) := by rw [List.drop_zero]
  go_enter Try.func23, Try.ntmps23
  go_wp2_with fail
  go_loopw [9] (fun v wx => ∃ i : Nat, i ≤ l.length ∧ v = .int .i64 (i : Int) ∧ Hid (inP P l = inP P (l.drop i)) ∧ Keep (fun _ => False) w wx) (fun v _ => l.length - (intOf v).toNat)
  case atStart => exact ⟨0, by omega, rfl, h0, Keep.refl _ _⟩
  case round =>
    clear h0
    obtain ⟨i, hi, rfl, hI, k1⟩ := hrel
    by_cases hlt : i < l.length
    · obtain ⟨x, hx⟩ := get_rn hlt
      obtain ⟨g, o, rfl, c0, c1, c2⟩ := (hR.more k1).at hx
      have hb := inL_iff.1 (hin x (List.mem_of_getElem? hx))
      have hstep : inP P l = (decide (x.phys + x.len ≤ P) && inP P (l.drop (i + 1))) := by rw [show inP P l = _ from hI, inP_at hx]
      have di : (i : Int) < (l.length : Int) := by omega
      have dw := wrapI (x := (i : Int) + 1) (by omega) (by omega)
      have dp := wrapI (x := P - x.len) (by omega) (by omega)
      have hlt' : Hid (i < l.length) := hlt
      have K2 : Keep (fun _ => False) w (wr.alloc (.cells #[.int .i64 x.lba, .int .i64 x.len, .int .i64 x.phys] 35)) := k1.alloc _
      clear hI hlt hx
      by_cases c : x.phys + x.len ≤ P
      · have q1 : ¬ P - x.len < x.phys := by omega
        have hF : Hid (inP P l = inP P (l.drop (i + 1))) := by show inP P l = _; rw [hstep, decide_eq_true c, Bool.true_and]
        clear hstep c hb
        go_wp2_with fail
        go_roundw
        case rel => exact ⟨i + 1, hlt', by go_num, hF, K2⟩
        case measure => have : i < l.length := hlt'; simp [intOf]; omega
      · have q1 : P - x.len < x.phys := by omega
        have hF : Hid (inP P l = false) := by show inP P l = _; rw [hstep, decide_eq_false c, Bool.false_and]
        clear hstep c hb
        go_wp2_with fail
        go_ret
        exact ⟨by rw [show inP P l = false from hF]; rfl, K2⟩
    · have di : ¬ (i : Int) < (l.length : Int) := by omega
      have hF : Hid (inP P l = true) := by show inP P l = true; rw [show inP P l = _ from hI, List.drop_of_length_le (by omega)]; rfl
      clear hI hlt
      go_wp2_with fail
      go_ret
      exact ⟨by rw [show inP P l = true from hF]; rfl, k1⟩
end Tg
end Go.Proofs.Ytkddonmddgfpnab
