/-
  The document's own Differs.
-/
import Derived.Test.YtikepmdlpalpfaaMs
import Derived.Deep.RegionHeld3
import Derived.MapKept
import Derived.Laws.StructEq
namespace Go.Proofs.Ytikepmdlpalpfaa
open Go.ChangeShapes Go.WideShapes Go.ChangeAt Go.RowKit
namespace Tg
set_option maxRecDepth 100000 in
theorem enters {P : Program} {f : FuncId} {fn : Func} (hf : P.funcs[f]? = some fn) (hname : (fn.name == "runtime.NumGoroutine") = false) (hb : fn.body.isSome = true) (args : Array Value) (w : World) :
    (callFunc f args).run P w = .ok (.enter f args) w := by
  obtain ⟨c, hc⟩ := Option.isSome_iff_exists.1 hb
  simp [callFunc, go_sem, hf, hc]
  intro h; simp [h] at hname
theorem call21 (args : Array Value) (w : World) : (callFunc 22 args).run Try.prog w = .ok (.enter 22 args) w := enters Try.func22 (by kernel_rfl) (by kernel_rfl) args w
set_option maxRecDepth 100000 in
theorem step_call_want {P : Program} {ops : Array Oper} {o : Oper} {a : Act} {w : World} {K : Act → World → Prop} {Q : Exit → Act → World → Prop} {E : Prop}
    (hw : Region.wanted o (yielded ops a.tmps) = true) (f : FuncId) (xs : Array Operand) (ts : Array TypeId) (hop : o.op = Op.call { callee := Callee.value (.func f), args := xs, argTypes := ts })
    {vs : Array Value} {R : Value → World → Prop} (hx : xs.map a.eval = vs) (he : ∀ args w, (callFunc f args).run P w = .ok (.enter f args) w) (hc : Calls P f vs w fun e w2 => ∃ v, e = .returned v ∧ R v w2)
    (hK : ∀ v w', R v w' → K (a.put o.dst v) w') : if Region.wanted o (yielded ops a.tmps) = true then Oper.wp P o a w K Q else E := by
  rw [if_pos hw]
  subst hx
  obtain ⟨dst, op, ty, pos, after, guard⟩ := o
  simp only at hop
  subst hop
  unfold Oper.wp
  rw [execOp_call_go, he, Oper.upon_enter]
  simp only [Array.empty_append, Array.append_empty]
  exact hc.mono (by rintro e w2 ⟨v, rfl, hr⟩; exact hK v w2 hr)
set_option maxRecDepth 100000 in
theorem ints_made (w : World) : (Instr.makeSlice 40 (.int .i64 0) (.int .i64 0)).run Try.prog w = .ok (.slice (some ⟨w.heap.size, 0, none⟩) 0 0) (w.alloc (.cells #[] 3)) ∧ Ri w (w.alloc (.cells #[] 3)) (some ⟨w.heap.size, 0, none⟩) 0 [] := by
  have h1 := make_ints 0 (by omega) w
  have h2 := ri_made w 0 (by omega)
  have e : madeCells #[Value.int .i64 0] 0 = #[] := by apply Array.ext'; rw [toList_madeCells_one]; rfl
  rw [e] at h1 h2
  exact ⟨h1, h2⟩
set_option maxRecDepth 100000 in
set_option maxHeartbeats 2000000 in
theorem rdif17 {a b : List Int} {Na Nb : Nat} (ha : a.length = Na * 32) (hb : b.length = Nb * 32) (hNa : Na ≤ 512) (hNb : Nb ≤ 512) (h8a : B8 a) (h8b : B8 b) (w : World) :
    Calls Try.prog 17 #[.string (strOfNums a), .string (strOfNums b)] w fun e w' => ∃ a' c', e = .returned (.slice a' (difL a b).length c') ∧ Ri w w' a' c' (difL a b) := by
  have hca := fun w => cap_any (s := strOfNums a) (N := Na) (by rw [strOfNums_size, ha]) hNa w
  have hcb := fun w => cap_any (s := strOfNums b) (N := Nb) (by rw [strOfNums_size, hb]) hNb w
  have hza : (strOfNums a).size = Na * 32 := by rw [strOfNums_size, ha]
  have hzb : (strOfNums b).size = Nb * 32 := by rw [strOfNums_size, hb]
  have hD : Hid (difL a b = difK a b (max Na Nb)) := by show _ = _; unfold difL; rw [ha, hb]; congr 1; omega
  have hstep : Hid (∀ k, difK a b (k + 1) = difK a b k ++ (if (k + 1) * 32 ≤ Na * 32 ∧ (k + 1) * 32 ≤ Nb * 32 ∧ (strOfNums a).extract (k * 32) ((k + 1) * 32) = (strOfNums b).extract (k * 32) ((k + 1) * 32) then [] else [(k : Int)])) := fun k => by
    rw [difK, ha, hb, str_extract, str_extract]
    congr 1
    have e : strOfNums ((a.take ((k + 1) * 32)).drop (k * 32)) = strOfNums ((b.take ((k + 1) * 32)).drop (k * 32)) ↔ rdL a k 1 = rdL b k 1 := ⟨fun h => str_inj (rdL_b8 (a := k) (n := 1) h8a) (rdL_b8 (a := k) (n := 1) h8b) h, fun h => congrArg strOfNums h⟩
    simp only [e]
  have hdl : Hid (∀ k, (difK a b k).length ≤ k) := difK_len a b
  generalize strOfNums a = sa at *
  generalize strOfNums b = sb at *
  generalize difL a b = D at *
  generalize hdk : difK a b = dk at *
  clear hdk ha hb h8a h8b
  have h0 : Hid (dk 0 = []) := by
    show dk 0 = []
    have := (show ∀ k, (dk k).length ≤ k from hdl) 0
    exact List.eq_nil_of_length_eq_zero (by omega)
  obtain ⟨hmk, R0⟩ := ints_made w
  go_enter Try.func17, Try.ntmps17
  go_upto_region 2 with fail
  clear hmk
  generalize w.alloc (.cells #[] 3) = w1 at R0 ⊢
  generalize w.heap.size = g at R0 ⊢
  rw [← show dk 0 = [] from h0] at R0
  have e0 : Hid ((dk 0).length = 0) := by show _ = _; rw [show dk 0 = [] from h0]; rfl
  go_wp2_with fail
  go_loopw [5, 6] (fun lv iv wx => ∃ (k : Nat) (a' : Option Addr) (c' : Nat), k ≤ max Na Nb ∧ iv = .int .i64 (k : Int) ∧ lv = .slice a' (dk k).length c' ∧ Ri w wx a' c' (dk k)) (fun _ iv _ => max Na Nb - (intOf iv).toNat)
  case atStart => exact ⟨0, _, _, by omega, rfl, by rw [show (dk 0).length = 0 from e0], R0⟩
  case round =>
    clear R0
    obtain ⟨k, a', c', hk, rfl, rfl, R1⟩ := hrel
    have hkl := (show ∀ k, (dk k).length ≤ k from hdl) k
    have hs := (show ∀ k, _ from hstep) k
    by_cases hlt : k < max Na Nb
    · have q1 : IntKind.i64.wrap ((k : Int) * 32) = ((k * 32 : Nat) : Int) := by rw [show (k : Int) * 32 = ((k * 32 : Nat) : Int) by omega]; exact wrapI (by omega) (by omega)
      have q2 := wrapI (x := (k : Int) + 1) (by omega) (by omega)
      have q3 : IntKind.i64.wrap (((k : Int) + 1) * 32) = (((k + 1) * 32 : Nat) : Int) := by rw [show ((k : Int) + 1) * 32 = (((k + 1) * 32 : Nat) : Int) by omega]; exact wrapI (by omega) (by omega)
      have hlt' : Hid (k < max Na Nb) := hlt
      by_cases ca : k < Na
      · have b1 : (k : Int) < (Na : Int) := by omega
        by_cases cb : k < Nb
        · have b2 : (k : Int) < (Nb : Int) := by omega
          by_cases ce : sa.extract (k * 32) ((k + 1) * 32) = sb.extract (k * 32) ((k + 1) * 32)
          · rw [if_pos ⟨by omega, by omega, ce⟩, List.append_nil] at hs
            have g1 : decide ((Na : Int) ≤ (k : Int)) = false := decide_eq_false (by omega)
            have g1b : decide ((k : Int) < (Na : Int)) = true := decide_eq_true b1
            have g2 : decide ((Nb : Int) ≤ (k : Int)) = false := decide_eq_false (by omega)
            have g2b : decide ((k : Int) < (Nb : Int)) = true := decide_eq_true b2
            have g1n : decide (Na ≤ k) = false := decide_eq_false (by omega)
            have g2n : decide (Nb ≤ k) = false := decide_eq_false (by omega)
            have x1 : k * 32 ≤ (k + 1) * 32 := by omega
            have x2 : (k + 1) * 32 ≤ sa.size := by omega
            have x3 : (k + 1) * 32 ≤ sb.size := by omega
            have cq : (sa.extract (k * 32) ((k + 1) * 32) == sb.extract (k * 32) ((k + 1) * 32)) = true := by exact (Go.MapKept.bytes_beq _ _).2 ce
            have cqn : (sa.extract (k * 32) ((k + 1) * 32) != sb.extract (k * 32) ((k + 1) * 32)) = false := by unfold bne; rw [cq]; rfl
            have cql : ((sa.extract (k * 32) ((k + 1) * 32)).toList == (sb.extract (k * 32) ((k + 1) * 32)).toList) = true := by rw [← beq_toListBytes]; exact cq
            have R2 : Hid (Ri w wr a' c' (dk (k + 1))) := by rw [hs]; exact R1
            have hln : Hid ((dk (k + 1)).length = (dk k).length) := by show _ = _; rw [hs]
            clear hs R1
            have hk1 : Hid (k + 1 ≤ max Na Nb ∧ max Na Nb ≤ 512) := ⟨hlt, by omega⟩
            clear ce
            clear hk hkl hlt
            generalize hA : k * 32 = A at *
            generalize hB : (k + 1) * 32 = B at *
            clear hA hB hza hzb
            go_wp2_with fail
            refine (hca _).mono ?_
            rintro e wz ⟨rfl, e0⟩
            have e0 := e0.symm
            subst e0
            go_wp2_with fail
            refine wp_region_noPanic ?_
            refine wp_region_held_drew (S := fun w' => w' = wr.drew) (by kernel_rfl) (rfl) (fun hH0 => ?_)
            refine' wpAnyH_take (i := 0) (oi := { dst := some 20, op := Op.move (Operand.tmp 6), type := 3, pos := "ref.go:39", after := #[], guard := none }) (v := _) rfl (by kernel_rfl) (by kernel_rfl) (by kernel_rfl) (fun _ _ _ h => h) (Or.inl ⟨by rfl, ?hymt1110⟩) hH0 ?rmt1110
            case hymt1110 => (intro w' hSw; clear hSw; go_simp; try with_reducible rfl)
            simp only [Act.put, List.setIfInBounds_toArray, List.set_cons_zero, List.set_cons_succ]
            refine' wpAnyH_take (i := 1) (oi := { dst := some 21, op := Op.move (Operand.tmp 0), type := 9, pos := "ref.go:39", after := #[], guard := none }) (v := _) rfl (by kernel_rfl) (by kernel_rfl) (by kernel_rfl) (fun _ _ _ h => h) (Or.inl ⟨by rfl, ?hymt1111⟩) hH0 ?rmt1111
            case hymt1111 => (intro w' hSw; clear hSw; go_simp; try with_reducible rfl)
            simp only [Act.put, List.setIfInBounds_toArray, List.set_cons_zero, List.set_cons_succ]
            refine wpAnyH_ready (rs := [2]) (by kernel_rfl) (by simp) ?_
            refine AllReadyH.cons (o := { dst := some 22, op := Op.call { callee := Callee.value (Operand.func 22), args := #[Operand.tmp 21], argTypes := #[9] }, type := 3, pos := "ref.go:39", after := #[{ on := 1, ground := Ground.data }], guard := none }) rfl (fun K hK => ?_) AllReadyH.nil
            refine step_call_want (vs := #[.string sa]) (R := fun u wz => u = .int .i64 (Na : Int) ∧ wz = wr.drew) (by rfl) 22 #[Operand.tmp 21] #[9] rfl (by simp [Act.eval]) call21 (post_of (hca _)) ?_
            rintro _ y1 ⟨rfl, j1⟩
            subst j1
            refine hK.out _ _ (rfl) (fun hH1 => ?_)
            clear hK K hH0
            simp only [Act.put, List.setIfInBounds_toArray, List.set_cons_zero, List.set_cons_succ]
            refine' wpAnyH_take (i := 3) (oi := { dst := some 23, op := Op.binOp BinOp.geq 3 (Operand.tmp 20) (Operand.tmp 22) 3, type := 4, pos := "ref.go:39", after := #[{ on := 0, ground := Ground.data }, { on := 2, ground := Ground.data }], guard := none }) (v := _) rfl (by kernel_rfl) (by kernel_rfl) (by kernel_rfl) (fun _ _ _ h => h) (Or.inl ⟨by rfl, ?hymt1113⟩) hH1 ?rmt1113
            case hymt1113 => (intro w' hSw; clear hSw; go_simp; try with_reducible rfl)
            simp only [Act.put, List.setIfInBounds_toArray, List.set_cons_zero, List.set_cons_succ]
            refine' wpAnyH_take (i := 4) (oi := { dst := some 24, op := Op.move (Operand.tmp 23), type := 4, pos := "ref.go:39", after := #[{ on := 3, ground := Ground.data }, { on := 2, ground := Ground.chain }], guard := none }) (v := _) rfl (by kernel_rfl) (by kernel_rfl) (by kernel_rfl) (fun _ _ _ h => h) (Or.inl ⟨by rfl, ?hymt1114⟩) hH1 ?rmt1114
            case hymt1114 => (intro w' hSw; clear hSw; go_simp; try with_reducible rfl)
            simp only [Act.put, List.setIfInBounds_toArray, List.set_cons_zero, List.set_cons_succ]
            refine' wpAnyH_take (i := 5) (oi := { dst := some 25, op := Op.move (Operand.tmp 6), type := 3, pos := "ref.go:39", after := #[{ on := 4, ground := Ground.guard }], guard := some (4, false) }) (v := _) rfl (by kernel_rfl) (by kernel_rfl) (by kernel_rfl) (fun _ _ _ h => h) (Or.inl ⟨by rfl, ?hymt1115⟩) hH1 ?rmt1115
            case hymt1115 => (intro w' hSw; clear hSw; go_simp; try with_reducible rfl)
            simp only [Act.put, List.setIfInBounds_toArray, List.set_cons_zero, List.set_cons_succ]
            refine' wpAnyH_take (i := 6) (oi := { dst := some 26, op := Op.move (Operand.tmp 1), type := 9, pos := "ref.go:39", after := #[{ on := 4, ground := Ground.guard }], guard := some (4, false) }) (v := _) rfl (by kernel_rfl) (by kernel_rfl) (by kernel_rfl) (fun _ _ _ h => h) (Or.inl ⟨by rfl, ?hymt1116⟩) hH1 ?rmt1116
            case hymt1116 => (intro w' hSw; clear hSw; go_simp; try with_reducible rfl)
            simp only [Act.put, List.setIfInBounds_toArray, List.set_cons_zero, List.set_cons_succ]
            refine wpAnyH_ready (rs := [7]) (by kernel_rfl) (by simp) ?_
            refine AllReadyH.cons (o := { dst := some 27, op := Op.call { callee := Callee.value (Operand.func 22), args := #[Operand.tmp 26], argTypes := #[9] }, type := 3, pos := "ref.go:39", after := #[{ on := 6, ground := Ground.data }, { on := 4, ground := Ground.chain }, { on := 4, ground := Ground.guard }], guard := some (4, false) }) rfl (fun K hK => ?_) AllReadyH.nil
            refine step_call_want (vs := #[.string sb]) (R := fun u wz => u = .int .i64 (Nb : Int) ∧ wz = wr.drew) (by rfl) 22 #[Operand.tmp 26] #[9] rfl (by simp [Act.eval]) call21 (post_of (hcb _)) ?_
            rintro _ y2 ⟨rfl, j2⟩
            subst j2
            refine hK.out _ _ (rfl) (fun hH2 => ?_)
            clear hK K hH1
            simp only [Act.put, List.setIfInBounds_toArray, List.set_cons_zero, List.set_cons_succ]
            refine' wpAnyH_take (i := 8) (oi := { dst := some 28, op := Op.binOp BinOp.geq 3 (Operand.tmp 25) (Operand.tmp 27) 3, type := 4, pos := "ref.go:39", after := #[{ on := 5, ground := Ground.data }, { on := 7, ground := Ground.data }, { on := 4, ground := Ground.guard }], guard := some (4, false) }) (v := _) rfl (by kernel_rfl) (by kernel_rfl) (by kernel_rfl) (fun _ _ _ h => h) (Or.inl ⟨by rfl, ?hymt1118⟩) hH2 ?rmt1118
            case hymt1118 => (intro w' hSw; clear hSw; go_simp; try with_reducible rfl)
            simp only [Act.put, List.setIfInBounds_toArray, List.set_cons_zero, List.set_cons_succ]
            refine' wpAnyH_take (i := 9) (oi := { dst := some 29, op := Op.pick (Operand.tmp 24) (Operand.const (Value.bool true)) (Operand.tmp 28), type := 4, pos := "ref.go:39", after := #[{ on := 4, ground := Ground.data }, { on := 8, ground := Ground.data }], guard := none }) (v := _) rfl (by kernel_rfl) (by kernel_rfl) (by kernel_rfl) (fun _ _ _ h => h) (Or.inl ⟨by rfl, ?hymt1119⟩) hH2 ?rmt1119
            case hymt1119 => (intro w' hSw; clear hSw; go_simp; try with_reducible rfl)
            simp only [Act.put, List.setIfInBounds_toArray, List.set_cons_zero, List.set_cons_succ]
            refine' wpAnyH_take (i := 10) (oi := { dst := some 30, op := Op.move (Operand.tmp 29), type := 4, pos := "ref.go:39", after := #[{ on := 9, ground := Ground.data }, { on := 7, ground := Ground.chain }], guard := none }) (v := _) rfl (by kernel_rfl) (by kernel_rfl) (by kernel_rfl) (fun _ _ _ h => h) (Or.inl ⟨by rfl, ?hymt11110⟩) hH2 ?rmt11110
            case hymt11110 => (intro w' hSw; clear hSw; go_simp; try with_reducible rfl)
            simp only [Act.put, List.setIfInBounds_toArray, List.set_cons_zero, List.set_cons_succ]
            refine' wpAnyH_take (i := 11) (oi := { dst := some 31, op := Op.move (Operand.tmp 0), type := 9, pos := "ref.go:39", after := #[{ on := 10, ground := Ground.guard }], guard := some (10, false) }) (v := _) rfl (by kernel_rfl) (by kernel_rfl) (by kernel_rfl) (fun _ _ _ h => h) (Or.inl ⟨by rfl, ?hymt11111⟩) hH2 ?rmt11111
            case hymt11111 => (intro w' hSw; clear hSw; go_simp; try with_reducible rfl)
            simp only [Act.put, List.setIfInBounds_toArray, List.set_cons_zero, List.set_cons_succ]
            refine' wpAnyH_take (i := 12) (oi := { dst := some 32, op := Op.move (Operand.tmp 6), type := 3, pos := "ref.go:39", after := #[{ on := 10, ground := Ground.guard }], guard := some (10, false) }) (v := _) rfl (by kernel_rfl) (by kernel_rfl) (by kernel_rfl) (fun _ _ _ h => h) (Or.inl ⟨by rfl, ?hymt11112⟩) hH2 ?rmt11112
            case hymt11112 => (intro w' hSw; clear hSw; go_simp; try with_reducible rfl)
            simp only [Act.put, List.setIfInBounds_toArray, List.set_cons_zero, List.set_cons_succ]
            refine' wpAnyH_take (i := 13) (oi := { dst := some 33, op := Op.binOp BinOp.mul 3 (Operand.tmp 32) (Operand.const (Value.int IntKind.i64 32)) 3, type := 3, pos := "ref.go:39", after := #[{ on := 12, ground := Ground.data }, { on := 10, ground := Ground.guard }], guard := some (10, false) }) (v := _) rfl (by kernel_rfl) (by kernel_rfl) (by kernel_rfl) (fun _ _ _ h => h) (Or.inl ⟨by rfl, ?hymt11113⟩) hH2 ?rmt11113
            case hymt11113 => (intro w' hSw; clear hSw; go_simp; try with_reducible rfl)
            simp only [Act.put, List.setIfInBounds_toArray, List.set_cons_zero, List.set_cons_succ]
            refine' wpAnyH_take (i := 14) (oi := { dst := some 34, op := Op.move (Operand.tmp 6), type := 3, pos := "ref.go:39", after := #[{ on := 10, ground := Ground.guard }], guard := some (10, false) }) (v := _) rfl (by kernel_rfl) (by kernel_rfl) (by kernel_rfl) (fun _ _ _ h => h) (Or.inl ⟨by rfl, ?hymt11114⟩) hH2 ?rmt11114
            case hymt11114 => (intro w' hSw; clear hSw; go_simp; try with_reducible rfl)
            simp only [Act.put, List.setIfInBounds_toArray, List.set_cons_zero, List.set_cons_succ]
            refine' wpAnyH_take (i := 15) (oi := { dst := some 35, op := Op.binOp BinOp.add 3 (Operand.tmp 34) (Operand.const (Value.int IntKind.i64 1)) 3, type := 3, pos := "ref.go:39", after := #[{ on := 14, ground := Ground.data }, { on := 10, ground := Ground.guard }], guard := some (10, false) }) (v := _) rfl (by kernel_rfl) (by kernel_rfl) (by kernel_rfl) (fun _ _ _ h => h) (Or.inl ⟨by rfl, ?hymt11115⟩) hH2 ?rmt11115
            case hymt11115 => (intro w' hSw; clear hSw; go_simp; try with_reducible rfl)
            simp only [Act.put, List.setIfInBounds_toArray, List.set_cons_zero, List.set_cons_succ]
            refine' wpAnyH_take (i := 16) (oi := { dst := some 36, op := Op.binOp BinOp.mul 3 (Operand.tmp 35) (Operand.const (Value.int IntKind.i64 32)) 3, type := 3, pos := "ref.go:39", after := #[{ on := 15, ground := Ground.data }, { on := 10, ground := Ground.guard }], guard := some (10, false) }) (v := _) rfl (by kernel_rfl) (by kernel_rfl) (by kernel_rfl) (fun _ _ _ h => h) (Or.inl ⟨by rfl, ?hymt11116⟩) hH2 ?rmt11116
            case hymt11116 => (intro w' hSw; clear hSw; go_simp; try with_reducible rfl)
            simp only [Act.put, List.setIfInBounds_toArray, List.set_cons_zero, List.set_cons_succ]
            refine' wpAnyH_take (i := 17) (oi := { dst := some 37, op := Op.slice 9 (Operand.tmp 31) (some (Operand.tmp 33)) (some (Operand.tmp 36)) none, type := 9, pos := "ref.go:39", after := #[{ on := 11, ground := Ground.data }, { on := 13, ground := Ground.data }, { on := 16, ground := Ground.data }, { on := 10, ground := Ground.guard }], guard := some (10, false) }) (v := _) rfl (by kernel_rfl) (by kernel_rfl) (by kernel_rfl) (fun _ _ _ h => h) (Or.inl ⟨by rfl, ?hymt11117⟩) hH2 ?rmt11117
            case hymt11117 => (intro w' hSw; clear hSw; go_simp; try with_reducible rfl)
            simp only [Act.put, List.setIfInBounds_toArray, List.set_cons_zero, List.set_cons_succ]
            refine' wpAnyH_take (i := 18) (oi := { dst := some 38, op := Op.move (Operand.tmp 1), type := 9, pos := "ref.go:39", after := #[{ on := 10, ground := Ground.guard }], guard := some (10, false) }) (v := _) rfl (by kernel_rfl) (by kernel_rfl) (by kernel_rfl) (fun _ _ _ h => h) (Or.inl ⟨by rfl, ?hymt11118⟩) hH2 ?rmt11118
            case hymt11118 => (intro w' hSw; clear hSw; go_simp; try with_reducible rfl)
            simp only [Act.put, List.setIfInBounds_toArray, List.set_cons_zero, List.set_cons_succ]
            refine' wpAnyH_take (i := 19) (oi := { dst := some 39, op := Op.move (Operand.tmp 6), type := 3, pos := "ref.go:39", after := #[{ on := 10, ground := Ground.guard }], guard := some (10, false) }) (v := _) rfl (by kernel_rfl) (by kernel_rfl) (by kernel_rfl) (fun _ _ _ h => h) (Or.inl ⟨by rfl, ?hymt11119⟩) hH2 ?rmt11119
            case hymt11119 => (intro w' hSw; clear hSw; go_simp; try with_reducible rfl)
            simp only [Act.put, List.setIfInBounds_toArray, List.set_cons_zero, List.set_cons_succ]
            refine' wpAnyH_take (i := 20) (oi := { dst := some 40, op := Op.binOp BinOp.mul 3 (Operand.tmp 39) (Operand.const (Value.int IntKind.i64 32)) 3, type := 3, pos := "ref.go:39", after := #[{ on := 19, ground := Ground.data }, { on := 10, ground := Ground.guard }], guard := some (10, false) }) (v := _) rfl (by kernel_rfl) (by kernel_rfl) (by kernel_rfl) (fun _ _ _ h => h) (Or.inl ⟨by rfl, ?hymt11120⟩) hH2 ?rmt11120
            case hymt11120 => (intro w' hSw; clear hSw; go_simp; try with_reducible rfl)
            simp only [Act.put, List.setIfInBounds_toArray, List.set_cons_zero, List.set_cons_succ]
            refine' wpAnyH_take (i := 21) (oi := { dst := some 41, op := Op.move (Operand.tmp 6), type := 3, pos := "ref.go:39", after := #[{ on := 10, ground := Ground.guard }], guard := some (10, false) }) (v := _) rfl (by kernel_rfl) (by kernel_rfl) (by kernel_rfl) (fun _ _ _ h => h) (Or.inl ⟨by rfl, ?hymt11121⟩) hH2 ?rmt11121
            case hymt11121 => (intro w' hSw; clear hSw; go_simp; try with_reducible rfl)
            simp only [Act.put, List.setIfInBounds_toArray, List.set_cons_zero, List.set_cons_succ]
            refine' wpAnyH_take (i := 22) (oi := { dst := some 42, op := Op.binOp BinOp.add 3 (Operand.tmp 41) (Operand.const (Value.int IntKind.i64 1)) 3, type := 3, pos := "ref.go:39", after := #[{ on := 21, ground := Ground.data }, { on := 10, ground := Ground.guard }], guard := some (10, false) }) (v := _) rfl (by kernel_rfl) (by kernel_rfl) (by kernel_rfl) (fun _ _ _ h => h) (Or.inl ⟨by rfl, ?hymt11122⟩) hH2 ?rmt11122
            case hymt11122 => (intro w' hSw; clear hSw; go_simp; try with_reducible rfl)
            simp only [Act.put, List.setIfInBounds_toArray, List.set_cons_zero, List.set_cons_succ]
            refine' wpAnyH_take (i := 23) (oi := { dst := some 43, op := Op.binOp BinOp.mul 3 (Operand.tmp 42) (Operand.const (Value.int IntKind.i64 32)) 3, type := 3, pos := "ref.go:39", after := #[{ on := 22, ground := Ground.data }, { on := 10, ground := Ground.guard }], guard := some (10, false) }) (v := _) rfl (by kernel_rfl) (by kernel_rfl) (by kernel_rfl) (fun _ _ _ h => h) (Or.inl ⟨by rfl, ?hymt11123⟩) hH2 ?rmt11123
            case hymt11123 => (intro w' hSw; clear hSw; go_simp; try with_reducible rfl)
            simp only [Act.put, List.setIfInBounds_toArray, List.set_cons_zero, List.set_cons_succ]
            refine' wpAnyH_take (i := 24) (oi := { dst := some 44, op := Op.slice 9 (Operand.tmp 38) (some (Operand.tmp 40)) (some (Operand.tmp 43)) none, type := 9, pos := "ref.go:39", after := #[{ on := 18, ground := Ground.data }, { on := 20, ground := Ground.data }, { on := 23, ground := Ground.data }, { on := 10, ground := Ground.guard }], guard := some (10, false) }) (v := _) rfl (by kernel_rfl) (by kernel_rfl) (by kernel_rfl) (fun _ _ _ h => h) (Or.inl ⟨by rfl, ?hymt11124⟩) hH2 ?rmt11124
            case hymt11124 => (intro w' hSw; clear hSw; go_simp; try with_reducible rfl)
            simp only [Act.put, List.setIfInBounds_toArray, List.set_cons_zero, List.set_cons_succ]
            refine' wpAnyH_take (i := 25) (oi := { dst := some 45, op := Op.binOp BinOp.neq 9 (Operand.tmp 37) (Operand.tmp 44) 9, type := 4, pos := "ref.go:39", after := #[{ on := 17, ground := Ground.data }, { on := 24, ground := Ground.data }, { on := 10, ground := Ground.guard }], guard := some (10, false) }) (v := _) rfl (by kernel_rfl) (by kernel_rfl) (by kernel_rfl) (fun _ _ _ h => h) (Or.inl ⟨by rfl, ?hymt11125⟩) hH2 ?rmt11125
            case hymt11125 => (intro w' hSw; clear hSw; go_simp; try with_reducible rfl)
            simp only [Act.put, List.setIfInBounds_toArray, List.set_cons_zero, List.set_cons_succ]
            refine' wpAnyH_take (i := 26) (oi := { dst := some 46, op := Op.pick (Operand.tmp 30) (Operand.const (Value.bool true)) (Operand.tmp 45), type := 4, pos := "ref.go:39", after := #[{ on := 10, ground := Ground.data }, { on := 25, ground := Ground.data }], guard := none }) (v := _) rfl (by kernel_rfl) (by kernel_rfl) (by kernel_rfl) (fun _ _ _ h => h) (Or.inl ⟨by rfl, ?hymt11126⟩) hH2 ?rmt11126
            case hymt11126 => (intro w' hSw; clear hSw; go_simp; try with_reducible rfl)
            simp only [Act.put, List.setIfInBounds_toArray, List.set_cons_zero, List.set_cons_succ]
            refine wpAnyH_done (by kernel_rfl) ?_ _
            refine NoPanic.normal ?_
            have kd := (Keep.refl (fun _ => False) wr).drew
            generalize wr.drew = wd at kd ⊢
            go_wp2_with fail
            go_roundw
            case rel => exact ⟨k + 1, a', c', by have h : k + 1 ≤ max Na Nb ∧ max Na Nb ≤ 512 := hk1; omega, by go_num, by rw [show (dk (k + 1)).length = _ from hln], (show Ri w wr a' c' (dk (k + 1)) from R2).more kd⟩
            case measure => have h : k + 1 ≤ max Na Nb ∧ max Na Nb ≤ 512 := hk1; simp [intOf]; omega
          · rw [if_neg (fun h => ce h.2.2)] at hs
            have g1 : decide ((Na : Int) ≤ (k : Int)) = false := decide_eq_false (by omega)
            have g1b : decide ((k : Int) < (Na : Int)) = true := decide_eq_true b1
            have g2 : decide ((Nb : Int) ≤ (k : Int)) = false := decide_eq_false (by omega)
            have g2b : decide ((k : Int) < (Nb : Int)) = true := decide_eq_true b2
            have g1n : decide (Na ≤ k) = false := decide_eq_false (by omega)
            have g2n : decide (Nb ≤ k) = false := decide_eq_false (by omega)
            have x1 : k * 32 ≤ (k + 1) * 32 := by omega
            have x2 : (k + 1) * 32 ≤ sa.size := by omega
            have x3 : (k + 1) * 32 ≤ sb.size := by omega
            have cq : (sa.extract (k * 32) ((k + 1) * 32) == sb.extract (k * 32) ((k + 1) * 32)) = false := by rw [Bool.eq_false_iff]; exact fun h => ce ((Go.MapKept.bytes_beq _ _).1 h)
            have cqn : (sa.extract (k * 32) ((k + 1) * 32) != sb.extract (k * 32) ((k + 1) * 32)) = true := by unfold bne; rw [cq]; rfl
            have cql : ((sa.extract (k * 32) ((k + 1) * 32)).toList == (sb.extract (k * 32) ((k + 1) * 32)).toList) = false := by rw [← beq_toListBytes]; exact cq
            have hln : Hid ((dk (k + 1)).length = (dk k).length + 1) := by show _ = _; rw [hs]; simp
            have hkl2 : Hid ((dk k).length ≤ 100000) := by show _ ≤ _; omega
            have R1 : Hid (Ri w wr a' c' (dk k)) := R1
            have hs2 : Hid (dk (k + 1) = dk k ++ [(k : Int)]) := hs
            clear hs
            have hk1 : Hid (k + 1 ≤ max Na Nb ∧ max Na Nb ≤ 512) := ⟨hlt, by omega⟩
            clear ce
            clear hk hkl hlt
            generalize hA : k * 32 = A at *
            generalize hB : (k + 1) * 32 = B at *
            clear hA hB hza hzb
            go_wp2_with fail
            refine (hca _).mono ?_
            rintro e wz ⟨rfl, e0⟩
            have e0 := e0.symm
            subst e0
            go_wp2_with fail
            refine wp_region_noPanic ?_
            refine wp_region_held_drew (S := fun w' => w' = wr.drew) (by kernel_rfl) (rfl) (fun hH0 => ?_)
            refine' wpAnyH_take (i := 0) (oi := { dst := some 20, op := Op.move (Operand.tmp 6), type := 3, pos := "ref.go:39", after := #[], guard := none }) (v := _) rfl (by kernel_rfl) (by kernel_rfl) (by kernel_rfl) (fun _ _ _ h => h) (Or.inl ⟨by rfl, ?hymt1100⟩) hH0 ?rmt1100
            case hymt1100 => (intro w' hSw; clear hSw; go_simp; try with_reducible rfl)
            simp only [Act.put, List.setIfInBounds_toArray, List.set_cons_zero, List.set_cons_succ]
            refine' wpAnyH_take (i := 1) (oi := { dst := some 21, op := Op.move (Operand.tmp 0), type := 9, pos := "ref.go:39", after := #[], guard := none }) (v := _) rfl (by kernel_rfl) (by kernel_rfl) (by kernel_rfl) (fun _ _ _ h => h) (Or.inl ⟨by rfl, ?hymt1101⟩) hH0 ?rmt1101
            case hymt1101 => (intro w' hSw; clear hSw; go_simp; try with_reducible rfl)
            simp only [Act.put, List.setIfInBounds_toArray, List.set_cons_zero, List.set_cons_succ]
            refine wpAnyH_ready (rs := [2]) (by kernel_rfl) (by simp) ?_
            refine AllReadyH.cons (o := { dst := some 22, op := Op.call { callee := Callee.value (Operand.func 22), args := #[Operand.tmp 21], argTypes := #[9] }, type := 3, pos := "ref.go:39", after := #[{ on := 1, ground := Ground.data }], guard := none }) rfl (fun K hK => ?_) AllReadyH.nil
            refine step_call_want (vs := #[.string sa]) (R := fun u wz => u = .int .i64 (Na : Int) ∧ wz = wr.drew) (by rfl) 22 #[Operand.tmp 21] #[9] rfl (by simp [Act.eval]) call21 (post_of (hca _)) ?_
            rintro _ y1 ⟨rfl, j1⟩
            subst j1
            refine hK.out _ _ (rfl) (fun hH1 => ?_)
            clear hK K hH0
            simp only [Act.put, List.setIfInBounds_toArray, List.set_cons_zero, List.set_cons_succ]
            refine' wpAnyH_take (i := 3) (oi := { dst := some 23, op := Op.binOp BinOp.geq 3 (Operand.tmp 20) (Operand.tmp 22) 3, type := 4, pos := "ref.go:39", after := #[{ on := 0, ground := Ground.data }, { on := 2, ground := Ground.data }], guard := none }) (v := _) rfl (by kernel_rfl) (by kernel_rfl) (by kernel_rfl) (fun _ _ _ h => h) (Or.inl ⟨by rfl, ?hymt1103⟩) hH1 ?rmt1103
            case hymt1103 => (intro w' hSw; clear hSw; go_simp; try with_reducible rfl)
            simp only [Act.put, List.setIfInBounds_toArray, List.set_cons_zero, List.set_cons_succ]
            refine' wpAnyH_take (i := 4) (oi := { dst := some 24, op := Op.move (Operand.tmp 23), type := 4, pos := "ref.go:39", after := #[{ on := 3, ground := Ground.data }, { on := 2, ground := Ground.chain }], guard := none }) (v := _) rfl (by kernel_rfl) (by kernel_rfl) (by kernel_rfl) (fun _ _ _ h => h) (Or.inl ⟨by rfl, ?hymt1104⟩) hH1 ?rmt1104
            case hymt1104 => (intro w' hSw; clear hSw; go_simp; try with_reducible rfl)
            simp only [Act.put, List.setIfInBounds_toArray, List.set_cons_zero, List.set_cons_succ]
            refine' wpAnyH_take (i := 5) (oi := { dst := some 25, op := Op.move (Operand.tmp 6), type := 3, pos := "ref.go:39", after := #[{ on := 4, ground := Ground.guard }], guard := some (4, false) }) (v := _) rfl (by kernel_rfl) (by kernel_rfl) (by kernel_rfl) (fun _ _ _ h => h) (Or.inl ⟨by rfl, ?hymt1105⟩) hH1 ?rmt1105
            case hymt1105 => (intro w' hSw; clear hSw; go_simp; try with_reducible rfl)
            simp only [Act.put, List.setIfInBounds_toArray, List.set_cons_zero, List.set_cons_succ]
            refine' wpAnyH_take (i := 6) (oi := { dst := some 26, op := Op.move (Operand.tmp 1), type := 9, pos := "ref.go:39", after := #[{ on := 4, ground := Ground.guard }], guard := some (4, false) }) (v := _) rfl (by kernel_rfl) (by kernel_rfl) (by kernel_rfl) (fun _ _ _ h => h) (Or.inl ⟨by rfl, ?hymt1106⟩) hH1 ?rmt1106
            case hymt1106 => (intro w' hSw; clear hSw; go_simp; try with_reducible rfl)
            simp only [Act.put, List.setIfInBounds_toArray, List.set_cons_zero, List.set_cons_succ]
            refine wpAnyH_ready (rs := [7]) (by kernel_rfl) (by simp) ?_
            refine AllReadyH.cons (o := { dst := some 27, op := Op.call { callee := Callee.value (Operand.func 22), args := #[Operand.tmp 26], argTypes := #[9] }, type := 3, pos := "ref.go:39", after := #[{ on := 6, ground := Ground.data }, { on := 4, ground := Ground.chain }, { on := 4, ground := Ground.guard }], guard := some (4, false) }) rfl (fun K hK => ?_) AllReadyH.nil
            refine step_call_want (vs := #[.string sb]) (R := fun u wz => u = .int .i64 (Nb : Int) ∧ wz = wr.drew) (by rfl) 22 #[Operand.tmp 26] #[9] rfl (by simp [Act.eval]) call21 (post_of (hcb _)) ?_
            rintro _ y2 ⟨rfl, j2⟩
            subst j2
            refine hK.out _ _ (rfl) (fun hH2 => ?_)
            clear hK K hH1
            simp only [Act.put, List.setIfInBounds_toArray, List.set_cons_zero, List.set_cons_succ]
            refine' wpAnyH_take (i := 8) (oi := { dst := some 28, op := Op.binOp BinOp.geq 3 (Operand.tmp 25) (Operand.tmp 27) 3, type := 4, pos := "ref.go:39", after := #[{ on := 5, ground := Ground.data }, { on := 7, ground := Ground.data }, { on := 4, ground := Ground.guard }], guard := some (4, false) }) (v := _) rfl (by kernel_rfl) (by kernel_rfl) (by kernel_rfl) (fun _ _ _ h => h) (Or.inl ⟨by rfl, ?hymt1108⟩) hH2 ?rmt1108
            case hymt1108 => (intro w' hSw; clear hSw; go_simp; try with_reducible rfl)
            simp only [Act.put, List.setIfInBounds_toArray, List.set_cons_zero, List.set_cons_succ]
            refine' wpAnyH_take (i := 9) (oi := { dst := some 29, op := Op.pick (Operand.tmp 24) (Operand.const (Value.bool true)) (Operand.tmp 28), type := 4, pos := "ref.go:39", after := #[{ on := 4, ground := Ground.data }, { on := 8, ground := Ground.data }], guard := none }) (v := _) rfl (by kernel_rfl) (by kernel_rfl) (by kernel_rfl) (fun _ _ _ h => h) (Or.inl ⟨by rfl, ?hymt1109⟩) hH2 ?rmt1109
            case hymt1109 => (intro w' hSw; clear hSw; go_simp; try with_reducible rfl)
            simp only [Act.put, List.setIfInBounds_toArray, List.set_cons_zero, List.set_cons_succ]
            refine' wpAnyH_take (i := 10) (oi := { dst := some 30, op := Op.move (Operand.tmp 29), type := 4, pos := "ref.go:39", after := #[{ on := 9, ground := Ground.data }, { on := 7, ground := Ground.chain }], guard := none }) (v := _) rfl (by kernel_rfl) (by kernel_rfl) (by kernel_rfl) (fun _ _ _ h => h) (Or.inl ⟨by rfl, ?hymt11010⟩) hH2 ?rmt11010
            case hymt11010 => (intro w' hSw; clear hSw; go_simp; try with_reducible rfl)
            simp only [Act.put, List.setIfInBounds_toArray, List.set_cons_zero, List.set_cons_succ]
            refine' wpAnyH_take (i := 11) (oi := { dst := some 31, op := Op.move (Operand.tmp 0), type := 9, pos := "ref.go:39", after := #[{ on := 10, ground := Ground.guard }], guard := some (10, false) }) (v := _) rfl (by kernel_rfl) (by kernel_rfl) (by kernel_rfl) (fun _ _ _ h => h) (Or.inl ⟨by rfl, ?hymt11011⟩) hH2 ?rmt11011
            case hymt11011 => (intro w' hSw; clear hSw; go_simp; try with_reducible rfl)
            simp only [Act.put, List.setIfInBounds_toArray, List.set_cons_zero, List.set_cons_succ]
            refine' wpAnyH_take (i := 12) (oi := { dst := some 32, op := Op.move (Operand.tmp 6), type := 3, pos := "ref.go:39", after := #[{ on := 10, ground := Ground.guard }], guard := some (10, false) }) (v := _) rfl (by kernel_rfl) (by kernel_rfl) (by kernel_rfl) (fun _ _ _ h => h) (Or.inl ⟨by rfl, ?hymt11012⟩) hH2 ?rmt11012
            case hymt11012 => (intro w' hSw; clear hSw; go_simp; try with_reducible rfl)
            simp only [Act.put, List.setIfInBounds_toArray, List.set_cons_zero, List.set_cons_succ]
            refine' wpAnyH_take (i := 13) (oi := { dst := some 33, op := Op.binOp BinOp.mul 3 (Operand.tmp 32) (Operand.const (Value.int IntKind.i64 32)) 3, type := 3, pos := "ref.go:39", after := #[{ on := 12, ground := Ground.data }, { on := 10, ground := Ground.guard }], guard := some (10, false) }) (v := _) rfl (by kernel_rfl) (by kernel_rfl) (by kernel_rfl) (fun _ _ _ h => h) (Or.inl ⟨by rfl, ?hymt11013⟩) hH2 ?rmt11013
            case hymt11013 => (intro w' hSw; clear hSw; go_simp; try with_reducible rfl)
            simp only [Act.put, List.setIfInBounds_toArray, List.set_cons_zero, List.set_cons_succ]
            refine' wpAnyH_take (i := 14) (oi := { dst := some 34, op := Op.move (Operand.tmp 6), type := 3, pos := "ref.go:39", after := #[{ on := 10, ground := Ground.guard }], guard := some (10, false) }) (v := _) rfl (by kernel_rfl) (by kernel_rfl) (by kernel_rfl) (fun _ _ _ h => h) (Or.inl ⟨by rfl, ?hymt11014⟩) hH2 ?rmt11014
            case hymt11014 => (intro w' hSw; clear hSw; go_simp; try with_reducible rfl)
            simp only [Act.put, List.setIfInBounds_toArray, List.set_cons_zero, List.set_cons_succ]
            refine' wpAnyH_take (i := 15) (oi := { dst := some 35, op := Op.binOp BinOp.add 3 (Operand.tmp 34) (Operand.const (Value.int IntKind.i64 1)) 3, type := 3, pos := "ref.go:39", after := #[{ on := 14, ground := Ground.data }, { on := 10, ground := Ground.guard }], guard := some (10, false) }) (v := _) rfl (by kernel_rfl) (by kernel_rfl) (by kernel_rfl) (fun _ _ _ h => h) (Or.inl ⟨by rfl, ?hymt11015⟩) hH2 ?rmt11015
            case hymt11015 => (intro w' hSw; clear hSw; go_simp; try with_reducible rfl)
            simp only [Act.put, List.setIfInBounds_toArray, List.set_cons_zero, List.set_cons_succ]
            refine' wpAnyH_take (i := 16) (oi := { dst := some 36, op := Op.binOp BinOp.mul 3 (Operand.tmp 35) (Operand.const (Value.int IntKind.i64 32)) 3, type := 3, pos := "ref.go:39", after := #[{ on := 15, ground := Ground.data }, { on := 10, ground := Ground.guard }], guard := some (10, false) }) (v := _) rfl (by kernel_rfl) (by kernel_rfl) (by kernel_rfl) (fun _ _ _ h => h) (Or.inl ⟨by rfl, ?hymt11016⟩) hH2 ?rmt11016
            case hymt11016 => (intro w' hSw; clear hSw; go_simp; try with_reducible rfl)
            simp only [Act.put, List.setIfInBounds_toArray, List.set_cons_zero, List.set_cons_succ]
            refine' wpAnyH_take (i := 17) (oi := { dst := some 37, op := Op.slice 9 (Operand.tmp 31) (some (Operand.tmp 33)) (some (Operand.tmp 36)) none, type := 9, pos := "ref.go:39", after := #[{ on := 11, ground := Ground.data }, { on := 13, ground := Ground.data }, { on := 16, ground := Ground.data }, { on := 10, ground := Ground.guard }], guard := some (10, false) }) (v := _) rfl (by kernel_rfl) (by kernel_rfl) (by kernel_rfl) (fun _ _ _ h => h) (Or.inl ⟨by rfl, ?hymt11017⟩) hH2 ?rmt11017
            case hymt11017 => (intro w' hSw; clear hSw; go_simp; try with_reducible rfl)
            simp only [Act.put, List.setIfInBounds_toArray, List.set_cons_zero, List.set_cons_succ]
            refine' wpAnyH_take (i := 18) (oi := { dst := some 38, op := Op.move (Operand.tmp 1), type := 9, pos := "ref.go:39", after := #[{ on := 10, ground := Ground.guard }], guard := some (10, false) }) (v := _) rfl (by kernel_rfl) (by kernel_rfl) (by kernel_rfl) (fun _ _ _ h => h) (Or.inl ⟨by rfl, ?hymt11018⟩) hH2 ?rmt11018
            case hymt11018 => (intro w' hSw; clear hSw; go_simp; try with_reducible rfl)
            simp only [Act.put, List.setIfInBounds_toArray, List.set_cons_zero, List.set_cons_succ]
            refine' wpAnyH_take (i := 19) (oi := { dst := some 39, op := Op.move (Operand.tmp 6), type := 3, pos := "ref.go:39", after := #[{ on := 10, ground := Ground.guard }], guard := some (10, false) }) (v := _) rfl (by kernel_rfl) (by kernel_rfl) (by kernel_rfl) (fun _ _ _ h => h) (Or.inl ⟨by rfl, ?hymt11019⟩) hH2 ?rmt11019
            case hymt11019 => (intro w' hSw; clear hSw; go_simp; try with_reducible rfl)
            simp only [Act.put, List.setIfInBounds_toArray, List.set_cons_zero, List.set_cons_succ]
            refine' wpAnyH_take (i := 20) (oi := { dst := some 40, op := Op.binOp BinOp.mul 3 (Operand.tmp 39) (Operand.const (Value.int IntKind.i64 32)) 3, type := 3, pos := "ref.go:39", after := #[{ on := 19, ground := Ground.data }, { on := 10, ground := Ground.guard }], guard := some (10, false) }) (v := _) rfl (by kernel_rfl) (by kernel_rfl) (by kernel_rfl) (fun _ _ _ h => h) (Or.inl ⟨by rfl, ?hymt11020⟩) hH2 ?rmt11020
            case hymt11020 => (intro w' hSw; clear hSw; go_simp; try with_reducible rfl)
            simp only [Act.put, List.setIfInBounds_toArray, List.set_cons_zero, List.set_cons_succ]
            refine' wpAnyH_take (i := 21) (oi := { dst := some 41, op := Op.move (Operand.tmp 6), type := 3, pos := "ref.go:39", after := #[{ on := 10, ground := Ground.guard }], guard := some (10, false) }) (v := _) rfl (by kernel_rfl) (by kernel_rfl) (by kernel_rfl) (fun _ _ _ h => h) (Or.inl ⟨by rfl, ?hymt11021⟩) hH2 ?rmt11021
            case hymt11021 => (intro w' hSw; clear hSw; go_simp; try with_reducible rfl)
            simp only [Act.put, List.setIfInBounds_toArray, List.set_cons_zero, List.set_cons_succ]
            refine' wpAnyH_take (i := 22) (oi := { dst := some 42, op := Op.binOp BinOp.add 3 (Operand.tmp 41) (Operand.const (Value.int IntKind.i64 1)) 3, type := 3, pos := "ref.go:39", after := #[{ on := 21, ground := Ground.data }, { on := 10, ground := Ground.guard }], guard := some (10, false) }) (v := _) rfl (by kernel_rfl) (by kernel_rfl) (by kernel_rfl) (fun _ _ _ h => h) (Or.inl ⟨by rfl, ?hymt11022⟩) hH2 ?rmt11022
            case hymt11022 => (intro w' hSw; clear hSw; go_simp; try with_reducible rfl)
            simp only [Act.put, List.setIfInBounds_toArray, List.set_cons_zero, List.set_cons_succ]
            refine' wpAnyH_take (i := 23) (oi := { dst := some 43, op := Op.binOp BinOp.mul 3 (Operand.tmp 42) (Operand.const (Value.int IntKind.i64 32)) 3, type := 3, pos := "ref.go:39", after := #[{ on := 22, ground := Ground.data }, { on := 10, ground := Ground.guard }], guard := some (10, false) }) (v := _) rfl (by kernel_rfl) (by kernel_rfl) (by kernel_rfl) (fun _ _ _ h => h) (Or.inl ⟨by rfl, ?hymt11023⟩) hH2 ?rmt11023
            case hymt11023 => (intro w' hSw; clear hSw; go_simp; try with_reducible rfl)
            simp only [Act.put, List.setIfInBounds_toArray, List.set_cons_zero, List.set_cons_succ]
            refine' wpAnyH_take (i := 24) (oi := { dst := some 44, op := Op.slice 9 (Operand.tmp 38) (some (Operand.tmp 40)) (some (Operand.tmp 43)) none, type := 9, pos := "ref.go:39", after := #[{ on := 18, ground := Ground.data }, { on := 20, ground := Ground.data }, { on := 23, ground := Ground.data }, { on := 10, ground := Ground.guard }], guard := some (10, false) }) (v := _) rfl (by kernel_rfl) (by kernel_rfl) (by kernel_rfl) (fun _ _ _ h => h) (Or.inl ⟨by rfl, ?hymt11024⟩) hH2 ?rmt11024
            case hymt11024 => (intro w' hSw; clear hSw; go_simp; try with_reducible rfl)
            simp only [Act.put, List.setIfInBounds_toArray, List.set_cons_zero, List.set_cons_succ]
            refine' wpAnyH_take (i := 25) (oi := { dst := some 45, op := Op.binOp BinOp.neq 9 (Operand.tmp 37) (Operand.tmp 44) 9, type := 4, pos := "ref.go:39", after := #[{ on := 17, ground := Ground.data }, { on := 24, ground := Ground.data }, { on := 10, ground := Ground.guard }], guard := some (10, false) }) (v := _) rfl (by kernel_rfl) (by kernel_rfl) (by kernel_rfl) (fun _ _ _ h => h) (Or.inl ⟨by rfl, ?hymt11025⟩) hH2 ?rmt11025
            case hymt11025 => (intro w' hSw; clear hSw; go_simp; try with_reducible rfl)
            simp only [Act.put, List.setIfInBounds_toArray, List.set_cons_zero, List.set_cons_succ]
            refine' wpAnyH_take (i := 26) (oi := { dst := some 46, op := Op.pick (Operand.tmp 30) (Operand.const (Value.bool true)) (Operand.tmp 45), type := 4, pos := "ref.go:39", after := #[{ on := 10, ground := Ground.data }, { on := 25, ground := Ground.data }], guard := none }) (v := _) rfl (by kernel_rfl) (by kernel_rfl) (by kernel_rfl) (fun _ _ _ h => h) (Or.inl ⟨by rfl, ?hymt11026⟩) hH2 ?rmt11026
            case hymt11026 => (intro w' hSw; clear hSw; go_simp; try with_reducible rfl)
            simp only [Act.put, List.setIfInBounds_toArray, List.set_cons_zero, List.set_cons_succ]
            refine wpAnyH_done (by kernel_rfl) ?_ _
            refine NoPanic.normal ?_
            have kd := (Keep.refl (fun _ => False) wr).drew
            generalize wr.drew = wd at kd ⊢
            obtain ⟨a2, c2, w2, happ, R2, -, -⟩ := ((show Ri w wr a' c' (dk k) from R1).more kd).app1 hkl2 (k : Int)
            rw [← show dk (k + 1) = _ from hs2] at R2
            generalize (dk k).length = n at happ hln ⊢
            clear hs2
            go_wp2_with (at_builtin; refine wpList_append_run rfl (.tmp 47) (.tmp 49) 40 rfl (by rfl) (by rfl) happ ?_)
            go_roundw
            case rel => exact ⟨k + 1, a2, c2, by have h : k + 1 ≤ max Na Nb ∧ max Na Nb ≤ 512 := hk1; omega, by go_num, by rw [show (dk (k + 1)).length = _ from hln], R2⟩
            case measure => have h : k + 1 ≤ max Na Nb ∧ max Na Nb ≤ 512 := hk1; simp [intOf]; omega
        · have b2 : ¬ (k : Int) < (Nb : Int) := by omega
          rw [if_neg (fun h => by omega)] at hs
          have g1 : decide ((Na : Int) ≤ (k : Int)) = false := decide_eq_false (by omega)
          have g1b : decide ((k : Int) < (Na : Int)) = true := decide_eq_true b1
          have g2 : decide ((Nb : Int) ≤ (k : Int)) = true := decide_eq_true (by omega)
          have g2b : decide ((k : Int) < (Nb : Int)) = false := decide_eq_false b2
          have g1n : decide (Na ≤ k) = false := decide_eq_false (by omega)
          have g2n : decide (Nb ≤ k) = true := decide_eq_true (by omega)
          have hln : Hid ((dk (k + 1)).length = (dk k).length + 1) := by show _ = _; rw [hs]; simp
          have hkl2 : Hid ((dk k).length ≤ 100000) := by show _ ≤ _; omega
          have R1 : Hid (Ri w wr a' c' (dk k)) := R1
          have hs2 : Hid (dk (k + 1) = dk k ++ [(k : Int)]) := hs
          clear hs
          have hk1 : Hid (k + 1 ≤ max Na Nb ∧ max Na Nb ≤ 512) := ⟨hlt, by omega⟩
          clear hk hkl hlt
          generalize hA : k * 32 = A at *
          generalize hB : (k + 1) * 32 = B at *
          clear hA hB hza hzb
          go_wp2_with fail
          refine (hca _).mono ?_
          rintro e wz ⟨rfl, e0⟩
          have e0 := e0.symm
          subst e0
          go_wp2_with fail
          refine wp_region_noPanic ?_
          refine wp_region_held_drew (S := fun w' => w' = wr.drew) (by kernel_rfl) (rfl) (fun hH0 => ?_)
          refine' wpAnyH_take (i := 0) (oi := { dst := some 20, op := Op.move (Operand.tmp 6), type := 3, pos := "ref.go:39", after := #[], guard := none }) (v := _) rfl (by kernel_rfl) (by kernel_rfl) (by kernel_rfl) (fun _ _ _ h => h) (Or.inl ⟨by rfl, ?hymt1000⟩) hH0 ?rmt1000
          case hymt1000 => (intro w' hSw; clear hSw; go_simp; try with_reducible rfl)
          simp only [Act.put, List.setIfInBounds_toArray, List.set_cons_zero, List.set_cons_succ]
          refine' wpAnyH_take (i := 1) (oi := { dst := some 21, op := Op.move (Operand.tmp 0), type := 9, pos := "ref.go:39", after := #[], guard := none }) (v := _) rfl (by kernel_rfl) (by kernel_rfl) (by kernel_rfl) (fun _ _ _ h => h) (Or.inl ⟨by rfl, ?hymt1001⟩) hH0 ?rmt1001
          case hymt1001 => (intro w' hSw; clear hSw; go_simp; try with_reducible rfl)
          simp only [Act.put, List.setIfInBounds_toArray, List.set_cons_zero, List.set_cons_succ]
          refine wpAnyH_ready (rs := [2]) (by kernel_rfl) (by simp) ?_
          refine AllReadyH.cons (o := { dst := some 22, op := Op.call { callee := Callee.value (Operand.func 22), args := #[Operand.tmp 21], argTypes := #[9] }, type := 3, pos := "ref.go:39", after := #[{ on := 1, ground := Ground.data }], guard := none }) rfl (fun K hK => ?_) AllReadyH.nil
          refine step_call_want (vs := #[.string sa]) (R := fun u wz => u = .int .i64 (Na : Int) ∧ wz = wr.drew) (by rfl) 22 #[Operand.tmp 21] #[9] rfl (by simp [Act.eval]) call21 (post_of (hca _)) ?_
          rintro _ y1 ⟨rfl, j1⟩
          subst j1
          refine hK.out _ _ (rfl) (fun hH1 => ?_)
          clear hK K hH0
          simp only [Act.put, List.setIfInBounds_toArray, List.set_cons_zero, List.set_cons_succ]
          refine' wpAnyH_take (i := 3) (oi := { dst := some 23, op := Op.binOp BinOp.geq 3 (Operand.tmp 20) (Operand.tmp 22) 3, type := 4, pos := "ref.go:39", after := #[{ on := 0, ground := Ground.data }, { on := 2, ground := Ground.data }], guard := none }) (v := _) rfl (by kernel_rfl) (by kernel_rfl) (by kernel_rfl) (fun _ _ _ h => h) (Or.inl ⟨by rfl, ?hymt1003⟩) hH1 ?rmt1003
          case hymt1003 => (intro w' hSw; clear hSw; go_simp; try with_reducible rfl)
          simp only [Act.put, List.setIfInBounds_toArray, List.set_cons_zero, List.set_cons_succ]
          refine' wpAnyH_take (i := 4) (oi := { dst := some 24, op := Op.move (Operand.tmp 23), type := 4, pos := "ref.go:39", after := #[{ on := 3, ground := Ground.data }, { on := 2, ground := Ground.chain }], guard := none }) (v := _) rfl (by kernel_rfl) (by kernel_rfl) (by kernel_rfl) (fun _ _ _ h => h) (Or.inl ⟨by rfl, ?hymt1004⟩) hH1 ?rmt1004
          case hymt1004 => (intro w' hSw; clear hSw; go_simp; try with_reducible rfl)
          simp only [Act.put, List.setIfInBounds_toArray, List.set_cons_zero, List.set_cons_succ]
          refine' wpAnyH_take (i := 5) (oi := { dst := some 25, op := Op.move (Operand.tmp 6), type := 3, pos := "ref.go:39", after := #[{ on := 4, ground := Ground.guard }], guard := some (4, false) }) (v := _) rfl (by kernel_rfl) (by kernel_rfl) (by kernel_rfl) (fun _ _ _ h => h) (Or.inl ⟨by rfl, ?hymt1005⟩) hH1 ?rmt1005
          case hymt1005 => (intro w' hSw; clear hSw; go_simp; try with_reducible rfl)
          simp only [Act.put, List.setIfInBounds_toArray, List.set_cons_zero, List.set_cons_succ]
          refine' wpAnyH_take (i := 6) (oi := { dst := some 26, op := Op.move (Operand.tmp 1), type := 9, pos := "ref.go:39", after := #[{ on := 4, ground := Ground.guard }], guard := some (4, false) }) (v := _) rfl (by kernel_rfl) (by kernel_rfl) (by kernel_rfl) (fun _ _ _ h => h) (Or.inl ⟨by rfl, ?hymt1006⟩) hH1 ?rmt1006
          case hymt1006 => (intro w' hSw; clear hSw; go_simp; try with_reducible rfl)
          simp only [Act.put, List.setIfInBounds_toArray, List.set_cons_zero, List.set_cons_succ]
          refine wpAnyH_ready (rs := [7]) (by kernel_rfl) (by simp) ?_
          refine AllReadyH.cons (o := { dst := some 27, op := Op.call { callee := Callee.value (Operand.func 22), args := #[Operand.tmp 26], argTypes := #[9] }, type := 3, pos := "ref.go:39", after := #[{ on := 6, ground := Ground.data }, { on := 4, ground := Ground.chain }, { on := 4, ground := Ground.guard }], guard := some (4, false) }) rfl (fun K hK => ?_) AllReadyH.nil
          refine step_call_want (vs := #[.string sb]) (R := fun u wz => u = .int .i64 (Nb : Int) ∧ wz = wr.drew) (by rfl) 22 #[Operand.tmp 26] #[9] rfl (by simp [Act.eval]) call21 (post_of (hcb _)) ?_
          rintro _ y2 ⟨rfl, j2⟩
          subst j2
          refine hK.out _ _ (rfl) (fun hH2 => ?_)
          clear hK K hH1
          simp only [Act.put, List.setIfInBounds_toArray, List.set_cons_zero, List.set_cons_succ]
          refine' wpAnyH_take (i := 8) (oi := { dst := some 28, op := Op.binOp BinOp.geq 3 (Operand.tmp 25) (Operand.tmp 27) 3, type := 4, pos := "ref.go:39", after := #[{ on := 5, ground := Ground.data }, { on := 7, ground := Ground.data }, { on := 4, ground := Ground.guard }], guard := some (4, false) }) (v := _) rfl (by kernel_rfl) (by kernel_rfl) (by kernel_rfl) (fun _ _ _ h => h) (Or.inl ⟨by rfl, ?hymt1008⟩) hH2 ?rmt1008
          case hymt1008 => (intro w' hSw; clear hSw; go_simp; try with_reducible rfl)
          simp only [Act.put, List.setIfInBounds_toArray, List.set_cons_zero, List.set_cons_succ]
          refine' wpAnyH_take (i := 9) (oi := { dst := some 29, op := Op.pick (Operand.tmp 24) (Operand.const (Value.bool true)) (Operand.tmp 28), type := 4, pos := "ref.go:39", after := #[{ on := 4, ground := Ground.data }, { on := 8, ground := Ground.data }], guard := none }) (v := _) rfl (by kernel_rfl) (by kernel_rfl) (by kernel_rfl) (fun _ _ _ h => h) (Or.inl ⟨by rfl, ?hymt1009⟩) hH2 ?rmt1009
          case hymt1009 => (intro w' hSw; clear hSw; go_simp; try with_reducible rfl)
          simp only [Act.put, List.setIfInBounds_toArray, List.set_cons_zero, List.set_cons_succ]
          refine' wpAnyH_take (i := 10) (oi := { dst := some 30, op := Op.move (Operand.tmp 29), type := 4, pos := "ref.go:39", after := #[{ on := 9, ground := Ground.data }, { on := 7, ground := Ground.chain }], guard := none }) (v := _) rfl (by kernel_rfl) (by kernel_rfl) (by kernel_rfl) (fun _ _ _ h => h) (Or.inl ⟨by rfl, ?hymt10010⟩) hH2 ?rmt10010
          case hymt10010 => (intro w' hSw; clear hSw; go_simp; try with_reducible rfl)
          simp only [Act.put, List.setIfInBounds_toArray, List.set_cons_zero, List.set_cons_succ]
          refine' wpAnyH_take (i := 11) (oi := { dst := some 31, op := Op.move (Operand.tmp 0), type := 9, pos := "ref.go:39", after := #[{ on := 10, ground := Ground.guard }], guard := some (10, false) }) (v := undef) rfl (by kernel_rfl) (by kernel_rfl) (by kernel_rfl) (fun _ _ _ h => h) (Or.inr ⟨by rfl, rfl⟩) hH2 ?rmt10011
          simp only [Act.put, List.setIfInBounds_toArray, List.set_cons_zero, List.set_cons_succ]
          refine' wpAnyH_take (i := 12) (oi := { dst := some 32, op := Op.move (Operand.tmp 6), type := 3, pos := "ref.go:39", after := #[{ on := 10, ground := Ground.guard }], guard := some (10, false) }) (v := undef) rfl (by kernel_rfl) (by kernel_rfl) (by kernel_rfl) (fun _ _ _ h => h) (Or.inr ⟨by rfl, rfl⟩) hH2 ?rmt10012
          simp only [Act.put, List.setIfInBounds_toArray, List.set_cons_zero, List.set_cons_succ]
          refine' wpAnyH_take (i := 13) (oi := { dst := some 33, op := Op.binOp BinOp.mul 3 (Operand.tmp 32) (Operand.const (Value.int IntKind.i64 32)) 3, type := 3, pos := "ref.go:39", after := #[{ on := 12, ground := Ground.data }, { on := 10, ground := Ground.guard }], guard := some (10, false) }) (v := undef) rfl (by kernel_rfl) (by kernel_rfl) (by kernel_rfl) (fun _ _ _ h => h) (Or.inr ⟨by rfl, rfl⟩) hH2 ?rmt10013
          simp only [Act.put, List.setIfInBounds_toArray, List.set_cons_zero, List.set_cons_succ]
          refine' wpAnyH_take (i := 14) (oi := { dst := some 34, op := Op.move (Operand.tmp 6), type := 3, pos := "ref.go:39", after := #[{ on := 10, ground := Ground.guard }], guard := some (10, false) }) (v := undef) rfl (by kernel_rfl) (by kernel_rfl) (by kernel_rfl) (fun _ _ _ h => h) (Or.inr ⟨by rfl, rfl⟩) hH2 ?rmt10014
          simp only [Act.put, List.setIfInBounds_toArray, List.set_cons_zero, List.set_cons_succ]
          refine' wpAnyH_take (i := 15) (oi := { dst := some 35, op := Op.binOp BinOp.add 3 (Operand.tmp 34) (Operand.const (Value.int IntKind.i64 1)) 3, type := 3, pos := "ref.go:39", after := #[{ on := 14, ground := Ground.data }, { on := 10, ground := Ground.guard }], guard := some (10, false) }) (v := undef) rfl (by kernel_rfl) (by kernel_rfl) (by kernel_rfl) (fun _ _ _ h => h) (Or.inr ⟨by rfl, rfl⟩) hH2 ?rmt10015
          simp only [Act.put, List.setIfInBounds_toArray, List.set_cons_zero, List.set_cons_succ]
          refine' wpAnyH_take (i := 16) (oi := { dst := some 36, op := Op.binOp BinOp.mul 3 (Operand.tmp 35) (Operand.const (Value.int IntKind.i64 32)) 3, type := 3, pos := "ref.go:39", after := #[{ on := 15, ground := Ground.data }, { on := 10, ground := Ground.guard }], guard := some (10, false) }) (v := undef) rfl (by kernel_rfl) (by kernel_rfl) (by kernel_rfl) (fun _ _ _ h => h) (Or.inr ⟨by rfl, rfl⟩) hH2 ?rmt10016
          simp only [Act.put, List.setIfInBounds_toArray, List.set_cons_zero, List.set_cons_succ]
          refine' wpAnyH_take (i := 17) (oi := { dst := some 37, op := Op.slice 9 (Operand.tmp 31) (some (Operand.tmp 33)) (some (Operand.tmp 36)) none, type := 9, pos := "ref.go:39", after := #[{ on := 11, ground := Ground.data }, { on := 13, ground := Ground.data }, { on := 16, ground := Ground.data }, { on := 10, ground := Ground.guard }], guard := some (10, false) }) (v := undef) rfl (by kernel_rfl) (by kernel_rfl) (by kernel_rfl) (fun _ _ _ h => h) (Or.inr ⟨by rfl, rfl⟩) hH2 ?rmt10017
          simp only [Act.put, List.setIfInBounds_toArray, List.set_cons_zero, List.set_cons_succ]
          refine' wpAnyH_take (i := 18) (oi := { dst := some 38, op := Op.move (Operand.tmp 1), type := 9, pos := "ref.go:39", after := #[{ on := 10, ground := Ground.guard }], guard := some (10, false) }) (v := undef) rfl (by kernel_rfl) (by kernel_rfl) (by kernel_rfl) (fun _ _ _ h => h) (Or.inr ⟨by rfl, rfl⟩) hH2 ?rmt10018
          simp only [Act.put, List.setIfInBounds_toArray, List.set_cons_zero, List.set_cons_succ]
          refine' wpAnyH_take (i := 19) (oi := { dst := some 39, op := Op.move (Operand.tmp 6), type := 3, pos := "ref.go:39", after := #[{ on := 10, ground := Ground.guard }], guard := some (10, false) }) (v := undef) rfl (by kernel_rfl) (by kernel_rfl) (by kernel_rfl) (fun _ _ _ h => h) (Or.inr ⟨by rfl, rfl⟩) hH2 ?rmt10019
          simp only [Act.put, List.setIfInBounds_toArray, List.set_cons_zero, List.set_cons_succ]
          refine' wpAnyH_take (i := 20) (oi := { dst := some 40, op := Op.binOp BinOp.mul 3 (Operand.tmp 39) (Operand.const (Value.int IntKind.i64 32)) 3, type := 3, pos := "ref.go:39", after := #[{ on := 19, ground := Ground.data }, { on := 10, ground := Ground.guard }], guard := some (10, false) }) (v := undef) rfl (by kernel_rfl) (by kernel_rfl) (by kernel_rfl) (fun _ _ _ h => h) (Or.inr ⟨by rfl, rfl⟩) hH2 ?rmt10020
          simp only [Act.put, List.setIfInBounds_toArray, List.set_cons_zero, List.set_cons_succ]
          refine' wpAnyH_take (i := 21) (oi := { dst := some 41, op := Op.move (Operand.tmp 6), type := 3, pos := "ref.go:39", after := #[{ on := 10, ground := Ground.guard }], guard := some (10, false) }) (v := undef) rfl (by kernel_rfl) (by kernel_rfl) (by kernel_rfl) (fun _ _ _ h => h) (Or.inr ⟨by rfl, rfl⟩) hH2 ?rmt10021
          simp only [Act.put, List.setIfInBounds_toArray, List.set_cons_zero, List.set_cons_succ]
          refine' wpAnyH_take (i := 22) (oi := { dst := some 42, op := Op.binOp BinOp.add 3 (Operand.tmp 41) (Operand.const (Value.int IntKind.i64 1)) 3, type := 3, pos := "ref.go:39", after := #[{ on := 21, ground := Ground.data }, { on := 10, ground := Ground.guard }], guard := some (10, false) }) (v := undef) rfl (by kernel_rfl) (by kernel_rfl) (by kernel_rfl) (fun _ _ _ h => h) (Or.inr ⟨by rfl, rfl⟩) hH2 ?rmt10022
          simp only [Act.put, List.setIfInBounds_toArray, List.set_cons_zero, List.set_cons_succ]
          refine' wpAnyH_take (i := 23) (oi := { dst := some 43, op := Op.binOp BinOp.mul 3 (Operand.tmp 42) (Operand.const (Value.int IntKind.i64 32)) 3, type := 3, pos := "ref.go:39", after := #[{ on := 22, ground := Ground.data }, { on := 10, ground := Ground.guard }], guard := some (10, false) }) (v := undef) rfl (by kernel_rfl) (by kernel_rfl) (by kernel_rfl) (fun _ _ _ h => h) (Or.inr ⟨by rfl, rfl⟩) hH2 ?rmt10023
          simp only [Act.put, List.setIfInBounds_toArray, List.set_cons_zero, List.set_cons_succ]
          refine' wpAnyH_take (i := 24) (oi := { dst := some 44, op := Op.slice 9 (Operand.tmp 38) (some (Operand.tmp 40)) (some (Operand.tmp 43)) none, type := 9, pos := "ref.go:39", after := #[{ on := 18, ground := Ground.data }, { on := 20, ground := Ground.data }, { on := 23, ground := Ground.data }, { on := 10, ground := Ground.guard }], guard := some (10, false) }) (v := undef) rfl (by kernel_rfl) (by kernel_rfl) (by kernel_rfl) (fun _ _ _ h => h) (Or.inr ⟨by rfl, rfl⟩) hH2 ?rmt10024
          simp only [Act.put, List.setIfInBounds_toArray, List.set_cons_zero, List.set_cons_succ]
          refine' wpAnyH_take (i := 25) (oi := { dst := some 45, op := Op.binOp BinOp.neq 9 (Operand.tmp 37) (Operand.tmp 44) 9, type := 4, pos := "ref.go:39", after := #[{ on := 17, ground := Ground.data }, { on := 24, ground := Ground.data }, { on := 10, ground := Ground.guard }], guard := some (10, false) }) (v := undef) rfl (by kernel_rfl) (by kernel_rfl) (by kernel_rfl) (fun _ _ _ h => h) (Or.inr ⟨by rfl, rfl⟩) hH2 ?rmt10025
          simp only [Act.put, List.setIfInBounds_toArray, List.set_cons_zero, List.set_cons_succ]
          refine' wpAnyH_take (i := 26) (oi := { dst := some 46, op := Op.pick (Operand.tmp 30) (Operand.const (Value.bool true)) (Operand.tmp 45), type := 4, pos := "ref.go:39", after := #[{ on := 10, ground := Ground.data }, { on := 25, ground := Ground.data }], guard := none }) (v := _) rfl (by kernel_rfl) (by kernel_rfl) (by kernel_rfl) (fun _ _ _ h => h) (Or.inl ⟨by rfl, ?hymt10026⟩) hH2 ?rmt10026
          case hymt10026 => (intro w' hSw; clear hSw; go_simp; try with_reducible rfl)
          simp only [Act.put, List.setIfInBounds_toArray, List.set_cons_zero, List.set_cons_succ]
          refine wpAnyH_done (by kernel_rfl) ?_ _
          refine NoPanic.normal ?_
          have kd := (Keep.refl (fun _ => False) wr).drew
          generalize wr.drew = wd at kd ⊢
          obtain ⟨a2, c2, w2, happ, R2, -, -⟩ := ((show Ri w wr a' c' (dk k) from R1).more kd).app1 hkl2 (k : Int)
          rw [← show dk (k + 1) = _ from hs2] at R2
          generalize (dk k).length = n at happ hln ⊢
          clear hs2
          go_wp2_with (at_builtin; refine wpList_append_run rfl (.tmp 47) (.tmp 49) 40 rfl (by rfl) (by rfl) happ ?_)
          go_roundw
          case rel => exact ⟨k + 1, a2, c2, by have h : k + 1 ≤ max Na Nb ∧ max Na Nb ≤ 512 := hk1; omega, by go_num, by rw [show (dk (k + 1)).length = _ from hln], R2⟩
          case measure => have h : k + 1 ≤ max Na Nb ∧ max Na Nb ≤ 512 := hk1; simp [intOf]; omega
      · have b1 : ¬ (k : Int) < (Na : Int) := by omega
        rw [if_neg (fun h => by omega)] at hs
        have g1 : decide ((Na : Int) ≤ (k : Int)) = true := decide_eq_true (by omega)
        have g1b : decide ((k : Int) < (Na : Int)) = false := decide_eq_false b1
        have b2 : (k : Int) < (Nb : Int) := by omega
        have g2 : decide ((Nb : Int) ≤ (k : Int)) = false := decide_eq_false (by omega)
        have g2b : decide ((k : Int) < (Nb : Int)) = true := decide_eq_true b2
        have g1n : decide (Na ≤ k) = true := decide_eq_true (by omega)
        have g2n : decide (Nb ≤ k) = false := decide_eq_false (by omega)
        have hln : Hid ((dk (k + 1)).length = (dk k).length + 1) := by show _ = _; rw [hs]; simp
        have hkl2 : Hid ((dk k).length ≤ 100000) := by show _ ≤ _; omega
        have R1 : Hid (Ri w wr a' c' (dk k)) := R1
        have hs2 : Hid (dk (k + 1) = dk k ++ [(k : Int)]) := hs
        clear hs
        have hk1 : Hid (k + 1 ≤ max Na Nb ∧ max Na Nb ≤ 512) := ⟨hlt, by omega⟩
        clear hk hkl hlt
        generalize hA : k * 32 = A at *
        generalize hB : (k + 1) * 32 = B at *
        clear hA hB hza hzb
        go_wp2_with fail
        refine (hca _).mono ?_
        rintro e wz ⟨rfl, e0⟩
        have e0 := e0.symm
        subst e0
        go_wp2_with fail
        refine (hcb _).mono ?_
        rintro e wz ⟨rfl, e0⟩
        have e0 := e0.symm
        subst e0
        go_wp2_with fail
        refine wp_region_noPanic ?_
        refine wp_region_held_drew (S := fun w' => w' = wr.drew) (by kernel_rfl) (rfl) (fun hH0 => ?_)
        refine' wpAnyH_take (i := 0) (oi := { dst := some 20, op := Op.move (Operand.tmp 6), type := 3, pos := "ref.go:39", after := #[], guard := none }) (v := _) rfl (by kernel_rfl) (by kernel_rfl) (by kernel_rfl) (fun _ _ _ h => h) (Or.inl ⟨by rfl, ?hymt0100⟩) hH0 ?rmt0100
        case hymt0100 => (intro w' hSw; clear hSw; go_simp; try with_reducible rfl)
        simp only [Act.put, List.setIfInBounds_toArray, List.set_cons_zero, List.set_cons_succ]
        refine' wpAnyH_take (i := 1) (oi := { dst := some 21, op := Op.move (Operand.tmp 0), type := 9, pos := "ref.go:39", after := #[], guard := none }) (v := _) rfl (by kernel_rfl) (by kernel_rfl) (by kernel_rfl) (fun _ _ _ h => h) (Or.inl ⟨by rfl, ?hymt0101⟩) hH0 ?rmt0101
        case hymt0101 => (intro w' hSw; clear hSw; go_simp; try with_reducible rfl)
        simp only [Act.put, List.setIfInBounds_toArray, List.set_cons_zero, List.set_cons_succ]
        refine wpAnyH_ready (rs := [2]) (by kernel_rfl) (by simp) ?_
        refine AllReadyH.cons (o := { dst := some 22, op := Op.call { callee := Callee.value (Operand.func 22), args := #[Operand.tmp 21], argTypes := #[9] }, type := 3, pos := "ref.go:39", after := #[{ on := 1, ground := Ground.data }], guard := none }) rfl (fun K hK => ?_) AllReadyH.nil
        refine step_call_want (vs := #[.string sa]) (R := fun u wz => u = .int .i64 (Na : Int) ∧ wz = wr.drew) (by rfl) 22 #[Operand.tmp 21] #[9] rfl (by simp [Act.eval]) call21 (post_of (hca _)) ?_
        rintro _ y1 ⟨rfl, j1⟩
        subst j1
        refine hK.out _ _ (rfl) (fun hH1 => ?_)
        clear hK K hH0
        simp only [Act.put, List.setIfInBounds_toArray, List.set_cons_zero, List.set_cons_succ]
        refine' wpAnyH_take (i := 3) (oi := { dst := some 23, op := Op.binOp BinOp.geq 3 (Operand.tmp 20) (Operand.tmp 22) 3, type := 4, pos := "ref.go:39", after := #[{ on := 0, ground := Ground.data }, { on := 2, ground := Ground.data }], guard := none }) (v := _) rfl (by kernel_rfl) (by kernel_rfl) (by kernel_rfl) (fun _ _ _ h => h) (Or.inl ⟨by rfl, ?hymt0103⟩) hH1 ?rmt0103
        case hymt0103 => (intro w' hSw; clear hSw; go_simp; try with_reducible rfl)
        simp only [Act.put, List.setIfInBounds_toArray, List.set_cons_zero, List.set_cons_succ]
        refine' wpAnyH_take (i := 4) (oi := { dst := some 24, op := Op.move (Operand.tmp 23), type := 4, pos := "ref.go:39", after := #[{ on := 3, ground := Ground.data }, { on := 2, ground := Ground.chain }], guard := none }) (v := _) rfl (by kernel_rfl) (by kernel_rfl) (by kernel_rfl) (fun _ _ _ h => h) (Or.inl ⟨by rfl, ?hymt0104⟩) hH1 ?rmt0104
        case hymt0104 => (intro w' hSw; clear hSw; go_simp; try with_reducible rfl)
        simp only [Act.put, List.setIfInBounds_toArray, List.set_cons_zero, List.set_cons_succ]
        refine' wpAnyH_take (i := 5) (oi := { dst := some 25, op := Op.move (Operand.tmp 6), type := 3, pos := "ref.go:39", after := #[{ on := 4, ground := Ground.guard }], guard := some (4, false) }) (v := undef) rfl (by kernel_rfl) (by kernel_rfl) (by kernel_rfl) (fun _ _ _ h => h) (Or.inr ⟨by rfl, rfl⟩) hH1 ?rmt0105
        simp only [Act.put, List.setIfInBounds_toArray, List.set_cons_zero, List.set_cons_succ]
        refine' wpAnyH_take (i := 6) (oi := { dst := some 26, op := Op.move (Operand.tmp 1), type := 9, pos := "ref.go:39", after := #[{ on := 4, ground := Ground.guard }], guard := some (4, false) }) (v := undef) rfl (by kernel_rfl) (by kernel_rfl) (by kernel_rfl) (fun _ _ _ h => h) (Or.inr ⟨by rfl, rfl⟩) hH1 ?rmt0106
        simp only [Act.put, List.setIfInBounds_toArray, List.set_cons_zero, List.set_cons_succ]
        refine' wpAnyH_take (i := 7) (oi := { dst := some 27, op := Op.call { callee := Callee.value (Operand.func 22), args := #[Operand.tmp 26], argTypes := #[9] }, type := 3, pos := "ref.go:39", after := #[{ on := 6, ground := Ground.data }, { on := 4, ground := Ground.chain }, { on := 4, ground := Ground.guard }], guard := some (4, false) }) (v := undef) rfl (by kernel_rfl) (by kernel_rfl) (by kernel_rfl) (fun _ _ _ h => h) (Or.inr ⟨by rfl, rfl⟩) hH1 ?rmt0107
        simp only [Act.put, List.setIfInBounds_toArray, List.set_cons_zero, List.set_cons_succ]
        refine' wpAnyH_take (i := 8) (oi := { dst := some 28, op := Op.binOp BinOp.geq 3 (Operand.tmp 25) (Operand.tmp 27) 3, type := 4, pos := "ref.go:39", after := #[{ on := 5, ground := Ground.data }, { on := 7, ground := Ground.data }, { on := 4, ground := Ground.guard }], guard := some (4, false) }) (v := undef) rfl (by kernel_rfl) (by kernel_rfl) (by kernel_rfl) (fun _ _ _ h => h) (Or.inr ⟨by rfl, rfl⟩) hH1 ?rmt0108
        simp only [Act.put, List.setIfInBounds_toArray, List.set_cons_zero, List.set_cons_succ]
        refine' wpAnyH_take (i := 9) (oi := { dst := some 29, op := Op.pick (Operand.tmp 24) (Operand.const (Value.bool true)) (Operand.tmp 28), type := 4, pos := "ref.go:39", after := #[{ on := 4, ground := Ground.data }, { on := 8, ground := Ground.data }], guard := none }) (v := _) rfl (by kernel_rfl) (by kernel_rfl) (by kernel_rfl) (fun _ _ _ h => h) (Or.inl ⟨by rfl, ?hymt0109⟩) hH1 ?rmt0109
        case hymt0109 => (intro w' hSw; clear hSw; go_simp; try with_reducible rfl)
        simp only [Act.put, List.setIfInBounds_toArray, List.set_cons_zero, List.set_cons_succ]
        refine' wpAnyH_take (i := 10) (oi := { dst := some 30, op := Op.move (Operand.tmp 29), type := 4, pos := "ref.go:39", after := #[{ on := 9, ground := Ground.data }, { on := 7, ground := Ground.chain }], guard := none }) (v := _) rfl (by kernel_rfl) (by kernel_rfl) (by kernel_rfl) (fun _ _ _ h => h) (Or.inl ⟨by rfl, ?hymt01010⟩) hH1 ?rmt01010
        case hymt01010 => (intro w' hSw; clear hSw; go_simp; try with_reducible rfl)
        simp only [Act.put, List.setIfInBounds_toArray, List.set_cons_zero, List.set_cons_succ]
        refine' wpAnyH_take (i := 11) (oi := { dst := some 31, op := Op.move (Operand.tmp 0), type := 9, pos := "ref.go:39", after := #[{ on := 10, ground := Ground.guard }], guard := some (10, false) }) (v := undef) rfl (by kernel_rfl) (by kernel_rfl) (by kernel_rfl) (fun _ _ _ h => h) (Or.inr ⟨by rfl, rfl⟩) hH1 ?rmt01011
        simp only [Act.put, List.setIfInBounds_toArray, List.set_cons_zero, List.set_cons_succ]
        refine' wpAnyH_take (i := 12) (oi := { dst := some 32, op := Op.move (Operand.tmp 6), type := 3, pos := "ref.go:39", after := #[{ on := 10, ground := Ground.guard }], guard := some (10, false) }) (v := undef) rfl (by kernel_rfl) (by kernel_rfl) (by kernel_rfl) (fun _ _ _ h => h) (Or.inr ⟨by rfl, rfl⟩) hH1 ?rmt01012
        simp only [Act.put, List.setIfInBounds_toArray, List.set_cons_zero, List.set_cons_succ]
        refine' wpAnyH_take (i := 13) (oi := { dst := some 33, op := Op.binOp BinOp.mul 3 (Operand.tmp 32) (Operand.const (Value.int IntKind.i64 32)) 3, type := 3, pos := "ref.go:39", after := #[{ on := 12, ground := Ground.data }, { on := 10, ground := Ground.guard }], guard := some (10, false) }) (v := undef) rfl (by kernel_rfl) (by kernel_rfl) (by kernel_rfl) (fun _ _ _ h => h) (Or.inr ⟨by rfl, rfl⟩) hH1 ?rmt01013
        simp only [Act.put, List.setIfInBounds_toArray, List.set_cons_zero, List.set_cons_succ]
        refine' wpAnyH_take (i := 14) (oi := { dst := some 34, op := Op.move (Operand.tmp 6), type := 3, pos := "ref.go:39", after := #[{ on := 10, ground := Ground.guard }], guard := some (10, false) }) (v := undef) rfl (by kernel_rfl) (by kernel_rfl) (by kernel_rfl) (fun _ _ _ h => h) (Or.inr ⟨by rfl, rfl⟩) hH1 ?rmt01014
        simp only [Act.put, List.setIfInBounds_toArray, List.set_cons_zero, List.set_cons_succ]
        refine' wpAnyH_take (i := 15) (oi := { dst := some 35, op := Op.binOp BinOp.add 3 (Operand.tmp 34) (Operand.const (Value.int IntKind.i64 1)) 3, type := 3, pos := "ref.go:39", after := #[{ on := 14, ground := Ground.data }, { on := 10, ground := Ground.guard }], guard := some (10, false) }) (v := undef) rfl (by kernel_rfl) (by kernel_rfl) (by kernel_rfl) (fun _ _ _ h => h) (Or.inr ⟨by rfl, rfl⟩) hH1 ?rmt01015
        simp only [Act.put, List.setIfInBounds_toArray, List.set_cons_zero, List.set_cons_succ]
        refine' wpAnyH_take (i := 16) (oi := { dst := some 36, op := Op.binOp BinOp.mul 3 (Operand.tmp 35) (Operand.const (Value.int IntKind.i64 32)) 3, type := 3, pos := "ref.go:39", after := #[{ on := 15, ground := Ground.data }, { on := 10, ground := Ground.guard }], guard := some (10, false) }) (v := undef) rfl (by kernel_rfl) (by kernel_rfl) (by kernel_rfl) (fun _ _ _ h => h) (Or.inr ⟨by rfl, rfl⟩) hH1 ?rmt01016
        simp only [Act.put, List.setIfInBounds_toArray, List.set_cons_zero, List.set_cons_succ]
        refine' wpAnyH_take (i := 17) (oi := { dst := some 37, op := Op.slice 9 (Operand.tmp 31) (some (Operand.tmp 33)) (some (Operand.tmp 36)) none, type := 9, pos := "ref.go:39", after := #[{ on := 11, ground := Ground.data }, { on := 13, ground := Ground.data }, { on := 16, ground := Ground.data }, { on := 10, ground := Ground.guard }], guard := some (10, false) }) (v := undef) rfl (by kernel_rfl) (by kernel_rfl) (by kernel_rfl) (fun _ _ _ h => h) (Or.inr ⟨by rfl, rfl⟩) hH1 ?rmt01017
        simp only [Act.put, List.setIfInBounds_toArray, List.set_cons_zero, List.set_cons_succ]
        refine' wpAnyH_take (i := 18) (oi := { dst := some 38, op := Op.move (Operand.tmp 1), type := 9, pos := "ref.go:39", after := #[{ on := 10, ground := Ground.guard }], guard := some (10, false) }) (v := undef) rfl (by kernel_rfl) (by kernel_rfl) (by kernel_rfl) (fun _ _ _ h => h) (Or.inr ⟨by rfl, rfl⟩) hH1 ?rmt01018
        simp only [Act.put, List.setIfInBounds_toArray, List.set_cons_zero, List.set_cons_succ]
        refine' wpAnyH_take (i := 19) (oi := { dst := some 39, op := Op.move (Operand.tmp 6), type := 3, pos := "ref.go:39", after := #[{ on := 10, ground := Ground.guard }], guard := some (10, false) }) (v := undef) rfl (by kernel_rfl) (by kernel_rfl) (by kernel_rfl) (fun _ _ _ h => h) (Or.inr ⟨by rfl, rfl⟩) hH1 ?rmt01019
        simp only [Act.put, List.setIfInBounds_toArray, List.set_cons_zero, List.set_cons_succ]
        refine' wpAnyH_take (i := 20) (oi := { dst := some 40, op := Op.binOp BinOp.mul 3 (Operand.tmp 39) (Operand.const (Value.int IntKind.i64 32)) 3, type := 3, pos := "ref.go:39", after := #[{ on := 19, ground := Ground.data }, { on := 10, ground := Ground.guard }], guard := some (10, false) }) (v := undef) rfl (by kernel_rfl) (by kernel_rfl) (by kernel_rfl) (fun _ _ _ h => h) (Or.inr ⟨by rfl, rfl⟩) hH1 ?rmt01020
        simp only [Act.put, List.setIfInBounds_toArray, List.set_cons_zero, List.set_cons_succ]
        refine' wpAnyH_take (i := 21) (oi := { dst := some 41, op := Op.move (Operand.tmp 6), type := 3, pos := "ref.go:39", after := #[{ on := 10, ground := Ground.guard }], guard := some (10, false) }) (v := undef) rfl (by kernel_rfl) (by kernel_rfl) (by kernel_rfl) (fun _ _ _ h => h) (Or.inr ⟨by rfl, rfl⟩) hH1 ?rmt01021
        simp only [Act.put, List.setIfInBounds_toArray, List.set_cons_zero, List.set_cons_succ]
        refine' wpAnyH_take (i := 22) (oi := { dst := some 42, op := Op.binOp BinOp.add 3 (Operand.tmp 41) (Operand.const (Value.int IntKind.i64 1)) 3, type := 3, pos := "ref.go:39", after := #[{ on := 21, ground := Ground.data }, { on := 10, ground := Ground.guard }], guard := some (10, false) }) (v := undef) rfl (by kernel_rfl) (by kernel_rfl) (by kernel_rfl) (fun _ _ _ h => h) (Or.inr ⟨by rfl, rfl⟩) hH1 ?rmt01022
        simp only [Act.put, List.setIfInBounds_toArray, List.set_cons_zero, List.set_cons_succ]
        refine' wpAnyH_take (i := 23) (oi := { dst := some 43, op := Op.binOp BinOp.mul 3 (Operand.tmp 42) (Operand.const (Value.int IntKind.i64 32)) 3, type := 3, pos := "ref.go:39", after := #[{ on := 22, ground := Ground.data }, { on := 10, ground := Ground.guard }], guard := some (10, false) }) (v := undef) rfl (by kernel_rfl) (by kernel_rfl) (by kernel_rfl) (fun _ _ _ h => h) (Or.inr ⟨by rfl, rfl⟩) hH1 ?rmt01023
        simp only [Act.put, List.setIfInBounds_toArray, List.set_cons_zero, List.set_cons_succ]
        refine' wpAnyH_take (i := 24) (oi := { dst := some 44, op := Op.slice 9 (Operand.tmp 38) (some (Operand.tmp 40)) (some (Operand.tmp 43)) none, type := 9, pos := "ref.go:39", after := #[{ on := 18, ground := Ground.data }, { on := 20, ground := Ground.data }, { on := 23, ground := Ground.data }, { on := 10, ground := Ground.guard }], guard := some (10, false) }) (v := undef) rfl (by kernel_rfl) (by kernel_rfl) (by kernel_rfl) (fun _ _ _ h => h) (Or.inr ⟨by rfl, rfl⟩) hH1 ?rmt01024
        simp only [Act.put, List.setIfInBounds_toArray, List.set_cons_zero, List.set_cons_succ]
        refine' wpAnyH_take (i := 25) (oi := { dst := some 45, op := Op.binOp BinOp.neq 9 (Operand.tmp 37) (Operand.tmp 44) 9, type := 4, pos := "ref.go:39", after := #[{ on := 17, ground := Ground.data }, { on := 24, ground := Ground.data }, { on := 10, ground := Ground.guard }], guard := some (10, false) }) (v := undef) rfl (by kernel_rfl) (by kernel_rfl) (by kernel_rfl) (fun _ _ _ h => h) (Or.inr ⟨by rfl, rfl⟩) hH1 ?rmt01025
        simp only [Act.put, List.setIfInBounds_toArray, List.set_cons_zero, List.set_cons_succ]
        refine' wpAnyH_take (i := 26) (oi := { dst := some 46, op := Op.pick (Operand.tmp 30) (Operand.const (Value.bool true)) (Operand.tmp 45), type := 4, pos := "ref.go:39", after := #[{ on := 10, ground := Ground.data }, { on := 25, ground := Ground.data }], guard := none }) (v := _) rfl (by kernel_rfl) (by kernel_rfl) (by kernel_rfl) (fun _ _ _ h => h) (Or.inl ⟨by rfl, ?hymt01026⟩) hH1 ?rmt01026
        case hymt01026 => (intro w' hSw; clear hSw; go_simp; try with_reducible rfl)
        simp only [Act.put, List.setIfInBounds_toArray, List.set_cons_zero, List.set_cons_succ]
        refine wpAnyH_done (by kernel_rfl) ?_ _
        refine NoPanic.normal ?_
        have kd := (Keep.refl (fun _ => False) wr).drew
        generalize wr.drew = wd at kd ⊢
        obtain ⟨a2, c2, w2, happ, R2, -, -⟩ := ((show Ri w wr a' c' (dk k) from R1).more kd).app1 hkl2 (k : Int)
        rw [← show dk (k + 1) = _ from hs2] at R2
        generalize (dk k).length = n at happ hln ⊢
        clear hs2
        go_wp2_with (at_builtin; refine wpList_append_run rfl (.tmp 47) (.tmp 49) 40 rfl (by rfl) (by rfl) happ ?_)
        go_roundw
        case rel => exact ⟨k + 1, a2, c2, by have h : k + 1 ≤ max Na Nb ∧ max Na Nb ≤ 512 := hk1; omega, by go_num, by rw [show (dk (k + 1)).length = _ from hln], R2⟩
        case measure => have h : k + 1 ≤ max Na Nb ∧ max Na Nb ≤ 512 := hk1; simp [intOf]; omega
    · have b1 : ¬ (k : Int) < (Na : Int) := by omega
      have b2 : ¬ (k : Int) < (Nb : Int) := by omega
      obtain rfl : k = max Na Nb := by omega
      rw [← show D = dk (max Na Nb) from hD] at R1 ⊢
      clear hs hkl hlt hk
      go_wp2_with fail
      refine (hca _).mono ?_
      rintro e wz ⟨rfl, e0⟩
      have e0 := e0.symm
      subst e0
      go_wp2_with fail
      refine (hcb _).mono ?_
      rintro e wz ⟨rfl, e0⟩
      have e0 := e0.symm
      subst e0
      go_wp2_with fail
      go_ret
      exact ⟨a', c', rfl, R1⟩
end Tg
end Go.Proofs.Ytikepmdlpalpfaa
