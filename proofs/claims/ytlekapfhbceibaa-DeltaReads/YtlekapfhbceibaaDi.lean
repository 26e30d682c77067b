/-
  snaps, given what the program's own Snapshot and Runs answer.
-/
import Derived.Test.YtlekapfhbceibaaDh
namespace Go.Proofs.Ytlekapfhbceibaa
open Go.ChangeShapes Go.WideShapes Go.ChangeAt Go.RowKit
namespace Tg
open Vi
/-- The program's Snapshot answers as it should. -/
def SnapOk : Prop := ∀ {w : World} {a : Option Addr} {cap : Nat} {l : List Rn}, Rz w a cap l → Fits l → Calls Try.prog 20 #[.slice a l.length cap] w fun e w' => (if fitB l = true then ∃ a' c', e = .returned (.tuple #[.slice a' (snL l).length c', .int .i64 0]) ∧ Row w' a' (snL l).length c' (snL l)
  else ∃ a' c', e = .returned (.tuple #[.slice a' 0 c', .int .i64 1])) ∧ Keep (fun _ => False) w w'
theorem call18 (args : Array Value) (w : World) : (callFunc 18 args).run Try.prog w = .ok (.enter 18 args) w := enters Try.func18 (by kernel_rfl) (by kernel_rfl) args w
theorem call21 (args : Array Value) (w : World) : (callFunc 21 args).run Try.prog w = .ok (.enter 21 args) w := enters Try.func21 (by kernel_rfl) (by kernel_rfl) args w
theorem sn_len {l : List Rn} (h : FitL l) : (snL l).length ≤ 140737488355000 := by
  have h1 := short_all h
  have h2 := rec_len l (lb := 0) (ph := 0) h.may.2 (by omega) (by omega) (by omega) (by omega)
  have h3 : (vb (l.length : Int)).length ≤ 10 := vb_ten (by have := h.1; omega)
  have h4 := h.1
  unfold recL at h1
  rw [List.length_append] at h1
  omega
set_option maxRecDepth 100000 in
set_option maxHeartbeats 1000000 in
/-- snaps. -/
theorem snaps_any (HS : SnapOk) (HR : RunsOk) {w : World} {a : Option Addr} {cap : Nat} {l : List Rn} (hR : Rz w a cap l) (hfi : Fits l) :
    Calls Try.prog 19 #[.slice a l.length cap] w fun e w' => e = .returned (.bool true) ∧ Keep (fun _ => False) w w' := by
  have K0 := Keep.refl (fun _ => False) w
  have hs := HS hR hfi
  have hft := fun {w' : World} (k : Keep (fun _ => False) w w') => fits_any (hR.more k)
  by_cases hf : fitB l = true
  · simp only [hf, if_true] at hs
    rw [hf] at hft
    have hF := fitB_iff.1 hf
    have hdec : decS (snL l) = some l := (decS_iff (bys_snL hF)).2 ⟨hF, rfl⟩
    have hll := sn_len hF
    go_enter Try.func19, Try.ntmps19
    go_wp2_with fail
    refine hs.mono ?_
    rintro e w1 ⟨⟨a1, c1, rfl, R1⟩, k1⟩
    go_wp2_with fail
    refine (hft k1).mono ?_
    rintro e w2 ⟨rfl, k2⟩
    have hru := HR (R1.moreV k2) hll
    rw [hdec] at hru
    go_wp2_with fail
    refine hru.mono ?_
    rintro e w3 ⟨⟨a3, c3, rfl, R3⟩, k3⟩
    have hK3 := (k1.trans k2).trans k3
    have hSb := fun w' (h : Keep (fun _ => False) w3 w') => (R1.moreV ((k2.trans k3).trans h)).text
    have hsn : ∀ w', Keep (fun _ => False) w3 w' → Calls Try.prog 18 #[.slice a l.length cap] w' fun e w2 => ∃ g c, e = .returned (.slice (some ⟨g, 0, none⟩) (snL l).length c) ∧ Gr w' w2 g c (snL l) := fun w' h => snapshot_any (hR.more (hK3.trans h)) hF
    have hl5 := hF.1
    have hsa : ∀ w', Keep (fun _ => False) w3 w' → Calls Try.prog 21 #[.slice a3 l.length c3, .slice a l.length cap] w' fun e w2 => ∃ u, e = .returned u ∧ (fun u w2 => u = .bool true ∧ Keep (fun _ => False) w3 w2) u w2 := fun w' h => (sameZ (R3.more h) (hR.more (hK3.trans h)) (by omega)).mono (by rintro e w2 ⟨rfl, k⟩; exact ⟨_, rfl, by rw [sameL_self], h.trans k⟩)
    clear hs hft hru HS HR
    go_wp2_with fail
    refine wp_region_noPanic ?_
    refine wp_region_held_drew (S := fun w' => Keep (fun _ => False) w3 w') (by kernel_rfl) ((Keep.refl _ _).drew) (fun hH0 => ?_)
    refine' wpAnyH_take (i := 0) (oi := { dst := some 27, op := Op.move (Operand.tmp 4), type := 24, pos := "law.go:126", after := #[], guard := none }) (v := _) rfl (by kernel_rfl) (by kernel_rfl) (by kernel_rfl) (fun _ _ _ h => h) (Or.inl ⟨by rfl, ?hy0⟩) hH0 ?r0
    case hy0 => (intro w' hSw; clear hSw; go_simp; try with_reducible rfl)
    simp only [Act.put, List.setIfInBounds_toArray, List.set_cons_zero, List.set_cons_succ]
    refine' wpAnyH_take (i := 1) (oi := { dst := some 28, op := Op.binOp BinOp.eql 24 (Operand.tmp 27) (Operand.const (Value.int IntKind.i64 0)) 24, type := 4, pos := "law.go:126", after := #[{ on := 0, ground := Ground.data }], guard := none }) (v := _) rfl (by kernel_rfl) (by kernel_rfl) (by kernel_rfl) (fun _ _ _ h => h) (Or.inl ⟨by rfl, ?hy1⟩) hH0 ?r1
    case hy1 => (intro w' hSw; clear hSw; go_simp; try with_reducible rfl)
    simp only [Act.put, List.setIfInBounds_toArray, List.set_cons_zero, List.set_cons_succ]
    refine' wpAnyH_take (i := 2) (oi := { dst := some 29, op := Op.move (Operand.tmp 28), type := 4, pos := "law.go:126", after := #[{ on := 1, ground := Ground.data }], guard := none }) (v := _) rfl (by kernel_rfl) (by kernel_rfl) (by kernel_rfl) (fun _ _ _ h => h) (Or.inl ⟨by rfl, ?hy2⟩) hH0 ?r2
    case hy2 => (intro w' hSw; clear hSw; go_simp; try with_reducible rfl)
    simp only [Act.put, List.setIfInBounds_toArray, List.set_cons_zero, List.set_cons_succ]
    refine' wpAnyH_take (i := 3) (oi := { dst := some 30, op := Op.move (Operand.tmp 6), type := 24, pos := "law.go:126", after := #[{ on := 2, ground := Ground.guard }], guard := some (2, true) }) (v := _) rfl (by kernel_rfl) (by kernel_rfl) (by kernel_rfl) (fun _ _ _ h => h) (Or.inl ⟨by rfl, ?hy3⟩) hH0 ?r3
    case hy3 => (intro w' hSw; clear hSw; go_simp; try with_reducible rfl)
    simp only [Act.put, List.setIfInBounds_toArray, List.set_cons_zero, List.set_cons_succ]
    refine' wpAnyH_take (i := 4) (oi := { dst := some 31, op := Op.binOp BinOp.eql 24 (Operand.tmp 30) (Operand.const (Value.int IntKind.i64 0)) 24, type := 4, pos := "law.go:126", after := #[{ on := 3, ground := Ground.data }, { on := 2, ground := Ground.guard }], guard := some (2, true) }) (v := _) rfl (by kernel_rfl) (by kernel_rfl) (by kernel_rfl) (fun _ _ _ h => h) (Or.inl ⟨by rfl, ?hy4⟩) hH0 ?r4
    case hy4 => (intro w' hSw; clear hSw; go_simp; try with_reducible rfl)
    simp only [Act.put, List.setIfInBounds_toArray, List.set_cons_zero, List.set_cons_succ]
    refine' wpAnyH_take (i := 5) (oi := { dst := some 32, op := Op.pick (Operand.tmp 29) (Operand.tmp 31) (Operand.const (Value.bool false)), type := 4, pos := "law.go:126", after := #[{ on := 2, ground := Ground.data }, { on := 4, ground := Ground.data }], guard := none }) (v := _) rfl (by kernel_rfl) (by kernel_rfl) (by kernel_rfl) (fun _ _ _ h => h) (Or.inl ⟨by rfl, ?hy5⟩) hH0 ?r5
    case hy5 => (intro w' hSw; clear hSw; go_simp; try with_reducible rfl)
    simp only [Act.put, List.setIfInBounds_toArray, List.set_cons_zero, List.set_cons_succ]
    refine' wpAnyH_take (i := 6) (oi := { dst := some 33, op := Op.move (Operand.tmp 32), type := 4, pos := "law.go:126", after := #[{ on := 5, ground := Ground.data }, { on := 2, ground := Ground.chain }], guard := none }) (v := _) rfl (by kernel_rfl) (by kernel_rfl) (by kernel_rfl) (fun _ _ _ h => h) (Or.inl ⟨by rfl, ?hy6⟩) hH0 ?r6
    case hy6 => (intro w' hSw; clear hSw; go_simp; try with_reducible rfl)
    simp only [Act.put, List.setIfInBounds_toArray, List.set_cons_zero, List.set_cons_succ]
    refine' wpAnyH_take (i := 7) (oi := { dst := some 34, op := Op.move (Operand.tmp 3), type := 23, pos := "law.go:126", after := #[{ on := 6, ground := Ground.guard }], guard := some (6, true) }) (v := _) rfl (by kernel_rfl) (by kernel_rfl) (by kernel_rfl) (fun _ _ _ h => h) (Or.inl ⟨by rfl, ?hy7⟩) hH0 ?r7
    case hy7 => (intro w' hSw; clear hSw; go_simp; try with_reducible rfl)
    simp only [Act.put, List.setIfInBounds_toArray, List.set_cons_zero, List.set_cons_succ]
    refine' wpAnyH_take (i := 8) (oi := { dst := some 35, op := Op.convert 23 9 (Operand.tmp 34), type := 9, pos := "law.go:126", after := #[{ on := 7, ground := Ground.data }, { on := 6, ground := Ground.guard }], guard := some (6, true) }) (v := .string (strOfNums (snL l))) rfl (by kernel_rfl) (by kernel_rfl) (by kernel_rfl) (fun _ _ _ h => h) (yields_conv (by rfl) 23 9 (.tmp 34) rfl (by rfl) (fun w' h => hSb w' h)) hH0 ?r8
    simp only [Act.put, List.setIfInBounds_toArray, List.set_cons_zero, List.set_cons_succ]
    refine' wpAnyH_take (i := 9) (oi := { dst := some 36, op := Op.move (Operand.tmp 0), type := 32, pos := "law.go:126", after := #[{ on := 6, ground := Ground.guard }], guard := some (6, true) }) (v := _) rfl (by kernel_rfl) (by kernel_rfl) (by kernel_rfl) (fun _ _ _ h => h) (Or.inl ⟨by rfl, ?hy9⟩) hH0 ?r9
    case hy9 => (intro w' hSw; clear hSw; go_simp; try with_reducible rfl)
    simp only [Act.put, List.setIfInBounds_toArray, List.set_cons_zero, List.set_cons_succ]
    refine wpAnyH_ready (rs := [10]) (by kernel_rfl) (by simp) ?_
    refine AllReadyH.cons (o := { dst := some 37, op := Op.call { callee := Callee.value (Operand.func 18), args := #[Operand.tmp 36], argTypes := #[32] }, type := 23, pos := "law.go:126", after := #[{ on := 9, ground := Ground.data }, { on := 6, ground := Ground.chain }, { on := 6, ground := Ground.guard }], guard := some (6, true) }) rfl (fun K hK => ?_) AllReadyH.nil
    refine step_call_want (vs := #[.slice a l.length cap]) (R := fun u w2 => ∃ g c, u = Value.slice (some ⟨g, 0, none⟩) (snL l).length c ∧ Row w2 (some ⟨g, 0, none⟩) (snL l).length c (snL l) ∧ Keep (fun _ => False) w3 w2) (by rfl) 18 #[Operand.tmp 36] #[32] rfl (by simp [Act.eval]) call18 (post_row rfl (hsn _ ((Keep.refl _ w3).drew)) ((Keep.refl _ w3).drew)) ?_
    rintro u w6 ⟨g6, cap6, rfl, hr6, hk6⟩
    refine hK.out _ _ (hk6) (fun hH1 => ?_)
    clear hK K hH0
    simp only [Act.put, List.setIfInBounds_toArray, List.set_cons_zero, List.set_cons_succ]
    have ht6 := hr6.text
    refine wpAnyH_ready (rs := [11]) (by kernel_rfl) (by simp) ?_
    refine AllReadyH.cons (o := { dst := some 38, op := Op.convert 23 9 (Operand.tmp 37), type := 9, pos := "law.go:126", after := #[{ on := 10, ground := Ground.data }, { on := 6, ground := Ground.guard }], guard := some (6, true) }) rfl (fun K hK => ?_) AllReadyH.nil
    refine step_conv_run (by rfl) 23 9 (.tmp 37) rfl (by rfl) ht6 ?_
    refine hK.out _ _ (hk6) (fun hH2 => ?_)
    clear hK K hH1
    simp only [Act.put, List.setIfInBounds_toArray, List.set_cons_zero, List.set_cons_succ]
    refine' wpAnyH_take (i := 12) (oi := { dst := some 39, op := Op.binOp BinOp.eql 9 (Operand.tmp 35) (Operand.tmp 38) 9, type := 4, pos := "law.go:126", after := #[{ on := 8, ground := Ground.data }, { on := 11, ground := Ground.data }, { on := 6, ground := Ground.guard }], guard := some (6, true) }) (v := _) rfl (by kernel_rfl) (by kernel_rfl) (by kernel_rfl) (fun _ _ _ h => h) (Or.inl ⟨by rfl, ?hy12⟩) hH2 ?r12
    case hy12 => (intro w' hSw; clear hSw; go_simp; try with_reducible rfl)
    simp only [Act.put, List.setIfInBounds_toArray, List.set_cons_zero, List.set_cons_succ]
    refine' wpAnyH_take (i := 13) (oi := { dst := some 40, op := Op.pick (Operand.tmp 33) (Operand.tmp 39) (Operand.const (Value.bool false)), type := 4, pos := "law.go:126", after := #[{ on := 6, ground := Ground.data }, { on := 12, ground := Ground.data }], guard := none }) (v := _) rfl (by kernel_rfl) (by kernel_rfl) (by kernel_rfl) (fun _ _ _ h => h) (Or.inl ⟨by rfl, ?hy13⟩) hH2 ?r13
    case hy13 => (intro w' hSw; clear hSw; go_simp; try with_reducible rfl)
    simp only [Act.put, List.setIfInBounds_toArray, List.set_cons_zero, List.set_cons_succ]
    refine' wpAnyH_take (i := 14) (oi := { dst := some 41, op := Op.move (Operand.tmp 40), type := 4, pos := "law.go:126", after := #[{ on := 13, ground := Ground.data }, { on := 10, ground := Ground.chain }], guard := none }) (v := _) rfl (by kernel_rfl) (by kernel_rfl) (by kernel_rfl) (fun _ _ _ h => h) (Or.inl ⟨by rfl, ?hy14⟩) hH2 ?r14
    case hy14 => (intro w' hSw; clear hSw; go_simp; try with_reducible rfl)
    simp only [Act.put, List.setIfInBounds_toArray, List.set_cons_zero, List.set_cons_succ]
    refine' wpAnyH_take (i := 15) (oi := { dst := some 42, op := Op.move (Operand.tmp 5), type := 32, pos := "law.go:126", after := #[{ on := 14, ground := Ground.guard }], guard := some (14, true) }) (v := _) rfl (by kernel_rfl) (by kernel_rfl) (by kernel_rfl) (fun _ _ _ h => h) (Or.inl ⟨by rfl, ?hy15⟩) hH2 ?r15
    case hy15 => (intro w' hSw; clear hSw; go_simp; try with_reducible rfl)
    simp only [Act.put, List.setIfInBounds_toArray, List.set_cons_zero, List.set_cons_succ]
    refine' wpAnyH_take (i := 16) (oi := { dst := some 43, op := Op.move (Operand.tmp 0), type := 32, pos := "law.go:126", after := #[{ on := 14, ground := Ground.guard }], guard := some (14, true) }) (v := _) rfl (by kernel_rfl) (by kernel_rfl) (by kernel_rfl) (fun _ _ _ h => h) (Or.inl ⟨by rfl, ?hy16⟩) hH2 ?r16
    case hy16 => (intro w' hSw; clear hSw; go_simp; try with_reducible rfl)
    simp only [Act.put, List.setIfInBounds_toArray, List.set_cons_zero, List.set_cons_succ]
    refine wpAnyH_ready (rs := [17]) (by kernel_rfl) (by simp) ?_
    refine AllReadyH.cons (o := { dst := some 44, op := Op.call { callee := Callee.value (Operand.func 21), args := #[Operand.tmp 42, Operand.tmp 43], argTypes := #[32, 32] }, type := 4, pos := "law.go:126", after := #[{ on := 15, ground := Ground.data }, { on := 16, ground := Ground.data }, { on := 14, ground := Ground.chain }, { on := 14, ground := Ground.guard }], guard := some (14, true) }) rfl (fun K hK => ?_) AllReadyH.nil
    refine step_call_want (vs := #[.slice a3 l.length c3, .slice a l.length cap]) (R := fun u w2 => u = .bool true ∧ Keep (fun _ => False) w3 w2) (by rfl) 21 #[Operand.tmp 42, Operand.tmp 43] #[32, 32] rfl (by simp [Act.eval]) call21 (hsa _ hk6) ?_
    rintro u w7 ⟨rfl, hk7⟩
    refine hK.out _ _ (hk7) (fun hH3 => ?_)
    clear hK K hH2
    simp only [Act.put, List.setIfInBounds_toArray, List.set_cons_zero, List.set_cons_succ]
    refine' wpAnyH_take (i := 18) (oi := { dst := some 45, op := Op.pick (Operand.tmp 41) (Operand.tmp 44) (Operand.const (Value.bool false)), type := 4, pos := "law.go:126", after := #[{ on := 14, ground := Ground.data }, { on := 17, ground := Ground.data }], guard := none }) (v := _) rfl (by kernel_rfl) (by kernel_rfl) (by kernel_rfl) (fun _ _ _ h => h) (Or.inl ⟨by rfl, ?hy18⟩) hH3 ?r18
    case hy18 => (intro w' hSw; clear hSw; go_simp; try with_reducible rfl)
    simp only [Act.put, List.setIfInBounds_toArray, List.set_cons_zero, List.set_cons_succ]
    refine' wpAnyH_take (i := 19) (oi := { dst := some 2, op := Op.assign (Operand.tmp 45), type := 4, pos := "law.go:126", after := #[{ on := 18, ground := Ground.data }, { on := 17, ground := Ground.chain }, { on := 0, ground := Ground.phase }, { on := 1, ground := Ground.phase }, { on := 2, ground := Ground.phase }, { on := 3, ground := Ground.phase }, { on := 4, ground := Ground.phase }, { on := 5, ground := Ground.phase }, { on := 6, ground := Ground.phase }, { on := 7, ground := Ground.phase }, { on := 8, ground := Ground.phase }, { on := 9, ground := Ground.phase }, { on := 10, ground := Ground.phase }, { on := 11, ground := Ground.phase }, { on := 12, ground := Ground.phase }, { on := 13, ground := Ground.phase }, { on := 14, ground := Ground.phase }, { on := 15, ground := Ground.phase }, { on := 16, ground := Ground.phase }, { on := 17, ground := Ground.phase }, { on := 18, ground := Ground.phase }], guard := none }) (v := _) rfl (by kernel_rfl) (by kernel_rfl) (by kernel_rfl) (fun _ _ _ h => h) (Or.inl ⟨by rfl, ?hy19⟩) hH3 ?r19
    case hy19 => (intro w' hSw; clear hSw; go_simp; try with_reducible rfl)
    simp only [Act.put, List.setIfInBounds_toArray, List.set_cons_zero, List.set_cons_succ]
    refine wpAnyH_done (by kernel_rfl) ?_ _
    refine NoPanic.normal ?_
    go_wp2_with fail
    go_ret
    exact ⟨rfl, hK3.trans hk7⟩
  · rw [Bool.not_eq_true] at hf
    simp only [hf, Bool.false_eq_true, if_false] at hs
    rw [hf] at hft
    go_enter Try.func19, Try.ntmps19
    go_wp2_with fail
    refine hs.mono ?_
    rintro e w1 ⟨⟨a1, c1, rfl⟩, k1⟩
    go_wp2_with fail
    refine (hft k1).mono ?_
    rintro e w2 ⟨rfl, k2⟩
    go_wp2_with fail
    go_ret
    exact ⟨rfl, k1.trans k2⟩
end Tg
end Go.Proofs.Ytlekapfhbceibaa
