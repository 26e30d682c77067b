/-
  DeltaRecords' body, given what the program's own calls answer.
-/
import Derived.Test.YtlekapfhbceibaaDk
namespace Go.Proofs.Ytlekapfhbceibaa
open Go.ChangeShapes Go.WideShapes Go.ChangeAt Go.RowKit
namespace Tg
open Vi
/-- The program's Record answers as it should. -/
def RecordOk : Prop := ∀ {w : World} {a : Option Addr} {cap : Nat} {l : List Rn}, Rz w a cap l → Fits l → Calls Try.prog 9 #[.slice a l.length cap] w fun e w' => (if mayB l = true then ∃ a' c', e = .returned (.tuple #[.slice a' (recL l).length c', .int .i64 0]) ∧ Row w' a' (recL l).length c' (recL l)
  else ∃ a' c', e = .returned (.tuple #[.slice a' 0 c', .int .i64 1])) ∧ Keep (fun _ => False) w w'
theorem call14 (args : Array Value) (w : World) : (callFunc 14 args).run Try.prog w = .ok (.enter 14 args) w := enters Try.func14 (by kernel_rfl) (by kernel_rfl) args w
theorem call12o (args : Array Value) (w : World) : (callFunc 12 args).run Try.prog w = .ok (.enter 12 args) w := enters Try.func12 (by kernel_rfl) (by kernel_rfl) args w
theorem rec_lenL {l : List Rn} (h : MayL l) : (recL l).length ≤ 140737488355000 := by
  have h2 := rec_len l (lb := 0) (ph := 0) h.2 (by omega) (by omega) (by omega) (by omega)
  have h3 : (vb (l.length : Int)).length ≤ 10 := vb_ten (by have := h.1; omega)
  have h4 := h.1
  unfold recL
  rw [List.length_append]
  omega
theorem Rp.app1L {w0 w : World} {a : Option Addr} {cap : Nat} {m : List Rn} (h : Rp w0 w a cap m) (hl : m.length ≤ 5864062014800) (x : Rn) :
    ∃ a' cap' w', (Builtin.append_ #[29, 29] 29 #[.slice a m.length cap, .slice (some ⟨w.heap.size, 0, none⟩) 1 1]).run Try.prog (w.alloc (.cells #[.int .i64 x.lba, .int .i64 x.len, .int .i64 x.phys] 28)) = .ok (.slice a' (m.length + 1) cap') w' ∧ Rp w0 w' a' cap' (m ++ [x]) := by
  obtain ⟨a', cap', w', h1, h2, -⟩ := (h.more ((Keep.refl (fun _ => False) w).alloc (.cells #[.int .i64 x.lba, .int .i64 x.len, .int .i64 x.phys] 28))).appL ⟨w.heap.size, 0, none⟩ 1 [x] (by simp; omega) (fun j u hu => cells_new w _ 28 j u (by simpa [rcells, rcs] using hu))
  exact ⟨a', cap', w', h1, h2⟩
theorem Rp.some {w0 w : World} {a : Option Addr} {cap : Nat} {m : List Rn} (h : Rp w0 w a cap m) (hm : m ≠ []) : ∃ g, a = some ⟨g, 0, none⟩ := by
  obtain ⟨g, hg, -⟩ := h.rs.2.2.resolve_left hm
  exact ⟨g, hg⟩
theorem Rz.init {w : World} {a : Option Addr} {cap : Nat} {l m : List Rn} (h : Rz w a cap (l ++ m)) : Rz w a cap l := by
  obtain ⟨h1, h2, h3⟩ := h
  rw [List.length_append] at h1
  refine ⟨by omega, h2, ?_⟩
  rcases h3 with e | ⟨g, o, rfl, hc⟩
  · exact Or.inl (List.append_eq_nil_iff.1 e).1
  · exact Or.inr ⟨g, o, rfl, fun i x hx => hc i x (by rw [List.getElem?_append_left (List.getElem?_eq_some_iff.1 hx).1]; exact hx)⟩
set_option maxRecDepth 100000 in
set_option maxHeartbeats 1000000 in
theorem records_walk (HA : AwOk) (HS : RecordOk) (HC : ChangesOk) {w : World} {a : Option Addr} {cap : Nat} {l : List Rn} (hR : Rz w a cap l) (hfi : Fits l) (hll : l.length ≤ 5864062014700) :
    Calls Try.prog 4 #[.slice a l.length cap] w fun e w' => e = .returned (.bool true) ∧ Keep (fun _ => False) w w' := by
  have hlc := hR.1
  have hlc2 := hR.2.1
  have hma := fun {w' : World} (k : Keep (fun _ => False) w w') => may_any (hR.more k)
  by_cases hf : mayB l = true
  · rw [hf] at hma
    have hF := mayB_iff.1 hf
    have hdec : decL (recL l) = some l := (decL_iff (bys_recL hF)).2 ⟨hF, rfl⟩
    have hrl := rec_lenL hF
    go_enter Try.func4, Try.ntmps4
    go_wp2_with fail
    refine (HA _).mono ?_
    rintro e w1 ⟨rfl, k1⟩
    obtain ⟨a2, c2, w2, hrun2, R2⟩ := copy_opsL (hR.more k1) (by omega)
    obtain ⟨a3, c3, w3, hrun3, R3⟩ := R2.app1L (by omega) ⟨7, 0, 0⟩
    have Z3 := R3.rs.rz
    have hc3 := Z3.1
    have hc4 := Z3.2.1
    rw [List.length_append, List.length_singleton] at hc3
    obtain ⟨g3, rfl⟩ := R3.some (by simp)
    have Z3' := Z3.init
    have K3 := k1.trans R3.keep
    go_wp2_with (first | (at_builtin; refine wpList_append_run rfl (.tmp 10) (.tmp 11) 29 rfl (by rfl) (by rfl) hrun2 ?_) | (at_builtin; refine wpList_append_run rfl (.tmp 12) (.tmp 14) 29 rfl (by rfl) (by rfl) hrun3 ?_))
    have hs := HS Z3' hfi
    simp only [hf, if_true] at hs
    refine hs.mono ?_
    rintro e w4 ⟨⟨a4, c4, rfl, R4⟩, k4⟩
    have K4 := K3.trans k4
    have hso := opsZ (Z3'.more k4) (hR.more K4) (by omega)
    rw [sameL_self] at hso
    clear hs hrun2 hrun3
    go_wp2_with fail
    refine hso.mono ?_
    rintro e w5a ⟨rfl, k5⟩
    have K5 := K4.trans k5
    go_wp2_with fail
    refine (hma K5).mono ?_
    rintro e w5 ⟨rfl, k5b⟩
    have K5b := K5.trans k5b
    have hch := HC (R4.moreV (k5.trans k5b)) hrl
    rw [hdec] at hch
    go_wp2_with fail
    refine hch.mono ?_
    rintro e w6 ⟨⟨a6, c6, rfl, R6⟩, k6⟩
    have K6 := K5b.trans k6
    have hSb := fun w' (h : Keep (fun _ => False) w6 w') => (R4.moreV (((k5.trans k5b).trans k6).trans h)).text
    have hsn : ∀ w', Keep (fun _ => False) w6 w' → Calls Try.prog 14 #[.slice a l.length cap] w' fun e w2 => ∃ g c, e = .returned (.slice (some ⟨g, 0, none⟩) (recL l).length c) ∧ Gr w' w2 g c (recL l) := fun w' h => record_any (hR.more (K6.trans h)) hF
    have hsa : ∀ w', Keep (fun _ => False) w6 w' → Calls Try.prog 12 #[.slice a6 l.length c6, .slice a l.length cap] w' fun e w2 => ∃ u, e = .returned u ∧ (fun u w2 => u = .bool true ∧ Keep (fun _ => False) w6 w2) u w2 := fun w' h => (opsZ (R6.more h) (hR.more (K6.trans h)) (by omega)).mono (by rintro e w2 ⟨rfl, k⟩; exact ⟨_, rfl, by rw [sameL_self], h.trans k⟩)
    clear hso hma hch HS HC HA
    go_wp2_with fail
    refine wp_region_noPanic ?_
    refine wp_region_held_drew (S := fun w' => Keep (fun _ => False) w6 w') (by kernel_rfl) ((Keep.refl _ _).drew) (fun hH0 => ?_)
    refine' wpAnyH_take (i := 0) (oi := { dst := some 43, op := Op.move (Operand.tmp 5), type := 24, pos := "law.go:60", after := #[], guard := none }) (v := _) rfl (by kernel_rfl) (by kernel_rfl) (by kernel_rfl) (fun _ _ _ h => h) (Or.inl ⟨by rfl, ?hy0⟩) hH0 ?r0
    case hy0 => (intro w' hSw; clear hSw; go_simp; try with_reducible rfl)
    simp only [Act.put, List.setIfInBounds_toArray, List.set_cons_zero, List.set_cons_succ]
    refine' wpAnyH_take (i := 1) (oi := { dst := some 44, op := Op.binOp BinOp.eql 24 (Operand.tmp 43) (Operand.const (Value.int IntKind.i64 0)) 24, type := 4, pos := "law.go:60", after := #[{ on := 0, ground := Ground.data }], guard := none }) (v := _) rfl (by kernel_rfl) (by kernel_rfl) (by kernel_rfl) (fun _ _ _ h => h) (Or.inl ⟨by rfl, ?hy1⟩) hH0 ?r1
    case hy1 => (intro w' hSw; clear hSw; go_simp; try with_reducible rfl)
    simp only [Act.put, List.setIfInBounds_toArray, List.set_cons_zero, List.set_cons_succ]
    refine' wpAnyH_take (i := 2) (oi := { dst := some 45, op := Op.move (Operand.tmp 44), type := 4, pos := "law.go:60", after := #[{ on := 1, ground := Ground.data }], guard := none }) (v := _) rfl (by kernel_rfl) (by kernel_rfl) (by kernel_rfl) (fun _ _ _ h => h) (Or.inl ⟨by rfl, ?hy2⟩) hH0 ?r2
    case hy2 => (intro w' hSw; clear hSw; go_simp; try with_reducible rfl)
    simp only [Act.put, List.setIfInBounds_toArray, List.set_cons_zero, List.set_cons_succ]
    refine' wpAnyH_take (i := 3) (oi := { dst := some 46, op := Op.move (Operand.tmp 7), type := 24, pos := "law.go:60", after := #[{ on := 2, ground := Ground.guard }], guard := some (2, true) }) (v := _) rfl (by kernel_rfl) (by kernel_rfl) (by kernel_rfl) (fun _ _ _ h => h) (Or.inl ⟨by rfl, ?hy3⟩) hH0 ?r3
    case hy3 => (intro w' hSw; clear hSw; go_simp; try with_reducible rfl)
    simp only [Act.put, List.setIfInBounds_toArray, List.set_cons_zero, List.set_cons_succ]
    refine' wpAnyH_take (i := 4) (oi := { dst := some 47, op := Op.binOp BinOp.eql 24 (Operand.tmp 46) (Operand.const (Value.int IntKind.i64 0)) 24, type := 4, pos := "law.go:60", after := #[{ on := 3, ground := Ground.data }, { on := 2, ground := Ground.guard }], guard := some (2, true) }) (v := _) rfl (by kernel_rfl) (by kernel_rfl) (by kernel_rfl) (fun _ _ _ h => h) (Or.inl ⟨by rfl, ?hy4⟩) hH0 ?r4
    case hy4 => (intro w' hSw; clear hSw; go_simp; try with_reducible rfl)
    simp only [Act.put, List.setIfInBounds_toArray, List.set_cons_zero, List.set_cons_succ]
    refine' wpAnyH_take (i := 5) (oi := { dst := some 48, op := Op.pick (Operand.tmp 45) (Operand.tmp 47) (Operand.const (Value.bool false)), type := 4, pos := "law.go:60", after := #[{ on := 2, ground := Ground.data }, { on := 4, ground := Ground.data }], guard := none }) (v := _) rfl (by kernel_rfl) (by kernel_rfl) (by kernel_rfl) (fun _ _ _ h => h) (Or.inl ⟨by rfl, ?hy5⟩) hH0 ?r5
    case hy5 => (intro w' hSw; clear hSw; go_simp; try with_reducible rfl)
    simp only [Act.put, List.setIfInBounds_toArray, List.set_cons_zero, List.set_cons_succ]
    refine' wpAnyH_take (i := 6) (oi := { dst := some 49, op := Op.move (Operand.tmp 48), type := 4, pos := "law.go:60", after := #[{ on := 5, ground := Ground.data }, { on := 2, ground := Ground.chain }], guard := none }) (v := _) rfl (by kernel_rfl) (by kernel_rfl) (by kernel_rfl) (fun _ _ _ h => h) (Or.inl ⟨by rfl, ?hy6⟩) hH0 ?r6
    case hy6 => (intro w' hSw; clear hSw; go_simp; try with_reducible rfl)
    simp only [Act.put, List.setIfInBounds_toArray, List.set_cons_zero, List.set_cons_succ]
    refine' wpAnyH_take (i := 7) (oi := { dst := some 50, op := Op.move (Operand.tmp 4), type := 23, pos := "law.go:60", after := #[{ on := 6, ground := Ground.guard }], guard := some (6, true) }) (v := _) rfl (by kernel_rfl) (by kernel_rfl) (by kernel_rfl) (fun _ _ _ h => h) (Or.inl ⟨by rfl, ?hy7⟩) hH0 ?r7
    case hy7 => (intro w' hSw; clear hSw; go_simp; try with_reducible rfl)
    simp only [Act.put, List.setIfInBounds_toArray, List.set_cons_zero, List.set_cons_succ]
    refine' wpAnyH_take (i := 8) (oi := { dst := some 51, op := Op.convert 23 9 (Operand.tmp 50), type := 9, pos := "law.go:60", after := #[{ on := 7, ground := Ground.data }, { on := 6, ground := Ground.guard }], guard := some (6, true) }) (v := .string (strOfNums (recL l))) rfl (by kernel_rfl) (by kernel_rfl) (by kernel_rfl) (fun _ _ _ h => h) (yields_conv (by rfl) 23 9 (.tmp 50) rfl (by rfl) (fun w' h => hSb w' h)) hH0 ?r8
    simp only [Act.put, List.setIfInBounds_toArray, List.set_cons_zero, List.set_cons_succ]
    refine' wpAnyH_take (i := 9) (oi := { dst := some 52, op := Op.move (Operand.tmp 0), type := 29, pos := "law.go:60", after := #[{ on := 6, ground := Ground.guard }], guard := some (6, true) }) (v := _) rfl (by kernel_rfl) (by kernel_rfl) (by kernel_rfl) (fun _ _ _ h => h) (Or.inl ⟨by rfl, ?hy9⟩) hH0 ?r9
    case hy9 => (intro w' hSw; clear hSw; go_simp; try with_reducible rfl)
    simp only [Act.put, List.setIfInBounds_toArray, List.set_cons_zero, List.set_cons_succ]
    refine wpAnyH_ready (rs := [10]) (by kernel_rfl) (by simp) ?_
    refine AllReadyH.cons (o := { dst := some 53, op := Op.call { callee := Callee.value (Operand.func 14), args := #[Operand.tmp 52], argTypes := #[29] }, type := 23, pos := "law.go:60", after := #[{ on := 9, ground := Ground.data }, { on := 6, ground := Ground.chain }, { on := 6, ground := Ground.guard }], guard := some (6, true) }) rfl (fun K hK => ?_) AllReadyH.nil
    refine step_call_want (vs := #[.slice a l.length cap]) (R := fun u w2 => ∃ g c, u = Value.slice (some ⟨g, 0, none⟩) (recL l).length c ∧ Row w2 (some ⟨g, 0, none⟩) (recL l).length c (recL l) ∧ Keep (fun _ => False) w6 w2) (by rfl) 14 #[Operand.tmp 52] #[29] rfl (by simp [Act.eval]) call14 (post_row rfl (hsn _ ((Keep.refl _ w6).drew)) ((Keep.refl _ w6).drew)) ?_
    rintro u w7 ⟨g7, cap7, rfl, hr7, hk7⟩
    refine hK.out _ _ (hk7) (fun hH1 => ?_)
    clear hK K hH0
    simp only [Act.put, List.setIfInBounds_toArray, List.set_cons_zero, List.set_cons_succ]
    have ht7 := hr7.text
    refine wpAnyH_ready (rs := [11]) (by kernel_rfl) (by simp) ?_
    refine AllReadyH.cons (o := { dst := some 54, op := Op.convert 23 9 (Operand.tmp 53), type := 9, pos := "law.go:60", after := #[{ on := 10, ground := Ground.data }, { on := 6, ground := Ground.guard }], guard := some (6, true) }) rfl (fun K hK => ?_) AllReadyH.nil
    refine step_conv_run (by rfl) 23 9 (.tmp 53) rfl (by rfl) ht7 ?_
    refine hK.out _ _ (hk7) (fun hH2 => ?_)
    clear hK K hH1
    simp only [Act.put, List.setIfInBounds_toArray, List.set_cons_zero, List.set_cons_succ]
    refine' wpAnyH_take (i := 12) (oi := { dst := some 55, op := Op.binOp BinOp.eql 9 (Operand.tmp 51) (Operand.tmp 54) 9, type := 4, pos := "law.go:60", after := #[{ on := 8, ground := Ground.data }, { on := 11, ground := Ground.data }, { on := 6, ground := Ground.guard }], guard := some (6, true) }) (v := _) rfl (by kernel_rfl) (by kernel_rfl) (by kernel_rfl) (fun _ _ _ h => h) (Or.inl ⟨by rfl, ?hy12⟩) hH2 ?r12
    case hy12 => (intro w' hSw; clear hSw; go_simp; try with_reducible rfl)
    simp only [Act.put, List.setIfInBounds_toArray, List.set_cons_zero, List.set_cons_succ]
    refine' wpAnyH_take (i := 13) (oi := { dst := some 56, op := Op.pick (Operand.tmp 49) (Operand.tmp 55) (Operand.const (Value.bool false)), type := 4, pos := "law.go:60", after := #[{ on := 6, ground := Ground.data }, { on := 12, ground := Ground.data }], guard := none }) (v := _) rfl (by kernel_rfl) (by kernel_rfl) (by kernel_rfl) (fun _ _ _ h => h) (Or.inl ⟨by rfl, ?hy13⟩) hH2 ?r13
    case hy13 => (intro w' hSw; clear hSw; go_simp; try with_reducible rfl)
    simp only [Act.put, List.setIfInBounds_toArray, List.set_cons_zero, List.set_cons_succ]
    refine' wpAnyH_take (i := 14) (oi := { dst := some 57, op := Op.move (Operand.tmp 56), type := 4, pos := "law.go:60", after := #[{ on := 13, ground := Ground.data }, { on := 10, ground := Ground.chain }], guard := none }) (v := _) rfl (by kernel_rfl) (by kernel_rfl) (by kernel_rfl) (fun _ _ _ h => h) (Or.inl ⟨by rfl, ?hy14⟩) hH2 ?r14
    case hy14 => (intro w' hSw; clear hSw; go_simp; try with_reducible rfl)
    simp only [Act.put, List.setIfInBounds_toArray, List.set_cons_zero, List.set_cons_succ]
    refine' wpAnyH_take (i := 15) (oi := { dst := some 58, op := Op.move (Operand.tmp 6), type := 29, pos := "law.go:60", after := #[{ on := 14, ground := Ground.guard }], guard := some (14, true) }) (v := _) rfl (by kernel_rfl) (by kernel_rfl) (by kernel_rfl) (fun _ _ _ h => h) (Or.inl ⟨by rfl, ?hy15⟩) hH2 ?r15
    case hy15 => (intro w' hSw; clear hSw; go_simp; try with_reducible rfl)
    simp only [Act.put, List.setIfInBounds_toArray, List.set_cons_zero, List.set_cons_succ]
    refine' wpAnyH_take (i := 16) (oi := { dst := some 59, op := Op.move (Operand.tmp 0), type := 29, pos := "law.go:60", after := #[{ on := 14, ground := Ground.guard }], guard := some (14, true) }) (v := _) rfl (by kernel_rfl) (by kernel_rfl) (by kernel_rfl) (fun _ _ _ h => h) (Or.inl ⟨by rfl, ?hy16⟩) hH2 ?r16
    case hy16 => (intro w' hSw; clear hSw; go_simp; try with_reducible rfl)
    simp only [Act.put, List.setIfInBounds_toArray, List.set_cons_zero, List.set_cons_succ]
    refine wpAnyH_ready (rs := [17]) (by kernel_rfl) (by simp) ?_
    refine AllReadyH.cons (o := { dst := some 60, op := Op.call { callee := Callee.value (Operand.func 12), args := #[Operand.tmp 58, Operand.tmp 59], argTypes := #[29, 29] }, type := 4, pos := "law.go:60", after := #[{ on := 15, ground := Ground.data }, { on := 16, ground := Ground.data }, { on := 14, ground := Ground.chain }, { on := 14, ground := Ground.guard }], guard := some (14, true) }) rfl (fun K hK => ?_) AllReadyH.nil
    refine step_call_want (vs := #[.slice a6 l.length c6, .slice a l.length cap]) (R := fun u w2 => u = .bool true ∧ Keep (fun _ => False) w6 w2) (by rfl) 12 #[Operand.tmp 58, Operand.tmp 59] #[29, 29] rfl (by simp [Act.eval]) call12o (hsa _ hk7) ?_
    rintro u w8 ⟨rfl, hk8⟩
    refine hK.out _ _ (hk8) (fun hH3 => ?_)
    clear hK K hH2
    simp only [Act.put, List.setIfInBounds_toArray, List.set_cons_zero, List.set_cons_succ]
    refine' wpAnyH_take (i := 18) (oi := { dst := some 61, op := Op.pick (Operand.tmp 57) (Operand.tmp 60) (Operand.const (Value.bool false)), type := 4, pos := "law.go:60", after := #[{ on := 14, ground := Ground.data }, { on := 17, ground := Ground.data }], guard := none }) (v := _) rfl (by kernel_rfl) (by kernel_rfl) (by kernel_rfl) (fun _ _ _ h => h) (Or.inl ⟨by rfl, ?hy18⟩) hH3 ?r18
    case hy18 => (intro w' hSw; clear hSw; go_simp; try with_reducible rfl)
    simp only [Act.put, List.setIfInBounds_toArray, List.set_cons_zero, List.set_cons_succ]
    refine' wpAnyH_take (i := 19) (oi := { dst := some 2, op := Op.assign (Operand.tmp 61), type := 4, pos := "law.go:60", after := #[{ on := 18, ground := Ground.data }, { on := 17, ground := Ground.chain }, { on := 0, ground := Ground.phase }, { on := 1, ground := Ground.phase }, { on := 2, ground := Ground.phase }, { on := 3, ground := Ground.phase }, { on := 4, ground := Ground.phase }, { on := 5, ground := Ground.phase }, { on := 6, ground := Ground.phase }, { on := 7, ground := Ground.phase }, { on := 8, ground := Ground.phase }, { on := 9, ground := Ground.phase }, { on := 10, ground := Ground.phase }, { on := 11, ground := Ground.phase }, { on := 12, ground := Ground.phase }, { on := 13, ground := Ground.phase }, { on := 14, ground := Ground.phase }, { on := 15, ground := Ground.phase }, { on := 16, ground := Ground.phase }, { on := 17, ground := Ground.phase }, { on := 18, ground := Ground.phase }], guard := none }) (v := _) rfl (by kernel_rfl) (by kernel_rfl) (by kernel_rfl) (fun _ _ _ h => h) (Or.inl ⟨by rfl, ?hy19⟩) hH3 ?r19
    case hy19 => (intro w' hSw; clear hSw; go_simp; try with_reducible rfl)
    simp only [Act.put, List.setIfInBounds_toArray, List.set_cons_zero, List.set_cons_succ]
    refine wpAnyH_done (by kernel_rfl) ?_ _
    refine NoPanic.normal ?_
    go_wp2_with fail
    go_ret
    exact ⟨rfl, K6.trans hk8⟩
  · rw [Bool.not_eq_true] at hf
    rw [hf] at hma
    go_enter Try.func4, Try.ntmps4
    go_wp2_with fail
    refine (HA _).mono ?_
    rintro e w1 ⟨rfl, k1⟩
    obtain ⟨a2, c2, w2, hrun2, R2⟩ := copy_opsL (hR.more k1) (by omega)
    obtain ⟨a3, c3, w3, hrun3, R3⟩ := R2.app1L (by omega) ⟨7, 0, 0⟩
    have Z3 := R3.rs.rz
    have hc3 := Z3.1
    have hc4 := Z3.2.1
    rw [List.length_append, List.length_singleton] at hc3
    obtain ⟨g3, rfl⟩ := R3.some (by simp)
    have Z3' := Z3.init
    have K3 := k1.trans R3.keep
    go_wp2_with (first | (at_builtin; refine wpList_append_run rfl (.tmp 10) (.tmp 11) 29 rfl (by rfl) (by rfl) hrun2 ?_) | (at_builtin; refine wpList_append_run rfl (.tmp 12) (.tmp 14) 29 rfl (by rfl) (by rfl) hrun3 ?_))
    have hs := HS Z3' hfi
    simp only [hf, Bool.false_eq_true, if_false] at hs
    refine hs.mono ?_
    rintro e w4 ⟨⟨a4, c4, rfl⟩, k4⟩
    have K4 := K3.trans k4
    have hso := opsZ (Z3'.more k4) (hR.more K4) (by omega)
    rw [sameL_self] at hso
    clear hs hrun2 hrun3
    go_wp2_with fail
    refine hso.mono ?_
    rintro e w5a ⟨rfl, k5⟩
    have K5 := K4.trans k5
    go_wp2_with fail
    refine (hma K5).mono ?_
    rintro e w5 ⟨rfl, k5b⟩
    have K5b := K5.trans k5b
    go_wp2_with fail
    go_ret
    exact ⟨rfl, K5b⟩
end Tg
end Go.Proofs.Ytlekapfhbceibaa
