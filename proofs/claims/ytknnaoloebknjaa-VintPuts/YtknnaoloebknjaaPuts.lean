/-
  The statement of Put, walked: for any number and any rows of bytes it returns true, and whatever was in memory is as it was.
-/
import Derived.Test.YtknnaoloebknjaaAwake
import Derived.Test.YtknnaoloebknjaaSteps
namespace Go.Proofs.Ytknnaoloebknjaa
open Go.ChangeShapes Go.WideShapes Go.ChangeAt Go.RowKit
namespace Tg
open Vi

theorem Row.rest {w : World} {b o len cap k : Nat} {l : List Int} (h : Row w (some ⟨b, o, none⟩) len cap l) (hk : k ≤ len) : Row w (some ⟨b, o + k, none⟩) (len - k) (cap - k) (l.drop k) := by
  obtain ⟨h1, h2, h3, h4, h5⟩ := h
  refine ⟨by rw [List.length_drop, h1], by omega, by omega, fun n hn => h4 n (List.mem_of_mem_drop hn), ?_⟩
  by_cases e : len = k
  · left; omega
  · right
    rcases h5 with h0 | ⟨b', o', e', hc⟩
    · omega
    · simp only [Option.some.injEq, Addr.mk.injEq, and_true] at e'
      obtain ⟨rfl, rfl⟩ := e'
      refine ⟨_, _, rfl, fun i hi => ?_⟩
      rw [Nat.add_assoc, hc (k + i) (by omega)]
      simp [List.getD]

/-- A text becomes bytes of one's own. -/
theorem Gr.text (w : World) (l : List Int) (hb : ∀ n ∈ l, 0 ≤ n ∧ n ≤ 255) (hl : l.length ≤ 9223372036854775807) :
    ∃ cap w1, (convert 9 27 (.string (strOfNums l))).run Try.prog w = .ok (.slice (some ⟨w.heap.size, 0, none⟩) l.length cap) w1 ∧ Gr w w1 w.heap.size cap l := by
  obtain ⟨cap, w1, h1, h2, h3, h4, h5⟩ := text_row w l hb hl
  exact ⟨cap, w1, h1, h2, h5, Nat.le_refl _, Keep.of_below h3⟩
theorem Gr.start (w : World) : Gr w (w.alloc (.cells #[] 5)) w.heap.size 0 [] := ⟨⟨rfl, by simp, by omega, by simp, Or.inl rfl⟩, fun i hi => by omega, Nat.le_refl _, (Keep.refl _ _).alloc _⟩
theorem str_append (l m : List Int) : strOfNums l ++ strOfNums m = strOfNums (l ++ m) := by
  apply ByteArray.ext
  simp [strOfNums, ByteArray.data_append]

set_option maxRecDepth 100000 in
set_option maxHeartbeats 4000000 in
theorem puts_walk (w : World) {v : Int} (hv : 0 ≤ v ∧ v ≤ 18446744073709551615) {a0 a1 : Option Addr} {len0 cap0 len1 cap1 : Nat} {l0 l1 : List Int} (hr0 : Row w a0 len0 cap0 l0) (hr1 : Row w a1 len1 cap1 l1) (hn0 : len0 ≤ 140737488351232) (hn1 : len1 ≤ 140737488351232) :
    Calls Try.prog 4 #[.int .u64 v, .slice a0 len0 cap0, .slice a1 len1 cap1] w fun e w' => e = .returned (.bool true) ∧ Keep (fun _ => False) w w' := by
  obtain ⟨z, hz0⟩ : ∃ z, IntKind.i64.wrap v = z := ⟨_, rfl⟩
  have hz : -9223372036854775808 ≤ z ∧ z ≤ 9223372036854775807 := by rw [IntKind.wrap_i64] at hz0; omega
  have hl0 := hr0.1
  go_enter Try.func4, Try.ntmps4
  go_wp2_with fail
  refine (awake_any _).mono ?_
  rintro e w1 ⟨rfl, hk1⟩
  have ht0 := (hr0.keep hk1 (fun _ _ _ e => e)).text
  obtain ⟨cap2, w2, hrun2, hG2⟩ := Gr.text w1 l0 hr0.2.2.2.1 (by omega)
  obtain ⟨g3, cap3, w3, hrun3, hG3⟩ := hG2.one hl0 (x := 9) (by omega) (by omega)
  rw [hl0] at hrun2
  have hl3 : (l0 ++ [9]).length = len0 + 1 := by simp [hl0]
  have hr3 : Row w3 (some ⟨g3, 0, none⟩) len0 cap3 l0 := Row.init (m := [9]) (hG3.at hl3)
  have hc3 := hr3.2.1
  have hc3' : (len0 : Int) ≤ cap3 := by omega
  go_wp2_with (at_builtin; refine wpList_append_run rfl (.tmp 20) (.tmp 21) 27 rfl (by rfl) (by rfl) hrun3 ?_)
  have hp4 := put_any hr3 hv (by omega)
  clear hrun3 hrun2 ht0
  refine hp4.mono ?_
  rintro e w4 ⟨g4, cap4, rfl, hG4⟩
  have hp5 := putint_any (hr3.keep hG4.keep (fun _ _ _ e => e)) hz (by omega)
  clear hp4
  go_wp2_with fail
  refine hp5.mono ?_
  rintro e w5 ⟨g5, cap5, rfl, hG5⟩
  clear hp5
  have hK1 : Keep (fun _ => False) w w5 := ((hk1.trans hG3.keep).trans hG4.keep).trans hG5.keep
  have hk35 := hG4.keep.trans hG5.keep
  have hSa : ∀ w', Keep (fun _ => False) w5 w' → (convert 27 9 (.slice a0 len0 cap0)).run Try.prog w' = .ok (.string (strOfNums l0)) w' := fun w' h => (hr0.keep (hK1.trans h) (fun _ _ _ e => e)).text
  have hlb : (l0 ++ vb v).length = len0 + (vb v).length := by rw [List.length_append, hl0]
  have hlc : (l0 ++ vb (fold z)).length = len0 + (vb (fold z)).length := by rw [List.length_append, hl0]
  have hRb : ∀ w', Keep (fun _ => False) w5 w' → Row w' (some ⟨g4, 0, none⟩) (len0 + (vb v).length) cap4 (l0 ++ vb v) := fun w' h => (hG4.at hlb).keep (hG5.keep.trans h) (fun _ _ _ e => e)
  have hRc : ∀ w', Keep (fun _ => False) w5 w' → Row w' (some ⟨g5, 0, none⟩) (len0 + (vb (fold z)).length) cap5 (l0 ++ vb (fold z)) := fun w' h => (hG5.at hlc).keep h (fun _ _ _ e => e)
  have hSb := fun w' (h : Keep (fun _ => False) w5 w') => (hRb w' h).text
  have hSc := fun w' (h : Keep (fun _ => False) w5 w') => (hRc w' h).text
  have hS9 : ∀ w', Keep (fun _ => False) w5 w' → (convert 27 9 (.slice (some ⟨g3, 0, none⟩) (len0 + 1) cap3)).run Try.prog w' = .ok (.string (strOfNums (l0 ++ [9]))) w' := fun w' h => ((hG3.at hl3).keep (hk35.trans h) (fun _ _ _ e => e)).text
  have e1 := str_append l0 (vb v)
  have e2 := str_append l0 (vb (fold z))
  have e3 : strOfNums l0 ++ { data := #[9] } = strOfNums (l0 ++ [9]) := str_append l0 [9]
  have ten1 := vb_ten hv.2
  have ten2 := vb_ten (fold_bd hz).2
  have f1 : ¬ 9223372036854775807 < (strOfNums l0).size + (strOfNums (vb v)).size := by rw [strOfNums_size, strOfNums_size]; omega
  have f2 : ¬ 9223372036854775807 < (strOfNums l0).size + (strOfNums (vb (fold z))).size := by rw [strOfNums_size, strOfNums_size]; omega
  have f3 : ¬ 9223372036854775807 < (strOfNums l0).size + 1 := by rw [strOfNums_size]; omega
  go_wp2_with fail
  refine wp_region_noPanic ?_
  refine wp_region_held_drew (S := fun w' => Keep (fun _ => False) w5 w') (by kernel_rfl) ((Keep.refl _ _).drew) (fun hH0 => ?_)
  refine' wpAnyH_take (i := 0) (oi := { dst := some 36, op := Op.move (Operand.tmp 8), type := 27, pos := "law.go:38", after := #[], guard := none }) (v := _) rfl (by kernel_rfl) (by kernel_rfl) (by kernel_rfl) (fun _ _ _ h => h) (Or.inl ⟨by rfl, ?hy0⟩) hH0 ?r0
  case hy0 => (intro w' hSw; clear hSw; go_simp; try with_reducible rfl)
  simp only [Act.put, List.setIfInBounds_toArray, List.set_cons_zero, List.set_cons_succ]
  refine' wpAnyH_take (i := 1) (oi := { dst := some 37, op := Op.convert 27 9 (Operand.tmp 36), type := 9, pos := "law.go:38", after := #[{ on := 0, ground := Ground.data }], guard := none }) (v := .string (strOfNums (l0 ++ vb v))) rfl (by kernel_rfl) (by kernel_rfl) (by kernel_rfl) (fun _ _ _ h => h) (yields_conv (by rfl) 27 9 (.tmp 36) rfl (by rfl) (fun w' h => hSb w' h)) hH0 ?r1
  simp only [Act.put, List.setIfInBounds_toArray, List.set_cons_zero, List.set_cons_succ]
  refine' wpAnyH_take (i := 2) (oi := { dst := some 38, op := Op.move (Operand.tmp 1), type := 27, pos := "law.go:38", after := #[], guard := none }) (v := _) rfl (by kernel_rfl) (by kernel_rfl) (by kernel_rfl) (fun _ _ _ h => h) (Or.inl ⟨by rfl, ?hy2⟩) hH0 ?r2
  case hy2 => (intro w' hSw; clear hSw; go_simp; try with_reducible rfl)
  simp only [Act.put, List.setIfInBounds_toArray, List.set_cons_zero, List.set_cons_succ]
  refine' wpAnyH_take (i := 3) (oi := { dst := some 39, op := Op.convert 27 9 (Operand.tmp 38), type := 9, pos := "law.go:38", after := #[{ on := 2, ground := Ground.data }], guard := none }) (v := .string (strOfNums l0)) rfl (by kernel_rfl) (by kernel_rfl) (by kernel_rfl) (fun _ _ _ h => h) (yields_conv (by rfl) 27 9 (.tmp 38) rfl (by rfl) (fun w' h => hSa w' h)) hH0 ?r3
  simp only [Act.put, List.setIfInBounds_toArray, List.set_cons_zero, List.set_cons_succ]
  refine' wpAnyH_take (i := 4) (oi := { dst := some 40, op := Op.move (Operand.tmp 0), type := 23, pos := "law.go:38", after := #[], guard := none }) (v := _) rfl (by kernel_rfl) (by kernel_rfl) (by kernel_rfl) (fun _ _ _ h => h) (Or.inl ⟨by rfl, ?hy4⟩) hH0 ?r4
  case hy4 => (intro w' hSw; clear hSw; go_simp; try with_reducible rfl)
  simp only [Act.put, List.setIfInBounds_toArray, List.set_cons_zero, List.set_cons_succ]
  refine wpAnyH_ready (rs := [5]) (by kernel_rfl) (by simp) ?_
  refine AllReadyH.cons (o := { dst := some 41, op := Op.call { callee := Callee.value (Operand.func 12), args := #[Operand.tmp 40], argTypes := #[23] }, type := 27, pos := "law.go:38", after := #[{ on := 4, ground := Ground.data }], guard := none }) rfl (fun K hK => ?_) AllReadyH.nil
  refine step_call_want (vs := #[.int .u64 v]) (R := fun u w2 => ∃ g cap, u = Value.slice (some ⟨g, 0, none⟩) (vb v).length cap ∧ Row w2 (some ⟨g, 0, none⟩) (vb v).length cap (vb v) ∧ Keep (fun _ => False) w5 w2) (by rfl) 12 #[Operand.tmp 40] #[23] rfl (by simp [Act.eval]) call12 (post_row rfl (rput_any v _ hv) ((Keep.refl _ w5).drew)) ?_
  rintro u w6 ⟨g6, cap6, rfl, hr6, hk6⟩
  refine hK.out _ _ (hk6) (fun hH1 => ?_)
  clear hK K hH0
  simp only [Act.put, List.setIfInBounds_toArray, List.set_cons_zero, List.set_cons_succ]
  have ht6 := hr6.text
  refine wpAnyH_ready (rs := [6]) (by kernel_rfl) (by simp) ?_
  refine AllReadyH.cons (o := { dst := some 42, op := Op.convert 27 9 (Operand.tmp 41), type := 9, pos := "law.go:38", after := #[{ on := 5, ground := Ground.data }], guard := none }) rfl (fun K hK => ?_) AllReadyH.nil
  refine step_conv_run (by rfl) 27 9 (.tmp 41) rfl (by rfl) ht6 ?_
  refine hK.out _ _ (hk6) (fun hH2 => ?_)
  clear hK K hH1
  simp only [Act.put, List.setIfInBounds_toArray, List.set_cons_zero, List.set_cons_succ]
  refine' wpAnyH_take (i := 7) (oi := { dst := some 43, op := Op.binOp BinOp.add 9 (Operand.tmp 39) (Operand.tmp 42) 9, type := 9, pos := "law.go:38", after := #[{ on := 3, ground := Ground.data }, { on := 6, ground := Ground.data }], guard := none }) (v := _) rfl (by kernel_rfl) (by kernel_rfl) (by kernel_rfl) (fun _ _ _ h => h) (Or.inl ⟨by rfl, ?hy7⟩) hH2 ?r7
  case hy7 => (intro w' hSw; clear hSw; go_simp; try with_reducible rfl)
  simp only [Act.put, List.setIfInBounds_toArray, List.set_cons_zero, List.set_cons_succ]
  refine' wpAnyH_take (i := 8) (oi := { dst := some 44, op := Op.binOp BinOp.neq 9 (Operand.tmp 37) (Operand.tmp 43) 9, type := 4, pos := "law.go:38", after := #[{ on := 1, ground := Ground.data }, { on := 7, ground := Ground.data }], guard := none }) (v := _) rfl (by kernel_rfl) (by kernel_rfl) (by kernel_rfl) (fun _ _ _ h => h) (Or.inl ⟨by rfl, ?hy8⟩) hH2 ?r8
  case hy8 => (intro w' hSw; clear hSw; go_simp; try with_reducible rfl)
  simp only [Act.put, List.setIfInBounds_toArray, List.set_cons_zero, List.set_cons_succ]
  refine' wpAnyH_take (i := 9) (oi := { dst := some 45, op := Op.move (Operand.tmp 44), type := 4, pos := "law.go:38", after := #[{ on := 8, ground := Ground.data }, { on := 5, ground := Ground.chain }], guard := none }) (v := _) rfl (by kernel_rfl) (by kernel_rfl) (by kernel_rfl) (fun _ _ _ h => h) (Or.inl ⟨by rfl, ?hy9⟩) hH2 ?r9
  case hy9 => (intro w' hSw; clear hSw; go_simp; try with_reducible rfl)
  simp only [Act.put, List.setIfInBounds_toArray, List.set_cons_zero, List.set_cons_succ]
  refine' wpAnyH_take (i := 10) (oi := { dst := some 46, op := Op.move (Operand.tmp 9), type := 27, pos := "law.go:38", after := #[{ on := 9, ground := Ground.guard }], guard := some (9, false) }) (v := _) rfl (by kernel_rfl) (by kernel_rfl) (by kernel_rfl) (fun _ _ _ h => h) (Or.inl ⟨by rfl, ?hy10⟩) hH2 ?r10
  case hy10 => (intro w' hSw; clear hSw; go_simp; try with_reducible rfl)
  simp only [Act.put, List.setIfInBounds_toArray, List.set_cons_zero, List.set_cons_succ]
  refine' wpAnyH_take (i := 11) (oi := { dst := some 47, op := Op.convert 27 9 (Operand.tmp 46), type := 9, pos := "law.go:38", after := #[{ on := 10, ground := Ground.data }, { on := 9, ground := Ground.guard }], guard := some (9, false) }) (v := .string (strOfNums (l0 ++ vb (fold z)))) rfl (by kernel_rfl) (by kernel_rfl) (by kernel_rfl) (fun _ _ _ h => h) (yields_conv (by rfl) 27 9 (.tmp 46) rfl (by rfl) (fun w' h => hSc w' h)) hH2 ?r11
  simp only [Act.put, List.setIfInBounds_toArray, List.set_cons_zero, List.set_cons_succ]
  refine' wpAnyH_take (i := 12) (oi := { dst := some 48, op := Op.move (Operand.tmp 1), type := 27, pos := "law.go:38", after := #[{ on := 9, ground := Ground.guard }], guard := some (9, false) }) (v := _) rfl (by kernel_rfl) (by kernel_rfl) (by kernel_rfl) (fun _ _ _ h => h) (Or.inl ⟨by rfl, ?hy12⟩) hH2 ?r12
  case hy12 => (intro w' hSw; clear hSw; go_simp; try with_reducible rfl)
  simp only [Act.put, List.setIfInBounds_toArray, List.set_cons_zero, List.set_cons_succ]
  refine' wpAnyH_take (i := 13) (oi := { dst := some 49, op := Op.convert 27 9 (Operand.tmp 48), type := 9, pos := "law.go:38", after := #[{ on := 12, ground := Ground.data }, { on := 9, ground := Ground.guard }], guard := some (9, false) }) (v := .string (strOfNums l0)) rfl (by kernel_rfl) (by kernel_rfl) (by kernel_rfl) (fun _ _ _ h => h) (yields_conv (by rfl) 27 9 (.tmp 48) rfl (by rfl) (fun w' h => hSa w' h)) hH2 ?r13
  simp only [Act.put, List.setIfInBounds_toArray, List.set_cons_zero, List.set_cons_succ]
  refine' wpAnyH_take (i := 14) (oi := { dst := some 50, op := Op.move (Operand.tmp 0), type := 23, pos := "law.go:38", after := #[{ on := 9, ground := Ground.guard }], guard := some (9, false) }) (v := _) rfl (by kernel_rfl) (by kernel_rfl) (by kernel_rfl) (fun _ _ _ h => h) (Or.inl ⟨by rfl, ?hy14⟩) hH2 ?r14
  case hy14 => (intro w' hSw; clear hSw; go_simp; try with_reducible rfl)
  simp only [Act.put, List.setIfInBounds_toArray, List.set_cons_zero, List.set_cons_succ]
  refine' wpAnyH_take (i := 15) (oi := { dst := some 51, op := Op.convert 23 2 (Operand.tmp 50), type := 2, pos := "law.go:38", after := #[{ on := 14, ground := Ground.data }, { on := 9, ground := Ground.guard }], guard := some (9, false) }) (v := _) rfl (by kernel_rfl) (by kernel_rfl) (by kernel_rfl) (fun _ _ _ h => h) (Or.inl ⟨by rfl, ?hy15⟩) hH2 ?r15
  case hy15 => (intro w' hSw; clear hSw; go_simp; try with_reducible rfl)
  simp only [Act.put, List.setIfInBounds_toArray, List.set_cons_zero, List.set_cons_succ]
  refine wpAnyH_ready (rs := [16]) (by kernel_rfl) (by simp) ?_
  refine AllReadyH.cons (o := { dst := some 52, op := Op.call { callee := Callee.value (Operand.func 13), args := #[Operand.tmp 51], argTypes := #[2] }, type := 23, pos := "law.go:38", after := #[{ on := 15, ground := Ground.data }, { on := 9, ground := Ground.chain }, { on := 9, ground := Ground.guard }], guard := some (9, false) }) rfl (fun K hK => ?_) AllReadyH.nil
  refine step_call_want (vs := #[.int .i64 z]) (R := fun u w2 => u = .int .u64 (fold z) ∧ w2 = w6) (by rfl) 13 #[Operand.tmp 51] #[2] rfl (by simp [Act.eval]) call13 (post_same (rof_any hz _) hk6) ?_
  rintro u w2 ⟨rfl, rfl⟩
  refine hK.out _ _ (hk6) (fun hH3 => ?_)
  clear hK K hH2
  simp only [Act.put, List.setIfInBounds_toArray, List.set_cons_zero, List.set_cons_succ]
  refine wpAnyH_ready (rs := [17]) (by kernel_rfl) (by simp) ?_
  refine AllReadyH.cons (o := { dst := some 53, op := Op.call { callee := Callee.value (Operand.func 12), args := #[Operand.tmp 52], argTypes := #[23] }, type := 27, pos := "law.go:38", after := #[{ on := 16, ground := Ground.data }, { on := 16, ground := Ground.chain }, { on := 9, ground := Ground.guard }], guard := some (9, false) }) rfl (fun K hK => ?_) AllReadyH.nil
  refine step_call_want (vs := #[.int .u64 (fold z)]) (R := fun u w2 => ∃ g cap, u = Value.slice (some ⟨g, 0, none⟩) (vb (fold z)).length cap ∧ Row w2 (some ⟨g, 0, none⟩) (vb (fold z)).length cap (vb (fold z)) ∧ Keep (fun _ => False) w5 w2) (by rfl) 12 #[Operand.tmp 52] #[23] rfl (by simp [Act.eval]) call12 (post_row rfl (rput_any (fold z) _ (fold_bd hz)) hk6) ?_
  rintro u w7 ⟨g7, cap7, rfl, hr7, hk7⟩
  refine hK.out _ _ (hk7) (fun hH4 => ?_)
  clear hK K hH3
  simp only [Act.put, List.setIfInBounds_toArray, List.set_cons_zero, List.set_cons_succ]
  have ht7 := hr7.text
  refine wpAnyH_ready (rs := [18]) (by kernel_rfl) (by simp) ?_
  refine AllReadyH.cons (o := { dst := some 54, op := Op.convert 27 9 (Operand.tmp 53), type := 9, pos := "law.go:38", after := #[{ on := 17, ground := Ground.data }, { on := 9, ground := Ground.guard }], guard := some (9, false) }) rfl (fun K hK => ?_) AllReadyH.nil
  refine step_conv_run (by rfl) 27 9 (.tmp 53) rfl (by rfl) ht7 ?_
  refine hK.out _ _ (hk7) (fun hH5 => ?_)
  clear hK K hH4
  simp only [Act.put, List.setIfInBounds_toArray, List.set_cons_zero, List.set_cons_succ]
  refine' wpAnyH_take (i := 19) (oi := { dst := some 55, op := Op.binOp BinOp.add 9 (Operand.tmp 49) (Operand.tmp 54) 9, type := 9, pos := "law.go:38", after := #[{ on := 13, ground := Ground.data }, { on := 18, ground := Ground.data }, { on := 9, ground := Ground.guard }], guard := some (9, false) }) (v := _) rfl (by kernel_rfl) (by kernel_rfl) (by kernel_rfl) (fun _ _ _ h => h) (Or.inl ⟨by rfl, ?hy19⟩) hH5 ?r19
  case hy19 => (intro w' hSw; clear hSw; go_simp; try with_reducible rfl)
  simp only [Act.put, List.setIfInBounds_toArray, List.set_cons_zero, List.set_cons_succ]
  refine' wpAnyH_take (i := 20) (oi := { dst := some 56, op := Op.binOp BinOp.neq 9 (Operand.tmp 47) (Operand.tmp 55) 9, type := 4, pos := "law.go:38", after := #[{ on := 11, ground := Ground.data }, { on := 19, ground := Ground.data }, { on := 9, ground := Ground.guard }], guard := some (9, false) }) (v := _) rfl (by kernel_rfl) (by kernel_rfl) (by kernel_rfl) (fun _ _ _ h => h) (Or.inl ⟨by rfl, ?hy20⟩) hH5 ?r20
  case hy20 => (intro w' hSw; clear hSw; go_simp; try with_reducible rfl)
  simp only [Act.put, List.setIfInBounds_toArray, List.set_cons_zero, List.set_cons_succ]
  refine' wpAnyH_take (i := 21) (oi := { dst := some 57, op := Op.pick (Operand.tmp 45) (Operand.const (Value.bool true)) (Operand.tmp 56), type := 4, pos := "law.go:38", after := #[{ on := 9, ground := Ground.data }, { on := 20, ground := Ground.data }], guard := none }) (v := _) rfl (by kernel_rfl) (by kernel_rfl) (by kernel_rfl) (fun _ _ _ h => h) (Or.inl ⟨by rfl, ?hy21⟩) hH5 ?r21
  case hy21 => (intro w' hSw; clear hSw; go_simp; try with_reducible rfl)
  simp only [Act.put, List.setIfInBounds_toArray, List.set_cons_zero, List.set_cons_succ]
  refine' wpAnyH_take (i := 22) (oi := { dst := some 58, op := Op.move (Operand.tmp 57), type := 4, pos := "law.go:38", after := #[{ on := 21, ground := Ground.data }, { on := 17, ground := Ground.chain }], guard := none }) (v := _) rfl (by kernel_rfl) (by kernel_rfl) (by kernel_rfl) (fun _ _ _ h => h) (Or.inl ⟨by rfl, ?hy22⟩) hH5 ?r22
  case hy22 => (intro w' hSw; clear hSw; go_simp; try with_reducible rfl)
  simp only [Act.put, List.setIfInBounds_toArray, List.set_cons_zero, List.set_cons_succ]
  refine' wpAnyH_take (i := 23) (oi := { dst := some 59, op := Op.move (Operand.tmp 7), type := 27, pos := "law.go:38", after := #[{ on := 22, ground := Ground.guard }], guard := some (22, false) }) (v := _) rfl (by kernel_rfl) (by kernel_rfl) (by kernel_rfl) (fun _ _ _ h => h) (Or.inl ⟨by rfl, ?hy23⟩) hH5 ?r23
  case hy23 => (intro w' hSw; clear hSw; go_simp; try with_reducible rfl)
  simp only [Act.put, List.setIfInBounds_toArray, List.set_cons_zero, List.set_cons_succ]
  refine' wpAnyH_take (i := 24) (oi := { dst := some 60, op := Op.convert 27 9 (Operand.tmp 59), type := 9, pos := "law.go:38", after := #[{ on := 23, ground := Ground.data }, { on := 22, ground := Ground.guard }], guard := some (22, false) }) (v := .string (strOfNums (l0 ++ [9]))) rfl (by kernel_rfl) (by kernel_rfl) (by kernel_rfl) (fun _ _ _ h => h) (yields_conv (by rfl) 27 9 (.tmp 59) rfl (by rfl) (fun w' h => hS9 w' h)) hH5 ?r24
  simp only [Act.put, List.setIfInBounds_toArray, List.set_cons_zero, List.set_cons_succ]
  refine' wpAnyH_take (i := 25) (oi := { dst := some 61, op := Op.move (Operand.tmp 1), type := 27, pos := "law.go:38", after := #[{ on := 22, ground := Ground.guard }], guard := some (22, false) }) (v := _) rfl (by kernel_rfl) (by kernel_rfl) (by kernel_rfl) (fun _ _ _ h => h) (Or.inl ⟨by rfl, ?hy25⟩) hH5 ?r25
  case hy25 => (intro w' hSw; clear hSw; go_simp; try with_reducible rfl)
  simp only [Act.put, List.setIfInBounds_toArray, List.set_cons_zero, List.set_cons_succ]
  refine' wpAnyH_take (i := 26) (oi := { dst := some 62, op := Op.convert 27 9 (Operand.tmp 61), type := 9, pos := "law.go:38", after := #[{ on := 25, ground := Ground.data }, { on := 22, ground := Ground.guard }], guard := some (22, false) }) (v := .string (strOfNums l0)) rfl (by kernel_rfl) (by kernel_rfl) (by kernel_rfl) (fun _ _ _ h => h) (yields_conv (by rfl) 27 9 (.tmp 61) rfl (by rfl) (fun w' h => hSa w' h)) hH5 ?r26
  simp only [Act.put, List.setIfInBounds_toArray, List.set_cons_zero, List.set_cons_succ]
  refine' wpAnyH_take (i := 27) (oi := { dst := some 63, op := Op.binOp BinOp.add 9 (Operand.tmp 62) (Operand.const (Value.string { data := #[9] })) 9, type := 9, pos := "law.go:38", after := #[{ on := 26, ground := Ground.data }, { on := 22, ground := Ground.guard }], guard := some (22, false) }) (v := _) rfl (by kernel_rfl) (by kernel_rfl) (by kernel_rfl) (fun _ _ _ h => h) (Or.inl ⟨by rfl, ?hy27⟩) hH5 ?r27
  case hy27 => (intro w' hSw; clear hSw; go_simp; try with_reducible rfl)
  simp only [Act.put, List.setIfInBounds_toArray, List.set_cons_zero, List.set_cons_succ]
  refine' wpAnyH_take (i := 28) (oi := { dst := some 64, op := Op.binOp BinOp.neq 9 (Operand.tmp 60) (Operand.tmp 63) 9, type := 4, pos := "law.go:38", after := #[{ on := 24, ground := Ground.data }, { on := 27, ground := Ground.data }, { on := 22, ground := Ground.guard }], guard := some (22, false) }) (v := _) rfl (by kernel_rfl) (by kernel_rfl) (by kernel_rfl) (fun _ _ _ h => h) (Or.inl ⟨by rfl, ?hy28⟩) hH5 ?r28
  case hy28 => (intro w' hSw; clear hSw; go_simp; try with_reducible rfl)
  simp only [Act.put, List.setIfInBounds_toArray, List.set_cons_zero, List.set_cons_succ]
  refine' wpAnyH_take (i := 29) (oi := { dst := some 65, op := Op.pick (Operand.tmp 58) (Operand.const (Value.bool true)) (Operand.tmp 64), type := 4, pos := "law.go:38", after := #[{ on := 22, ground := Ground.data }, { on := 28, ground := Ground.data }], guard := none }) (v := _) rfl (by kernel_rfl) (by kernel_rfl) (by kernel_rfl) (fun _ _ _ h => h) (Or.inl ⟨by rfl, ?hy29⟩) hH5 ?r29
  case hy29 => (intro w' hSw; clear hSw; go_simp; try with_reducible rfl)
  simp only [Act.put, List.setIfInBounds_toArray, List.set_cons_zero, List.set_cons_succ]
  refine wpAnyH_done (by kernel_rfl) ?_ _
  refine NoPanic.normal ?_
  have hK7 := hK1.trans hk7
  have hr8 : ∀ w', Keep (fun _ => False) w5 w' → Row w' (some ⟨g4, len0, none⟩) (vb v).length (cap4 - len0) (vb v) := fun w' h => by
    have := (hRb w' h).rest (k := len0) (by omega)
    rw [Nat.zero_add, Nat.add_sub_cancel_left, ← hl0, List.drop_left] at this
    rw [← hl0]; exact this
  have hr9 : ∀ w', Keep (fun _ => False) w5 w' → Row w' (some ⟨g5, len0, none⟩) (vb (fold z)).length (cap5 - len0) (vb (fold z)) := fun w' h => by
    have := (hRc w' h).rest (k := len0) (by omega)
    rw [Nat.zero_add, Nat.add_sub_cancel_left, ← hl0, List.drop_left] at this
    rw [← hl0]; exact this
  have q4 := (hRb w5 (Keep.refl _ _)).2.1
  have q5 := (hRc w5 (Keep.refl _ _)).2.1
  have pos1 := vb_pos v
  have pos2 := vb_pos (fold z)
  have hg4 := get_put hv l1
  have hg5 := get_put (fold_bd hz) l1
  have hl15 := fun w' => len_any hv w'
  have HZ : Hid (IntKind.i64.wrap v = z) := hz0
  have HU : Hid (Vi.unfold (fold z) = z) := unfold_fold z
  clear e1 e2 e3 f1 f2 f3 hSa hSb hSc hS9 hRb hRc hlb hlc hl3 hr3 hc3 hc3' ht6 ht7 hr6 hr7 hG3 hG2
  obtain ⟨g8, cap8, w8, hrun8, hG8⟩ := (Gr.start w7).app rfl (hr8 _ (hk7.alloc _)) (by simp; omega)
  rw [List.nil_append] at hG8
  simp only [List.length_nil, Nat.zero_add] at hrun8
  obtain ⟨g9, cap9, w9, hrun9, hG9⟩ := hG8.app rfl (hr1.keep (hK7.trans hG8.keep) (fun _ _ _ e => e)) (by omega)
  have hget := get_any (hG9.at (n := (vb v).length + len1) (by rw [List.length_append, hr1.1]))
  obtain ⟨s1, s2, s3⟩ := gv_some hg4
  rw [s1, s2, s3] at hget
  have hk79 := hk7.trans hG9.keep
  have hK9 := hK7.trans hG9.keep
  clear s1 s2 s3 hg4 hG8 hG9 hr8
  obtain ⟨N1, hN1⟩ : ∃ n, (vb v).length = n := ⟨_, rfl⟩
  obtain ⟨N2, hN2⟩ : ∃ n, (vb (fold z)).length = n := ⟨_, rfl⟩
  simp only [hN1, hN2] at ten1 ten2 hr9 q4 q5 pos1 pos2 hg5 hl15 hrun8 hrun9 hget ⊢
  have d1 : ¬ cap4 = len0 := by omega
  have d2 : ¬ cap5 = len0 := by omega
  have d3 : (len0 : Int) ≤ len0 + N1 := by omega
  have d4 : (len0 : Int) ≤ len0 + N2 := by omega
  have d5 : ((len0 + N1 : Nat) : Int) ≤ cap4 := by omega
  have d6 : ((len0 + N2 : Nat) : Int) ≤ cap5 := by omega
  have HN2 : Hid ((vb (fold z)).length = N2) := hN2
  clear hN1 hN2
  go_wp2_with (at_builtin; first | (guard_target =~ wpList _ _ _ (Oper.mk _ (Op.call { callee := _, args := #[.tmp 67, .tmp 71], argTypes := _ }) _ _ _ _ :: _) _ _; refine wpList_append_run rfl (.tmp 67) (.tmp 71) 27 rfl (by rfl) (by rfl) hrun8 ?_) | (refine wpList_append_run rfl (.tmp 72) (.tmp 73) 27 rfl (by rfl) (by rfl) hrun9 ?_))
  refine hget.mono ?_
  rintro e w9 ⟨rfl, rfl⟩
  clear hget hrun8 hrun9
  obtain ⟨g10, cap10, w10, hrun10, hG10⟩ := (Gr.start w9).app rfl (hr9 _ (hk79.alloc _)) (by simp; omega)
  rw [List.nil_append] at hG10
  simp only [List.length_nil, Nat.zero_add] at hrun10
  obtain ⟨g11, cap11, w11, hrun11, hG11⟩ := hG10.app HN2.out (hr1.keep (hK9.trans hG10.keep) (fun _ _ _ e => e)) (by omega)
  have hget := getint_any (hG11.at (n := N2 + len1) (by rw [List.length_append, hr1.1, HN2.out]))
  obtain ⟨s1, s2, s3⟩ := gv_some hg5
  rw [gi_some hg5, HU.out, s2, s3] at hget
  have hK11 := hK9.trans hG11.keep
  clear s1 s2 s3 hg5 hG10 hG11 hr9
  have hl := hl15 w11
  go_wp2_with (at_builtin; first | (guard_target =~ wpList _ _ _ (Oper.mk _ (Op.call { callee := _, args := #[.tmp 80, .tmp 84], argTypes := _ }) _ _ _ _ :: _) _ _; refine wpList_append_run rfl (.tmp 80) (.tmp 84) 27 rfl (by rfl) (by rfl) hrun10 ?_) | (refine wpList_append_run rfl (.tmp 85) (.tmp 86) 27 rfl (by rfl) (by rfl) hrun11 ?_))
  refine hget.mono ?_
  rintro e w11 ⟨rfl, rfl⟩
  clear hget hrun10 hrun11
  have e1 : IntKind.i64.wrap ((len0 : Int) + N1 - len0) = N1 := by rw [IntKind.wrap_i64]; omega
  have e2 : IntKind.i64.wrap ((len0 : Int) + N2 - len0) = N2 := by rw [IntKind.wrap_i64]; omega
  go_wp2_with fail
  refine hl.mono ?_
  rintro e w11 ⟨rfl, rfl⟩
  go_wp2_with fail
  go_ret
  exact ⟨rfl, hK11⟩
end Tg
end Go.Proofs.Ytknnaoloebknjaa
