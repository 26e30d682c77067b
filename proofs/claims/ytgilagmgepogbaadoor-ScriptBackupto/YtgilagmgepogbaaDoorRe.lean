/-
  The document's own telling of a command: Text over any memory.
-/
import Derived.Test.YtgilagmgepogbaaDoorRd
set_option linter.unusedVariables false
namespace Go.Proofs.YtgilagmgepogbaaDoor
open Go.ChangeShapes Go.WideShapes Go.ChangeAt Go.RowKit
namespace Tg
open Qm Km

theorem rtext_cells (w : World) (k a b : Int) (d : ByteArray) : ∀ W, Keep (fun _ => False) (w.alloc (.cells #[.int .u8 k, .int .i64 a, .int .i64 b, .string d] 32)) W → W.cell? ⟨w.heap.size, 0, none⟩ = some (.int .u8 k) ∧ W.cell? ⟨w.heap.size, 1, none⟩ = some (.int .i64 a) ∧ W.cell? ⟨w.heap.size, 2, none⟩ = some (.int .i64 b) ∧ W.cell? ⟨w.heap.size, 3, none⟩ = some (.string d) := fun W k' => by
  rcases (rd_new w [.int .u8 k, .int .i64 a, .int .i64 b, .string d] 32).keep k' with h | ⟨b', o, h1, h2⟩
  · cases h
  · injection h1 with h1
    injection h1 with h1 h3
    subst h1 h3
    exact ⟨h2 0 _ rfl, h2 1 _ rfl, h2 2 _ rfl, h2 3 _ rfl⟩


set_option maxHeartbeats 2000000 in
set_option maxRecDepth 100000 in
theorem rtext_read (a b : Int) (ha : I64 a) (hb : I64 b) (d : ByteArray) (hd : d.size ≤ 35184372088000) (w : World) : Calls Tryd.prog 13 #[.agg #[.int .u8 114, .int .i64 a, .int .i64 b, .string d]] w fun e w' => e = .returned (.string (str (sRead ++ (32 :: nt a ++ (32 :: nt b))))) ∧ Keep (fun _ => False) w w' := by
  have hA := fun W => rnum_any a ha W
  have hB := fun W => rnum_any b hb W
  have sA : (str (nt a)).size ≤ 21 := by rw [str_size]; exact nt_len ha.1 ha.2
  have sB : (str (nt b)).size ≤ 21 := by rw [str_size]; exact nt_len hb.1 hb.2
  have HE : Hid ((⟨#[114, 101, 97, 100, 32]⟩ : ByteArray) ++ str (nt a) ++ (⟨#[32]⟩ : ByteArray) ++ str (nt b) = str (sRead ++ (32 :: nt a ++ (32 :: nt b)))) := by
    show _ = _
    rw [show (⟨#[114, 101, 97, 100, 32]⟩ : ByteArray) = str [114, 101, 97, 100, 32] from rfl, show (⟨#[32]⟩ : ByteArray) = str [32] from rfl, str_append, str_append, str_append]
    simp [sRead]
  generalize str (sRead ++ (32 :: nt a ++ (32 :: nt b))) = RES at *
  have Hc : Hid (∀ W, Keep (fun _ => False) (w.alloc (.cells #[.int .u8 114, .int .i64 a, .int .i64 b, .string d] 32)) W → W.cell? ⟨w.heap.size, 0, none⟩ = some (.int .u8 114) ∧ W.cell? ⟨w.heap.size, 1, none⟩ = some (.int .i64 a) ∧ W.cell? ⟨w.heap.size, 2, none⟩ = some (.int .i64 b) ∧ W.cell? ⟨w.heap.size, 3, none⟩ = some (.string d)) := rtext_cells w 114 a b d
  have HK : Hid (Keep (fun _ => False) w (w.alloc (.cells #[.int .u8 114, .int .i64 a, .int .i64 b, .string d] 32))) := (Keep.refl _ _).alloc _
  generalize str (nt a) = A at *
  generalize str (nt b) = B at *
  clear ha hb hd
  have j1 : ¬ 9223372036854775807 < 5 + A.size := by omega
  have j2 : ¬ 9223372036854775807 < 5 + A.size + 1 := by omega
  have j3 : ¬ 9223372036854775807 < 5 + A.size + 1 + B.size := by omega
  clear sA sB
  go_enter Tryd.func13, Tryd.ntmps13
  go_wp2_with fail
  generalize w.alloc (.cells #[.int .u8 114, .int .i64 a, .int .i64 b, .string d] 32) = wb at *
  refine wp_region_noPanic ?_
  refine wp_region_held_drew (S := fun w' => Keep (fun _ => False) wb w') (by kernel_rfl) ((Keep.refl _ _).drew) (fun hH0 => ?_)
  refine' wpAnyH_take (i := 0) (oi := { dst := some 7, op := Op.fieldAddr 32 (Operand.tmp 1) 1, type := 0, pos := "ref.go:180", after := #[], guard := none }) (v := _) rfl (by kernel_rfl) (by kernel_rfl) (by kernel_rfl) (fun _ _ _ h => h) (Or.inl ⟨by rfl, ?hya0⟩) hH0 ?ra0
  case hya0 => (intro w' hSw; clear hSw; go_simp; try with_reducible rfl)
  simp only [Act.put, List.setIfInBounds_toArray, List.set_cons_zero, List.set_cons_succ]
  refine' wpAnyH_take (i := 1) (oi := { dst := some 8, op := Op.load 3 (Operand.tmp 7), type := 3, pos := "ref.go:180", after := #[{ on := 0, ground := Ground.data }], guard := none }) (v := _) rfl (by kernel_rfl) (by kernel_rfl) (by kernel_rfl) (fun _ _ _ h => h) (Or.inl ⟨by rfl, ?hya1⟩) hH0 ?ra1
  case hya1 => (intro w' hSw; obtain ⟨c0, c1, c2, c3⟩ := Hc.out _ hSw; clear hSw; go_simp; try with_reducible rfl)
  simp only [Act.put, List.setIfInBounds_toArray, List.set_cons_zero, List.set_cons_succ]
  refine' wpAnyH_take (i := 5) (oi := { dst := some 12, op := Op.fieldAddr 32 (Operand.tmp 1) 2, type := 0, pos := "ref.go:180", after := #[], guard := none }) (v := _) rfl (by kernel_rfl) (by kernel_rfl) (by kernel_rfl) (fun _ _ _ h => h) (Or.inl ⟨by rfl, ?hya5⟩) hH0 ?ra5
  case hya5 => (intro w' hSw; clear hSw; go_simp; try with_reducible rfl)
  simp only [Act.put, List.setIfInBounds_toArray, List.set_cons_zero, List.set_cons_succ]
  refine' wpAnyH_take (i := 6) (oi := { dst := some 13, op := Op.load 3 (Operand.tmp 12), type := 3, pos := "ref.go:180", after := #[{ on := 5, ground := Ground.data }], guard := none }) (v := _) rfl (by kernel_rfl) (by kernel_rfl) (by kernel_rfl) (fun _ _ _ h => h) (Or.inl ⟨by rfl, ?hya6⟩) hH0 ?ra6
  case hya6 => (intro w' hSw; obtain ⟨c0, c1, c2, c3⟩ := Hc.out _ hSw; clear hSw; go_simp; try with_reducible rfl)
  simp only [Act.put, List.setIfInBounds_toArray, List.set_cons_zero, List.set_cons_succ]
  refine wpAnyH_ready (rs := [2]) (by kernel_rfl) (by simp) ?_
  refine AllReadyH.cons (o := { dst := some 9, op := Op.call { callee := Callee.value (Operand.func 26), args := #[Operand.tmp 8], argTypes := #[3] }, type := 9, pos := "ref.go:180", after := #[{ on := 1, ground := Ground.data }], guard := none }) rfl (fun K hK => ?_) AllReadyH.nil
  refine step_call_want (vs := #[.int .i64 a]) (R := fun u2 w2 => u2 = .string A ∧ Keep (fun _ => False) wb w2) (by rfl) 26 #[Operand.tmp 8] #[3] rfl (by simp [Act.eval]) ec26 (post_keep (hA _) hH0) ?_
  rintro u0 w2 ⟨rfl, hk0⟩
  refine hK.out _ _ (hk0) (fun hH1 => ?_)
  clear hK K hH0
  simp only [Act.put, List.setIfInBounds_toArray, List.set_cons_zero, List.set_cons_succ]
  refine' wpAnyH_take (i := 3) (oi := { dst := some 10, op := Op.binOp BinOp.add 9 (Operand.const (Value.string { data := #[114, 101, 97, 100, 32] })) (Operand.tmp 9) 9, type := 9, pos := "ref.go:180", after := #[{ on := 2, ground := Ground.data }], guard := none }) (v := _) rfl (by kernel_rfl) (by kernel_rfl) (by kernel_rfl) (fun _ _ _ h => h) (Or.inl ⟨by rfl, ?hya3⟩) hH1 ?ra3
  case hya3 => (intro w' hSw; clear hSw; go_simp; try with_reducible rfl)
  simp only [Act.put, List.setIfInBounds_toArray, List.set_cons_zero, List.set_cons_succ]
  refine' wpAnyH_take (i := 4) (oi := { dst := some 11, op := Op.binOp BinOp.add 9 (Operand.tmp 10) (Operand.const (Value.string { data := #[32] })) 9, type := 9, pos := "ref.go:180", after := #[{ on := 3, ground := Ground.data }], guard := none }) (v := _) rfl (by kernel_rfl) (by kernel_rfl) (by kernel_rfl) (fun _ _ _ h => h) (Or.inl ⟨by rfl, ?hya4⟩) hH1 ?ra4
  case hya4 => (intro w' hSw; clear hSw; go_simp; try with_reducible rfl)
  simp only [Act.put, List.setIfInBounds_toArray, List.set_cons_zero, List.set_cons_succ]
  refine wpAnyH_ready (rs := [7]) (by kernel_rfl) (by simp) ?_
  refine AllReadyH.cons (o := { dst := some 14, op := Op.call { callee := Callee.value (Operand.func 26), args := #[Operand.tmp 13], argTypes := #[3] }, type := 9, pos := "ref.go:180", after := #[{ on := 6, ground := Ground.data }, { on := 2, ground := Ground.chain }], guard := none }) rfl (fun K hK => ?_) AllReadyH.nil
  refine step_call_want (vs := #[.int .i64 b]) (R := fun u2 w2 => u2 = .string B ∧ Keep (fun _ => False) wb w2) (by rfl) 26 #[Operand.tmp 13] #[3] rfl (by simp [Act.eval]) ec26 (post_keep (hB _) hH1) ?_
  rintro u1 w3 ⟨rfl, hk1⟩
  refine hK.out _ _ (hk1) (fun hH2 => ?_)
  clear hK K hH1
  simp only [Act.put, List.setIfInBounds_toArray, List.set_cons_zero, List.set_cons_succ]
  refine' wpAnyH_take (i := 8) (oi := { dst := some 15, op := Op.binOp BinOp.add 9 (Operand.tmp 11) (Operand.tmp 14) 9, type := 9, pos := "ref.go:180", after := #[{ on := 4, ground := Ground.data }, { on := 7, ground := Ground.data }], guard := none }) (v := _) rfl (by kernel_rfl) (by kernel_rfl) (by kernel_rfl) (fun _ _ _ h => h) (Or.inl ⟨by rfl, ?hya8⟩) hH2 ?ra8
  case hya8 => (intro w' hSw; clear hSw; go_simp; try with_reducible rfl)
  simp only [Act.put, List.setIfInBounds_toArray, List.set_cons_zero, List.set_cons_succ]
  refine' wpAnyH_take (i := 9) (oi := { dst := some 2, op := Op.assign (Operand.tmp 15), type := 9, pos := "ref.go:180", after := #[{ on := 8, ground := Ground.data }, { on := 7, ground := Ground.chain }, { on := 0, ground := Ground.phase }, { on := 1, ground := Ground.phase }, { on := 2, ground := Ground.phase }, { on := 3, ground := Ground.phase }, { on := 4, ground := Ground.phase }, { on := 5, ground := Ground.phase }, { on := 6, ground := Ground.phase }, { on := 7, ground := Ground.phase }, { on := 8, ground := Ground.phase }], guard := none }) (v := _) rfl (by kernel_rfl) (by kernel_rfl) (by kernel_rfl) (fun _ _ _ h => h) (Or.inl ⟨by rfl, ?hya9⟩) hH2 ?ra9
  case hya9 => (intro w' hSw; clear hSw; go_simp; try with_reducible rfl)
  simp only [Act.put, List.setIfInBounds_toArray, List.set_cons_zero, List.set_cons_succ]
  refine wpAnyH_done (by kernel_rfl) ?_ _
  refine NoPanic.normal ?_
  go_wp2_with fail
  go_ret
  exact ⟨by rw [← HE.out]; rfl, HK.out.trans hk1⟩


set_option maxHeartbeats 2000000 in
set_option maxRecDepth 100000 in
theorem rtext_trim (a b : Int) (ha : I64 a) (hb : I64 b) (d : ByteArray) (hd : d.size ≤ 35184372088000) (w : World) : Calls Tryd.prog 13 #[.agg #[.int .u8 116, .int .i64 a, .int .i64 b, .string d]] w fun e w' => e = .returned (.string (str (sTrim ++ (32 :: nt a ++ (32 :: nt b))))) ∧ Keep (fun _ => False) w w' := by
  have hA := fun W => rnum_any a ha W
  have hB := fun W => rnum_any b hb W
  have sA : (str (nt a)).size ≤ 21 := by rw [str_size]; exact nt_len ha.1 ha.2
  have sB : (str (nt b)).size ≤ 21 := by rw [str_size]; exact nt_len hb.1 hb.2
  have HE : Hid ((⟨#[116, 114, 105, 109, 32]⟩ : ByteArray) ++ str (nt a) ++ (⟨#[32]⟩ : ByteArray) ++ str (nt b) = str (sTrim ++ (32 :: nt a ++ (32 :: nt b)))) := by
    show _ = _
    rw [show (⟨#[116, 114, 105, 109, 32]⟩ : ByteArray) = str [116, 114, 105, 109, 32] from rfl, show (⟨#[32]⟩ : ByteArray) = str [32] from rfl, str_append, str_append, str_append]
    simp [sTrim]
  generalize str (sTrim ++ (32 :: nt a ++ (32 :: nt b))) = RES at *
  have Hc : Hid (∀ W, Keep (fun _ => False) (w.alloc (.cells #[.int .u8 116, .int .i64 a, .int .i64 b, .string d] 32)) W → W.cell? ⟨w.heap.size, 0, none⟩ = some (.int .u8 116) ∧ W.cell? ⟨w.heap.size, 1, none⟩ = some (.int .i64 a) ∧ W.cell? ⟨w.heap.size, 2, none⟩ = some (.int .i64 b) ∧ W.cell? ⟨w.heap.size, 3, none⟩ = some (.string d)) := rtext_cells w 116 a b d
  have HK : Hid (Keep (fun _ => False) w (w.alloc (.cells #[.int .u8 116, .int .i64 a, .int .i64 b, .string d] 32))) := (Keep.refl _ _).alloc _
  generalize str (nt a) = A at *
  generalize str (nt b) = B at *
  clear ha hb hd
  have j1 : ¬ 9223372036854775807 < 5 + A.size := by omega
  have j2 : ¬ 9223372036854775807 < 5 + A.size + 1 := by omega
  have j3 : ¬ 9223372036854775807 < 5 + A.size + 1 + B.size := by omega
  clear sA sB
  go_enter Tryd.func13, Tryd.ntmps13
  go_wp2_with fail
  generalize w.alloc (.cells #[.int .u8 116, .int .i64 a, .int .i64 b, .string d] 32) = wb at *
  refine wp_region_noPanic ?_
  refine wp_region_held_drew (S := fun w' => Keep (fun _ => False) wb w') (by kernel_rfl) ((Keep.refl _ _).drew) (fun hH0 => ?_)
  refine' wpAnyH_take (i := 0) (oi := { dst := some 34, op := Op.fieldAddr 32 (Operand.tmp 1) 1, type := 0, pos := "ref.go:184", after := #[], guard := none }) (v := _) rfl (by kernel_rfl) (by kernel_rfl) (by kernel_rfl) (fun _ _ _ h => h) (Or.inl ⟨by rfl, ?hyb0⟩) hH0 ?rb0
  case hyb0 => (intro w' hSw; clear hSw; go_simp; try with_reducible rfl)
  simp only [Act.put, List.setIfInBounds_toArray, List.set_cons_zero, List.set_cons_succ]
  refine' wpAnyH_take (i := 1) (oi := { dst := some 35, op := Op.load 3 (Operand.tmp 34), type := 3, pos := "ref.go:184", after := #[{ on := 0, ground := Ground.data }], guard := none }) (v := _) rfl (by kernel_rfl) (by kernel_rfl) (by kernel_rfl) (fun _ _ _ h => h) (Or.inl ⟨by rfl, ?hyb1⟩) hH0 ?rb1
  case hyb1 => (intro w' hSw; obtain ⟨c0, c1, c2, c3⟩ := Hc.out _ hSw; clear hSw; go_simp; try with_reducible rfl)
  simp only [Act.put, List.setIfInBounds_toArray, List.set_cons_zero, List.set_cons_succ]
  refine' wpAnyH_take (i := 5) (oi := { dst := some 39, op := Op.fieldAddr 32 (Operand.tmp 1) 2, type := 0, pos := "ref.go:184", after := #[], guard := none }) (v := _) rfl (by kernel_rfl) (by kernel_rfl) (by kernel_rfl) (fun _ _ _ h => h) (Or.inl ⟨by rfl, ?hyb5⟩) hH0 ?rb5
  case hyb5 => (intro w' hSw; clear hSw; go_simp; try with_reducible rfl)
  simp only [Act.put, List.setIfInBounds_toArray, List.set_cons_zero, List.set_cons_succ]
  refine' wpAnyH_take (i := 6) (oi := { dst := some 40, op := Op.load 3 (Operand.tmp 39), type := 3, pos := "ref.go:184", after := #[{ on := 5, ground := Ground.data }], guard := none }) (v := _) rfl (by kernel_rfl) (by kernel_rfl) (by kernel_rfl) (fun _ _ _ h => h) (Or.inl ⟨by rfl, ?hyb6⟩) hH0 ?rb6
  case hyb6 => (intro w' hSw; obtain ⟨c0, c1, c2, c3⟩ := Hc.out _ hSw; clear hSw; go_simp; try with_reducible rfl)
  simp only [Act.put, List.setIfInBounds_toArray, List.set_cons_zero, List.set_cons_succ]
  refine wpAnyH_ready (rs := [2]) (by kernel_rfl) (by simp) ?_
  refine AllReadyH.cons (o := { dst := some 36, op := Op.call { callee := Callee.value (Operand.func 26), args := #[Operand.tmp 35], argTypes := #[3] }, type := 9, pos := "ref.go:184", after := #[{ on := 1, ground := Ground.data }], guard := none }) rfl (fun K hK => ?_) AllReadyH.nil
  refine step_call_want (vs := #[.int .i64 a]) (R := fun u2 w2 => u2 = .string A ∧ Keep (fun _ => False) wb w2) (by rfl) 26 #[Operand.tmp 35] #[3] rfl (by simp [Act.eval]) ec26 (post_keep (hA _) hH0) ?_
  rintro u0 w2 ⟨rfl, hk0⟩
  refine hK.out _ _ (hk0) (fun hH1 => ?_)
  clear hK K hH0
  simp only [Act.put, List.setIfInBounds_toArray, List.set_cons_zero, List.set_cons_succ]
  refine' wpAnyH_take (i := 3) (oi := { dst := some 37, op := Op.binOp BinOp.add 9 (Operand.const (Value.string { data := #[116, 114, 105, 109, 32] })) (Operand.tmp 36) 9, type := 9, pos := "ref.go:184", after := #[{ on := 2, ground := Ground.data }], guard := none }) (v := _) rfl (by kernel_rfl) (by kernel_rfl) (by kernel_rfl) (fun _ _ _ h => h) (Or.inl ⟨by rfl, ?hyb3⟩) hH1 ?rb3
  case hyb3 => (intro w' hSw; clear hSw; go_simp; try with_reducible rfl)
  simp only [Act.put, List.setIfInBounds_toArray, List.set_cons_zero, List.set_cons_succ]
  refine' wpAnyH_take (i := 4) (oi := { dst := some 38, op := Op.binOp BinOp.add 9 (Operand.tmp 37) (Operand.const (Value.string { data := #[32] })) 9, type := 9, pos := "ref.go:184", after := #[{ on := 3, ground := Ground.data }], guard := none }) (v := _) rfl (by kernel_rfl) (by kernel_rfl) (by kernel_rfl) (fun _ _ _ h => h) (Or.inl ⟨by rfl, ?hyb4⟩) hH1 ?rb4
  case hyb4 => (intro w' hSw; clear hSw; go_simp; try with_reducible rfl)
  simp only [Act.put, List.setIfInBounds_toArray, List.set_cons_zero, List.set_cons_succ]
  refine wpAnyH_ready (rs := [7]) (by kernel_rfl) (by simp) ?_
  refine AllReadyH.cons (o := { dst := some 41, op := Op.call { callee := Callee.value (Operand.func 26), args := #[Operand.tmp 40], argTypes := #[3] }, type := 9, pos := "ref.go:184", after := #[{ on := 6, ground := Ground.data }, { on := 2, ground := Ground.chain }], guard := none }) rfl (fun K hK => ?_) AllReadyH.nil
  refine step_call_want (vs := #[.int .i64 b]) (R := fun u2 w2 => u2 = .string B ∧ Keep (fun _ => False) wb w2) (by rfl) 26 #[Operand.tmp 40] #[3] rfl (by simp [Act.eval]) ec26 (post_keep (hB _) hH1) ?_
  rintro u1 w3 ⟨rfl, hk1⟩
  refine hK.out _ _ (hk1) (fun hH2 => ?_)
  clear hK K hH1
  simp only [Act.put, List.setIfInBounds_toArray, List.set_cons_zero, List.set_cons_succ]
  refine' wpAnyH_take (i := 8) (oi := { dst := some 42, op := Op.binOp BinOp.add 9 (Operand.tmp 38) (Operand.tmp 41) 9, type := 9, pos := "ref.go:184", after := #[{ on := 4, ground := Ground.data }, { on := 7, ground := Ground.data }], guard := none }) (v := _) rfl (by kernel_rfl) (by kernel_rfl) (by kernel_rfl) (fun _ _ _ h => h) (Or.inl ⟨by rfl, ?hyb8⟩) hH2 ?rb8
  case hyb8 => (intro w' hSw; clear hSw; go_simp; try with_reducible rfl)
  simp only [Act.put, List.setIfInBounds_toArray, List.set_cons_zero, List.set_cons_succ]
  refine' wpAnyH_take (i := 9) (oi := { dst := some 2, op := Op.assign (Operand.tmp 42), type := 9, pos := "ref.go:184", after := #[{ on := 8, ground := Ground.data }, { on := 7, ground := Ground.chain }, { on := 0, ground := Ground.phase }, { on := 1, ground := Ground.phase }, { on := 2, ground := Ground.phase }, { on := 3, ground := Ground.phase }, { on := 4, ground := Ground.phase }, { on := 5, ground := Ground.phase }, { on := 6, ground := Ground.phase }, { on := 7, ground := Ground.phase }, { on := 8, ground := Ground.phase }], guard := none }) (v := _) rfl (by kernel_rfl) (by kernel_rfl) (by kernel_rfl) (fun _ _ _ h => h) (Or.inl ⟨by rfl, ?hyb9⟩) hH2 ?rb9
  case hyb9 => (intro w' hSw; clear hSw; go_simp; try with_reducible rfl)
  simp only [Act.put, List.setIfInBounds_toArray, List.set_cons_zero, List.set_cons_succ]
  refine wpAnyH_done (by kernel_rfl) ?_ _
  refine NoPanic.normal ?_
  go_wp2_with fail
  go_ret
  exact ⟨by rw [← HE.out]; rfl, HK.out.trans hk1⟩


set_option maxHeartbeats 2000000 in
set_option maxRecDepth 100000 in
theorem rtext_write (a b : Int) (ha : I64 a) (hb : I64 b) (d : ByteArray) (hd : d.size ≤ 35184372088000) (w : World) : Calls Tryd.prog 13 #[.agg #[.int .u8 119, .int .i64 a, .int .i64 b, .string d]] w fun e w' => e = .returned (.string (str (sWrite ++ (32 :: nt a ++ (32 :: nt b ++ (32 :: told (bs d))))))) ∧ Keep (fun _ => False) w w' := by
  have hA := fun W => rnum_any a ha W
  have hB := fun W => rnum_any b hb W
  have sA : (str (nt a)).size ≤ 21 := by rw [str_size]; exact nt_len ha.1 ha.2
  have sB : (str (nt b)).size ≤ 21 := by rw [str_size]; exact nt_len hb.1 hb.2
  have HE : Hid ((⟨#[119, 114, 105, 116, 101, 32]⟩ : ByteArray) ++ str (nt a) ++ (⟨#[32]⟩ : ByteArray) ++ str (nt b) ++ (⟨#[32]⟩ : ByteArray) ++ str (told (bs d)) = str (sWrite ++ (32 :: nt a ++ (32 :: nt b ++ (32 :: told (bs d)))))) := by
    show _ = _
    rw [show (⟨#[119, 114, 105, 116, 101, 32]⟩ : ByteArray) = str [119, 114, 105, 116, 101, 32] from rfl, show (⟨#[32]⟩ : ByteArray) = str [32] from rfl, str_append, str_append, str_append, str_append, str_append]
    simp [sWrite]
  have hC := fun W => rquote_any d hd W
  have sC : (str (told (bs d))).size ≤ 4 * d.size + 10 := by
    rw [str_size, told_len]
    have := body_four (bs d)
    rw [bs_len] at this
    omega
  generalize str (told (bs d)) = C at *
  generalize str (sWrite ++ (32 :: nt a ++ (32 :: nt b ++ (32 :: told (bs d))))) = RES at *
  have Hc : Hid (∀ W, Keep (fun _ => False) (w.alloc (.cells #[.int .u8 119, .int .i64 a, .int .i64 b, .string d] 32)) W → W.cell? ⟨w.heap.size, 0, none⟩ = some (.int .u8 119) ∧ W.cell? ⟨w.heap.size, 1, none⟩ = some (.int .i64 a) ∧ W.cell? ⟨w.heap.size, 2, none⟩ = some (.int .i64 b) ∧ W.cell? ⟨w.heap.size, 3, none⟩ = some (.string d)) := rtext_cells w 119 a b d
  have HK : Hid (Keep (fun _ => False) w (w.alloc (.cells #[.int .u8 119, .int .i64 a, .int .i64 b, .string d] 32))) := (Keep.refl _ _).alloc _
  generalize str (nt a) = A at *
  generalize str (nt b) = B at *
  clear ha hb
  have j1 : ¬ 9223372036854775807 < 6 + A.size := by omega
  have j2 : ¬ 9223372036854775807 < 6 + A.size + 1 := by omega
  have j3 : ¬ 9223372036854775807 < 6 + A.size + 1 + B.size := by omega
  have j4 : ¬ 9223372036854775807 < 6 + A.size + 1 + B.size + 1 := by omega
  have j5 : ¬ 9223372036854775807 < 6 + A.size + 1 + B.size + 1 + C.size := by omega
  clear sA sB sC hd
  go_enter Tryd.func13, Tryd.ntmps13
  go_wp2_with fail
  generalize w.alloc (.cells #[.int .u8 119, .int .i64 a, .int .i64 b, .string d] 32) = wb at *
  refine wp_region_noPanic ?_
  refine wp_region_held_drew (S := fun w' => Keep (fun _ => False) wb w') (by kernel_rfl) ((Keep.refl _ _).drew) (fun hH0 => ?_)
  refine' wpAnyH_take (i := 0) (oi := { dst := some 18, op := Op.fieldAddr 32 (Operand.tmp 1) 1, type := 0, pos := "ref.go:182", after := #[], guard := none }) (v := _) rfl (by kernel_rfl) (by kernel_rfl) (by kernel_rfl) (fun _ _ _ h => h) (Or.inl ⟨by rfl, ?hyc0⟩) hH0 ?rc0
  case hyc0 => (intro w' hSw; clear hSw; go_simp; try with_reducible rfl)
  simp only [Act.put, List.setIfInBounds_toArray, List.set_cons_zero, List.set_cons_succ]
  refine' wpAnyH_take (i := 1) (oi := { dst := some 19, op := Op.load 3 (Operand.tmp 18), type := 3, pos := "ref.go:182", after := #[{ on := 0, ground := Ground.data }], guard := none }) (v := _) rfl (by kernel_rfl) (by kernel_rfl) (by kernel_rfl) (fun _ _ _ h => h) (Or.inl ⟨by rfl, ?hyc1⟩) hH0 ?rc1
  case hyc1 => (intro w' hSw; obtain ⟨c0, c1, c2, c3⟩ := Hc.out _ hSw; clear hSw; go_simp; try with_reducible rfl)
  simp only [Act.put, List.setIfInBounds_toArray, List.set_cons_zero, List.set_cons_succ]
  refine' wpAnyH_take (i := 5) (oi := { dst := some 23, op := Op.fieldAddr 32 (Operand.tmp 1) 2, type := 0, pos := "ref.go:182", after := #[], guard := none }) (v := _) rfl (by kernel_rfl) (by kernel_rfl) (by kernel_rfl) (fun _ _ _ h => h) (Or.inl ⟨by rfl, ?hyc5⟩) hH0 ?rc5
  case hyc5 => (intro w' hSw; clear hSw; go_simp; try with_reducible rfl)
  simp only [Act.put, List.setIfInBounds_toArray, List.set_cons_zero, List.set_cons_succ]
  refine' wpAnyH_take (i := 6) (oi := { dst := some 24, op := Op.load 3 (Operand.tmp 23), type := 3, pos := "ref.go:182", after := #[{ on := 5, ground := Ground.data }], guard := none }) (v := _) rfl (by kernel_rfl) (by kernel_rfl) (by kernel_rfl) (fun _ _ _ h => h) (Or.inl ⟨by rfl, ?hyc6⟩) hH0 ?rc6
  case hyc6 => (intro w' hSw; obtain ⟨c0, c1, c2, c3⟩ := Hc.out _ hSw; clear hSw; go_simp; try with_reducible rfl)
  simp only [Act.put, List.setIfInBounds_toArray, List.set_cons_zero, List.set_cons_succ]
  refine' wpAnyH_take (i := 10) (oi := { dst := some 28, op := Op.fieldAddr 32 (Operand.tmp 1) 3, type := 0, pos := "ref.go:182", after := #[], guard := none }) (v := _) rfl (by kernel_rfl) (by kernel_rfl) (by kernel_rfl) (fun _ _ _ h => h) (Or.inl ⟨by rfl, ?hyc10⟩) hH0 ?rc10
  case hyc10 => (intro w' hSw; clear hSw; go_simp; try with_reducible rfl)
  simp only [Act.put, List.setIfInBounds_toArray, List.set_cons_zero, List.set_cons_succ]
  refine' wpAnyH_take (i := 11) (oi := { dst := some 29, op := Op.load 9 (Operand.tmp 28), type := 9, pos := "ref.go:182", after := #[{ on := 10, ground := Ground.data }], guard := none }) (v := _) rfl (by kernel_rfl) (by kernel_rfl) (by kernel_rfl) (fun _ _ _ h => h) (Or.inl ⟨by rfl, ?hyc11⟩) hH0 ?rc11
  case hyc11 => (intro w' hSw; obtain ⟨c0, c1, c2, c3⟩ := Hc.out _ hSw; clear hSw; go_simp; try with_reducible rfl)
  simp only [Act.put, List.setIfInBounds_toArray, List.set_cons_zero, List.set_cons_succ]
  refine wpAnyH_ready (rs := [2]) (by kernel_rfl) (by simp) ?_
  refine AllReadyH.cons (o := { dst := some 20, op := Op.call { callee := Callee.value (Operand.func 26), args := #[Operand.tmp 19], argTypes := #[3] }, type := 9, pos := "ref.go:182", after := #[{ on := 1, ground := Ground.data }], guard := none }) rfl (fun K hK => ?_) AllReadyH.nil
  refine step_call_want (vs := #[.int .i64 a]) (R := fun u2 w2 => u2 = .string A ∧ Keep (fun _ => False) wb w2) (by rfl) 26 #[Operand.tmp 19] #[3] rfl (by simp [Act.eval]) ec26 (post_keep (hA _) hH0) ?_
  rintro u0 w2 ⟨rfl, hk0⟩
  refine hK.out _ _ (hk0) (fun hH1 => ?_)
  clear hK K hH0
  simp only [Act.put, List.setIfInBounds_toArray, List.set_cons_zero, List.set_cons_succ]
  refine' wpAnyH_take (i := 3) (oi := { dst := some 21, op := Op.binOp BinOp.add 9 (Operand.const (Value.string { data := #[119, 114, 105, 116, 101, 32] })) (Operand.tmp 20) 9, type := 9, pos := "ref.go:182", after := #[{ on := 2, ground := Ground.data }], guard := none }) (v := _) rfl (by kernel_rfl) (by kernel_rfl) (by kernel_rfl) (fun _ _ _ h => h) (Or.inl ⟨by rfl, ?hyc3⟩) hH1 ?rc3
  case hyc3 => (intro w' hSw; clear hSw; go_simp; try with_reducible rfl)
  simp only [Act.put, List.setIfInBounds_toArray, List.set_cons_zero, List.set_cons_succ]
  refine' wpAnyH_take (i := 4) (oi := { dst := some 22, op := Op.binOp BinOp.add 9 (Operand.tmp 21) (Operand.const (Value.string { data := #[32] })) 9, type := 9, pos := "ref.go:182", after := #[{ on := 3, ground := Ground.data }], guard := none }) (v := _) rfl (by kernel_rfl) (by kernel_rfl) (by kernel_rfl) (fun _ _ _ h => h) (Or.inl ⟨by rfl, ?hyc4⟩) hH1 ?rc4
  case hyc4 => (intro w' hSw; clear hSw; go_simp; try with_reducible rfl)
  simp only [Act.put, List.setIfInBounds_toArray, List.set_cons_zero, List.set_cons_succ]
  refine wpAnyH_ready (rs := [7]) (by kernel_rfl) (by simp) ?_
  refine AllReadyH.cons (o := { dst := some 25, op := Op.call { callee := Callee.value (Operand.func 26), args := #[Operand.tmp 24], argTypes := #[3] }, type := 9, pos := "ref.go:182", after := #[{ on := 6, ground := Ground.data }, { on := 2, ground := Ground.chain }], guard := none }) rfl (fun K hK => ?_) AllReadyH.nil
  refine step_call_want (vs := #[.int .i64 b]) (R := fun u2 w2 => u2 = .string B ∧ Keep (fun _ => False) wb w2) (by rfl) 26 #[Operand.tmp 24] #[3] rfl (by simp [Act.eval]) ec26 (post_keep (hB _) hH1) ?_
  rintro u1 w3 ⟨rfl, hk1⟩
  refine hK.out _ _ (hk1) (fun hH2 => ?_)
  clear hK K hH1
  simp only [Act.put, List.setIfInBounds_toArray, List.set_cons_zero, List.set_cons_succ]
  refine' wpAnyH_take (i := 8) (oi := { dst := some 26, op := Op.binOp BinOp.add 9 (Operand.tmp 22) (Operand.tmp 25) 9, type := 9, pos := "ref.go:182", after := #[{ on := 4, ground := Ground.data }, { on := 7, ground := Ground.data }], guard := none }) (v := _) rfl (by kernel_rfl) (by kernel_rfl) (by kernel_rfl) (fun _ _ _ h => h) (Or.inl ⟨by rfl, ?hyc8⟩) hH2 ?rc8
  case hyc8 => (intro w' hSw; clear hSw; go_simp; try with_reducible rfl)
  simp only [Act.put, List.setIfInBounds_toArray, List.set_cons_zero, List.set_cons_succ]
  refine' wpAnyH_take (i := 9) (oi := { dst := some 27, op := Op.binOp BinOp.add 9 (Operand.tmp 26) (Operand.const (Value.string { data := #[32] })) 9, type := 9, pos := "ref.go:182", after := #[{ on := 8, ground := Ground.data }], guard := none }) (v := _) rfl (by kernel_rfl) (by kernel_rfl) (by kernel_rfl) (fun _ _ _ h => h) (Or.inl ⟨by rfl, ?hyc9⟩) hH2 ?rc9
  case hyc9 => (intro w' hSw; clear hSw; go_simp; try with_reducible rfl)
  simp only [Act.put, List.setIfInBounds_toArray, List.set_cons_zero, List.set_cons_succ]
  refine wpAnyH_ready (rs := [12]) (by kernel_rfl) (by simp) ?_
  refine AllReadyH.cons (o := { dst := some 30, op := Op.call { callee := Callee.value (Operand.func 27), args := #[Operand.tmp 29], argTypes := #[9] }, type := 9, pos := "ref.go:182", after := #[{ on := 11, ground := Ground.data }, { on := 7, ground := Ground.chain }], guard := none }) rfl (fun K hK => ?_) AllReadyH.nil
  refine step_call_want (vs := #[.string d]) (R := fun u2 w2 => u2 = .string C ∧ Keep (fun _ => False) wb w2) (by rfl) 27 #[Operand.tmp 29] #[9] rfl (by simp [Act.eval]) ec27 (post_keep (hC _) hH2) ?_
  rintro u2 w4 ⟨rfl, hk2⟩
  refine hK.out _ _ (hk2) (fun hH3 => ?_)
  clear hK K hH2
  simp only [Act.put, List.setIfInBounds_toArray, List.set_cons_zero, List.set_cons_succ]
  refine' wpAnyH_take (i := 13) (oi := { dst := some 31, op := Op.binOp BinOp.add 9 (Operand.tmp 27) (Operand.tmp 30) 9, type := 9, pos := "ref.go:182", after := #[{ on := 9, ground := Ground.data }, { on := 12, ground := Ground.data }], guard := none }) (v := _) rfl (by kernel_rfl) (by kernel_rfl) (by kernel_rfl) (fun _ _ _ h => h) (Or.inl ⟨by rfl, ?hyc13⟩) hH3 ?rc13
  case hyc13 => (intro w' hSw; clear hSw; go_simp; try with_reducible rfl)
  simp only [Act.put, List.setIfInBounds_toArray, List.set_cons_zero, List.set_cons_succ]
  refine' wpAnyH_take (i := 14) (oi := { dst := some 2, op := Op.assign (Operand.tmp 31), type := 9, pos := "ref.go:182", after := #[{ on := 13, ground := Ground.data }, { on := 12, ground := Ground.chain }, { on := 0, ground := Ground.phase }, { on := 1, ground := Ground.phase }, { on := 2, ground := Ground.phase }, { on := 3, ground := Ground.phase }, { on := 4, ground := Ground.phase }, { on := 5, ground := Ground.phase }, { on := 6, ground := Ground.phase }, { on := 7, ground := Ground.phase }, { on := 8, ground := Ground.phase }, { on := 9, ground := Ground.phase }, { on := 10, ground := Ground.phase }, { on := 11, ground := Ground.phase }, { on := 12, ground := Ground.phase }, { on := 13, ground := Ground.phase }], guard := none }) (v := _) rfl (by kernel_rfl) (by kernel_rfl) (by kernel_rfl) (fun _ _ _ h => h) (Or.inl ⟨by rfl, ?hyc14⟩) hH3 ?rc14
  case hyc14 => (intro w' hSw; clear hSw; go_simp; try with_reducible rfl)
  simp only [Act.put, List.setIfInBounds_toArray, List.set_cons_zero, List.set_cons_succ]
  refine wpAnyH_done (by kernel_rfl) ?_ _
  refine NoPanic.normal ?_
  go_wp2_with fail
  go_ret
  exact ⟨by rw [← HE.out]; rfl, HK.out.trans hk2⟩


set_option maxHeartbeats 2000000 in
set_option maxRecDepth 100000 in
theorem rtext_cut (a b : Int) (ha : I64 a) (hb : I64 b) (d : ByteArray) (hd : d.size ≤ 35184372088000) (w : World) : Calls Tryd.prog 13 #[.agg #[.int .u8 99, .int .i64 a, .int .i64 b, .string d]] w fun e w' => e = .returned (.string (str (sCut ++ (32 :: nt a)))) ∧ Keep (fun _ => False) w w' := by
  have hA := fun W => rnum_any a ha W
  have hB := fun W => rnum_any b hb W
  have sA : (str (nt a)).size ≤ 21 := by rw [str_size]; exact nt_len ha.1 ha.2
  have sB : (str (nt b)).size ≤ 21 := by rw [str_size]; exact nt_len hb.1 hb.2
  have HE : Hid ((⟨#[99, 117, 116, 32]⟩ : ByteArray) ++ str (nt a) = str (sCut ++ (32 :: nt a))) := by
    show _ = _
    rw [show (⟨#[99, 117, 116, 32]⟩ : ByteArray) = str [99, 117, 116, 32] from rfl, str_append]
    simp [sCut]
  generalize str (sCut ++ (32 :: nt a)) = RES at *
  have Hc : Hid (∀ W, Keep (fun _ => False) (w.alloc (.cells #[.int .u8 99, .int .i64 a, .int .i64 b, .string d] 32)) W → W.cell? ⟨w.heap.size, 0, none⟩ = some (.int .u8 99) ∧ W.cell? ⟨w.heap.size, 1, none⟩ = some (.int .i64 a) ∧ W.cell? ⟨w.heap.size, 2, none⟩ = some (.int .i64 b) ∧ W.cell? ⟨w.heap.size, 3, none⟩ = some (.string d)) := rtext_cells w 99 a b d
  have HK : Hid (Keep (fun _ => False) w (w.alloc (.cells #[.int .u8 99, .int .i64 a, .int .i64 b, .string d] 32))) := (Keep.refl _ _).alloc _
  generalize str (nt a) = A at *
  generalize str (nt b) = B at *
  clear ha hb hd
  have j1 : ¬ 9223372036854775807 < 4 + A.size := by omega
  clear sA sB hB
  go_enter Tryd.func13, Tryd.ntmps13
  go_wp2_with fail
  refine (hA _).mono ?_
  rintro e w2 ⟨rfl, k2⟩
  go_wp2_with fail
  go_ret
  exact ⟨by rw [← HE.out]; rfl, HK.out.trans k2⟩


set_option maxHeartbeats 2000000 in
set_option maxRecDepth 100000 in
theorem rtext_fail (a b : Int) (ha : I64 a) (hb : I64 b) (d : ByteArray) (hd : d.size ≤ 35184372088000) (w : World) : Calls Tryd.prog 13 #[.agg #[.int .u8 102, .int .i64 a, .int .i64 b, .string d]] w fun e w' => e = .returned (.string (str (sFail ++ (32 :: nt a)))) ∧ Keep (fun _ => False) w w' := by
  have hA := fun W => rnum_any a ha W
  have hB := fun W => rnum_any b hb W
  have sA : (str (nt a)).size ≤ 21 := by rw [str_size]; exact nt_len ha.1 ha.2
  have sB : (str (nt b)).size ≤ 21 := by rw [str_size]; exact nt_len hb.1 hb.2
  have HE : Hid ((⟨#[102, 97, 105, 108, 32]⟩ : ByteArray) ++ str (nt a) = str (sFail ++ (32 :: nt a))) := by
    show _ = _
    rw [show (⟨#[102, 97, 105, 108, 32]⟩ : ByteArray) = str [102, 97, 105, 108, 32] from rfl, str_append]
    simp [sFail]
  generalize str (sFail ++ (32 :: nt a)) = RES at *
  have Hc : Hid (∀ W, Keep (fun _ => False) (w.alloc (.cells #[.int .u8 102, .int .i64 a, .int .i64 b, .string d] 32)) W → W.cell? ⟨w.heap.size, 0, none⟩ = some (.int .u8 102) ∧ W.cell? ⟨w.heap.size, 1, none⟩ = some (.int .i64 a) ∧ W.cell? ⟨w.heap.size, 2, none⟩ = some (.int .i64 b) ∧ W.cell? ⟨w.heap.size, 3, none⟩ = some (.string d)) := rtext_cells w 102 a b d
  have HK : Hid (Keep (fun _ => False) w (w.alloc (.cells #[.int .u8 102, .int .i64 a, .int .i64 b, .string d] 32))) := (Keep.refl _ _).alloc _
  generalize str (nt a) = A at *
  generalize str (nt b) = B at *
  clear ha hb hd
  have j1 : ¬ 9223372036854775807 < 5 + A.size := by omega
  clear sA sB hB
  go_enter Tryd.func13, Tryd.ntmps13
  go_wp2_with fail
  refine (hA _).mono ?_
  rintro e w2 ⟨rfl, k2⟩
  go_wp2_with fail
  go_ret
  exact ⟨by rw [← HE.out]; rfl, HK.out.trans k2⟩


set_option maxHeartbeats 2000000 in
set_option maxRecDepth 100000 in
theorem rtext_mount (a b : Int) (ha : I64 a) (hb : I64 b) (d : ByteArray) (hd : d.size ≤ 35184372088000) (w : World) : Calls Tryd.prog 13 #[.agg #[.int .u8 109, .int .i64 a, .int .i64 b, .string d]] w fun e w' => e = .returned (.string (str (if a = -1 then sMount else sMount ++ (32 :: nt a)))) ∧ Keep (fun _ => False) w w' := by
  have hA := fun W => rnum_any a ha W
  have hB := fun W => rnum_any b hb W
  have sA : (str (nt a)).size ≤ 21 := by rw [str_size]; exact nt_len ha.1 ha.2
  have sB : (str (nt b)).size ≤ 21 := by rw [str_size]; exact nt_len hb.1 hb.2
  have HE : Hid ((⟨#[109, 111, 117, 110, 116, 32]⟩ : ByteArray) ++ str (nt a) = str (sMount ++ (32 :: nt a))) := by
    show _ = _
    rw [show (⟨#[109, 111, 117, 110, 116, 32]⟩ : ByteArray) = str [109, 111, 117, 110, 116, 32] from rfl, str_append]
    simp [sMount]
  have Hc : Hid (∀ W, Keep (fun _ => False) (w.alloc (.cells #[.int .u8 109, .int .i64 a, .int .i64 b, .string d] 32)) W → W.cell? ⟨w.heap.size, 0, none⟩ = some (.int .u8 109) ∧ W.cell? ⟨w.heap.size, 1, none⟩ = some (.int .i64 a) ∧ W.cell? ⟨w.heap.size, 2, none⟩ = some (.int .i64 b) ∧ W.cell? ⟨w.heap.size, 3, none⟩ = some (.string d)) := rtext_cells w 109 a b d
  have HK : Hid (Keep (fun _ => False) w (w.alloc (.cells #[.int .u8 109, .int .i64 a, .int .i64 b, .string d] 32))) := (Keep.refl _ _).alloc _
  generalize str (nt a) = A at *
  generalize str (nt b) = B at *
  clear ha hb hd
  by_cases h : a = -1
  · rw [if_pos h, show str sMount = ⟨#[109, 111, 117, 110, 116]⟩ from rfl]
    clear sA sB hB hA HE
    subst h
    go_enter Tryd.func13, Tryd.ntmps13
    go_wp2_with fail
    go_ret
    exact ⟨rfl, (Keep.refl _ _).alloc _⟩
  · rw [if_neg h]
    have h2 : (a == -1) = false := by rw [beq_eq_false_iff_ne]; exact h
    have j1 : ¬ 9223372036854775807 < 6 + A.size := by omega
    generalize str (sMount ++ (32 :: nt a)) = RES at *
    clear sA sB hB
    go_enter Tryd.func13, Tryd.ntmps13
    go_wp2_with fail
    refine (hA _).mono ?_
    rintro e w2 ⟨rfl, k2⟩
    go_wp2_with fail
    go_ret
    exact ⟨by rw [← HE.out]; rfl, HK.out.trans k2⟩


set_option maxHeartbeats 2000000 in
set_option maxRecDepth 100000 in
theorem rtext_show (a b : Int) (ha : I64 a) (hb : I64 b) (d : ByteArray) (hd : d.size ≤ 35184372088000) (w : World) : Calls Tryd.prog 13 #[.agg #[.int .u8 115, .int .i64 a, .int .i64 b, .string d]] w fun e w' => e = .returned (.string (str (sShow))) ∧ Keep (fun _ => False) w w' := by
  have hA := fun W => rnum_any a ha W
  have hB := fun W => rnum_any b hb W
  have sA : (str (nt a)).size ≤ 21 := by rw [str_size]; exact nt_len ha.1 ha.2
  have sB : (str (nt b)).size ≤ 21 := by rw [str_size]; exact nt_len hb.1 hb.2
  have Hc : Hid (∀ W, Keep (fun _ => False) (w.alloc (.cells #[.int .u8 115, .int .i64 a, .int .i64 b, .string d] 32)) W → W.cell? ⟨w.heap.size, 0, none⟩ = some (.int .u8 115) ∧ W.cell? ⟨w.heap.size, 1, none⟩ = some (.int .i64 a) ∧ W.cell? ⟨w.heap.size, 2, none⟩ = some (.int .i64 b) ∧ W.cell? ⟨w.heap.size, 3, none⟩ = some (.string d)) := rtext_cells w 115 a b d
  have HK : Hid (Keep (fun _ => False) w (w.alloc (.cells #[.int .u8 115, .int .i64 a, .int .i64 b, .string d] 32))) := (Keep.refl _ _).alloc _
  generalize str (nt a) = A at *
  generalize str (nt b) = B at *
  clear ha hb hd
  rw [show str sShow = ⟨#[115, 104, 111, 119]⟩ from rfl]
  clear sA sB hA hB
  go_enter Tryd.func13, Tryd.ntmps13
  go_wp2_with fail
  go_ret
  exact ⟨rfl, (Keep.refl _ _).alloc _⟩


set_option maxHeartbeats 2000000 in
set_option maxRecDepth 100000 in
theorem rtext_stat (a b : Int) (ha : I64 a) (hb : I64 b) (d : ByteArray) (hd : d.size ≤ 35184372088000) (w : World) : Calls Tryd.prog 13 #[.agg #[.int .u8 105, .int .i64 a, .int .i64 b, .string d]] w fun e w' => e = .returned (.string (str (sStat))) ∧ Keep (fun _ => False) w w' := by
  have hA := fun W => rnum_any a ha W
  have hB := fun W => rnum_any b hb W
  have sA : (str (nt a)).size ≤ 21 := by rw [str_size]; exact nt_len ha.1 ha.2
  have sB : (str (nt b)).size ≤ 21 := by rw [str_size]; exact nt_len hb.1 hb.2
  have Hc : Hid (∀ W, Keep (fun _ => False) (w.alloc (.cells #[.int .u8 105, .int .i64 a, .int .i64 b, .string d] 32)) W → W.cell? ⟨w.heap.size, 0, none⟩ = some (.int .u8 105) ∧ W.cell? ⟨w.heap.size, 1, none⟩ = some (.int .i64 a) ∧ W.cell? ⟨w.heap.size, 2, none⟩ = some (.int .i64 b) ∧ W.cell? ⟨w.heap.size, 3, none⟩ = some (.string d)) := rtext_cells w 105 a b d
  have HK : Hid (Keep (fun _ => False) w (w.alloc (.cells #[.int .u8 105, .int .i64 a, .int .i64 b, .string d] 32))) := (Keep.refl _ _).alloc _
  generalize str (nt a) = A at *
  generalize str (nt b) = B at *
  clear ha hb hd
  rw [show str sStat = ⟨#[115, 116, 97, 116]⟩ from rfl]
  clear sA sB hA hB
  go_enter Tryd.func13, Tryd.ntmps13
  go_wp2_with fail
  go_ret
  exact ⟨rfl, (Keep.refl _ _).alloc _⟩


/-- Text. -/
theorem rtext_any {c : Cm} (h : Cm.Fit c) (w : World) : Calls Tryd.prog 13 #[.agg #[.int .u8 (c.k : Nat), .int .i64 c.a, .int .i64 c.b, .string (str c.d)]] w fun e w' => e = .returned (.string (str (txt c))) ∧ Keep (fun _ => False) w w' := by
  obtain ⟨k, a, b, d⟩ := c
  obtain ⟨hk, ha, hb, hd, hl⟩ := h
  simp only at *
  have hs : (str d).size ≤ 35184372088000 := by rw [str_size]; exact hl
  rcases hk with rfl | rfl | rfl | rfl | rfl | rfl | rfl | rfl
  · exact rtext_read a b ha hb (str d) hs w
  · have := rtext_write a b ha hb (str d) hs w
    rw [bs_str hd] at this
    exact this
  · exact rtext_trim a b ha hb (str d) hs w
  · exact rtext_cut a b ha hb (str d) hs w
  · exact rtext_fail a b ha hb (str d) hs w
  · exact rtext_mount a b ha hb (str d) hs w
  · exact rtext_show a b ha hb (str d) hs w
  · exact rtext_stat a b ha hb (str d) hs w
end Tg
end Go.Proofs.YtgilagmgepogbaaDoor
