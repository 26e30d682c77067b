/-
  The document's own Write.
-/
import Derived.Test.YtikepmdlpalpfaaMr
import Derived.BigQuiet
import Derived.Deep.CutBlock
namespace Go.Proofs.Ytikepmdlpalpfaa
open Go.ChangeShapes Go.WideShapes Go.ChangeAt Go.RowKit
namespace Tg
theorem nums_at {d : ByteArray} {i : Nat} (h : i < d.size) : (nums d).getD i 0 = ((d[i]'h).toNat : Int) := by
  unfold nums
  rw [List.getD_eq_getElem?_getD, List.getElem?_map, List.getElem?_eq_getElem (by simpa using h)]
  rfl
/-- The first i bytes laid, noughts behind. -/
def padI (m : Nat) (d : List Int) (i : Nat) : List Int := d.take i ++ List.replicate (m - i) 0
theorem padI_len {m : Nat} {d : List Int} {i : Nat} (h1 : i ≤ m) (h2 : i ≤ d.length) : (padI m d i).length = m := by
  unfold padI
  rw [List.length_append, List.length_take, List.length_replicate]
  omega
theorem padI_set {m : Nat} {d : List Int} {i : Nat} (h1 : i < m) (h2 : i < d.length) : (padI m d i).set i (d.getD i 0) = padI m d (i + 1) := by
  have hl : (d.take i).length = i := by rw [List.length_take]; omega
  unfold padI
  rw [List.set_append_right _ _ (by omega), hl, Nat.sub_self, show m - i = (m - (i + 1)) + 1 by omega, List.replicate_succ, List.set_cons_zero, List.take_add_one, List.append_assoc]
  congr 1
  rw [List.getD_eq_getElem?_getD, List.getElem?_eq_getElem h2]
  rfl
theorem padI_end {m : Nat} {d : List Int} {i : Nat} (h1 : i ≤ m) (h2 : i ≤ d.length) (h : i = m ∨ i = d.length) : padI m d i = padL m d := by
  unfold padI padL
  rcases h with rfl | rfl
  · rw [Nat.sub_self, show i - d.length = 0 by omega]
  · rw [List.take_of_length_le (Nat.le_refl _), List.take_of_length_le h1]
set_option maxRecDepth 100000 in
set_option maxHeartbeats 1000000 in
theorem rwrite17_no {s d : ByteArray} {N : Nat} (hs : s.size = N * 32) (hN : N ≤ 512) {lba n : Int} (h : okR N lba n = false) (w : World) : Calls Try.prog 13 #[.string s, .int .i64 lba, .int .i64 n, .string d] w fun e w' => e = .returned (.tuple #[.string s, .bool false]) ∧ Keep (fun _ => False) w w' := by
  have hc := fun w => cap_any hs hN w
  have hr := fun w => right9 w (N : Int) lba n (by omega)
  rw [h] at hr
  clear h hs
  go_enter Try.func13, Try.ntmps13
  go_wp2_with fail
  refine (hc _).mono ?_
  rintro e w1 ⟨rfl, e0⟩
  subst e0
  go_wp2_with fail
  refine (hr _).mono ?_
  rintro e w1 ⟨rfl, e0⟩
  subst e0
  go_wp2_with fail
  go_ret2
  exact ⟨rfl, Keep.refl _ _⟩
set_option maxRecDepth 100000 in
set_option maxHeartbeats 1000000 in
theorem rwrite17_yes {l : List Int} {d : ByteArray} {N : Nat} (hs : l.length = N * 32) (hN : N ≤ 512) {lba n : Nat} (h : okR N lba n = true) (w : World) : Calls Try.prog 13 #[.string (strOfNums l), .int .i64 (lba : Int), .int .i64 (n : Int), .string d] w fun e w' => e = .returned (.tuple #[.string (strOfNums (wrL l lba n (nums d))), .bool true]) ∧ Keep (fun _ => False) w w' := by
  have hz : (strOfNums l).size = N * 32 := by rw [strOfNums_size, hs]
  have hc := fun w => cap_any hz hN w
  have hr := fun w => right9 w (N : Int) lba n (by omega)
  rw [h] at hr
  have hb := okR_iff.1 h
  have q0 : IntKind.i64.wrap ((n : Int) * 32) = ((n * 32 : Nat) : Int) := by rw [show (n : Int) * 32 = ((n * 32 : Nat) : Int) by omega]; exact wrapI (by omega) (by omega)
  have q1 : IntKind.i64.wrap ((lba : Int) * 32) = ((lba * 32 : Nat) : Int) := by rw [show (lba : Int) * 32 = ((lba * 32 : Nat) : Int) by omega]; exact wrapI (by omega) (by omega)
  have q2 : IntKind.i64.wrap ((lba : Int) + n) = ((lba + n : Nat) : Int) := by rw [show (lba : Int) + n = ((lba + n : Nat) : Int) by omega]; exact wrapI (by omega) (by omega)
  have q3 : IntKind.i64.wrap (((lba + n : Nat) : Int) * 32) = (((lba + n) * 32 : Nat) : Int) := by rw [show ((lba + n : Nat) : Int) * 32 = (((lba + n) * 32 : Nat) : Int) by omega]; exact wrapI (by omega) (by omega)
  have d1 : lba * 32 ≤ (strOfNums l).size := by omega
  have d2 : (lba + n) * 32 ≤ (strOfNums l).size := by omega
  have d3 : (strOfNums l).size ≤ 16384 := by omega
  have hE : Hid ((strOfNums l).extract 0 (lba * 32) ++ strOfNums (padL (n * 32) (nums d)) ++ (strOfNums l).extract ((lba + n) * 32) (strOfNums l).size = strOfNums (wrL l lba n (nums d))) := by
    show _ = _
    rw [str_extract, str_extract, str_app, str_app, strOfNums_size, List.take_length, List.drop_zero, List.append_assoc]
    rfl
  have hm : n * 32 ≤ 16384 := by omega
  have hdl := nums_len d
  have hd8 := nums_b8 d
  generalize strOfNums (wrL l lba n (nums d)) = r at *
  generalize strOfNums l = s at *
  generalize lba * 32 = A at *
  generalize hX : lba + n = X at *
  generalize X * 32 = B at *
  generalize n * 32 = m at *
  have hmk := make_bytes m hm w
  have hR0 := row_made w m hm
  have hF0 := free_made w m
  have hK0 : Keep (fun _ => False) w (w.alloc (.cells (madeCells #[.int .u8 0] m) 5)) := (Keep.refl _ _).alloc _
  clear h hs hz hb hX
  go_enter Try.func13, Try.ntmps13
  go_wp2_with fail
  refine (hc _).mono ?_
  rintro e w1 ⟨rfl, e0⟩
  subst e0
  go_wp2_with fail
  refine (hr _).mono ?_
  rintro e w1 ⟨rfl, e0⟩
  subst e0
  clear hc hr
  go_upto_region 4 with fail
  clear hmk q0
  generalize w1.alloc (.cells (madeCells #[.int .u8 0] m) 5) = w2 at hR0 hF0 hK0 ⊢
  obtain ⟨g, hg⟩ : ∃ g, g = w1.heap.size := ⟨_, rfl⟩
  rw [← hg] at hR0 hF0 ⊢
  have hgv : Hid (w1.heap.size ≤ g) := by show _ ≤ _; omega
  clear hg
  rw [show List.replicate m (0 : Int) = padI m (nums d) 0 by simp [padI]] at hR0
  go_wp2_with fail
  go_loopw [11] (fun iv wx => ∃ i : Nat, i ≤ m ∧ i ≤ d.size ∧ iv = .int .i64 (i : Int) ∧ Row wx (some ⟨g, 0, none⟩) m m (padI m (nums d) i) ∧ Free wx g m ∧ Keep (fun _ => False) w1 wx) (fun iv _ => m - (intOf iv).toNat)
  case atStart => exact ⟨0, by omega, by omega, rfl, hR0, hF0, hK0⟩
  case round =>
    clear hR0 hF0 hK0
    obtain ⟨i, hi1, hi2, rfl, R1, F1, K1⟩ := hrel
    by_cases c1 : i < m
    · have b1 : (i : Int) < (m : Int) := by omega
      by_cases c2 : i < d.size
      · have b2 : (i : Int) < (d.size : Int) := by omega
        have hdb := getD_bound hd8 i
        have R2 := R1.set c1 hdb
        rw [padI_set c1 (by omega)] at R2
        have F2 := F1.set ⟨g, i, none⟩ (.int .u8 ((nums d).getD i 0))
        have K2 := K1.setCell (p := ⟨g, i, none⟩) (Or.inr hgv) (.int .u8 ((nums d).getD i 0))
        have u0 := R1.cellAt c1
        have z0 := (F1 i c1).2
        have dw := wrapI (x := (i : Int) + 1) (by omega) (by omega)
        have hlt' : Hid (i < m ∧ i < d.size) := ⟨c1, c2⟩
        clear R1 F1 K1
        rw [nums_at c2] at R2 F2 K2
        go_wp2_with fail
        go_roundw
        case rel => exact ⟨i + 1, by have h : i < m ∧ i < d.size := hlt'; omega, by have h : i < m ∧ i < d.size := hlt'; omega, by go_num, R2, F2, K2⟩
        case measure => have h : i < m ∧ i < d.size := hlt'; simp [intOf]; omega
      · have b2 : ¬ (i : Int) < (d.size : Int) := by omega
        have e1 : padI m (nums d) i = padL m (nums d) := padI_end hi1 (by omega) (Or.inr (by omega))
        rw [e1] at R1
        have hcv : (convert 45 9 (.slice (some ⟨g, 0, none⟩) m m)).run Try.prog wr.drew = .ok (.string (strOfNums (padL m (nums d)))) wr.drew := (R1.keep ((Keep.refl (fun _ => False) wr).drew) (fun _ _ _ e => e)).text
        have K2 := K1.drew
        have ht : (strOfNums (padL m (nums d))).size = m := by rw [strOfNums_size, padL_len]
        generalize strOfNums (padL m (nums d)) = t at hE hcv ht
        have n1 : ¬ 9223372036854775807 < A + m := by omega
        have n2 : ¬ 9223372036854775807 < A + m + (s.size - B) := by omega
        clear R1 F1
        go_upto_region 8 with fail
        refine wp_region_noPanic ?_
        refine wp_region_held_drew (S := fun w' => w' = wr.drew) (by kernel_rfl) (rfl) (fun hH0 => ?_)
        refine' wpAnyH_take (i := 0) (oi := { dst := some 40, op := Op.move (Operand.tmp 0), type := 9, pos := "ref.go:32", after := #[], guard := none }) (v := _) rfl (by kernel_rfl) (by kernel_rfl) (by kernel_rfl) (fun _ _ _ h => h) (Or.inl ⟨by rfl, ?hyms0⟩) hH0 ?rms0
        case hyms0 => (intro w' hSw; clear hSw; go_simp; try with_reducible rfl)
        simp only [Act.put, List.setIfInBounds_toArray, List.set_cons_zero, List.set_cons_succ]
        refine' wpAnyH_take (i := 1) (oi := { dst := some 41, op := Op.move (Operand.tmp 1), type := 3, pos := "ref.go:32", after := #[], guard := none }) (v := _) rfl (by kernel_rfl) (by kernel_rfl) (by kernel_rfl) (fun _ _ _ h => h) (Or.inl ⟨by rfl, ?hyms1⟩) hH0 ?rms1
        case hyms1 => (intro w' hSw; clear hSw; go_simp; try with_reducible rfl)
        simp only [Act.put, List.setIfInBounds_toArray, List.set_cons_zero, List.set_cons_succ]
        refine' wpAnyH_take (i := 2) (oi := { dst := some 42, op := Op.binOp BinOp.mul 3 (Operand.tmp 41) (Operand.const (Value.int IntKind.i64 32)) 3, type := 3, pos := "ref.go:32", after := #[{ on := 1, ground := Ground.data }], guard := none }) (v := _) rfl (by kernel_rfl) (by kernel_rfl) (by kernel_rfl) (fun _ _ _ h => h) (Or.inl ⟨by rfl, ?hyms2⟩) hH0 ?rms2
        case hyms2 => (intro w' hSw; clear hSw; go_simp; try with_reducible rfl)
        simp only [Act.put, List.setIfInBounds_toArray, List.set_cons_zero, List.set_cons_succ]
        refine' wpAnyH_take (i := 3) (oi := { dst := some 43, op := Op.slice 9 (Operand.tmp 40) none (some (Operand.tmp 42)) none, type := 9, pos := "ref.go:32", after := #[{ on := 0, ground := Ground.data }, { on := 2, ground := Ground.data }], guard := none }) (v := _) rfl (by kernel_rfl) (by kernel_rfl) (by kernel_rfl) (fun _ _ _ h => h) (Or.inl ⟨by rfl, ?hyms3⟩) hH0 ?rms3
        case hyms3 => (intro w' hSw; clear hSw; go_simp; try with_reducible rfl)
        simp only [Act.put, List.setIfInBounds_toArray, List.set_cons_zero, List.set_cons_succ]
        refine' wpAnyH_take (i := 4) (oi := { dst := some 44, op := Op.move (Operand.tmp 10), type := 45, pos := "ref.go:32", after := #[], guard := none }) (v := _) rfl (by kernel_rfl) (by kernel_rfl) (by kernel_rfl) (fun _ _ _ h => h) (Or.inl ⟨by rfl, ?hyms4⟩) hH0 ?rms4
        case hyms4 => (intro w' hSw; clear hSw; go_simp; try with_reducible rfl)
        simp only [Act.put, List.setIfInBounds_toArray, List.set_cons_zero, List.set_cons_succ]
        refine' wpAnyH_take (i := 5) (oi := { dst := some 45, op := Op.convert 45 9 (Operand.tmp 44), type := 9, pos := "ref.go:32", after := #[{ on := 4, ground := Ground.data }], guard := none }) (v := _) rfl (by kernel_rfl) (by kernel_rfl) (by kernel_rfl) (fun _ _ _ h => h) (Or.inl ⟨by rfl, ?hyms5⟩) hH0 ?rms5
        case hyms5 => (intro w' hSw; subst hSw; go_simp; try with_reducible rfl)
        simp only [Act.put, List.setIfInBounds_toArray, List.set_cons_zero, List.set_cons_succ]
        refine' wpAnyH_take (i := 6) (oi := { dst := some 46, op := Op.binOp BinOp.add 9 (Operand.tmp 43) (Operand.tmp 45) 9, type := 9, pos := "ref.go:32", after := #[{ on := 3, ground := Ground.data }, { on := 5, ground := Ground.data }], guard := none }) (v := _) rfl (by kernel_rfl) (by kernel_rfl) (by kernel_rfl) (fun _ _ _ h => h) (Or.inl ⟨by rfl, ?hyms6⟩) hH0 ?rms6
        case hyms6 => (intro w' hSw; clear hSw; go_simp; try with_reducible rfl)
        simp only [Act.put, List.setIfInBounds_toArray, List.set_cons_zero, List.set_cons_succ]
        refine' wpAnyH_take (i := 7) (oi := { dst := some 47, op := Op.move (Operand.tmp 0), type := 9, pos := "ref.go:32", after := #[], guard := none }) (v := _) rfl (by kernel_rfl) (by kernel_rfl) (by kernel_rfl) (fun _ _ _ h => h) (Or.inl ⟨by rfl, ?hyms7⟩) hH0 ?rms7
        case hyms7 => (intro w' hSw; clear hSw; go_simp; try with_reducible rfl)
        simp only [Act.put, List.setIfInBounds_toArray, List.set_cons_zero, List.set_cons_succ]
        refine' wpAnyH_take (i := 8) (oi := { dst := some 48, op := Op.move (Operand.tmp 1), type := 3, pos := "ref.go:32", after := #[], guard := none }) (v := _) rfl (by kernel_rfl) (by kernel_rfl) (by kernel_rfl) (fun _ _ _ h => h) (Or.inl ⟨by rfl, ?hyms8⟩) hH0 ?rms8
        case hyms8 => (intro w' hSw; clear hSw; go_simp; try with_reducible rfl)
        simp only [Act.put, List.setIfInBounds_toArray, List.set_cons_zero, List.set_cons_succ]
        refine' wpAnyH_take (i := 9) (oi := { dst := some 49, op := Op.move (Operand.tmp 2), type := 3, pos := "ref.go:32", after := #[], guard := none }) (v := _) rfl (by kernel_rfl) (by kernel_rfl) (by kernel_rfl) (fun _ _ _ h => h) (Or.inl ⟨by rfl, ?hyms9⟩) hH0 ?rms9
        case hyms9 => (intro w' hSw; clear hSw; go_simp; try with_reducible rfl)
        simp only [Act.put, List.setIfInBounds_toArray, List.set_cons_zero, List.set_cons_succ]
        refine' wpAnyH_take (i := 10) (oi := { dst := some 50, op := Op.binOp BinOp.add 3 (Operand.tmp 48) (Operand.tmp 49) 3, type := 3, pos := "ref.go:32", after := #[{ on := 8, ground := Ground.data }, { on := 9, ground := Ground.data }], guard := none }) (v := _) rfl (by kernel_rfl) (by kernel_rfl) (by kernel_rfl) (fun _ _ _ h => h) (Or.inl ⟨by rfl, ?hyms10⟩) hH0 ?rms10
        case hyms10 => (intro w' hSw; clear hSw; go_simp; try with_reducible rfl)
        simp only [Act.put, List.setIfInBounds_toArray, List.set_cons_zero, List.set_cons_succ]
        refine' wpAnyH_take (i := 11) (oi := { dst := some 51, op := Op.binOp BinOp.mul 3 (Operand.tmp 50) (Operand.const (Value.int IntKind.i64 32)) 3, type := 3, pos := "ref.go:32", after := #[{ on := 10, ground := Ground.data }], guard := none }) (v := _) rfl (by kernel_rfl) (by kernel_rfl) (by kernel_rfl) (fun _ _ _ h => h) (Or.inl ⟨by rfl, ?hyms11⟩) hH0 ?rms11
        case hyms11 => (intro w' hSw; clear hSw; go_simp; try with_reducible rfl)
        simp only [Act.put, List.setIfInBounds_toArray, List.set_cons_zero, List.set_cons_succ]
        refine' wpAnyH_take (i := 12) (oi := { dst := some 52, op := Op.slice 9 (Operand.tmp 47) (some (Operand.tmp 51)) none none, type := 9, pos := "ref.go:32", after := #[{ on := 7, ground := Ground.data }, { on := 11, ground := Ground.data }], guard := none }) (v := _) rfl (by kernel_rfl) (by kernel_rfl) (by kernel_rfl) (fun _ _ _ h => h) (Or.inl ⟨by rfl, ?hyms12⟩) hH0 ?rms12
        case hyms12 => (intro w' hSw; clear hSw; go_simp; try with_reducible rfl)
        simp only [Act.put, List.setIfInBounds_toArray, List.set_cons_zero, List.set_cons_succ]
        refine' wpAnyH_take (i := 13) (oi := { dst := some 53, op := Op.binOp BinOp.add 9 (Operand.tmp 46) (Operand.tmp 52) 9, type := 9, pos := "ref.go:32", after := #[{ on := 6, ground := Ground.data }, { on := 12, ground := Ground.data }], guard := none }) (v := _) rfl (by kernel_rfl) (by kernel_rfl) (by kernel_rfl) (fun _ _ _ h => h) (Or.inl ⟨by rfl, ?hyms13⟩) hH0 ?rms13
        case hyms13 => (intro w' hSw; clear hSw; go_simp; try with_reducible rfl)
        simp only [Act.put, List.setIfInBounds_toArray, List.set_cons_zero, List.set_cons_succ]
        refine' wpAnyH_take (i := 14) (oi := { dst := some 8, op := Op.assign (Operand.tmp 53), type := 9, pos := "ref.go:32", after := #[{ on := 13, ground := Ground.data }, { on := 0, ground := Ground.phase }, { on := 1, ground := Ground.phase }, { on := 2, ground := Ground.phase }, { on := 3, ground := Ground.phase }, { on := 4, ground := Ground.phase }, { on := 5, ground := Ground.phase }, { on := 6, ground := Ground.phase }, { on := 7, ground := Ground.phase }, { on := 8, ground := Ground.phase }, { on := 9, ground := Ground.phase }, { on := 10, ground := Ground.phase }, { on := 11, ground := Ground.phase }, { on := 12, ground := Ground.phase }, { on := 13, ground := Ground.phase }], guard := none }) (v := _) rfl (by kernel_rfl) (by kernel_rfl) (by kernel_rfl) (fun _ _ _ h => h) (Or.inl ⟨by rfl, ?hyms14⟩) hH0 ?rms14
        case hyms14 => (intro w' hSw; clear hSw; go_simp; try with_reducible rfl)
        simp only [Act.put, List.setIfInBounds_toArray, List.set_cons_zero, List.set_cons_succ]
        refine' wpAnyH_take (i := 15) (oi := { dst := some 9, op := Op.assign (Operand.const (Value.bool true)), type := 4, pos := "ref.go:32", after := #[{ on := 14, ground := Ground.chain }, { on := 0, ground := Ground.phase }, { on := 1, ground := Ground.phase }, { on := 2, ground := Ground.phase }, { on := 3, ground := Ground.phase }, { on := 4, ground := Ground.phase }, { on := 5, ground := Ground.phase }, { on := 6, ground := Ground.phase }, { on := 7, ground := Ground.phase }, { on := 8, ground := Ground.phase }, { on := 9, ground := Ground.phase }, { on := 10, ground := Ground.phase }, { on := 11, ground := Ground.phase }, { on := 12, ground := Ground.phase }, { on := 13, ground := Ground.phase }, { on := 14, ground := Ground.phase }], guard := none }) (v := _) rfl (by kernel_rfl) (by kernel_rfl) (by kernel_rfl) (fun _ _ _ h => h) (Or.inl ⟨by rfl, ?hyms15⟩) hH0 ?rms15
        case hyms15 => (intro w' hSw; clear hSw; go_simp; try with_reducible rfl)
        simp only [Act.put, List.setIfInBounds_toArray, List.set_cons_zero, List.set_cons_succ]
        refine wpAnyH_done (by kernel_rfl) ?_ _
        refine NoPanic.normal ?_
        go_wp2_with fail
        go_ret2
        exact ⟨by rw [← show _ = r from hE]; rfl, K2⟩
    · have b1 : ¬ (i : Int) < (m : Int) := by omega
      have e1 : padI m (nums d) i = padL m (nums d) := padI_end hi1 (by omega) (Or.inl (by omega))
      rw [e1] at R1
      have hcv : (convert 45 9 (.slice (some ⟨g, 0, none⟩) m m)).run Try.prog wr.drew = .ok (.string (strOfNums (padL m (nums d)))) wr.drew := (R1.keep ((Keep.refl (fun _ => False) wr).drew) (fun _ _ _ e => e)).text
      have K2 := K1.drew
      have ht : (strOfNums (padL m (nums d))).size = m := by rw [strOfNums_size, padL_len]
      generalize strOfNums (padL m (nums d)) = t at hE hcv ht
      have n1 : ¬ 9223372036854775807 < A + m := by omega
      have n2 : ¬ 9223372036854775807 < A + m + (s.size - B) := by omega
      clear R1 F1
      go_upto_region 8 with fail
      refine wp_region_noPanic ?_
      refine wp_region_held_drew (S := fun w' => w' = wr.drew) (by kernel_rfl) (rfl) (fun hH0 => ?_)
      refine' wpAnyH_take (i := 0) (oi := { dst := some 40, op := Op.move (Operand.tmp 0), type := 9, pos := "ref.go:32", after := #[], guard := none }) (v := _) rfl (by kernel_rfl) (by kernel_rfl) (by kernel_rfl) (fun _ _ _ h => h) (Or.inl ⟨by rfl, ?hyn0⟩) hH0 ?rn0
      case hyn0 => (intro w' hSw; clear hSw; go_simp; try with_reducible rfl)
      simp only [Act.put, List.setIfInBounds_toArray, List.set_cons_zero, List.set_cons_succ]
      refine' wpAnyH_take (i := 1) (oi := { dst := some 41, op := Op.move (Operand.tmp 1), type := 3, pos := "ref.go:32", after := #[], guard := none }) (v := _) rfl (by kernel_rfl) (by kernel_rfl) (by kernel_rfl) (fun _ _ _ h => h) (Or.inl ⟨by rfl, ?hyn1⟩) hH0 ?rn1
      case hyn1 => (intro w' hSw; clear hSw; go_simp; try with_reducible rfl)
      simp only [Act.put, List.setIfInBounds_toArray, List.set_cons_zero, List.set_cons_succ]
      refine' wpAnyH_take (i := 2) (oi := { dst := some 42, op := Op.binOp BinOp.mul 3 (Operand.tmp 41) (Operand.const (Value.int IntKind.i64 32)) 3, type := 3, pos := "ref.go:32", after := #[{ on := 1, ground := Ground.data }], guard := none }) (v := _) rfl (by kernel_rfl) (by kernel_rfl) (by kernel_rfl) (fun _ _ _ h => h) (Or.inl ⟨by rfl, ?hyn2⟩) hH0 ?rn2
      case hyn2 => (intro w' hSw; clear hSw; go_simp; try with_reducible rfl)
      simp only [Act.put, List.setIfInBounds_toArray, List.set_cons_zero, List.set_cons_succ]
      refine' wpAnyH_take (i := 3) (oi := { dst := some 43, op := Op.slice 9 (Operand.tmp 40) none (some (Operand.tmp 42)) none, type := 9, pos := "ref.go:32", after := #[{ on := 0, ground := Ground.data }, { on := 2, ground := Ground.data }], guard := none }) (v := _) rfl (by kernel_rfl) (by kernel_rfl) (by kernel_rfl) (fun _ _ _ h => h) (Or.inl ⟨by rfl, ?hyn3⟩) hH0 ?rn3
      case hyn3 => (intro w' hSw; clear hSw; go_simp; try with_reducible rfl)
      simp only [Act.put, List.setIfInBounds_toArray, List.set_cons_zero, List.set_cons_succ]
      refine' wpAnyH_take (i := 4) (oi := { dst := some 44, op := Op.move (Operand.tmp 10), type := 45, pos := "ref.go:32", after := #[], guard := none }) (v := _) rfl (by kernel_rfl) (by kernel_rfl) (by kernel_rfl) (fun _ _ _ h => h) (Or.inl ⟨by rfl, ?hyn4⟩) hH0 ?rn4
      case hyn4 => (intro w' hSw; clear hSw; go_simp; try with_reducible rfl)
      simp only [Act.put, List.setIfInBounds_toArray, List.set_cons_zero, List.set_cons_succ]
      refine' wpAnyH_take (i := 5) (oi := { dst := some 45, op := Op.convert 45 9 (Operand.tmp 44), type := 9, pos := "ref.go:32", after := #[{ on := 4, ground := Ground.data }], guard := none }) (v := _) rfl (by kernel_rfl) (by kernel_rfl) (by kernel_rfl) (fun _ _ _ h => h) (Or.inl ⟨by rfl, ?hyn5⟩) hH0 ?rn5
      case hyn5 => (intro w' hSw; subst hSw; go_simp; try with_reducible rfl)
      simp only [Act.put, List.setIfInBounds_toArray, List.set_cons_zero, List.set_cons_succ]
      refine' wpAnyH_take (i := 6) (oi := { dst := some 46, op := Op.binOp BinOp.add 9 (Operand.tmp 43) (Operand.tmp 45) 9, type := 9, pos := "ref.go:32", after := #[{ on := 3, ground := Ground.data }, { on := 5, ground := Ground.data }], guard := none }) (v := _) rfl (by kernel_rfl) (by kernel_rfl) (by kernel_rfl) (fun _ _ _ h => h) (Or.inl ⟨by rfl, ?hyn6⟩) hH0 ?rn6
      case hyn6 => (intro w' hSw; clear hSw; go_simp; try with_reducible rfl)
      simp only [Act.put, List.setIfInBounds_toArray, List.set_cons_zero, List.set_cons_succ]
      refine' wpAnyH_take (i := 7) (oi := { dst := some 47, op := Op.move (Operand.tmp 0), type := 9, pos := "ref.go:32", after := #[], guard := none }) (v := _) rfl (by kernel_rfl) (by kernel_rfl) (by kernel_rfl) (fun _ _ _ h => h) (Or.inl ⟨by rfl, ?hyn7⟩) hH0 ?rn7
      case hyn7 => (intro w' hSw; clear hSw; go_simp; try with_reducible rfl)
      simp only [Act.put, List.setIfInBounds_toArray, List.set_cons_zero, List.set_cons_succ]
      refine' wpAnyH_take (i := 8) (oi := { dst := some 48, op := Op.move (Operand.tmp 1), type := 3, pos := "ref.go:32", after := #[], guard := none }) (v := _) rfl (by kernel_rfl) (by kernel_rfl) (by kernel_rfl) (fun _ _ _ h => h) (Or.inl ⟨by rfl, ?hyn8⟩) hH0 ?rn8
      case hyn8 => (intro w' hSw; clear hSw; go_simp; try with_reducible rfl)
      simp only [Act.put, List.setIfInBounds_toArray, List.set_cons_zero, List.set_cons_succ]
      refine' wpAnyH_take (i := 9) (oi := { dst := some 49, op := Op.move (Operand.tmp 2), type := 3, pos := "ref.go:32", after := #[], guard := none }) (v := _) rfl (by kernel_rfl) (by kernel_rfl) (by kernel_rfl) (fun _ _ _ h => h) (Or.inl ⟨by rfl, ?hyn9⟩) hH0 ?rn9
      case hyn9 => (intro w' hSw; clear hSw; go_simp; try with_reducible rfl)
      simp only [Act.put, List.setIfInBounds_toArray, List.set_cons_zero, List.set_cons_succ]
      refine' wpAnyH_take (i := 10) (oi := { dst := some 50, op := Op.binOp BinOp.add 3 (Operand.tmp 48) (Operand.tmp 49) 3, type := 3, pos := "ref.go:32", after := #[{ on := 8, ground := Ground.data }, { on := 9, ground := Ground.data }], guard := none }) (v := _) rfl (by kernel_rfl) (by kernel_rfl) (by kernel_rfl) (fun _ _ _ h => h) (Or.inl ⟨by rfl, ?hyn10⟩) hH0 ?rn10
      case hyn10 => (intro w' hSw; clear hSw; go_simp; try with_reducible rfl)
      simp only [Act.put, List.setIfInBounds_toArray, List.set_cons_zero, List.set_cons_succ]
      refine' wpAnyH_take (i := 11) (oi := { dst := some 51, op := Op.binOp BinOp.mul 3 (Operand.tmp 50) (Operand.const (Value.int IntKind.i64 32)) 3, type := 3, pos := "ref.go:32", after := #[{ on := 10, ground := Ground.data }], guard := none }) (v := _) rfl (by kernel_rfl) (by kernel_rfl) (by kernel_rfl) (fun _ _ _ h => h) (Or.inl ⟨by rfl, ?hyn11⟩) hH0 ?rn11
      case hyn11 => (intro w' hSw; clear hSw; go_simp; try with_reducible rfl)
      simp only [Act.put, List.setIfInBounds_toArray, List.set_cons_zero, List.set_cons_succ]
      refine' wpAnyH_take (i := 12) (oi := { dst := some 52, op := Op.slice 9 (Operand.tmp 47) (some (Operand.tmp 51)) none none, type := 9, pos := "ref.go:32", after := #[{ on := 7, ground := Ground.data }, { on := 11, ground := Ground.data }], guard := none }) (v := _) rfl (by kernel_rfl) (by kernel_rfl) (by kernel_rfl) (fun _ _ _ h => h) (Or.inl ⟨by rfl, ?hyn12⟩) hH0 ?rn12
      case hyn12 => (intro w' hSw; clear hSw; go_simp; try with_reducible rfl)
      simp only [Act.put, List.setIfInBounds_toArray, List.set_cons_zero, List.set_cons_succ]
      refine' wpAnyH_take (i := 13) (oi := { dst := some 53, op := Op.binOp BinOp.add 9 (Operand.tmp 46) (Operand.tmp 52) 9, type := 9, pos := "ref.go:32", after := #[{ on := 6, ground := Ground.data }, { on := 12, ground := Ground.data }], guard := none }) (v := _) rfl (by kernel_rfl) (by kernel_rfl) (by kernel_rfl) (fun _ _ _ h => h) (Or.inl ⟨by rfl, ?hyn13⟩) hH0 ?rn13
      case hyn13 => (intro w' hSw; clear hSw; go_simp; try with_reducible rfl)
      simp only [Act.put, List.setIfInBounds_toArray, List.set_cons_zero, List.set_cons_succ]
      refine' wpAnyH_take (i := 14) (oi := { dst := some 8, op := Op.assign (Operand.tmp 53), type := 9, pos := "ref.go:32", after := #[{ on := 13, ground := Ground.data }, { on := 0, ground := Ground.phase }, { on := 1, ground := Ground.phase }, { on := 2, ground := Ground.phase }, { on := 3, ground := Ground.phase }, { on := 4, ground := Ground.phase }, { on := 5, ground := Ground.phase }, { on := 6, ground := Ground.phase }, { on := 7, ground := Ground.phase }, { on := 8, ground := Ground.phase }, { on := 9, ground := Ground.phase }, { on := 10, ground := Ground.phase }, { on := 11, ground := Ground.phase }, { on := 12, ground := Ground.phase }, { on := 13, ground := Ground.phase }], guard := none }) (v := _) rfl (by kernel_rfl) (by kernel_rfl) (by kernel_rfl) (fun _ _ _ h => h) (Or.inl ⟨by rfl, ?hyn14⟩) hH0 ?rn14
      case hyn14 => (intro w' hSw; clear hSw; go_simp; try with_reducible rfl)
      simp only [Act.put, List.setIfInBounds_toArray, List.set_cons_zero, List.set_cons_succ]
      refine' wpAnyH_take (i := 15) (oi := { dst := some 9, op := Op.assign (Operand.const (Value.bool true)), type := 4, pos := "ref.go:32", after := #[{ on := 14, ground := Ground.chain }, { on := 0, ground := Ground.phase }, { on := 1, ground := Ground.phase }, { on := 2, ground := Ground.phase }, { on := 3, ground := Ground.phase }, { on := 4, ground := Ground.phase }, { on := 5, ground := Ground.phase }, { on := 6, ground := Ground.phase }, { on := 7, ground := Ground.phase }, { on := 8, ground := Ground.phase }, { on := 9, ground := Ground.phase }, { on := 10, ground := Ground.phase }, { on := 11, ground := Ground.phase }, { on := 12, ground := Ground.phase }, { on := 13, ground := Ground.phase }, { on := 14, ground := Ground.phase }], guard := none }) (v := _) rfl (by kernel_rfl) (by kernel_rfl) (by kernel_rfl) (fun _ _ _ h => h) (Or.inl ⟨by rfl, ?hyn15⟩) hH0 ?rn15
      case hyn15 => (intro w' hSw; clear hSw; go_simp; try with_reducible rfl)
      simp only [Act.put, List.setIfInBounds_toArray, List.set_cons_zero, List.set_cons_succ]
      refine wpAnyH_done (by kernel_rfl) ?_ _
      refine NoPanic.normal ?_
      go_wp2_with fail
      go_ret2
      exact ⟨by rw [← show _ = r from hE]; rfl, K2⟩
end Tg
end Go.Proofs.Ytikepmdlpalpfaa
