/-
  The awakening call of the statements: it returns true, and whatever was in memory is as it was.
-/
import Derived.Test.YtknnaoloebknjaaGet
namespace Go.Proofs.Ytknnaoloebknjaa
open Go.ChangeShapes Go.WideShapes Go.ChangeAt Go.RowKit
namespace Tg
open Vi
theorem vb300 : vb 300 = [172, 2] := by rw [vb_big (by decide), vb_small (by decide)]; rfl
theorem vb1 : vb (fold (-1)) = [1] := by rw [vb_small (by decide)]; rfl
theorem vbmax : (vb 18446744073709551615).length = 10 := by
  rw [vb_big (by decide), vb_big (by decide), vb_big (by decide), vb_big (by decide), vb_big (by decide), vb_big (by decide), vb_big (by decide), vb_big (by decide), vb_big (by decide), vb_small (by decide)]; rfl
theorem row_lit (w : World) (l : List Int) (n : Nat) (hn : l.length = n) (hm : n ≤ 9223372036854775807) (hb : ∀ n ∈ l, 0 ≤ n ∧ n ≤ 255) :
    Row (w.alloc (.cells (l.map (Value.int .u8)).toArray 5)) (some ⟨w.heap.size, 0, none⟩) n n l := by
  subst hn
  exact row_new w l (0, 0) w.heap.size l.length rfl (Nat.le_refl _) hm hb
theorem row_nil (w : World) : Row w none 0 0 [] := ⟨rfl, Nat.le_refl _, by omega, by simp, Or.inl rfl⟩

theorem get_one (w : World) : Calls Try.prog 9 #[.slice (some ⟨w.heap.size, 0, none⟩) 3 3] (w.alloc (.cells #[.int .u8 172, .int .u8 2, .int .u8 9] 5)) fun e w' => e = .returned (.tuple #[.int .u64 300, .int .i64 2, .int .i64 0]) ∧ w' = w.alloc (.cells #[.int .u8 172, .int .u8 2, .int .u8 9] 5) :=
  get_any (row_lit w [172, 2, 9] 3 rfl (by omega) (by decide))
theorem get_two (w : World) : Calls Try.prog 14 #[.slice (some ⟨w.heap.size, 0, none⟩) 1 1] (w.alloc (.cells #[.int .u8 127] 5)) fun e w' => e = .returned (.tuple #[.int .i64 (-64), .int .i64 1, .int .i64 0]) ∧ w' = w.alloc (.cells #[.int .u8 127] 5) :=
  getint_any (row_lit w [127] 1 rfl (by omega) (by decide))

set_option maxHeartbeats 400000 in
theorem awake_any (w : World) : Calls Try.prog 8 #[] w fun e w' => e = .returned (.bool true) ∧ Keep (fun _ => False) w w' := by
  have hg1 := get_one w
  go_enter Try.func8, Try.ntmps8
  go_wp2_with fail
  refine hg1.mono ?_
  rintro e w1 ⟨rfl, hw1⟩
  have hk1 : Keep (fun _ => False) w w1 := by subst hw1; exact (Keep.refl _ _).alloc _
  clear hw1 hg1
  have hg2 := get_two w1
  go_wp2_with fail
  refine hg2.mono ?_
  rintro e w2 ⟨rfl, hw2⟩
  have hk2 : Keep (fun _ => False) w w2 := by subst hw2; exact hk1.alloc _
  clear hw2 hg2
  have hp1 := put_any (row_nil w2) (v := 300) (by omega) (by omega)
  rw [vb300] at hp1
  go_wp2_with fail
  refine hp1.mono ?_
  rintro e w3 ⟨g1, cap1, rfl, hG1⟩
  have ht1 : (convert 27 9 (.slice (some ⟨g1, 0, none⟩) 2 cap1)).run Try.prog w3 = .ok (.string { data := #[172, 2] }) w3 := hG1.row.text
  have hk3 := hk2.trans hG1.keep
  clear hp1 hG1
  have hp2 := putint_any (row_lit w3 [7] 1 rfl (by omega) (by decide)) (v := -1) (by omega) (by omega)
  rw [vb1] at hp2
  go_wp2_with fail
  refine hp2.mono ?_
  rintro e w4 ⟨g2, cap2, rfl, hG2⟩
  have ht2 : (convert 27 9 (.slice (some ⟨g2, 0, none⟩) 2 cap2)).run Try.prog w4 = .ok (.string { data := #[7, 1] }) w4 := hG2.row.text
  have hk4 := (hk3.alloc _).trans hG2.keep
  clear hp2 hG2 ht1
  have hl := len_any (v := 18446744073709551615) (by omega) w4
  rw [vbmax] at hl
  go_wp2_with fail
  refine hl.mono ?_
  rintro e w5 ⟨rfl, rfl⟩
  go_wp2_with fail
  go_ret
  exact ⟨rfl, hk4⟩
end Tg
end Go.Proofs.Ytknnaoloebknjaa
