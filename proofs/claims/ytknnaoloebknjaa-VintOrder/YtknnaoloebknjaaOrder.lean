/-
  The statement of the order, walked: for any two numbers it returns true, and whatever was in memory is as it was.
-/
import Derived.Test.YtknnaoloebknjaaAwake
import Derived.BigQuiet
namespace Go.Proofs.Ytknnaoloebknjaa
open Go.ChangeShapes Go.WideShapes Go.ChangeAt Go.RowKit
namespace Tg
open Vi

theorem Keep.drewN {S : Nat → Prop} {a w : World} (h : Keep S a w) (n : Nat) : Keep S a (w.drewN n) := ⟨h.os, h.tape, h.output, h.size, h.block⟩
theorem Gr.cell {w0 w : World} {g cap : Nat} {l : List Int} (h : Gr w0 w g cap l) {i : Nat} (hi : i < l.length) : w.cell? ⟨g, i, none⟩ = some (.int .u8 (l.getD i 0)) := h.row.cellAt hi

set_option maxHeartbeats 1000000 in
theorem order_walk (w : World) {a b : Int} (ha : 0 ≤ a ∧ a ≤ 18446744073709551615) (hb : 0 ≤ b ∧ b ≤ 18446744073709551615) :
    Calls Try.prog 6 #[.int .u64 a, .int .u64 b] w fun e w' => e = .returned (.bool true) ∧ Below w.heap.size w w' := by
  go_enter Try.func6, Try.ntmps6
  go_wp2_with fail
  refine (awake_any _).mono ?_
  rintro e w1 ⟨rfl, hk1⟩
  have hp1 := put_any (row_nil w1) ha (by omega)
  go_wp2_with fail
  refine hp1.mono ?_
  rintro e w2 ⟨g1, cap1, rfl, hG1⟩
  clear hp1
  have hp2 := put_any (row_nil w2) hb (by omega)
  rw [List.nil_append] at hG1
  simp only [List.nil_append] at hp2
  go_wp2_with fail
  refine hp2.mono ?_
  rintro e w3 ⟨g2, cap2, rfl, hG2⟩
  clear hp2
  have hK : Keep (fun _ => False) w w3 := (hk1.trans hG1.keep).trans hG2.keep
  have hG1' := hG1.more hG2.keep
  have hl1 := len_any ha w3
  have hl2 := len_any hb w3
  have t1 := hG1'.row.text
  have t2 := hG2.row.text
  have hm : a < b → ¬ ((vb b).length : Int) < (vb a).length := fun h => by have := vb_mono a b (by omega); omega
  simp only [Nat.zero_add]
  have HA : Hid (a ≠ b → ∃ i, i < (vb a).length ∧ i < (vb b).length ∧ (vb a).getD i 0 ≠ (vb b).getD i 0) := fun h => apart ha hb h
  have h10a := vb_ten ha.2
  have h10b := vb_ten hb.2
  clear hG1 hk1
  by_cases hlt : a < b
  · have hm' := hm hlt
    have hne : ¬ a = b := by omega
    clear hm
    go_wp2_with fail
    refine hl1.mono ?_
    rintro e w3 ⟨rfl, rfl⟩
    go_wp2_with fail
    refine hl2.mono ?_
    rintro e w3 ⟨rfl, rfl⟩
    go_wp2_with fail
    have HJ := HA.out hne
    obtain ⟨j, j1, j2, j3⟩ := HJ
    have HN : Hid ((vb a).getD j 0 ≠ (vb b).getD j 0) := j3
    clear HA j3
    go_loopw [7] (fun i wr => ∃ k : Nat, k ≤ j ∧ i = .int .i64 k ∧ Keep (fun _ => False) w3 wr) (fun i _ => j - (intOf i).toNat)
    case atStart => exact ⟨0, by omega, rfl, Keep.refl _ _⟩
    case round =>
      obtain ⟨k, hk, rfl, hKr⟩ := hrel
      have c1 := (hG1'.more hKr).cell (i := k) (by omega)
      have c2 := (hG2.more hKr).cell (i := k) (by omega)
      have k1 : (k : Int) < (vb a).length := by omega
      have k2 : (k : Int) < (vb b).length := by omega
      by_cases he : (vb a).getD k 0 = (vb b).getD k 0
      · have hkj : ¬ k = j := fun e => HN.out (by subst e; exact he)
        rw [he] at c1
        clear he
        generalize (vb b).getD k 0 = y at c1 c2
        go_wp2_with fail
        go_quiet (fail)
        go_wp2_with fail
        exact ⟨⟨k + 1, by omega, by go_num, hKr.drewN _⟩, by simp [intOf]; omega⟩
      · have HW := (hK.trans hKr)
        generalize (vb a).getD k 0 = x at c1 he
        generalize (vb b).getD k 0 = y at c2 he
        go_wp2_with fail
        go_quiet (fail)
        go_wp2_with fail
        go_ret
        exact ⟨rfl, (HW.drewN _).below (Nat.le_refl _) (fun _ h => h.elim)⟩
  · by_cases heq : a = b
    · subst heq
      clear hm HA hl1 hl2
      go_wp2_with fail
      go_ret
      exact ⟨rfl, hK.below (Nat.le_refl _) (fun _ h => h.elim)⟩
    · have hne : ¬ a = b := heq
      have hge : ¬ a < b := hlt
      clear hm heq
      go_wp2_with fail
      have HJ := HA.out hne
      obtain ⟨j, j1, j2, j3⟩ := HJ
      have HN : Hid ((vb a).getD j 0 ≠ (vb b).getD j 0) := j3
      clear HA j3
      go_loopw [7] (fun i wr => ∃ k : Nat, k ≤ j ∧ i = .int .i64 k ∧ Keep (fun _ => False) w3 wr) (fun i _ => j - (intOf i).toNat)
      case atStart => exact ⟨0, by omega, rfl, Keep.refl _ _⟩
      case round =>
        obtain ⟨k, hk, rfl, hKr⟩ := hrel
        have c1 := (hG1'.more hKr).cell (i := k) (by omega)
        have c2 := (hG2.more hKr).cell (i := k) (by omega)
        have k1 : (k : Int) < (vb a).length := by omega
        have k2 : (k : Int) < (vb b).length := by omega
        by_cases he : (vb a).getD k 0 = (vb b).getD k 0
        · have hkj : ¬ k = j := fun e => HN.out (by subst e; exact he)
          rw [he] at c1
          clear he
          generalize (vb b).getD k 0 = y at c1 c2
          go_wp2_with fail
          go_quiet (fail)
          go_wp2_with fail
          exact ⟨⟨k + 1, by omega, by go_num, hKr.drewN _⟩, by simp [intOf]; omega⟩
        · have HW := (hK.trans hKr)
          generalize (vb a).getD k 0 = x at c1 he
          generalize (vb b).getD k 0 = y at c2 he
          go_wp2_with fail
          go_quiet (fail)
          go_wp2_with fail
          go_ret
          exact ⟨rfl, (HW.drewN _).below (Nat.le_refl _) (fun _ h => h.elim)⟩
end Tg
end Go.Proofs.Ytknnaoloebknjaa
