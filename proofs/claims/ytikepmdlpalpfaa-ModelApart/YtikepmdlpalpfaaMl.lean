/-
  The chapter's two sectors; ModelKnown.
-/
import Derived.Test.YtikepmdlpalpfaaMk
namespace Go.Proofs.Ytikepmdlpalpfaa
open Go.ChangeShapes Go.WideShapes Go.ChangeAt Go.RowKit
namespace Tg
def k0 : List Int := List.replicate (2 * 32) 0
def k1 : List Int := wrL k0 0 2 (nums ⟨#[97, 98]⟩)
def k2 : List Int := wrL k1 0 1 []
theorem k0_len : k0.length = 2 * 32 := by decide +kernel
theorem k1_len : k1.length = 2 * 32 := by decide +kernel
theorem k2_len : k2.length = 2 * 32 := by decide +kernel
theorem k1_b8 : B8 k1 := wrL_b8 (b8_zero _) (nums_b8 _)
theorem k2_b8 : B8 k2 := wrL_b8 k1_b8 (fun x hx => by cases hx)
theorem k_dif : difL k1 k2 = [0] := by decide +kernel
theorem k_rd : ((strOfNums (rdL k1 0 1)).extract 0 3).toList = [97, 98, 0] := by decide +kernel
theorem k_rz : (strOfNums (rdL k1 0 1)).size = 32 := by rw [strOfNums_size]; decide +kernel
set_option maxRecDepth 100000 in
set_option maxHeartbeats 1000000 in
theorem awake_any {M : (Nat → Prop) → World → Nat → List Int → Prop} (H : ArrOk M) (w : World) : Calls Try.prog 6 #[] w fun e w' => e = .returned (.bool true) ∧ Keep (fun _ => False) w w' := by
  have c1 := one_new H (Keep.refl (fun _ => False) w) (n := 2) (by omega) (by omega)
  go_enter Try.func6, Try.ntmps6
  go_wp2_with fail
  refine (c1).mono ?_
  rintro e w1 ⟨p, rfl, O1⟩
  clear c1
  obtain ⟨S, m1, lo1, K1⟩ := O1
  have c2 := H.write_yes (lba := 0) (n := 2) ⟨#[97, 98]⟩ (by decide) m1 k0_len (by omega) (by decide)
  go_wp2_with fail
  refine (c2).mono ?_
  rintro e w2 ⟨rfl, S2, m2, g2, g3⟩
  have O2 : One M w w2 p k1 := ⟨S2, m2, fun j hj => by
    rcases g3 j hj with a | a
    · exact lo1 j a
    · have := K1.size; omega, K1.next g2 (fun x hx e => by have := lo1 x e; omega)⟩
  clear c2 m1 m2 g2 g3 lo1 K1
  obtain ⟨S3, m3, lo3, K3⟩ := O2
  have c3 := H.read_yes (lba := 0) (n := 1) m3 k1_len (by omega) (by decide)
  have z1 := k_rz
  have z2 := k_rd
  generalize strOfNums (rdL k1 0 1) = R at c3 z1 z2
  go_wp2_with fail
  refine (c3).mono ?_
  rintro e w3 ⟨rfl, g4⟩
  have O3 : One M w w3 p k1 := One.more H ⟨S3, m3, lo3, K3⟩ g4
  clear c3 m3 lo3 K3 g4
  have c4 := two_copy H O3 k1_len (by omega)
  go_wp2_with fail
  refine (c4).mono ?_
  rintro e w4 ⟨q, rfl, T4⟩
  clear c4
  have c5 := two_trim H T4.symm k1_len (by omega) (lba := 0) (n := 1) (by decide)
  go_wp2_with fail
  refine (c5).mono ?_
  rintro e w5 ⟨rfl, T5⟩
  clear c5 T4
  have T5 : Two M w w5 p q k1 k2 := T5.symm
  have c6 := two_dif H T5 k1_len (by omega) k2_len (by omega) k1_b8 k2_b8
  rw [k_dif] at c6
  go_wp2_with fail
  refine (c6).mono ?_
  rintro e w6 ⟨a6, n6, rfl, I6, T6⟩
  clear c6 T5
  have hc6 : (1 : Nat) ≤ n6 := I6.1
  obtain ⟨g6, rfl, d6⟩ := I6.at (i := 0) (by decide)
  have d6 : w6.cell? ⟨g6, 0, none⟩ = some (.int .i64 0) := d6
  have c7 := two_cont H T6 k1_len (by omega)
  have z3 : (strOfNums k1).size = 64 := by rw [strOfNums_size, k1_len]
  generalize strOfNums k1 = C at c7 z3
  simp only [List.length_cons, List.length_nil, Nat.zero_add]
  go_wp2_with fail
  refine (c7).mono ?_
  rintro e w7 ⟨rfl, T7⟩
  clear c7
  have HK := T7.kp
  go_wp2_with fail
  go_ret
  exact ⟨rfl, HK⟩
set_option maxRecDepth 100000 in
set_option maxHeartbeats 1000000 in
theorem known_law {M : (Nat → Prop) → World → Nat → List Int → Prop} (H : ArrOk M) (w : World) : Calls Try.prog 3 #[] w fun e w' => e = .returned (.bool true) ∧ Below w.heap.size w w' := by
  have hA := awake_any H w
  go_enter Try.func3, Try.ntmps3
  go_wp2_with fail
  refine (hA).mono ?_
  rintro e w1 ⟨rfl, a1⟩
  clear hA
  have c1 := H.new_no w1 (n := 0) ⟨by decide, by decide⟩ (by omega)
  go_wp2_with fail
  refine (c1).mono ?_
  rintro e w2 ⟨rfl, a2⟩
  clear c1
  have c2 := H.new_no w2 (n := 513) ⟨by decide, by decide⟩ (by omega)
  go_wp2_with fail
  refine (c2).mono ?_
  rintro e w3 ⟨rfl, a3⟩
  clear c2
  have c3 := one_new H ((a1.trans a2).trans a3) (n := 2) (by omega) (by omega)
  go_wp2_with fail
  refine (c3).mono ?_
  rintro e w4 ⟨p, rfl, O4⟩
  clear c3 a1 a2 a3
  obtain ⟨S, m4, lo, K4⟩ := O4
  have c4 := H.read_no (lba := 2) (n := 1) m4 k0_len (by omega) ⟨by decide, by decide⟩ ⟨by decide, by decide⟩ (by decide)
  go_wp2_with fail
  refine (c4).mono ?_
  rintro e w5 ⟨rfl, a5⟩
  have m5 := H.keep m4 a5 (fun _ e => e.elim)
  clear c4 m4
  have c5 := H.write_no (lba := 1) (n := 2) ⟨#[]⟩ (by decide) m5 k0_len (by omega) ⟨by decide, by decide⟩ ⟨by decide, by decide⟩ (by decide)
  go_wp2_with fail
  refine (c5).mono ?_
  rintro e w6 ⟨rfl, a6⟩
  have m6 := H.keep m5 a6 (fun _ e => e.elim)
  clear c5 m5
  have c6 := H.trim_no (lba := 0) (n := 0) m6 k0_len (by omega) ⟨by decide, by decide⟩ ⟨by decide, by decide⟩ (by decide)
  go_wp2_with fail
  refine (c6).mono ?_
  rintro e w7 ⟨rfl, a7⟩
  have m7 := H.keep m6 a7 (fun _ e => e.elim)
  clear c6 m6
  have c7 := H.write_no (lba := -1) (n := 1) ⟨#[120]⟩ (by decide) m7 k0_len (by omega) ⟨by decide, by decide⟩ ⟨by decide, by decide⟩ (by decide)
  go_wp2_with fail
  refine (c7).mono ?_
  rintro e w8 ⟨rfl, a8⟩
  clear c7 m7
  have HK := (((K4.trans a5).trans a6).trans a7).trans a8
  go_wp2_with fail
  go_ret
  exact ⟨rfl, HK.below (Nat.le_refl _) (fun _ e => e.elim)⟩
end Tg
end Go.Proofs.Ytikepmdlpalpfaa
