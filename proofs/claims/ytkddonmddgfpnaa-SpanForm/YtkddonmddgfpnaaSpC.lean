/-
  A run put, runs laid from the last to the first, a copy of a map; changes made whole or not at all.
-/
import Derived.Test.YtkddonmddgfpnaaSpB
namespace Go.Proofs.Ytkddonmddgfpnaa
open Go.ChangeShapes Go.WideShapes Go.ChangeAt Go.RowKit
namespace Tg

/-- A run that a map may hold. -/
def Rok (x : Rn) : Prop := 0 ≤ x.lba ∧ x.lba ≤ 512 ∧ 1 ≤ x.len ∧ x.len ≤ 512 ∧ 0 ≤ x.phys ∧ x.phys ≤ 1049088
set_option maxRecDepth 100000 in
set_option maxHeartbeats 1000000 in
theorem putS {W w : World} {q N C : Nat} {S T : Nat → Prop} {t : List Int} (h : Sp W w false q S T N C t) {x : Rn} (hx : Rok x) :
    Calls Try.prog 55 #[mapV false q, .agg #[.int .i64 x.lba, .int .i64 x.len, .int .i64 x.phys]] w fun e w' => (∃ v, e = .returned v) ∧ Sp W w' false q S T N C (putL N t x) ∧ Keep S w w' := by
  unfold Rok at hx
  have k1 : Keep S w (w.alloc (.cells #[.int .i64 x.lba, .int .i64 x.len, .int .i64 x.phys] 34)) := (Keep.refl _ _).alloc _
  have K1 : Keep (fun _ => False) w (w.alloc (.cells #[.int .i64 x.lba, .int .i64 x.len, .int .i64 x.phys] 34)) := (Keep.refl _ _).alloc _
  have h1 := h.more K1
  have c1 := h1.set (x := x) (by omega) (by omega)
  have hsw := h.sw
  unfold Chd at c1
  unfold fSet at c1
  have hm := mSet44 q
  have hmc := mClear44 q
  have dw := wrapI (x := x.phys - 1048576) (by omega) (by omega)
  have L1 : Blk (w.alloc (.cells #[.int .i64 x.lba, .int .i64 x.len, .int .i64 x.phys] 34)) w.heap.size 3 (rcell x) := blk_alloc w _ 34 3 _ (fun i hi => by
    have : i = 0 ∨ i = 1 ∨ i = 2 := by omega
    rcases this with rfl | rfl | rfl <;> rfl)
  have hng : ¬ S w.heap.size := fun e => by have := (hsw _ e).2.1; omega
  unfold mapV
  by_cases hz : (stepL N t x).2 = 0
  · have hp : putL N t x = (stepL N t x).1 := by unfold putL; rw [if_pos (Or.inl hz)]
    rw [hp]
    rw [hz] at c1
    generalize (stepL N t x).1 = u at c1 ⊢
    clear h h1 hz hp hsw L1 hng K1 hmc
    go_enter Try.func55, Try.ntmps55
    go_wp2_with (go_at_call 46; refine c1.mono ?_; rintro e w2 ⟨rfl, M2, k2⟩)
    refine bodyPost_ret (results_none rfl _ _ _) rfl ?_
    exact ⟨⟨_, rfl⟩, M2, k1.trans k2⟩
  · have hzb : ((stepL N t x).2 == 0) = false := by simp [hz]
    have hst : (stepL N t x).1 = t := stepL_keep hz
    rw [hst] at c1
    by_cases hf : x.phys ≤ 1048576
    · have hp : putL N t x = t := by unfold putL; rw [if_pos (Or.inr hf), hst]
      rw [hp]
      generalize (stepL N t x).2 = r at c1 hzb
      have df : x.phys - 1048576 ≤ 0 := by omega
      clear h h1 hz hp hsw L1 hng K1 hmc hst
      go_enter Try.func55, Try.ntmps55
      go_wp2_with (go_at_call 46; refine c1.mono ?_; rintro e w2 ⟨rfl, M2, k2⟩)
      refine bodyPost_ret (results_none rfl _ _ _) rfl ?_
      exact ⟨⟨_, rfl⟩, M2, k1.trans k2⟩
    · have hp : putL N t x = (stepL N (stepL N t ⟨x.lba - (x.phys - 1048576), x.len + (x.phys - 1048576), 1048576⟩).1 ⟨x.lba - (x.phys - 1048576), x.phys - 1048576, -1⟩).1 := by unfold putL; rw [if_neg (by omega)]
      rw [hp]
      generalize (stepL N t x).2 = r at c1 hzb
      have df : ¬ x.phys - 1048576 ≤ 0 := by omega
      have dw2 := wrapI (x := x.lba - (x.phys - 1048576)) (by omega) (by omega)
      have dw3 := wrapI (x := x.len + (x.phys - 1048576)) (by omega) (by omega)
      have hbl : x.lba - (x.phys - 1048576) ≤ 9223372036854775807 := by omega
      have c2 := fun (w2 : World) (h2 : Sp W w2 false q S T N C t) => h2.set (x := ⟨x.lba - (x.phys - 1048576), x.len + (x.phys - 1048576), 1048576⟩) hbl (by simp)
      have c3 := fun (w2 : World) (u : List Int) (h2 : Sp W w2 false q S T N C u) => h2.clear (lba := x.lba - (x.phys - 1048576)) (n := x.phys - 1048576) hbl
      unfold Chd at c2 c3
      unfold fSet at c2
      unfold fClear at c3
      have L2 := fun w2 (k : Keep S (w.alloc (.cells #[.int .i64 x.lba, .int .i64 x.len, .int .i64 x.phys] 34)) w2) => L1.keep k hng
      clear h h1 hz hp hsw hng K1 hst hx hbl hf
      go_enter Try.func55, Try.ntmps55
      go_upto_region 3 with (go_at_call 46; refine c1.mono ?_; rintro e w2 ⟨rfl, M2, k2⟩)
      have e0 : w2.cell? ⟨w.heap.size, 0, none⟩ = some (.int .i64 x.lba) := (L2 w2 k2 0 (by omega)).1
      have e1 : w2.cell? ⟨w.heap.size, 1, none⟩ = some (.int .i64 x.len) := (L2 w2 k2 1 (by omega)).1
      have d2 := c2 w2 M2
      clear c1 c2 M2
      go_wp2_with fail
      refine d2.mono ?_
      rintro e w3 ⟨rfl, M3, k3⟩
      have f0 : w3.cell? ⟨w.heap.size, 0, none⟩ = some (.int .i64 x.lba) := (L2 w3 (k2.trans k3) 0 (by omega)).1
      have d3 := c3 w3 _ M3
      clear d2 c3 M3 e0 e1 L2
      go_wp2_with fail
      refine d3.mono ?_
      rintro e w4 ⟨rfl, M4, k4⟩
      go_wp2_with fail
      go_end0
      exact ⟨⟨_, rfl⟩, M4, k1.trans (k2.trans (k3.trans k4))⟩
end Tg
end Go.Proofs.Ytkddonmddgfpnaa
