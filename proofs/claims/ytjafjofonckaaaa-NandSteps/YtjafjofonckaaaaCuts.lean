/-
  How many chunks of a page are written under a cut: any page, any number of steps.
-/
import Derived.Test.YtjafjofonckaaaaAwake
namespace Go.Proofs.Ytjafjofonckaaaa
open Go.ChangeShapes Go.WideShapes Go.ChangeAt Go.RowKit
namespace Nd

theorem Fl.write_full {b j : Nat} {d : Nat → Int} : ∀ (n q : Nat) (s : Fl), (s.cut = -1 ∨ (n : Int) ≤ s.cut) →
    (s.write b j d q n).1 = true ∧ ∀ i, (s.write b j d q n).2.cell i = if (b * s.P + j) * 68 + 4 * q ≤ i ∧ i < (b * s.P + j) * 68 + 4 * (q + n) then d (i - (b * s.P + j) * 68) else s.cell i
  | 0, q, s, _ => ⟨rfl, fun i => by rw [if_neg (by omega)]; rfl⟩
  | n + 1, q, s, h => by
    have hok : s.stepOk = true := by unfold Fl.stepOk; simp; omega
    have hc : (s.step.chunk b j d q).cut = -1 ∨ (n : Int) ≤ (s.step.chunk b j d q).cut := by
      show s.step.cut = -1 ∨ (n : Int) ≤ s.step.cut
      unfold Fl.step
      split
      · left; assumption
      · split
        · omega
        · right; simp only; omega
    obtain ⟨h1, h2⟩ := Fl.write_full n (q + 1) (s.step.chunk b j d q) hc
    rw [Fl.write_succ _ _ _ _ _ _ hok]
    refine ⟨h1, fun i => ?_⟩
    rw [h2 i]
    simp only [Fl.chunk_P, Fl.step_P]
    by_cases e : (b * s.P + j) * 68 + 4 * (q + 1) ≤ i ∧ i < (b * s.P + j) * 68 + 4 * (q + 1 + n)
    · rw [if_pos e, if_pos (by omega)]
    · rw [if_neg e]
      simp only [Fl.chunk, Fl.step_P, Fl.step_cell]
      by_cases e2 : (b * s.P + j) * 68 + 4 * q ≤ i ∧ i < (b * s.P + j) * 68 + 4 * q + 4
      · rw [if_pos e2, if_pos (by omega)]
      · rw [if_neg e2, if_neg (by omega)]

theorem Fl.write_cut {b j : Nat} {d : Nat → Int} : ∀ (n q k : Nat) (s : Fl), s.cut = (k : Int) → k < n →
    (s.write b j d q n).1 = false ∧ (∀ i, (s.write b j d q n).2.cell i = if (b * s.P + j) * 68 + 4 * q ≤ i ∧ i < (b * s.P + j) * 68 + 4 * (q + k) then d (i - (b * s.P + j) * 68) else s.cell i) ∧ (s.write b j d q n).2.next b = if k = 0 then s.next b else j + 1
  | 0, _, _, _, _, h => by omega
  | n + 1, q, k, s, hk, h => by
    cases k with
    | zero =>
      have hok : s.stepOk = false := by unfold Fl.stepOk; simp [hk]
      rw [Fl.write_stop _ _ _ _ _ _ hok]
      exact ⟨rfl, fun i => by rw [if_neg (by omega), Fl.step_cell], by rw [if_pos rfl, Fl.step_next]⟩
    | succ k =>
      have hok : s.stepOk = true := by unfold Fl.stepOk; simp; omega
      have hc : (s.step.chunk b j d q).cut = (k : Int) := by
        show s.step.cut = (k : Int)
        unfold Fl.step
        rw [if_neg (by omega), if_neg (by omega)]
        simp only; omega
      obtain ⟨h1, h2, h3⟩ := Fl.write_cut n (q + 1) k (s.step.chunk b j d q) hc (by omega)
      rw [Fl.write_succ _ _ _ _ _ _ hok]
      refine ⟨h1, fun i => ?_, ?_⟩
      · rw [h2 i]
        simp only [Fl.chunk_P, Fl.step_P]
        by_cases e : (b * s.P + j) * 68 + 4 * (q + 1) ≤ i ∧ i < (b * s.P + j) * 68 + 4 * (q + 1 + k)
        · rw [if_pos e, if_pos (by omega)]
        · rw [if_neg e]
          simp only [Fl.chunk, Fl.step_P, Fl.step_cell]
          by_cases e2 : (b * s.P + j) * 68 + 4 * q ≤ i ∧ i < (b * s.P + j) * 68 + 4 * q + 4
          · rw [if_pos e2, if_pos (by omega)]
          · rw [if_neg e2, if_neg (by omega)]
      · rw [h3, if_neg (show ¬ k + 1 = 0 by omega)]
        split
        · simp [Fl.chunk]
        · rfl

/-- A page of a flash of one block of two pages, programmed under a cut. -/
theorem steps_math (steps v : Int) : ∃ (r m nx : Nat) (t : Fl), ((Fl.new 1 2).setCut steps).program 0 0 (fun _ => v) = (r, t) ∧ (∀ i, i < 68 → t.cell i = if i < m then v else 255) ∧ t.next 0 = nx ∧
    ((steps < 0 ∨ 17 ≤ steps) → r = 0 ∧ m = 68) ∧ (0 ≤ steps → steps < 17 → r = 7 ∧ (m : Int) = 4 * steps ∧ nx = if steps = 0 then 0 else 1) ∧ m ≤ 68 := by
  have hp : ((Fl.new 1 2).setCut steps).program 0 0 (fun _ => v) = Fl.wrote (((Fl.new 1 2).setCut steps).progOne.failed.write 0 0 (fun _ => v) 0 17) 0 (((Fl.new 1 2).setCut steps).progOne.failed.write 0 0 (fun _ => v) 0 17).2 := rfl
  have hu : ((Fl.new 1 2).setCut steps).progOne.failed = ((Fl.new 1 2).setCut steps).progOne := rfl
  rw [hp, hu]
  by_cases h : steps < 0 ∨ 17 ≤ steps
  · obtain ⟨h1, h2⟩ := Fl.write_full (b := 0) (j := 0) (d := fun _ => v) 17 0 ((Fl.new 1 2).setCut steps).progOne (by simp only [Fl.progOne, Fl.setCut]; omega)
    refine ⟨0, 68, _, (((Fl.new 1 2).setCut steps).progOne.write 0 0 (fun _ => v) 0 17).2, by unfold Fl.wrote; rw [if_pos h1], fun i hi => ?_, rfl, fun _ => ⟨rfl, rfl⟩, fun _ _ => by omega, by omega⟩
    rw [h2 i, if_pos (by omega), if_pos hi]
  · obtain ⟨k, rfl⟩ : ∃ k : Nat, steps = k := ⟨steps.toNat, by omega⟩
    obtain ⟨h1, h2, h3⟩ := Fl.write_cut (b := 0) (j := 0) (d := fun _ => v) 17 0 k ((Fl.new 1 2).setCut k).progOne (by simp only [Fl.progOne, Fl.setCut]; omega) (by omega)
    refine ⟨7, 4 * k, _, (((Fl.new 1 2).setCut k).progOne.write 0 0 (fun _ => v) 0 17).2, by unfold Fl.wrote; rw [if_neg (by simp [h1])], fun i hi => ?_, rfl, fun _ => by omega, fun _ _ => ⟨rfl, by omega, ?_⟩, by omega⟩
    · rw [h2 i]
      by_cases e : i < 4 * k
      · rw [if_pos (by omega), if_pos e]
      · rw [if_neg (by omega), if_neg e]; rfl
    · rw [h3]
      by_cases e : k = 0
      · rw [if_pos e, if_pos (by omega)]; rfl
      · rw [if_neg e, if_neg (by omega)]
end Nd
end Go.Proofs.Ytjafjofonckaaaa
