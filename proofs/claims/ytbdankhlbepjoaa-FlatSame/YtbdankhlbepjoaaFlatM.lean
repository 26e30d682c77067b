/-
  The runs of a list of pages are its pieces without the holes.
-/
import Derived.Test.YtbdankhlbepjoaaRunsP
namespace Go.Proofs.Ytbdankhlbepjoaa
namespace Tg

/-- The pieces that go somewhere. -/
def solid (m : List Rn) : List Rn := m.filter (fun x => x.phys != -1)
theorem solid_snoc (a : List Rn) (x : Rn) : solid (a ++ [x]) = solid a ++ (if x.phys = -1 then [] else [x]) := by
  unfold solid
  rw [List.filter_append]
  congr 1
  by_cases h : x.phys = -1
  · simp [h]
  · simp [h]
theorem refP_last (t : List Int) (hb : ∀ i, -1 ≤ t.getD i (-1)) (lba : Nat) : ∀ i, ∃ a x, refP t lba (i + 1) = a ++ [x] ∧ -1 ≤ x.phys ∧ (x.phys < 0 ↔ t.getD (lba + i) (-1) < 0)
  | 0 => ⟨[], _, by rw [refP, if_neg (by omega), refP], by simp only; split <;> omega, by simp only; split <;> omega⟩
  | i + 1 => by
    obtain ⟨a, x, e, h1, h2⟩ := refP_last t hb lba i
    rw [refP]
    have hk : lba + (i + 1) - 1 = lba + i := by omega
    rw [hk]
    split
    · next c =>
      rw [e, grow_snoc]
      refine ⟨a, _, rfl, h1, ?_⟩
      show x.phys < 0 ↔ _
      rw [h2]
      omega
    · exact ⟨_, _, rfl, by simp only; split <;> omega, by simp only; split <;> omega⟩
/-- The document's own runs are the pieces of the whole without the holes. -/
theorem refR_solid (t : List Int) (hb : ∀ i, -1 ≤ t.getD i (-1)) : ∀ i, solid (refP t 0 i) = refR t i
  | 0 => rfl
  | i + 1 => by
    have ih := refR_solid t hb i
    have hbi := hb i
    have hP : refP t 0 (i + 1) = if 0 < i ∧ (t.getD i (-1) < 0 ∧ t.getD (i - 1) (-1) < 0 ∨ 0 ≤ t.getD i (-1) ∧ 0 ≤ t.getD (i - 1) (-1) ∧ t.getD (i - 1) (-1) + 1 = t.getD i (-1)) then grow (refP t 0 i) else refP t 0 i ++ [⟨(i : Int), 1, if t.getD i (-1) < 0 then -1 else t.getD i (-1)⟩] := by
      rw [refP]; simp only [Nat.zero_add]
    by_cases c0 : t.getD i (-1) < 0
    · have hR : refR t (i + 1) = refR t i := by rw [refR, if_pos c0]
      rw [hR]
      by_cases c1 : 0 < i ∧ t.getD (i - 1) (-1) < 0
      · rw [if_pos ⟨c1.1, Or.inl ⟨c0, c1.2⟩⟩] at hP
        rw [hP, ← ih]
        obtain ⟨j, rfl⟩ : ∃ j, i = j + 1 := ⟨i - 1, by omega⟩
        obtain ⟨a, x, e, h1, h2⟩ := refP_last t hb 0 j
        rw [Nat.add_sub_cancel] at c1
        rw [Nat.zero_add] at h2
        have hx : x.phys = -1 := by have := h2.2 c1.2; omega
        rw [e, grow_snoc, solid_snoc, solid_snoc, if_pos hx, if_pos hx]
      · rw [if_neg (fun h => by omega), if_pos c0] at hP
        rw [hP, solid_snoc, if_pos rfl, List.append_nil, ih]
    · by_cases c1 : 0 < i ∧ 0 ≤ t.getD (i - 1) (-1) ∧ t.getD (i - 1) (-1) + 1 = t.getD i (-1)
      · have hR : refR t (i + 1) = grow (refR t i) := by rw [refR, if_neg c0, if_pos c1]
        rw [if_pos ⟨c1.1, Or.inr ⟨by omega, c1.2⟩⟩] at hP
        rw [hR, hP, ← ih]
        obtain ⟨j, rfl⟩ : ∃ j, i = j + 1 := ⟨i - 1, by omega⟩
        obtain ⟨a, x, e, h1, h2⟩ := refP_last t hb 0 j
        rw [Nat.add_sub_cancel] at c1
        rw [Nat.zero_add] at h2
        have hx : ¬ x.phys = -1 := fun h => by have := h2.1 (by omega); omega
        rw [e, grow_snoc, solid_snoc, solid_snoc, if_neg hx, if_neg hx, grow_snoc]
      · have hR : refR t (i + 1) = refR t i ++ [⟨(i : Int), 1, t.getD i (-1)⟩] := by rw [refR, if_neg c0, if_neg c1]
        rw [if_neg (fun h => by omega), if_neg c0] at hP
        rw [hR, hP, solid_snoc, if_neg (by simp only; omega), ih]
end Tg
end Go.Proofs.Ytbdankhlbepjoaa
