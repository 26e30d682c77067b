/-
  Sorted pages, stream by stream: mathematics alone.
-/
import Derived.Test.YtginnojbmpnleaaMf
namespace Go.Proofs.Ytginnojbmpnleaa
namespace Tg
/-- The stream of one page comes ahead of another one's. -/
def keyP (a b : Pg) : Prop := a.ep < b.ep ∨ (a.ep = b.ep ∧ (a.kind < b.kind ∨ (a.kind = b.kind ∧ a.gr < b.gr)))
/-- All streams of the first k pages come ahead of those of the others. -/
def Bound (D : List Pg) (k : Nat) : Prop := ∀ i j, i < k → k ≤ j → j < D.length → keyP (at0 D i) (at0 D j)
theorem at0_drop (D : List Pg) (k i : Nat) : at0 (D.drop k) i = at0 D (k + i) := by
  unfold at0
  rw [List.getD_eq_getElem?_getD, List.getD_eq_getElem?_getD, List.getElem?_drop]
theorem at0_take {D : List Pg} {n i : Nat} (h : i < n) : at0 (D.take n) i = at0 D i := by
  unfold at0
  rw [List.getD_eq_getElem?_getD, List.getD_eq_getElem?_getD, List.getElem?_take_of_lt h]
theorem grp_next {D : List Pg} {k n : Nat} (hs : Srt D) (hk : k < D.length) (hn1 : 1 ≤ n) (hn : n ≤ (D.drop k).length) (hsame : ∀ i, i < n → byS (at0 (D.drop k) 0) (at0 (D.drop k) i) = 0)
    (hdiff : n < (D.drop k).length → ¬ byS (at0 (D.drop k) 0) (at0 (D.drop k) n) = 0) (hok : ∀ q ∈ D, q.Ok) (hkind : ∀ q ∈ D, q.kind = 2 ∨ q.kind = 3) (hb : Bound D k) :
    Grp ((D.drop k).take n) ∧ Bound D (k + n) ∧ ∀ a ∈ D.take k, keyP a (at0 ((D.drop k).take n) 0) := by
  rw [List.length_drop] at hn hdiff
  have e0 : at0 ((D.drop k).take n) 0 = at0 D k := by rw [at0_take (by omega), at0_drop, Nat.add_zero]
  have hkey : ∀ i, i < n → (at0 D (k + i)).kind = (at0 D k).kind ∧ (at0 D (k + i)).ep = (at0 D k).ep ∧ (at0 D (k + i)).gr = (at0 D k).gr := fun i hi => by
    have := hsame i hi
    rw [at0_drop, at0_drop, Nat.add_zero] at this
    obtain ⟨h1, h2, h3⟩ := byS_zero.1 this
    exact ⟨h2.symm, h1.symm, h3.symm⟩
  have hlen : ((D.drop k).take n).length = n := by rw [List.length_take, List.length_drop]; omega
  refine ⟨⟨by omega, fun q hq => hok q (List.mem_of_mem_drop (List.mem_of_mem_take hq)), by rw [e0]; exact hkind _ (at0_mem hk), fun q hq => ?_, fun i j hij hj => ?_⟩, fun i j hi hj hjl => ?_, fun a ha => ?_⟩
  · obtain ⟨i, hi, rfl⟩ := mem_at0 hq
    rw [hlen] at hi
    rw [e0, at0_take hi, at0_drop]
    exact hkey i hi
  · rw [hlen] at hj
    rw [at0_take (by omega), at0_take hj, at0_drop, at0_drop]
    rcases Nat.lt_or_ge i j with c | c
    · have h1 := hs (k + i) (k + j) (by omega) (by omega)
      rw [cfP_lt] at h1
      have h2 := hkey i (by omega)
      have h3 := hkey j hj
      omega
    · rw [show i = j by omega]
      exact Int.le_refl _
  · by_cases c : i < k
    · exact hb i j c (by omega) hjl
    · have h2 := hkey (i - k) (by omega)
      rw [show k + (i - k) = i by omega] at h2
      have hd := hdiff (by omega)
      rw [at0_drop, at0_drop, Nat.add_zero, byS_zero] at hd
      have h3 := hs k (k + n) (by omega) (by omega)
      rw [cfP_lt] at h3
      have h4 : j = k + n ∨ ¬ cfP (at0 D j) (at0 D (k + n)) < 0 := by
        by_cases e : j = k + n
        · exact Or.inl e
        · exact Or.inr (hs (k + n) j (by omega) hjl)
      unfold keyP
      rcases h4 with rfl | h4
      · omega
      · rw [cfP_lt] at h4
        omega
  · obtain ⟨i, hi, rfl⟩ := mem_at0 ha
    rw [List.length_take] at hi
    rw [e0, at0_take (by omega)]
    exact hb i k (by omega) (Nat.le_refl _) hk
end Tg
end Go.Proofs.Ytginnojbmpnleaa
