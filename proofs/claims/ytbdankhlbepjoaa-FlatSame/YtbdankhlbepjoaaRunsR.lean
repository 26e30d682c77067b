/-
  A range walked, as mathematics: a piece of a run, a piece of a hole, where a hole ends; what a walk along the list of the runs cuts.
-/
import Derived.Test.YtbdankhlbepjoaaRunsQ
namespace Go.Proofs.Ytbdankhlbepjoaa
namespace Tg

theorem Cut.run {m : List Rn} (h : Form m) {x : Rn} (hx : x ∈ m) {k hi e : Int} (h1 : x.lba ≤ k) (h2 : k < e) (h3 : e ≤ x.fin) (h4 : e ≤ hi) (h5 : e = x.fin ∨ e = hi) {b : List Rn} (hb : Cut (page m) hi e b) : Cut (page m) hi k (⟨k, e - k, x.phys + (k - x.lba)⟩ :: b) := by
  have ho := h.1 x hx
  have hf : (⟨k, e - k, x.phys + (k - x.lba)⟩ : Rn).fin = e := by unfold Rn.fin; simp only; omega
  have hp := ho.2.2
  refine ⟨rfl, by simp only; omega, by simp only; omega, by rw [hf]; exact h4, fun s s1 s2 => ?_, ?_, by rw [hf]; exact hb⟩
  · rw [hf] at s2
    unfold Fit
    simp only
    rw [if_neg (by omega), h.page_of hx (by omega) (by omega)]
    congr 1
    omega
  · rw [hf]
    rcases h5 with h5 | h5
    · refine Or.inr (fun g => h.stop hx ?_)
      unfold Fit at g
      simp only at g
      rw [if_neg (by omega), h5] at g
      rw [g]
      congr 1
      unfold Rn.fin
      omega
    · exact Or.inl h5
theorem Cut.hole {f : Int → Option Int} {k hi e : Int} (h2 : k < e) (h4 : e ≤ hi) (hn : ∀ s, k ≤ s → s < e → f s = none) (h5 : f e ≠ none ∨ e = hi) {b : List Rn} (hb : Cut f hi e b) : Cut f hi k (⟨k, e - k, -1⟩ :: b) := by
  have hf : (⟨k, e - k, -1⟩ : Rn).fin = e := by unfold Rn.fin; simp only; omega
  refine ⟨rfl, by simp only; omega, by simp, by rw [hf]; exact h4, fun s s1 s2 => ?_, ?_, by rw [hf]; exact hb⟩
  · rw [hf] at s2
    unfold Fit
    rw [hn s s1 s2]; rfl
  · rw [hf]
    rcases h5 with h5 | h5
    · exact Or.inr (fun g => h5 g)
    · exact Or.inl h5
/-- The first run that begins at a sector or behind it: those ahead begin ahead of it. -/
theorem ceilL_some {k : Int} {x : Rn} : ∀ {m : List Rn}, Tr.ceilL k m none = some x → ∃ a b, m = a ++ x :: b ∧ k ≤ x.lba ∧ ∀ y ∈ a, y.lba < k
  | [], h => by cases h
  | y :: m, h => by
    rw [Tr.ceilL] at h
    split at h
    · next c => injection h with h; subst h; exact ⟨[], m, rfl, c, by simp⟩
    · next c =>
      obtain ⟨a, b, e, h1, h2⟩ := ceilL_some h
      exact ⟨y :: a, b, by rw [e]; rfl, h1, fun z hz => by rcases List.mem_cons.1 hz with rfl | hz; omega; exact h2 z hz⟩
theorem ceilL_none {k : Int} : ∀ {m : List Rn}, Tr.ceilL k m none = none → ∀ y ∈ m, y.lba < k
  | [], _, y, hy => by cases hy
  | z :: m, h, y, hy => by
    rw [Tr.ceilL] at h
    split at h
    · cases h
    · next c =>
      rcases List.mem_cons.1 hy with rfl | hy
      · omega
      · exact ceilL_none h y hy
/-- From a sector that goes nowhere on nothing goes anywhere, up to the next run. -/
theorem hole_to {m : List Rn} (h : Form m) {k : Int} (hk : page m k = none) {s : Int} (hs : k ≤ s) (hc : ∀ x, Tr.ceilL k m none = some x → s < x.lba) : page m s = none := by
  refine page_none (fun y hy c => ?_)
  have h1 : y.lba < k := by
    cases e : Tr.ceilL k m none with
    | none => exact ceilL_none e y hy
    | some x =>
      obtain ⟨a, b, e2, h2, h3⟩ := ceilL_some e
      have := hc x e
      rw [e2] at hy h
      rcases List.mem_append.1 hy with hy | hy
      · exact h3 y hy
      · obtain ⟨-, hb, -⟩ := Form.app.1 h
        obtain ⟨ho, hr, -⟩ := Form.cons.1 hb
        rcases List.mem_cons.1 hy with rfl | hy
        · omega
        · have := (hr y hy).1
          have := ho.2.1
          unfold Rn.fin at *
          omega
  rw [h.page_of hy (by omega) (by omega)] at hk
  cases hk
theorem hole_end {m : List Rn} (h : Form m) {x : Rn} (hx : x ∈ m) : page m x.lba ≠ none := by
  have := (h.1 x hx).2.1
  rw [h.page_of hx (Int.le_refl _) (by unfold Rn.fin; omega)]
  intro e; cases e

/-- A walk along the runs: what lies in a range, the holes between. -/
def cutL (hi : Int) : Int → List Rn → List Rn
  | lo, [] => if lo < hi then [⟨lo, hi - lo, -1⟩] else []
  | lo, x :: m => if hi ≤ lo then [] else if x.fin ≤ lo then cutL hi lo m else
    if lo < x.lba then
      (if hi ≤ x.lba then [⟨lo, hi - lo, -1⟩] else
        ⟨lo, x.lba - lo, -1⟩ :: ⟨x.lba, (if hi ≤ x.fin then hi else x.fin) - x.lba, x.phys⟩ :: cutL hi (if hi ≤ x.fin then hi else x.fin) m)
    else ⟨lo, (if hi ≤ x.fin then hi else x.fin) - lo, x.phys + (lo - x.lba)⟩ :: cutL hi (if hi ≤ x.fin then hi else x.fin) m
theorem cutL_cut {w : List Rn} (hw : Form w) (hi : Int) : ∀ (m a : List Rn) (lo : Int), w = a ++ m → lo ≤ hi → (∀ y ∈ a, y.fin ≤ lo) → Cut (page w) hi lo (cutL hi lo m)
  | [], a, lo, e, hl, ha => by
    rw [cutL]
    split
    · next c =>
      refine Cut.hole c (Int.le_refl _) (fun s h1 h2 => page_none (fun y hy => ?_)) (Or.inr rfl) (show hi = hi from rfl)
      have := ha y (by simpa [e] using hy)
      omega
    · show lo = hi
      omega
  | x :: m, a, lo, e, hl, ha => by
    have hx : x ∈ w := by rw [e]; simp
    have hform := hw
    rw [e] at hform
    obtain ⟨fa, fx, fax⟩ := Form.app.1 hform
    obtain ⟨ho, hr, hm⟩ := Form.cons.1 fx
    have ho2 := ho.2.1
    have e' : w = (a ++ [x]) ++ m := by rw [e]; simp
    have hnone : ∀ s, lo ≤ s → s < x.lba → page w s = none := fun s s1 s2 => page_none (fun y hy c => by
      rw [e] at hy
      rcases List.mem_append.1 hy with hy | hy
      · have := ha y hy; omega
      · rcases List.mem_cons.1 hy with rfl | hy
        · omega
        · have := (hr y hy).1
          unfold Rn.fin at *
          omega)
    rw [cutL]
    by_cases c1 : hi ≤ lo
    · rw [if_pos c1]; show lo = hi; omega
    rw [if_neg c1]
    by_cases c2 : x.fin ≤ lo
    · rw [if_pos c2]
      exact cutL_cut hw hi m (a ++ [x]) lo e' hl (fun y hy => by
        rcases List.mem_append.1 hy with hy | hy
        · exact ha y hy
        · rw [List.mem_singleton] at hy; subst hy; exact c2)
    rw [if_neg c2]
    have hrest : ∀ k, lo ≤ k → k ≤ hi → (k = hi ∨ k = x.fin) → Cut (page w) hi k (cutL hi k m) := by
      intro k k1 k2 k3
      by_cases c : k = hi
      · subst c
        have : cutL k k m = [] := by
          cases m with
          | nil => rw [cutL, if_neg (by omega)]
          | cons y m => rw [cutL, if_pos (by omega)]
        rw [this]
        exact rfl
      · have c : k = x.fin := k3.resolve_left c
        refine cutL_cut hw hi m (a ++ [x]) k e' k2 (fun y hy => ?_)
        rcases List.mem_append.1 hy with hy | hy
        · have := ha y hy; omega
        · rw [List.mem_singleton] at hy; subst hy; omega
    have hE : ∀ E, E = (if hi ≤ x.fin then hi else x.fin) → E ≤ hi ∧ E ≤ x.fin ∧ (E = x.fin ∨ E = hi) := by
      intro E hE
      split at hE <;> omega
    generalize hEe : (if hi ≤ x.fin then hi else x.fin) = E
    obtain ⟨e1, e2, e3⟩ := hE E hEe.symm
    by_cases c3 : lo < x.lba
    · rw [if_pos c3]
      by_cases c4 : hi ≤ x.lba
      · rw [if_pos c4]
        exact Cut.hole (by omega) (Int.le_refl _) (fun s s1 s2 => hnone s s1 (by omega)) (Or.inr rfl) (show hi = hi from rfl)
      · rw [if_neg c4]
        have hlt : x.lba < E := by unfold Rn.fin at *; omega
        refine Cut.hole c3 (by omega) hnone (Or.inl (hole_end hw hx)) ?_
        have := Cut.run hw hx (Int.le_refl _) hlt e2 e1 e3 (hrest E (by omega) e1 e3.symm)
        rwa [Int.sub_self, Int.add_zero] at this
    · rw [if_neg c3]
      exact Cut.run hw hx (by omega) (by omega) e2 e1 e3 (hrest E (by omega) e1 e3.symm)
theorem Of.cutL {t : List Int} {m : List Rn} (h : Of t m) {lba n : Nat} (hr : lba + n ≤ t.length) : Tg.cutL ((lba : Int) + n) lba m = refP t lba n :=
  h.cut hr (cutL_cut h.1 _ m [] _ rfl (by omega) (by simp))
end Tg
end Go.Proofs.Ytbdankhlbepjoaa
