/-
  What the landed calls of window ask, as mathematics: their test of runs is the document's.
-/
import Derived.Test.YtojkiambkgkecaaWh
namespace Go.Proofs.Ytojkiambkgkecaa
namespace Tg
/-- May a run, by itself, be one of a map of a capacity (the landed way of asking)? -/
def inL (C : Int) (x : Rn) : Bool := decide (0 ≤ x.lba) && (decide (1 ≤ x.len) && (decide (x.len ≤ C - x.lba) && (decide (0 ≤ x.phys) && decide (x.phys ≤ 1073741824))))
theorem inL_iff {C : Int} {x : Rn} : inL C x = true ↔ 0 ≤ x.lba ∧ 1 ≤ x.len ∧ x.len ≤ C - x.lba ∧ 0 ≤ x.phys ∧ x.phys ≤ 1073741824 := by
  unfold inL
  simp
/-- May a run stand behind another? -/
def foL (a x : Rn) : Bool := decide (a.lba + a.len < x.lba) || (x.lba == a.lba + a.len && x.phys != a.phys + a.len)
theorem foL_eq (a x : Rn) : foL a x = folB a x := by
  unfold foL folB
  by_cases c : x.lba - a.lba = a.len
  · rw [if_pos c, decide_eq_false (by omega), show (x.lba == a.lba + a.len) = true by simp; omega]
    rw [Bool.false_or, Bool.true_and, Bool.eq_iff_iff]
    simp only [bne_iff_ne, ne_eq]
    omega
  · rw [if_neg c, show (x.lba == a.lba + a.len) = false by simp; omega]
    simp only [Bool.false_and, Bool.or_false]
    exact decide_eq_decide.2 (by omega)
def okL (C : Int) (p : Option Rn) (x : Rn) : Bool := inL C x && (match p with | none => true | some a => foL a x)
def fmP (C : Int) : Option Rn → List Rn → Bool
  | _, [] => true
  | p, x :: l => okL C p x && fmP C (some x) l
/-- The landed formed. -/
def fmB (C : Int) (l : List Rn) : Bool := decide (l.length ≤ 512) && fmP C none l
theorem fmP_iff {C : Int} (hC : C ≤ 512) : ∀ {l : List Rn} {p : Option Rn}, (fmP C p l = true ↔ formP p l = true ∧ ∀ x ∈ l, x.fin ≤ C)
  | [], p => by cases p <;> simp [fmP, formP]
  | x :: l, p => by
    have ih := fmP_iff hC (l := l) (p := some x)
    have hin : inL C x = true ↔ inB x = true ∧ x.fin ≤ C := by
      rw [inL_iff, inB_iff]
      unfold Rn.fin
      omega
    have hok : okL C p x = true ↔ okAt p x = true ∧ x.fin ≤ C := by
      unfold okL okAt
      rw [Bool.and_eq_true, Bool.and_eq_true, hin]
      cases p with
      | none => simp
      | some a => simp only [foL_eq]; constructor <;> (intro h; obtain ⟨h1, h2⟩ := h; simp_all)
    rw [formP_at, fmP, Bool.and_eq_true, Bool.and_eq_true, hok, ih]
    simp only [List.mem_cons, forall_eq_or_imp]
    constructor
    · rintro ⟨⟨a, b⟩, c, d⟩; exact ⟨⟨a, c⟩, b, d⟩
    · rintro ⟨⟨a, c⟩, b, d⟩; exact ⟨⟨a, b⟩, c, d⟩
theorem endB_all {l : List Rn} (h : ∀ x ∈ l, x.fin ≤ 512) : endB l = true := by
  unfold endB
  cases hl : l.getLast? with
  | none => rfl
  | some x =>
    simp only [decide_eq_true_iff]
    exact h x (List.mem_of_getLast? hl)
theorem fm_fit {C : Int} (hC : C ≤ 512) (l : List Rn) : fmB C l = (fit13 l && endC C l) := by
  rw [Bool.eq_iff_iff]
  unfold fmB fit13
  rw [Bool.and_eq_true, Bool.and_eq_true, Bool.and_eq_true, Bool.and_eq_true, fmP_iff hC]
  constructor
  · rintro ⟨a, b, c⟩; exact ⟨⟨a, b, endB_all (fun x hx => Int.le_trans (c x hx) hC)⟩, (endC_iff (formP_form b).1).2 c⟩
  · rintro ⟨⟨a, b, -⟩, d⟩; exact ⟨a, b, (endC_iff (formP_form b).1).1 d⟩
theorem fm_512 (l : List Rn) : fmB 512 l = fit13 l := by
  rw [fm_fit (Int.le_refl _)]
  cases h : fit13 l with
  | false => rfl
  | true =>
    have hF := Ft13.of h
    rw [Bool.true_and, endC_iff (formP_form (by unfold fit13 at h; rw [Bool.and_eq_true, Bool.and_eq_true] at h; exact h.2.1)).1]
    exact fun x hx => (hF.bd hx).2.2.1
/-- What Many and Richest ask, in the landed order. -/
theorem mOk_eq (l : List Rn) (C W : Int) : mOkB l C W = ((decide (1 ≤ C) && decide (C ≤ 512)) && ((decide (1 ≤ W) && decide (W ≤ C)) && fmB C l)) := by
  unfold mOkB
  by_cases h1 : 1 ≤ C
  · by_cases h2 : C ≤ 512
    · rw [fm_fit h2]
      by_cases h3 : 1 ≤ W
      · by_cases h4 : W ≤ C
        · simp [h1, h2, h3, h4]
        · simp [h4]
      · simp [h3]
    · simp [h2]
  · simp [h1]
/-- What Holes asks, in the landed order. -/
theorem hOk_eq (l : List Rn) (lba n : Int) : hOkB l lba n = (decide (0 ≤ lba) && (decide (1 ≤ n) && (decide (n ≤ 512 - lba) && fmB 512 l))) := by
  unfold hOkB okR
  rw [fm_512]
  cases fit13 l <;> cases decide (1 ≤ n) <;> cases decide (0 ≤ lba) <;> simp
end Tg
end Go.Proofs.Ytojkiambkgkecaa
