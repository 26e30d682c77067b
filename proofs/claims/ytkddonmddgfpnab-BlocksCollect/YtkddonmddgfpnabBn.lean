/-
  A victim sought block by block: mathematics, for whatever loop the program goes.
-/
import Derived.Test.YtkddonmddgfpnabBk
namespace Go.Proofs.Ytkddonmddgfpnab
open Go.ChangeShapes Go.WideShapes Go.ChangeAt Go.RowKit
namespace Tg
/-- What is so behind the first n blocks. -/
structure VicI (v : List Int) (b : List Bool) (n : Nat) (r : Int) (ok : Bool) : Prop where
  yes : ok = true → ∃ j : Nat, r = (j : Int) ∧ j < n ∧ j < v.length ∧ b[j]? = some true ∧ ∀ i, i < n → i < v.length → b[i]? = some true → v.getD j 0 < v.getD i 0 ∨ (v.getD j 0 = v.getD i 0 ∧ j ≤ i)
  no : ok = false → r = 0 ∧ ∀ i, i < n → i < v.length → b[i]? ≠ some true
theorem vic_zero (v : List Int) (b : List Bool) : VicI v b 0 0 false := ⟨(fun h => by cases h), fun _ => ⟨rfl, fun i h => by omega⟩⟩
/-- A block that may not be taken. -/
theorem vic_skip {v : List Int} {b : List Bool} {n : Nat} {r : Int} {ok : Bool} (h : VicI v b n r ok) (hb : b[n]? ≠ some true) : VicI v b (n + 1) r ok := by
  refine ⟨fun e => ?_, fun e => ?_⟩
  · obtain ⟨j, h1, h2, h3, h4, h5⟩ := h.yes e
    refine ⟨j, h1, by omega, h3, h4, fun i hi hv hbi => ?_⟩
    by_cases c : i = n
    · subst c; exact (hb hbi).elim
    · exact h5 i (by omega) hv hbi
  · obtain ⟨h1, h2⟩ := h.no e
    refine ⟨h1, fun i hi hv => ?_⟩
    by_cases c : i = n
    · subst c; exact hb
    · exact h2 i (by omega) hv
/-- The first that may be taken. -/
theorem vic_first {v : List Int} {b : List Bool} {n : Nat} {r : Int} (h : VicI v b n r false) (hn : n < v.length) (hb : b[n]? = some true) : VicI v b (n + 1) (n : Int) true := by
  obtain ⟨-, h2⟩ := h.no rfl
  refine ⟨fun _ => ⟨n, rfl, by omega, hn, hb, fun i hi hv hbi => ?_⟩, fun e => by cases e⟩
  by_cases c : i = n
  · subst c; exact Or.inr ⟨rfl, by omega⟩
  · exact (h2 i (by omega) hv hbi).elim
/-- One with fewer. -/
theorem vic_less {v : List Int} {b : List Bool} {n j : Nat} (h : VicI v b n (j : Int) true) (hn : n < v.length) (hb : b[n]? = some true) (hl : v.getD n 0 < v.getD j 0) : VicI v b (n + 1) (n : Int) true := by
  obtain ⟨j', h1, h2, h3, h4, h5⟩ := h.yes rfl
  obtain rfl : j = j' := by omega
  refine ⟨fun _ => ⟨n, rfl, by omega, hn, hb, fun i hi hv hbi => ?_⟩, fun e => by cases e⟩
  by_cases c : i = n
  · subst c; exact Or.inr ⟨rfl, by omega⟩
  · have := h5 i (by omega) hv hbi
    omega
/-- One with no fewer. -/
theorem vic_more {v : List Int} {b : List Bool} {n j : Nat} (h : VicI v b n (j : Int) true) (hl : ¬ v.getD n 0 < v.getD j 0) : VicI v b (n + 1) (j : Int) true := by
  obtain ⟨j', h1, h2, h3, h4, h5⟩ := h.yes rfl
  obtain rfl : j = j' := by omega
  refine ⟨fun _ => ⟨j, rfl, by omega, h3, h4, fun i hi hv hbi => ?_⟩, fun e => by cases e⟩
  by_cases c : i = n
  · subst c; omega
  · exact h5 i (by omega) hv hbi
/-- All blocks seen. -/
theorem vic_end {v : List Int} {b : List Bool} {n : Nat} {r : Int} {ok : Bool} (h : VicI v b n r ok) (hn : v.length ≤ n ∨ b.length ≤ n) : VicS v b r ok := by
  have key : ∀ i, i < v.length → b[i]? = some true → i < n := fun i hi hb => by
    have := (List.getElem?_eq_some_iff.1 hb).1
    omega
  refine ⟨fun e => ?_, fun e => ?_⟩
  · obtain ⟨j, h1, h2, h3, h4, h5⟩ := h.yes e
    exact ⟨j, h1, h3, h4, fun i hi hb => h5 i (key i hi hb) hi hb⟩
  · obtain ⟨h1, h2⟩ := h.no e
    exact ⟨h1, fun i hi hb => h2 i (key i hi hb) hi hb⟩
end Tg
end Go.Proofs.Ytkddonmddgfpnab
