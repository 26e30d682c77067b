/-
  Are runs in their one form: the program's way of asking, and the document's own.
-/
import Derived.Test.YtkddonmddgfpnabSpB
import Derived.Deep.RegionHeld3
namespace Go.Proofs.Ytkddonmddgfpnab
open Go.ChangeShapes Go.WideShapes Go.ChangeAt Go.RowKit
namespace Tg

/-- May a run, by itself, be a map's? -/
def inB (x : Rn) : Bool := decide (0 ≤ x.lba) && decide (x.lba ≤ 1073741824) && decide (1 ≤ x.len) && decide (x.len ≤ 1073741824) && decide (0 ≤ x.phys) && decide (x.phys ≤ 1073741824)
theorem inB_iff {x : Rn} : inB x = true ↔ 0 ≤ x.lba ∧ x.lba ≤ 1073741824 ∧ 1 ≤ x.len ∧ x.len ≤ 1073741824 ∧ 0 ≤ x.phys ∧ x.phys ≤ 1073741824 := by
  unfold inB
  simp [and_assoc]
/-- May a run stand next behind another one? -/
def folB (a x : Rn) : Bool := if x.lba - a.lba = a.len then x.phys - a.phys != a.len else decide (a.len < x.lba - a.lba)
/-- Are runs in their form, behind one that may stand ahead? -/
def formP : Option Rn → List Rn → Bool
  | _, [] => true
  | none, x :: l => inB x && formP (some x) l
  | some a, x :: l => inB x && (folB a x && formP (some x) l)
theorem form_true : ∀ {m : List Rn} {p : Option Rn}, Form m → (∀ x ∈ m, inB x = true) → (∀ a, p = some a → ∀ x ∈ m, a.fin ≤ x.lba ∧ ¬ Glued a x) → formP p m = true
  | [], p, _, _, _ => by cases p <;> rfl
  | x :: m, p, hf, hb, hp => by
    obtain ⟨h1, h2, h3⟩ := Form.cons.1 hf
    have ih := form_true (p := some x) h3 (fun y hy => hb y (by simp [hy])) (fun a e y hy => by injection e with e; subst e; exact h2 y hy)
    cases p with
    | none => simp [formP, hb x (by simp), ih]
    | some a =>
      have h4 := hp a rfl x (by simp)
      have : folB a x = true := by
        unfold folB
        unfold Glued Rn.fin at h4
        split
        · simp; omega
        · simp; omega
      simp [formP, hb x (by simp), ih, this]

theorem inside_any (w : World) (n least : Int) : Calls Try.prog 47 #[.int .i64 n, .int .i64 least] w fun e w' => e = .returned (.bool (decide (least ≤ n) && decide (n ≤ 1073741824))) ∧ w' = w := by
  by_cases c : least ≤ n
  · go_enter Try.func47, Try.ntmps47
    go_wp2_with fail
    go_ret
    exact ⟨by simp [c], rfl⟩
  · go_enter Try.func47, Try.ntmps47
    go_wp2_with fail
    go_ret
    exact ⟨by simp; intros; omega, rfl⟩

/-- The run ahead of a place. -/
def prev (l : List Rn) : Nat → Option Rn
  | 0 => none
  | i + 1 => l[i]?
theorem prev_succ (l : List Rn) (i : Nat) : prev l (i + 1) = l[i]? := rfl
theorem drop_at {l : List Rn} {i : Nat} {x : Rn} (h : l[i]? = some x) : l.drop i = x :: l.drop (i + 1) := by
  obtain ⟨hi, e⟩ := List.getElem?_eq_some_iff.1 h
  rw [← List.getElem_cons_drop hi, e]
/-- What one place asks. -/
def okAt (p : Option Rn) (x : Rn) : Bool := inB x && (match p with | none => true | some a => folB a x)
theorem formP_at (p : Option Rn) (x : Rn) (l : List Rn) : formP p (x :: l) = (okAt p x && formP (some x) l) := by
  unfold okAt
  cases p <;> simp [formP, Bool.and_assoc]
end Tg
end Go.Proofs.Ytkddonmddgfpnab
