/-
  The document's own detector in memory: a struct of three rows of numbers and a number.
-/
import Derived.Test.YthfbfepaoknmfaaSb
namespace Go.Proofs.Ythfbfepaoknmfaa
open Go.ChangeShapes Go.WideShapes Go.ChangeAt Go.RowKit
namespace Tg
theorem three {k : Nat} (h : k < 3) : k = 0 ∨ k = 1 ∨ k = 2 := by omega
def t3 {α : Type} (a b c : α) : Nat → α := fun k => if k = 0 then a else if k = 1 then b else c
def upd {α : Type} (f : Nat → α) (k : Nat) (v : α) : Nat → α := fun j => if j = k then v else f j
def dcell (A : Nat → Option Addr) (C : Nat → Nat) (X : Nat → List Int) (now : Int) : Nat → Value := fun k => if k < 3 then .slice (A k) (X k).length (C k) else .int .i64 now
/-- The detector lies in block p, its rows in blocks of their own, all made since w0. -/
structure Rf (w0 w : World) (p : Nat) (A : Nat → Option Addr) (C : Nat → Nat) (X : Nat → List Int) (now : Int) : Prop where
  top : Blk w p 4 (dcell A C X now)
  row : ∀ k, k < 3 → Ri w0 w (A k) (C k) (X k)
  out : ∀ k, k < 3 → A k ≠ some ⟨p, 0, none⟩
  two : ∀ j k, j < 3 → k < 3 → j ≠ k → ∀ g, A j = some ⟨g, 0, none⟩ → A k ≠ some ⟨g, 0, none⟩
  old : w0.heap.size ≤ p
/-- Its blocks. -/
def RfB (p : Nat) (A : Nat → Option Addr) (b : Nat) : Prop := b = p ∨ ∃ k, k < 3 ∧ A k = some ⟨b, 0, none⟩
theorem Rf.keep {w0 w : World} {p : Nat} {A : Nat → Option Addr} {C : Nat → Nat} {X : Nat → List Int} {now : Int} (h : Rf w0 w p A C X now) : Keep (fun _ => False) w0 w := (h.row 0 (by omega)).keep
theorem Rf.lt {w0 w : World} {p : Nat} {A : Nat → Option Addr} {C : Nat → Nat} {X : Nat → List Int} {now : Int} (h : Rf w0 w p A C X now) {b : Nat} (hb : RfB p A b) : w0.heap.size ≤ b ∧ b < w.heap.size := by
  rcases hb with rfl | ⟨k, hk, e⟩
  · exact ⟨h.old, Blk.lt h.top (by omega)⟩
  · exact (h.row k hk).block e
theorem Rf.other {S : Nat → Prop} {w0 w w' : World} {p : Nat} {A : Nat → Option Addr} {C : Nat → Nat} {X : Nat → List Int} {now : Int} (h : Rf w0 w p A C X now) (k : Keep S w w') (hs : ∀ b, RfB p A b → ¬ S b) (h0 : Keep (fun _ => False) w0 w') : Rf w0 w' p A C X now :=
  ⟨Blk.keep h.top k (hs p (Or.inl rfl)), fun j hj => (h.row j hj).other k (fun g e => hs g (Or.inr ⟨j, hj, e⟩)) h0, h.out, h.two, h.old⟩
theorem Rf.more {w0 w w' : World} {p : Nat} {A : Nat → Option Addr} {C : Nat → Nat} {X : Nat → List Int} {now : Int} (h : Rf w0 w p A C X now) (k : Keep (fun _ => False) w w') : Rf w0 w' p A C X now := h.other k (fun _ _ e => e) (h.keep.trans k)
theorem Rf.congr {w0 w : World} {p : Nat} {A A' : Nat → Option Addr} {C C' : Nat → Nat} {X X' : Nat → List Int} {now : Int} (h : Rf w0 w p A C X now) (ha : ∀ k, k < 3 → A k = A' k) (hc : ∀ k, k < 3 → C k = C' k) (hx : ∀ k, k < 3 → X k = X' k) : Rf w0 w p A' C' X' now :=
  ⟨h.top.congr (fun i hi => by unfold dcell; by_cases h3 : i < 3; rw [if_pos h3, if_pos h3, ha i h3, hc i h3, hx i h3]; rw [if_neg h3, if_neg h3]), fun k hk => by rw [← ha k hk, ← hc k hk, ← hx k hk]; exact h.row k hk, fun k hk => by rw [← ha k hk]; exact h.out k hk, fun j k hj hk hne g e => by rw [← ha k hk]; rw [← ha j hj] at e; exact h.two j k hj hk hne g e, h.old⟩
/-- A number of a row is set. -/
theorem Rf.set {w0 w : World} {p : Nat} {A : Nat → Option Addr} {C : Nat → Nat} {X : Nat → List Int} {now : Int} (h : Rf w0 w p A C X now) {k : Nat} (hk : k < 3) {g : Nat} (hg : A k = some ⟨g, 0, none⟩) (i : Nat) (v : Int) :
    Rf w0 (w.setCell ⟨g, i, none⟩ (.int .i64 v)) p A C (upd X k ((X k).set i v)) now := by
  have hgp : g ≠ p := fun e => h.out k hk (by rw [hg, e])
  have hK : Keep (fun b => b = g) w (w.setCell ⟨g, i, none⟩ (.int .i64 v)) := (Keep.refl (fun b => b = g) w).setCell (p := ⟨g, i, none⟩) (Or.inl rfl) _
  have hr := h.row k hk
  rw [hg] at hr
  have hr2 := hr.set i v
  refine ⟨(Blk.keep h.top hK (fun e => hgp e.symm)).congr (fun j hj => ?_), fun j hj => ?_, h.out, h.two, h.old⟩
  · unfold dcell upd
    by_cases h3 : j < 3
    · rw [if_pos h3, if_pos h3]
      by_cases e : j = k
      · subst e; rw [if_pos rfl, List.length_set]
      · rw [if_neg e]
    · rw [if_neg h3, if_neg h3]
  · unfold upd
    by_cases e : j = k
    · subst e; rw [if_pos rfl, hg]; exact hr2
    · rw [if_neg e]
      exact (h.row j hj).other hK (fun g' e1 e2 => h.two j k hj hk e g' e1 (by rw [hg, e2])) hr2.keep
/-- The number is set. -/
theorem Rf.setNow {w0 w : World} {p : Nat} {A : Nat → Option Addr} {C : Nat → Nat} {X : Nat → List Int} {now : Int} (h : Rf w0 w p A C X now) (v : Int) :
    Rf w0 (w.setCell ⟨p, 3, none⟩ (.int .i64 v)) p A C X v := by
  have hK : Keep (fun b => b = p) w (w.setCell ⟨p, 3, none⟩ (.int .i64 v)) := (Keep.refl (fun b => b = p) w).setCell (p := ⟨p, 3, none⟩) (Or.inl rfl) _
  have h0 : Keep (fun _ => False) w0 (w.setCell ⟨p, 3, none⟩ (.int .i64 v)) := h.keep.setCell (p := ⟨p, 3, none⟩) (Or.inr h.old) _
  refine ⟨(Blk.set h.top 3 _).congr (fun j hj => ?_), fun j hj => (h.row j hj).other hK (fun g e1 e2 => h.out j hj (by rw [e1, e2])) h0, h.out, h.two, h.old⟩
  unfold dcell
  by_cases h3 : j < 3
  · rw [if_neg (by omega), if_pos h3, if_pos h3]
  · rw [if_pos (by omega), if_neg h3]
/-- A row grows, and the struct is told. -/
theorem Rf.push {w0 w : World} {p : Nat} {A : Nat → Option Addr} {C : Nat → Nat} {X : Nat → List Int} {now : Int} (h : Rf w0 w p A C X now) {k : Nat} (hk : k < 3) (hl : (X k).length ≤ 100000) (x : Int) :
    ∃ a' c' w', (Builtin.append_ #[31, 31] 31 #[.slice (A k) (X k).length (C k), .slice (some ⟨w.heap.size, 0, none⟩) 1 1]).run Try.prog (w.alloc (.cells #[.int .i64 x] 3)) = .ok (.slice a' ((X k).length + 1) c') w' ∧ (∃ v, w'.cell? ⟨p, k, none⟩ = some v) ∧ w'.frozen? ⟨p, k, none⟩ = false ∧
      Rf w0 (w'.setCell ⟨p, k, none⟩ (.slice a' ((X k).length + 1) c')) p (upd A k a') (upd C k c') (upd X k (X k ++ [x])) now := by
  obtain ⟨a', c', w', hrun, hR, hK, hg⟩ := (h.row k hk).app1 hl x
  have hT : Blk w' p 4 (dcell A C X now) := Blk.keep h.top hK (fun e => h.out k hk e)
  have hlt : p < w.heap.size := Blk.lt h.top (by omega)
  have ha' : ∀ g, a' = some ⟨g, 0, none⟩ → g ≠ p ∧ ∀ j, j < 3 → j ≠ k → A j ≠ some ⟨g, 0, none⟩ := fun g e => by
    rcases hg with rfl | ⟨g', rfl, hg'⟩
    · exact ⟨fun e2 => h.out k hk (by rw [← e2]; exact e), fun j hj hne e2 => h.two k j hk hj (fun e => hne e.symm) g e e2⟩
    · injection e with e; injection e with e; subst e
      exact ⟨by omega, fun j hj hne e2 => by have := ((h.row j hj).block e2).2; omega⟩
  have hK2 : Keep (fun b => b = p) w' (w'.setCell ⟨p, k, none⟩ (.slice a' ((X k).length + 1) c')) := (Keep.refl (fun b => b = p) w').setCell (p := ⟨p, k, none⟩) (Or.inl rfl) _
  have h0 : Keep (fun _ => False) w0 (w'.setCell ⟨p, k, none⟩ (.slice a' ((X k).length + 1) c')) := hR.keep.setCell (p := ⟨p, k, none⟩) (Or.inr h.old) _
  refine ⟨a', c', w', hrun, ⟨_, (hT k (by omega)).1⟩, (hT k (by omega)).2, (Blk.set hT k _).congr (fun j hj => ?_), fun j hj => ?_, fun j hj => ?_, fun i j hi hj hne g => ?_, h.old⟩
  · unfold dcell upd
    by_cases e : j = k
    · subst e; rw [if_pos rfl, if_pos hk, if_pos rfl, if_pos rfl, if_pos rfl, List.length_append]; rfl
    · rw [if_neg e]
      by_cases h3 : j < 3
      · rw [if_pos h3, if_pos h3, if_neg e, if_neg e, if_neg e]
      · rw [if_neg h3, if_neg h3]
  · unfold upd
    by_cases e : j = k
    · subst e; rw [if_pos rfl, if_pos rfl, if_pos rfl]
      exact hR.other hK2 (fun g e1 e2 => (ha' g e1).1 e2) h0
    · rw [if_neg e, if_neg e, if_neg e]
      refine ((h.row j hj).other hK (fun g e1 e2 => h.two j k hj hk e g e1 e2) hR.keep).other hK2 (fun g e1 e2 => h.out j hj (by rw [e1, e2])) h0
  · unfold upd
    by_cases e : j = k
    · rw [if_pos e]; exact fun e2 => (ha' p e2).1 rfl
    · rw [if_neg e]; exact h.out j hj
  · unfold upd
    by_cases e : i = k
    · rw [if_pos e, if_neg (by omega)]
      exact fun e1 => (ha' g e1).2 j hj (by omega)
    · rw [if_neg e]
      by_cases e3 : j = k
      · rw [if_pos e3]
        exact fun e1 e2 => (ha' g e2).2 i hi e e1
      · rw [if_neg e3]
        exact h.two i j hi hj hne g
end Tg
end Go.Proofs.Ythfbfepaoknmfaa
