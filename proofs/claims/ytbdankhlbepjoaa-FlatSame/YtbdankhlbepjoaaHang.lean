/-
  A tree that hangs in an arena: its nodes are live, their fields are the tree's; what a call on the arena leaves of it.
-/
import Derived.Test.YtbdankhlbepjoaaArena
import Derived.Test.YtbdankhlbepjoaaAvl
namespace Go.Proofs.Ytbdankhlbepjoaa
namespace Tg

/-- The number that a link to a tree says. -/
def Tr.link : Tr → Nat
  | .nil => 0
  | .node i _ _ _ => i
/-- What the root's fields say. -/
def Tr.flds : Tr → Nat → Int
  | .nil, _ => 0
  | .node _ l x r, j => if j = 0 then (l.link : Int) else if j = 1 then (r.link : Int) else if j = 2 then ((max l.h r.h + 1 : Nat) : Int) else if j = 3 then x.lba else if j = 4 then x.len else x.phys
def Tr.ids (t : Tr) : List Nat := t.seq.map (·.1)
theorem Tr.ids_node (i : Nat) (l : Tr) (x : Rn) (r : Tr) : (Tr.node i l x r).ids = l.ids ++ i :: r.ids := by simp [Tr.ids, Tr.seq]

def Hang (s : Ar) : Tr → Prop
  | .nil => True
  | .node i l x r => (1 ≤ i ∧ i ≤ s.N ∧ s.live i = true ∧ ∀ j, j < 6 → s.fld i j = (Tr.node i l x r).flds j) ∧ Hang s l ∧ Hang s r

theorem Hang.congr {s t : Ar} (hN : t.N = s.N) : ∀ {u : Tr}, Hang s u → (∀ i ∈ u.ids, t.live i = s.live i ∧ ∀ j, j < 6 → t.fld i j = s.fld i j) → Hang t u
  | .nil, _, _ => trivial
  | .node i l x r, h, e => by
    rw [Tr.ids_node] at e
    obtain ⟨⟨h1, h2, h3, h4⟩, h5, h6⟩ := h
    have ei := e i (by simp)
    refine ⟨⟨h1, by omega, by rw [ei.1]; exact h3, fun j hj => by rw [ei.2 j hj]; exact h4 j hj⟩, h5.congr hN (fun k hk => e k (by simp [hk])), h6.congr hN (fun k hk => e k (by simp [hk]))⟩
theorem Hang.live {s : Ar} : ∀ {u : Tr}, Hang s u → ∀ i ∈ u.ids, 1 ≤ i ∧ i ≤ s.N ∧ s.live i = true
  | .nil, _, i, hi => by simp [Tr.ids, Tr.seq] at hi
  | .node k l x r, h, i, hi => by
    rw [Tr.ids_node] at hi
    obtain ⟨⟨h1, h2, h3, _⟩, h5, h6⟩ := h
    rcases List.mem_append.1 hi with hi | hi
    · exact h5.live i hi
    · rcases List.mem_cons.1 hi with rfl | hi
      · exact ⟨h1, h2, h3⟩
      · exact h6.live i hi
theorem Hang.set {s : Ar} {u : Tr} (h : Hang s u) {x : Nat} (hx : x ∉ u.ids) (n : Nat → Int) : Hang (s.set x n) u :=
  Hang.congr (s := s) (t := s.set x n) rfl h (fun i hi => ⟨rfl, fun j _ => by simp only [Ar.set]; rw [if_neg (by rintro rfl; exact hx hi)]⟩)
/-- A free node is none of the tree's. -/
theorem Hang.free {s : Ar} {l : List Nat} {u : Tr} (h : Hang s u) (ok : s.Ok l) {x : Nat} (hx : x ∈ l) : x ∉ u.ids := fun e => by
  obtain ⟨h1, h2, h3⟩ := h.live x e
  exact (ok.live x h1 h2).1 h3 hx
theorem Hang.take {s : Ar} {x : Nat} {r : List Nat} {u : Tr} (h : Hang s u) (ok : s.Ok (x :: r)) : Hang s.take u := by
  have hx := h.free ok (x := x) (by simp)
  have hf : s.first = x := ok.lnk.1
  refine Hang.congr (s := s) (t := s.take) rfl h (fun i hi => ?_)
  have e : ¬ i = x := by rintro rfl; exact hx hi
  simp only [Ar.take, Ar.wipe, hf, if_neg e]
  exact ⟨trivial, fun _ _ => trivial⟩
theorem Hang.give {s : Ar} {u : Tr} (h : Hang s u) {x : Nat} (hx : x ∉ u.ids) : Hang (s.give x) u := by
  refine Hang.congr (s := s) (t := s.give x) rfl h (fun i hi => ?_)
  have e : ¬ i = x := by rintro rfl; exact hx hi
  simp only [Ar.give, Ar.wipe, if_neg e]
  exact ⟨trivial, fun _ _ => trivial⟩
/-- A node is laid above two trees. -/
theorem Hang.above {s : Ar} {l r : Tr} (hl : Hang s l) (hr : Hang s r) {i : Nat} (h1 : 1 ≤ i) (h2 : i ≤ s.N) (h3 : s.live i = true) (hil : i ∉ l.ids) (hir : i ∉ r.ids) (x : Rn) : Hang (s.set i (Tr.node i l x r).flds) (.node i l x r) :=
  ⟨⟨h1, h2, h3, fun j _ => by simp [Ar.set]⟩, hl.set hil _, hr.set hir _⟩
end Tg
end Go.Proofs.Ytbdankhlbepjoaa
