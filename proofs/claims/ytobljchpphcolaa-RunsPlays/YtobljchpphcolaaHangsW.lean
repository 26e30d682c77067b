/-
  The statement's own look at the views: hangs tells the height of a whole tree.
-/
import Derived.Test.YtobljchpphcolaaHangsN
namespace Go.Proofs.Ytobljchpphcolaa
open Go.ChangeShapes Go.WideShapes Go.ChangeAt Go.RowKit
namespace Tg

theorem views_nil {t : Tr} : 0 < t.views.length ↔ t ≠ .nil := by
  cases t with
  | nil => simp [Tr.views]
  | node i l x r => simp [Tr.views]; omega
theorem nil_of {t : Tr} (h : ¬ 0 < t.views.length) : t = .nil := Classical.byContradiction (fun e => h (views_nil.2 e))
theorem link_nil {t : Tr} (h : ∀ z ∈ t.ids, 1 ≤ z) : t.link ≠ 0 ↔ t ≠ .nil := by
  cases t with
  | nil => simp [Tr.link]
  | node i l x r =>
    have := h i (by simp [mem_node])
    simp [Tr.link]; omega
set_option maxRecDepth 100000 in
theorem h_nil {t : Tr} (h : t ≠ .nil) : 1 ≤ t.h := by
  cases t with
  | nil => exact absurd rfl h
  | node i l x r => simp [Tr.h]

set_option maxRecDepth 100000 in
theorem hangs_any {w : World} {G : Nat} {V : List Vw} (hR : Rw w G (V.length * 7) (vcells V)) (hV : V.length ≤ 512) : ∀ (u : Tr), u.ids.Nodup → u.Bal → (∀ z ∈ u.ids, 1 ≤ z) → u ≠ .nil → ∀ (A B : List Vw), V = A ++ u.views ++ B →
    Calls Try.prog 47 #[.slice (some ⟨G, 0, none⟩) V.length V.length, .int .i64 (A.length : Int), .int .i64 ((A.length + u.views.length : Nat) : Int), .int .u32 (u.link : Int)] w fun e w' => e = .returned (.int .i64 (u.h : Int)) ∧ w' = w := by
  intro u
  induction u with
  | nil => intro _ _ _ h; exact absurd rfl h
  | node i l x r il ir =>
    intro hnd hbal h1 _ A B hVe
    obtain ⟨n1, n2, n3, n4, n5⟩ := nd_node.1 hnd
    have hz : ∀ z, z ∈ l.ids ∨ z = i ∨ z ∈ r.ids → 1 ≤ z := fun z hz => h1 z (mem_node.2 hz)
    have hb := hbal
    simp only [Tr.Bal] at hb
    obtain ⟨hb1, hb2, hb3, hb4⟩ := hb
    obtain ⟨root, hroot⟩ : ∃ root : Vw, root = ⟨i, l.link, r.link, ((max l.h r.h + 1 : Nat) : Int), x⟩ := ⟨_, rfl⟩
    have hvs : (Tr.node i l x r).views = l.views ++ root :: r.views := by rw [hroot]; rfl
    have hlen : V.length = A.length + (l.views.length + 1 + r.views.length) + B.length := by rw [hVe, hvs]; simp; omega
    have hlh : l.h ≤ 512 := by have := l.h_le; rw [← Tr.views_len] at this; omega
    have hrh : r.h ≤ 512 := by have := r.h_le; rw [← Tr.views_len] at this; omega
    have hP : V[A.length + l.views.length]? = some root := by
      rw [hVe, hvs, List.append_assoc, List.getElem?_append_right (by omega), List.getElem?_append_left (by simp), List.getElem?_append_right (by omega)]
      simp
    obtain ⟨c0, c1, c2, c3, -⟩ := view_cells hR hP
    have hll := link_nil (t := l) (fun z h => hz z (Or.inl h))
    have hrr := link_nil (t := r) (fun z h => hz z (Or.inr (Or.inr h)))
    have key := hangs_node (w := w) (G := G) (n := V.length) (F := A.length) (P := A.length + l.views.length) (T := A.length + (Tr.node i l x r).views.length) (i := i) (ll := l.link) (rr := r.link) (M := ((max l.h r.h + 1 : Nat) : Int)) (lh := (l.h : Int)) (rh := (r.h : Int)) hV
      (by rw [hvs]; simp; omega) (by omega) (by rw [hvs]; simp)
      (fun q q1 q2 => by
        have hq : V[q]? = l.views[q - A.length]? := by
          rw [hVe, hvs, List.append_assoc, List.getElem?_append_right (by omega), List.getElem?_append_left (by simp; omega), List.getElem?_append_left (by omega)]
        obtain ⟨v, hv⟩ : ∃ v, l.views[q - A.length]? = some v := ⟨_, List.getElem?_eq_getElem (by omega)⟩
        refine ⟨v.id, (view_cells hR (by rw [hq]; exact hv)).1, ?_⟩
        rintro e
        have : v.id ∈ l.ids := by rw [← Tr.views_ids]; exact List.mem_map.2 ⟨v, List.mem_of_getElem? hv, rfl⟩
        rw [e] at this
        exact n3 this)
      (by rw [c0, hroot]) (by rw [c1, hroot]) (by rw [c2, hroot]) (by rw [c3, hroot])
      (fun h => by
        have hl : l ≠ .nil := views_nil.1 (by omega)
        have := h_nil hl
        exact ⟨by omega, il n1 hb1 (fun z h => hz z (Or.inl h)) hl A (root :: r.views ++ B) (by rw [hVe, hvs]; simp)⟩)
      (fun h => by
        have : l = .nil := nil_of (by omega)
        rw [this]; rfl)
      (by rw [hll, ← views_nil]; omega)
      (fun h => by
        have hr : r ≠ .nil := views_nil.1 (by rw [hvs] at h; simp at h; omega)
        have := h_nil hr
        have hc := ir n2 hb2 (fun z h => hz z (Or.inr (Or.inr h))) hr (A ++ l.views ++ [root]) B (by rw [hVe, hvs]; simp)
        have e1 : (((A ++ l.views ++ [root]).length : Nat) : Int) = ((A.length + l.views.length : Nat) : Int) + 1 := by simp; omega
        have e2 : (A ++ l.views ++ [root]).length + r.views.length = A.length + (Tr.node i l x r).views.length := by rw [hvs]; simp; omega
        rw [e1, e2] at hc
        exact ⟨by omega, hc⟩)
      (fun h => by
        have : r = .nil := nil_of (by rw [hvs] at h; simp at h; omega)
        rw [this]; rfl)
      (by rw [hrr, ← views_nil, hvs]; simp; omega) (by omega) (by omega) (by omega) (by omega) (by omega) (by omega) (by omega)
    exact key
end Tg
end Go.Proofs.Ytobljchpphcolaa
