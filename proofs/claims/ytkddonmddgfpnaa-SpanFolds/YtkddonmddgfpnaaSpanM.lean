/-
  How a map's runs, laid one after the other from the last to the first, make the same map; changes in parts.
-/
import Derived.Test.YtkddonmddgfpnaaFoldM
namespace Go.Proofs.Ytkddonmddgfpnaa
namespace Tg

/-- No entry lies further above 2^20 than its sector lies above the first. -/
def Low (t : List Int) : Prop := ∀ i : Nat, t.getD i (-1) ≤ 1048576 + (i : Int)
theorem Low.put {t : List Int} (h : Low t) {lba n : Nat} {phys : Int} (hr : lba + n ≤ t.length) (hp : phys ≤ 1048576) : Low (putN t lba phys n) := fun i => by
  have := h i
  rw [putN_get t _ _ _ hr i]
  split
  · split <;> omega
  · exact this
theorem Low.nil (C : Nat) : Low (List.replicate C (-1)) := fun i => by
  simp only [List.getD_eq_getElem?_getD, List.getElem?_replicate]
  split <;> simp <;> omega
theorem canDo_nat {C : Nat} {x : Rn} (h : CanDo C x) : x.lba.toNat + x.len.toNat ≤ C ∧ ((x.lba.toNat : Nat) : Int) = x.lba ∧ ((x.len.toNat : Nat) : Int) = x.len ∧ 1 ≤ x.len.toNat := by
  unfold CanDo at h; omega
theorem Low.step {t : List Int} (h : Low t) (N : Nat) (x : Rn) : Low (stepL N t x).1 := by
  unfold stepL
  split
  · next c =>
    split
    · exact h.put (canDo_nat c).1 (by unfold CanDo at c; omega)
    · exact h
  · exact h
theorem Low.run {N : Nat} : ∀ (l : List Rn) {t : List Int}, Low t → Low (runL N l t).1
  | [], _, h => h
  | x :: l, t, h => by
    rw [runL]
    split
    · exact Low.run l (h.step N x)
    · exact h
theorem Low.all {N : Nat} {l : List Rn} {t : List Int} (h : Low t) : Low (allL N l t) := by
  unfold allL
  split
  · exact h.run l
  · exact h
theorem allL_len (N : Nat) (l : List Rn) (t : List Int) : (allL N l t).length = t.length := by
  unfold allL
  split
  · exact runL_len N l t
  · rfl
theorem stepL_code (N : Nat) (t : List Int) (x : Rn) : (stepL N t x).2 = 0 ∨ (stepL N t x).2 = 1 ∨ (stepL N t x).2 = 5 := by
  unfold stepL
  split
  · split <;> simp
  · simp
theorem runL_code (N : Nat) : ∀ (l : List Rn) (t : List Int), (runL N l t).2 = 0 ∨ (runL N l t).2 = 1 ∨ (runL N l t).2 = 5
  | [], _ => Or.inl rfl
  | x :: l, t => by
    rw [runL]
    split
    · exact runL_code N l _
    · exact stepL_code N t x
/-- A change that is refused: the code of all. -/
theorem runL_bad {N : Nat} {a : List Rn} {x : Rn} {b : List Rn} {t : List Int} (h : (runL N a t).2 = 0) (hx : ¬ (stepL N (runL N a t).1 x).2 = 0) : (runL N (a ++ x :: b) t).2 = (stepL N (runL N a t).1 x).2 := by
  rw [runL_app, if_pos h, runL, if_neg hx]
theorem runL_good {N : Nat} {a : List Rn} {x : Rn} {t : List Int} (h : (runL N a t).2 = 0) (hx : (stepL N (runL N a t).1 x).2 = 0) : runL N (a ++ [x]) t = ((stepL N (runL N a t).1 x).1, 0) := by
  rw [runL_snoc N a x t h, if_pos hx]

/-- A run put where nothing is mapped from it back to the first sector. -/
def putL (N : Nat) (t : List Int) (r : Rn) : List Int :=
  if (stepL N t r).2 = 0 ∨ r.phys ≤ 1048576 then (stepL N t r).1
  else (stepL N (stepL N t ⟨r.lba - (r.phys - 1048576), r.len + (r.phys - 1048576), 1048576⟩).1 ⟨r.lba - (r.phys - 1048576), r.phys - 1048576, -1⟩).1
theorem putL_len (N : Nat) (t : List Int) (r : Rn) : (putL N t r).length = t.length := by
  unfold putL
  split
  · exact stepL_len _ _ _
  · rw [stepL_len, stepL_len]
/-- Runs put one after the other. -/
def layL (N : Nat) (l : List Rn) (t : List Int) : List Int := l.foldl (putL N) t
theorem layL_len (N : Nat) : ∀ (l : List Rn) (t : List Int), (layL N l t).length = t.length
  | [], _ => rfl
  | x :: l, t => by show (layL N l (putL N t x)).length = _; rw [layL_len N l, putL_len]
theorem layL_snoc (N : Nat) (l : List Rn) (x : Rn) (t : List Int) : layL N (l ++ [x]) t = putL N (layL N l t) x := by unfold layL; rw [List.foldl_append]; rfl

/-- A change that makes runs in their form, not too many: it is done. -/
theorem step_of {N C : Nat} {t u : List Int} {x : Rn} {m : List Rn} (hc : CanDo C x) (htl : t.length = C) (hu : u = putN t x.lba.toNat x.phys x.len.toNat) (ho : Of u m) (hN : m.length ≤ N) : stepL N t x = (u, 0) := by
  have hul : u.length = C := by rw [hu, putN_len]; exact htl
  have e := ho.runs
  rw [hul] at e
  unfold stepL
  rw [htl, if_pos hc, ← hu, ← e, if_pos hN]
/-- One run more, ahead of those that lie. -/
theorem put_of {N C : Nat} {t : List Int} {x : Rn} {m : List Rn} (htl : t.length = C) (ho : Of t m) (hf : Form (x :: m)) (hfin : x.fin ≤ (C : Int)) (hlow : x.phys ≤ 1048576 + x.lba) (hN : (x :: m).length ≤ N) : Of (putL N t x) (x :: m) := by
  obtain ⟨hx, hy, hm⟩ := Form.cons.1 hf
  unfold Rn.Ok at hx
  unfold Rn.fin at hfin
  by_cases c : x.phys ≤ 1048576
  · have hc : CanDo C x := by unfold CanDo; omega
    obtain ⟨n1, n2, n3, n4⟩ := canDo_nat hc
    have h1 : Of (putN t x.lba.toNat x.phys x.len.toNat) (x :: m) := ⟨hf, fun s => by
      rw [putN_entry t _ _ _ (by omega) s, n2, n3, if_neg (show ¬ x.phys < 0 by omega), page, ho.2 s]
      rfl⟩
    have h2 := step_of hc htl rfl h1 hN
    unfold putL
    rw [if_pos (Or.inr c), h2]
    exact h1
  · obtain ⟨f, hf0⟩ : ∃ f : Int, f = x.phys - 1048576 := ⟨_, rfl⟩
    have hno : ¬ (stepL N t x).2 = 0 := by
      unfold stepL
      rw [if_neg (by unfold CanDo; omega)]
      simp
    have hcy : CanDo C ⟨x.lba - f, x.len + f, 1048576⟩ := by unfold CanDo; simp only; omega
    obtain ⟨n1, n2, n3, n4⟩ := canDo_nat hcy
    simp only at n1 n2 n3 n4
    have hfy : Form (⟨x.lba - f, x.len + f, 1048576⟩ :: m) := Form.cons.2 ⟨by unfold Rn.Ok; simp only; omega, fun y hym => by
      have := hy y hym
      unfold Glued Rn.fin at *
      simp only at *
      omega, hm⟩
    have h1 : Of (putN t (x.lba - f).toNat 1048576 (x.len + f).toNat) (⟨x.lba - f, x.len + f, 1048576⟩ :: m) := ⟨hfy, fun s => by
      rw [putN_entry t _ _ _ (by omega) s, n2, n3, if_neg (show ¬ (1048576 : Int) < 0 by omega), page, ho.2 s]
      rfl⟩
    have h2 := step_of (x := ⟨x.lba - f, x.len + f, 1048576⟩) hcy htl rfl h1 hN
    have hcz : CanDo C ⟨x.lba - f, f, -1⟩ := by unfold CanDo; simp only; refine ⟨by omega, by omega, by omega, Or.inl trivial⟩
    obtain ⟨k1, k2, k3, k4⟩ := canDo_nat hcz
    simp only at k1 k2 k3 k4
    obtain ⟨u, hu⟩ : ∃ u : List Int, u = putN t (x.lba - f).toNat 1048576 (x.len + f).toNat := ⟨_, rfl⟩
    simp only at h2
    rw [← hu] at h1 h2
    have hul : u.length = C := by rw [hu, putN_len]; exact htl
    have h3 : Of (putN u (x.lba - f).toNat (-1) f.toNat) (x :: m) := ⟨hf, fun s => by
      rw [putN_entry u _ _ _ (by omega) s, k2, k3, if_pos (show (-1 : Int) < 0 by omega), ← h1.2 s, page, page]
      unfold Rn.fin
      simp only
      by_cases c1 : x.lba ≤ s ∧ s < x.lba + x.len
      · rw [if_pos c1, if_neg (by omega), if_pos (by omega)]
        congr 1
        omega
      · rw [if_neg c1]
        by_cases c2 : x.lba - f ≤ s ∧ s < x.lba - f + f
        · rw [if_pos c2]
          exact hf.page_low (by unfold Rn.fin; omega)
        · rw [if_neg c2, if_neg (by omega)]⟩
    have h4 := step_of (x := ⟨x.lba - f, f, -1⟩) hcz hul rfl h3 hN
    unfold putL
    rw [if_neg (by omega), ← hf0, h2, h4]
    exact h3
/-- All of a map's runs, from the last to the first: those behind a place. -/
theorem lay_of {N C : Nat} : ∀ {m : List Rn}, Form m → (∀ x ∈ m, x.fin ≤ (C : Int) ∧ x.phys ≤ 1048576 + x.lba) → m.length ≤ N → Of (layL N m.reverse (List.replicate C (-1))) m
  | [], _, _, _ => by
    refine ⟨Form.nil, fun s => ?_⟩
    show none = entry (List.replicate C (-1)) s
    unfold entry
    simp only [List.getD_eq_getElem?_getD, List.getElem?_replicate]
    rw [if_neg]
    split <;> simp
  | x :: m, hf, hb, hN => by
    have h1 := lay_of (N := N) (Form.cons.1 hf).2.2 (fun y hy => hb y (by simp [hy])) (by simp at hN; omega)
    rw [List.reverse_cons, layL_snoc]
    exact put_of (by rw [layL_len]; simp) h1 hf (hb x (by simp)).1 (hb x (by simp)).2 hN
theorem putN_ent {t : List Int} (h : Ent t) {lba n : Nat} (hr : lba + n ≤ t.length) (hc : t.length ≤ 512) {phys : Int} (hp : phys ≤ 1048576) : Ent (putN t lba phys n) := fun i => by
  have := h i
  rw [putN_get t _ _ _ hr i]
  split
  · split <;> omega
  · exact this
theorem stepL_ent {N : Nat} {t : List Int} (h : Ent t) (hc : t.length ≤ 512) (x : Rn) : Ent (stepL N t x).1 := by
  unfold stepL
  split
  · next c =>
    split
    · exact putN_ent h (canDo_nat c).1 hc (by unfold CanDo at c; omega)
    · exact h
  · exact h
theorem putL_ent {N : Nat} {t : List Int} (h : Ent t) (hc : t.length ≤ 512) (x : Rn) : Ent (putL N t x) := by
  unfold putL
  split
  · exact stepL_ent h hc x
  · exact stepL_ent (stepL_ent h hc _) (by rw [stepL_len]; exact hc) _
theorem layL_ent {N : Nat} : ∀ (l : List Rn) {t : List Int}, Ent t → t.length ≤ 512 → Ent (layL N l t)
  | [], _, h, _ => h
  | x :: l, t, h, hc => layL_ent l (putL_ent h hc x) (by rw [putL_len]; exact hc)
theorem ent_nil (C : Nat) : Ent (List.replicate C (-1)) := fun i => by
  simp only [List.getD_eq_getElem?_getD, List.getElem?_replicate]
  split <;> simp
/-- A run's first page is its first sector's entry. -/
theorem run_low {t : List Int} (hl : Low t) {m : List Rn} (ho : Of t m) {x : Rn} (hx : x ∈ m) : x.fin ≤ (t.length : Int) ∧ x.phys ≤ 1048576 + x.lba := by
  refine ⟨ho.fin hx, ?_⟩
  have hok := ho.1.1 x hx
  unfold Rn.Ok at hok
  have h1 := ho.1.page_of hx (s := x.lba) (by omega) (by unfold Rn.fin; omega)
  rw [ho.2 x.lba] at h1
  unfold entry at h1
  split at h1
  · injection h1 with h1
    have := hl x.lba.toNat
    omega
  · cases h1
/-- A map's runs, laid from the last to the first, make the map. -/
theorem lay_all {N C : Nat} {t : List Int} (hc : C ≤ 512) (htl : t.length = C) (he : Ent t) (hl : Low t) (hN : (refR t C).length ≤ N) : layL N (refR t C).reverse (List.replicate C (-1)) = t := by
  subst htl
  have ho := refR_of t
  have h1 := lay_of (N := N) (C := t.length) ho.1 (fun x hx => run_low hl ho hx) hN
  refine ent_ext (by rw [layL_len]; simp) (layL_ent _ (ent_nil _) (by simp; exact hc)) he (fun s => ?_)
  rw [← h1.2 s, ho.2 s]
end Tg
end Go.Proofs.Ytkddonmddgfpnaa
