/-
  Pieces folded into one entry a sector, as mathematics: runs in their form fold to themselves, a part may be folded first; changes one after the other, as the document's own map makes them, whole or not at all.
-/
import Derived.Test.YtkddonmddgfpnaaTd
namespace Go.Proofs.Ytkddonmddgfpnaa
namespace Tg

/-- Is a piece passed over? -/
abbrev Skip (x : Rn) : Prop := x.phys < 0 ∨ 1048576 < x.phys ∨ x.len < 1 ∨ x.lba < 0 ∨ 512 < x.lba
/-- How many sectors of it lie below 512. -/
def clipN (x : Rn) : Nat := (min x.len (512 - x.lba)).toNat
/-- A piece over entries. -/
def fold1 (t : List Int) (x : Rn) : List Int := if Skip x then t else putN t x.lba.toNat x.phys (clipN x)
/-- Pieces over entries, one after the other. -/
def foldT (l : List Rn) (t : List Int) : List Int := l.foldl fold1 t
theorem foldT_nil (t : List Int) : foldT [] t = t := rfl
theorem foldT_cons (x : Rn) (l : List Rn) (t : List Int) : foldT (x :: l) t = foldT l (fold1 t x) := rfl
theorem foldT_app (a b : List Rn) (t : List Int) : foldT (a ++ b) t = foldT b (foldT a t) := List.foldl_append
theorem fold1_len (t : List Int) (x : Rn) : (fold1 t x).length = t.length := by
  unfold fold1
  split
  · rfl
  · exact putN_len _ _ _ _
theorem foldT_len : ∀ (l : List Rn) (t : List Int), (foldT l t).length = t.length
  | [], _ => rfl
  | x :: l, t => by rw [foldT_cons, foldT_len l, fold1_len]
theorem clip_in {x : Rn} (h : ¬ Skip x) : x.lba.toNat + clipN x ≤ 512 := by unfold Skip at h; unfold clipN; omega
/-- What an entry may be. -/
def Ent (t : List Int) : Prop := ∀ i, -1 ≤ t.getD i (-1) ∧ t.getD i (-1) ≤ 1049088
theorem fold1_ent {t : List Int} (ht : t.length = 512) (h : Ent t) (x : Rn) : Ent (fold1 t x) := by
  unfold fold1
  split
  · exact h
  · next c =>
    intro i
    have := h i
    have h1 := clip_in c
    rw [putN_get t _ _ _ (by omega) i]
    unfold Skip at c
    split
    · split <;> omega
    · exact this
theorem foldT_ent : ∀ (l : List Rn) {t : List Int}, t.length = 512 → Ent t → Ent (foldT l t)
  | [], _, _, h => h
  | x :: l, t, ht, h => by rw [foldT_cons]; exact foldT_ent l (by rw [fold1_len]; exact ht) (fold1_ent ht h x)
/-- Does a piece, as far as it lies below 512, hold a sector? -/
theorem fold1_entry {t : List Int} (ht : t.length = 512) {x : Rn} (hx : ¬ Skip x) (s : Int) : entry (fold1 t x) s = if x.lba ≤ s ∧ s < x.fin ∧ s < 512 then some (x.phys + (s - x.lba)) else entry t s := by
  have h1 := clip_in hx
  unfold fold1
  rw [if_neg hx, putN_entry t _ _ _ (by omega) s]
  unfold Skip at hx
  have e1 : ((x.lba.toNat : Nat) : Int) = x.lba := by omega
  have e2 : ((clipN x : Nat) : Int) = min x.len (512 - x.lba) := by unfold clipN; omega
  rw [e1, e2, if_neg (show ¬ x.phys < 0 by omega)]
  by_cases c : x.lba ≤ s ∧ s < x.fin ∧ s < 512
  · rw [if_pos (by unfold Rn.fin at c; omega), if_pos c]
  · rw [if_neg (by unfold Rn.fin at c; omega), if_neg c]
/-- Entries that tell the same are the same. -/
theorem ent_ext {t u : List Int} (hl : t.length = u.length) (ht : Ent t) (hu : Ent u) (h : ∀ s, entry t s = entry u s) : t = u := by
  refine List.ext_getElem? (fun i => ?_)
  by_cases c : i < t.length
  · have e := h (i : Int)
    rw [entry_nat c, entry_nat (hl ▸ c)] at e
    have h1 := ht i
    have h2 := hu i
    have g1 : t[i]? = some (t.getD i (-1)) := by simp [c]
    have g2 : u[i]? = some (u.getD i (-1)) := by simp [hl ▸ c]
    rw [g1, g2]
    generalize t.getD i (-1) = X at *
    generalize u.getD i (-1) = Y at *
    congr 1
    by_cases c1 : X < 0
    · by_cases c2 : Y < 0
      · omega
      · rw [if_pos c1, if_neg c2] at e; cases e
    · by_cases c2 : Y < 0
      · rw [if_neg c1, if_pos c2] at e; cases e
      · rw [if_neg c1, if_neg c2] at e; injection e
  · rw [List.getElem?_eq_none (by omega), List.getElem?_eq_none (by omega)]
/-- Runs in their form over entries. -/
theorem form_fold : ∀ {m : List Rn} {t : List Int}, t.length = 512 → Form m → (∀ x ∈ m, x.fin ≤ 512 ∧ x.phys ≤ 1048576) → ∀ s, entry (foldT m t) s = (page m s).or (entry t s)
  | [], t, _, _, _, s => by simp [foldT_nil, page]
  | x :: m, t, ht, hf, hb, s => by
    obtain ⟨hx, -, hm⟩ := Form.cons.1 hf
    have hx1 := hb x (by simp)
    have hsk : ¬ Skip x := by unfold Skip; unfold Rn.Ok at hx; unfold Rn.fin at hx1; omega
    rw [foldT_cons, form_fold (by rw [fold1_len]; exact ht) hm (fun y hy => hb y (by simp [hy])) s, fold1_entry ht hsk s, page]
    by_cases c : x.lba ≤ s ∧ s < x.fin
    · rw [if_pos ⟨c.1, c.2, by omega⟩, if_pos c, hf.page_low c.2]; rfl
    · rw [if_neg (fun h => c ⟨h.1, h.2.1⟩), if_neg c]
/-- A map that maps nothing. -/
def blank : List Int := List.replicate 512 (-1)
theorem blank_get (i : Nat) : blank.getD i (-1) = -1 := by
  unfold blank
  simp only [List.getD_eq_getElem?_getD, List.getElem?_replicate]
  split <;> rfl
theorem blank_ent : Ent blank := fun i => by rw [blank_get]; omega
theorem blank_len : blank.length = 512 := List.length_replicate
theorem blank_entry (s : Int) : entry blank s = none := by
  unfold entry
  rw [blank_get, if_neg (by omega)]
/-- What pieces fold to. -/
def foldR (l : List Rn) : List Rn := refR (foldT l blank) 512
theorem foldR_of (l : List Rn) : Of (foldT l blank) (foldR l) := by
  have := refR_of (foldT l blank)
  rwa [foldT_len, blank_len] at this
theorem foldR_form (l : List Rn) : Form (foldR l) := (foldR_of l).1
theorem foldR_fin {l : List Rn} {x : Rn} (hx : x ∈ foldR l) : x.fin ≤ 512 := by
  have := (foldR_of l).fin hx
  rwa [foldT_len, blank_len] at this
/-- Runs in their form fold to themselves. -/
theorem fold_self {m : List Rn} (hf : Form m) (hb : ∀ x ∈ m, x.fin ≤ 512 ∧ x.phys ≤ 1048576) : foldR m = m := by
  refine Form.one (foldR_form m) hf (fun s => ?_)
  rw [(foldR_of m).2 s, form_fold blank_len hf hb s, blank_entry]
  simp
/-- The entries of what pieces fold to are theirs. -/
theorem foldT_runs {l : List Rn} (hb : ∀ x ∈ foldR l, x.phys ≤ 1048576) : foldT (foldR l) blank = foldT l blank := by
  refine ent_ext (by rw [foldT_len, foldT_len]) (foldT_ent _ blank_len blank_ent) (foldT_ent _ blank_len blank_ent) (fun s => ?_)
  rw [form_fold blank_len (foldR_form l) (fun x hx => ⟨foldR_fin hx, hb x hx⟩) s, blank_entry, (foldR_of l).2 s]
  simp
/-- A part may be folded first. -/
theorem fold_part {a b : List Rn} (hb : ∀ x ∈ foldR a, x.phys ≤ 1048576) : foldR (foldR a ++ b) = foldR (a ++ b) := by
  unfold foldR
  rw [foldT_app, foldT_app, show foldT (refR (foldT a blank) 512) blank = foldT a blank from foldT_runs hb]

/-- May a change be made of so many sectors? -/
abbrev CanDo (C : Nat) (x : Rn) : Prop := 1 ≤ x.len ∧ 0 ≤ x.lba ∧ x.lba + x.len ≤ (C : Int) ∧ (x.phys = -1 ∨ 0 ≤ x.phys ∧ x.phys ≤ 1048576)
/-- The entries behind one change (a page of -1 clears), and the code. -/
def stepL (N : Nat) (t : List Int) (x : Rn) : List Int × Int :=
  if CanDo t.length x then (if (refR (putN t x.lba.toNat x.phys x.len.toNat) t.length).length ≤ N then (putN t x.lba.toNat x.phys x.len.toNat, 0) else (t, 5)) else (t, 1)
/-- Changes one after the other, up to the first that is refused. -/
def runL (N : Nat) : List Rn → List Int → List Int × Int
  | [], t => (t, 0)
  | x :: l, t => if (stepL N t x).2 = 0 then runL N l (stepL N t x).1 else (t, (stepL N t x).2)
/-- All of them, or none. -/
def allL (N : Nat) (l : List Rn) (t : List Int) : List Int := if (runL N l t).2 = 0 then (runL N l t).1 else t
theorem stepL_len (N : Nat) (t : List Int) (x : Rn) : (stepL N t x).1.length = t.length := by
  unfold stepL
  split
  · split
    · exact putN_len _ _ _ _
    · rfl
  · rfl
theorem stepL_keep {N : Nat} {t : List Int} {x : Rn} (h : ¬ (stepL N t x).2 = 0) : (stepL N t x).1 = t := by
  unfold stepL at *
  split
  · next c =>
    rw [if_pos c] at h
    split
    · next c2 => rw [if_pos c2] at h; simp at h
    · rfl
  · rfl
theorem runL_len (N : Nat) : ∀ (l : List Rn) (t : List Int), (runL N l t).1.length = t.length
  | [], _ => rfl
  | x :: l, t => by
    rw [runL]
    split
    · rw [runL_len N l, stepL_len]
    · rfl
theorem runL_app (N : Nat) : ∀ (a b : List Rn) (t : List Int), runL N (a ++ b) t = if (runL N a t).2 = 0 then runL N b (runL N a t).1 else runL N a t
  | [], b, t => by simp [runL]
  | x :: a, b, t => by
    rw [List.cons_append, runL, runL]
    by_cases c : (stepL N t x).2 = 0
    · rw [if_pos c, if_pos c, runL_app N a b]
    · rw [if_neg c, if_neg c, if_neg c]
theorem runL_snoc (N : Nat) (a : List Rn) (x : Rn) (t : List Int) (h : (runL N a t).2 = 0) : runL N (a ++ [x]) t = if (stepL N (runL N a t).1 x).2 = 0 then ((stepL N (runL N a t).1 x).1, 0) else ((runL N a t).1, (stepL N (runL N a t).1 x).2) := by
  rw [runL_app, if_pos h, runL]
  split
  · rfl
  · rfl
end Tg
end Go.Proofs.Ytkddonmddgfpnaa
