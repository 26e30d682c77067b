/-
  Consequences, as mathematics: how many runs there can be, what is set again changes nothing, ranges apart, a map built again from its runs, bounds of sectors and pages.
-/
import Derived.Test.YtbdankhlbepjoaaRunsP
namespace Go.Proofs.Ytbdankhlbepjoaa
namespace Tg

/-- No more runs than sectors. -/
theorem Form.count : ∀ {m : List Rn} {lo hi : Int}, Form m → lo ≤ hi → (∀ x ∈ m, lo ≤ x.lba ∧ x.fin ≤ hi) → lo + m.length ≤ hi
  | [], lo, hi, _, h, _ => by simp; exact h
  | x :: m, lo, hi, hm, _, hx => by
    obtain ⟨ho, hr, hm'⟩ := Form.cons.1 hm
    have h1 := hx x (by simp)
    have h2 := ho.2.1
    have ih := Form.count (lo := x.fin) (hi := hi) hm' h1.2 (fun y hy => ⟨(hr y hy).1, (hx y (by simp [hy])).2⟩)
    rw [List.length_cons]
    unfold Rn.fin at *
    omega
theorem Of.count {t : List Int} {m : List Rn} (h : Of t m) : m.length ≤ t.length := by
  have := h.1.count (lo := 0) (hi := t.length) (by omega) (fun x hx => ⟨(h.1.1 x hx).1, h.fin hx⟩)
  omega

/-- What is there already, set again. -/
theorem setL_same {r : Rn} (hr : r.Ok) {m : List Rn} (h : Form m) (hs : ∀ s, r.lba ≤ s → s < r.fin → page m s = some (r.phys + (s - r.lba))) : setL r m = m :=
  Form.one (setL_form hr h) h (fun s => by
    rw [setL_page hr h]
    split
    · next c => rw [hs s c.1 c.2]
    · rfl)
theorem clearL_same {lo hi : Int} (h0 : 0 ≤ lo) (hl : lo < hi) {m : List Rn} (h : Form m) (hs : ∀ s, lo ≤ s → s < hi → page m s = none) : clearL lo hi m = m :=
  Form.one (clearL_form h0 hl h) h (fun s => by
    rw [clearL_page (by omega)]
    split
    · next c => rw [hs s c.1 c.2]
    · rfl)
/-- A piece of the map, set again (a hole: cleared). -/
theorem fit_same {x : Rn} {m : List Rn} (h : Form m) (h0 : 0 ≤ x.lba) (h1 : 1 ≤ x.len) (hs : ∀ s, x.lba ≤ s → s < x.fin → Fit (page m) x s) : (if x.phys < 0 then clearL x.lba x.fin m else setL x m) = m := by
  by_cases c : x.phys < 0
  · rw [if_pos c]
    refine clearL_same h0 (by unfold Rn.fin; omega) h (fun s a b => ?_)
    have := hs s a b
    unfold Fit at this
    rwa [if_pos c] at this
  · rw [if_neg c]
    refine setL_same ⟨h0, h1, by omega⟩ h (fun s a b => ?_)
    have := hs s a b
    unfold Fit at this
    rwa [if_neg c] at this
/-- Every piece of a cut lies in its range and fits. -/
theorem Cut.mem {f : Int → Option Int} {hi : Int} : ∀ {lo : Int} {p : List Rn}, Cut f hi lo p → ∀ x ∈ p, lo ≤ x.lba ∧ 1 ≤ x.len ∧ -1 ≤ x.phys ∧ x.fin ≤ hi ∧ ∀ s, x.lba ≤ s → s < x.fin → Fit f x s
  | _, [], _, x, hx => by cases hx
  | lo, y :: p, ⟨h1, h2, h3, h4, h5, _, h7⟩, x, hx => by
    rcases List.mem_cons.1 hx with rfl | hx
    · exact ⟨by omega, h2, h3, h4, fun s hs => h5 s (by omega)⟩
    · obtain ⟨g1, g2⟩ := h7.mem x hx
      exact ⟨by unfold Rn.fin at g1; omega, g2⟩
/-- A run ahead of all others, set. -/
theorem setL_cons {x : Rn} {m : List Rn} (h : Form (x :: m)) : setL x m = x :: m :=
  Form.one (setL_form (Form.cons.1 h).1 (Form.cons.1 h).2.2) h (fun s => by rw [setL_page (Form.cons.1 h).1 (Form.cons.1 h).2.2, page])
/-- The runs of a map, set from the last to the first into an empty one. -/
theorem setL_all : ∀ {m : List Rn}, Form m → m.foldr setL [] = m
  | [], _ => rfl
  | x :: m, h => by rw [List.foldr_cons, setL_all (Form.cons.1 h).2.2, setL_cons h]

/-- A change: a range set, or cleared. -/
def chg (x : Rn) (m : List Rn) : List Rn := if x.phys < 0 then clearL x.lba x.fin m else setL x m
theorem chg_form {x : Rn} (h0 : 0 ≤ x.lba) (h1 : 1 ≤ x.len) {m : List Rn} (h : Form m) : Form (chg x m) := by
  unfold chg
  split
  · exact clearL_form h0 (by unfold Rn.fin; omega) h
  · exact setL_form ⟨h0, h1, by omega⟩ h
theorem chg_page {x : Rn} (h0 : 0 ≤ x.lba) (h1 : 1 ≤ x.len) {m : List Rn} (h : Form m) (s : Int) : page (chg x m) s = if x.lba ≤ s ∧ s < x.fin then (if x.phys < 0 then none else some (x.phys + (s - x.lba))) else page m s := by
  unfold chg
  split
  · exact clearL_page (by unfold Rn.fin; omega) m s
  · exact setL_page ⟨h0, h1, by omega⟩ h s
/-- Changes of ranges apart, in either order. -/
theorem chg_comm {x y : Rn} (x0 : 0 ≤ x.lba) (x1 : 1 ≤ x.len) (y0 : 0 ≤ y.lba) (y1 : 1 ≤ y.len) (hd : x.fin ≤ y.lba ∨ y.fin ≤ x.lba) {m : List Rn} (h : Form m) : chg x (chg y m) = chg y (chg x m) :=
  Form.one (chg_form x0 x1 (chg_form y0 y1 h)) (chg_form y0 y1 (chg_form x0 x1 h)) (fun s => by
    rw [chg_page x0 x1 (chg_form y0 y1 h), chg_page y0 y1 h, chg_page y0 y1 (chg_form x0 x1 h), chg_page x0 x1 h]
    by_cases c1 : x.lba ≤ s ∧ s < x.fin
    · rw [if_pos c1, if_neg (show ¬ (y.lba ≤ s ∧ s < y.fin) by omega), if_pos c1]
    · rw [if_neg c1, if_neg c1])
/-- All of it cleared. -/
theorem clearL_whole {hi : Int} (hl : 0 < hi) {m : List Rn} (h : Form m) (hf : ∀ x ∈ m, x.fin ≤ hi) : clearL 0 hi m = [] :=
  Form.one (clearL_form (Int.le_refl _) hl h) Form.nil (fun s => by
    rw [clearL_page (by omega)]
    split
    · rfl
    · next c =>
      refine page_none (fun x hx => ?_)
      have := hf x hx
      have := (h.1 x hx).1
      omega)

/-- Bounds of sectors and pages. -/
def Lim (cap top : Int) (m : List Rn) : Prop := ∀ x ∈ m, x.fin ≤ cap ∧ x.phys + x.len ≤ top
theorem Lim.nil (cap top : Int) : Lim cap top [] := fun _ h => by cases h
theorem Lim.page {cap top : Int} {m : List Rn} (h : Lim cap top m) (hm : Form m) {s p : Int} (hp : page m s = some p) : 0 ≤ s ∧ s < cap ∧ 0 ≤ p ∧ p < top := by
  obtain ⟨x, hx, h1, h2, h3⟩ := page_mem hp
  have h4 := h x hx
  have h5 := hm.1 x hx
  have := h5.1
  have := h5.2.2
  unfold Rn.fin at *
  omega
theorem Lim.of {cap top : Int} {m : List Rn} (hm : Form m) (h : ∀ s p, Tg.page m s = some p → s < cap ∧ p < top) : Lim cap top m := fun x hx => by
  have h1 := (hm.1 x hx).2.1
  have := h (x.fin - 1) _ (hm.page_of hx (by unfold Rn.fin; omega) (by omega))
  unfold Rn.fin at *
  omega
theorem Lim.chg {cap top : Int} {m : List Rn} (h : Lim cap top m) (hm : Form m) {x : Rn} (h0 : 0 ≤ x.lba) (h1 : 1 ≤ x.len) (h2 : x.fin ≤ cap) (h3 : 0 ≤ x.phys → x.phys + x.len ≤ top) : Lim cap top (chg x m) :=
  Lim.of (chg_form h0 h1 hm) (fun s p hp => by
    rw [chg_page h0 h1 hm] at hp
    split at hp
    · next c =>
      split at hp
      · cases hp
      · next c2 =>
        injection hp with hp
        have := h3 (by omega)
        unfold Rn.fin at *
        omega
    · have := h.page hm hp
      omega)
theorem Lim.count {cap top : Int} {m : List Rn} (h : Lim cap top m) (hm : Form m) (hc : 0 ≤ cap) : (m.length : Int) ≤ cap := by
  have := hm.count (lo := 0) (hi := cap) hc (fun x hx => ⟨(hm.1 x hx).1, (h x hx).1⟩)
  omega
/-- What a run tells of a sector that is at its first one or behind. -/
def told (s : Int) : Option Rn → Option Int
  | none => none
  | some x => if s < x.fin then some (x.phys + (s - x.lba)) else none
theorem told_floorL (s : Int) : ∀ (m : List Rn) (d : Option Rn), Form m → (∀ x, d = some x → ∀ y ∈ m, x.fin ≤ y.lba) → told s (Tr.floorL s m d) = (page m s).or (told s d)
  | [], d, _, _ => by simp [Tr.floorL, page]
  | y :: m, d, hm, hd => by
    obtain ⟨ho, hr, hm'⟩ := Form.cons.1 hm
    rw [Tr.floorL, page]
    by_cases c : y.lba ≤ s
    · rw [if_pos c, told_floorL s m (some y) hm' (fun x e z hz => by injection e with e; subst e; exact (hr z hz).1)]
      by_cases c2 : s < y.fin
      · rw [if_pos ⟨c, c2⟩, hm.page_low c2, told, if_pos c2]; rfl
      · rw [if_neg (show ¬ (y.lba ≤ s ∧ s < y.fin) by omega), told, if_neg c2]
        have : told s d = none := by
          cases d with
          | none => rfl
          | some x =>
            have := hd x rfl y (by simp)
            rw [told, if_neg (by omega)]
        rw [this]
    · rw [if_neg c, told_floorL s m d hm' (fun x e z hz => hd x e z (by simp [hz])), if_neg (by omega)]
/-- A sector's page, by the run that begins at it or last ahead of it. -/
theorem page_floor {m : List Rn} (h : Form m) (s : Int) : page m s = told s (Tr.floorL s m none) := by
  rw [told_floorL s m none h (by simp), told, Option.or_none]
theorem page_tree {t : Tr} (h : Form t.runs) (s : Int) : page t.runs s = told s (t.floor s none) := by
  rw [page_floor h, Tr.floor_eq s t none h.up]
end Tg
end Go.Proofs.Ytbdankhlbepjoaa
