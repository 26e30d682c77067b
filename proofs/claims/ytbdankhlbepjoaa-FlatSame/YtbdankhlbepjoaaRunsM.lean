/-
  Lists of runs as maps, as mathematics: the page of a sector, the one form, that a map has just one list of that form; the document's own runs of a list of pages.
-/
import Derived.Test.YtbdankhlbepjoaaAvl
namespace Go.Proofs.Ytbdankhlbepjoaa
namespace Tg

/-- The sector behind a run. -/
def Rn.fin (x : Rn) : Int := x.lba + x.len
/-- Does the second go on where the first ends, in sectors and in pages? -/
def Glued (a b : Rn) : Prop := a.fin = b.lba ∧ a.phys + a.len = b.phys
def Rn.Ok (x : Rn) : Prop := 0 ≤ x.lba ∧ 1 ≤ x.len ∧ 0 ≤ x.phys
/-- The one form. -/
def Form (m : List Rn) : Prop := (∀ x ∈ m, x.Ok) ∧ m.Pairwise (fun a b => a.fin ≤ b.lba ∧ ¬ Glued a b)
/-- A sector's page. -/
def page : List Rn → Int → Option Int
  | [], _ => none
  | x :: m, s => if x.lba ≤ s ∧ s < x.fin then some (x.phys + (s - x.lba)) else page m s

theorem Form.nil : Form [] := ⟨by simp, List.Pairwise.nil⟩
theorem Form.cons {x : Rn} {m : List Rn} : Form (x :: m) ↔ x.Ok ∧ (∀ y ∈ m, x.fin ≤ y.lba ∧ ¬ Glued x y) ∧ Form m := by
  unfold Form
  rw [List.pairwise_cons]
  constructor
  · rintro ⟨h1, h2, h3⟩
    exact ⟨h1 x (by simp), h2, fun y hy => h1 y (by simp [hy]), h3⟩
  · rintro ⟨h1, h2, h3, h4⟩
    exact ⟨fun y hy => by rcases List.mem_cons.1 hy with rfl | hy; exact h1; exact h3 y hy, h2, h4⟩
theorem Form.app {a b : List Rn} : Form (a ++ b) ↔ Form a ∧ Form b ∧ ∀ x ∈ a, ∀ y ∈ b, x.fin ≤ y.lba ∧ ¬ Glued x y := by
  unfold Form
  rw [List.pairwise_append]
  constructor
  · rintro ⟨h1, h2, h3, h4⟩
    exact ⟨⟨fun x hx => h1 x (by simp [hx]), h2⟩, ⟨fun x hx => h1 x (by simp [hx]), h3⟩, h4⟩
  · rintro ⟨⟨h1, h2⟩, ⟨h3, h4⟩, h5⟩
    exact ⟨fun x hx => by rcases List.mem_append.1 hx with hx | hx; exact h1 x hx; exact h3 x hx, h2, h4, h5⟩
/-- Runs in their form rise. -/
theorem Form.up {m : List Rn} (h : Form m) : Tr.Up m := by
  refine List.Pairwise.imp_of_mem ?_ h.2
  intro a b ha hb hab
  have := (h.1 a ha).2.1
  unfold Rn.fin at hab
  omega

theorem page_none {m : List Rn} {s : Int} (h : ∀ x ∈ m, ¬ (x.lba ≤ s ∧ s < x.fin)) : page m s = none := by
  induction m with
  | nil => rfl
  | cons x m ih => rw [page, if_neg (h x (by simp))]; exact ih (fun y hy => h y (by simp [hy]))
theorem page_app (a b : List Rn) (s : Int) : page (a ++ b) s = (page a s).or (page b s) := by
  induction a with
  | nil => simp [page]
  | cons x a ih =>
    rw [List.cons_append, page, page]
    split
    · rfl
    · exact ih
theorem page_mem {m : List Rn} {s p : Int} (h : page m s = some p) : ∃ x ∈ m, x.lba ≤ s ∧ s < x.fin ∧ p = x.phys + (s - x.lba) := by
  induction m with
  | nil => cases h
  | cons x m ih =>
    rw [page] at h
    split at h
    · next e => injection h with h; exact ⟨x, by simp, e.1, e.2, h.symm⟩
    · obtain ⟨y, hy, h'⟩ := ih h
      exact ⟨y, by simp [hy], h'⟩
/-- In the form each run tells its pages. -/
theorem Form.page_of {m : List Rn} (h : Form m) {x : Rn} (hx : x ∈ m) {s : Int} (h1 : x.lba ≤ s) (h2 : s < x.fin) : page m s = some (x.phys + (s - x.lba)) := by
  induction m with
  | nil => cases hx
  | cons y m ih =>
    obtain ⟨hy, hr, hm⟩ := Form.cons.1 h
    rw [page]
    rcases List.mem_cons.1 hx with rfl | hx'
    · rw [if_pos ⟨h1, h2⟩]
    · have := (hr x hx').1
      rw [if_neg (by omega)]
      exact ih hm hx'
theorem Form.page_low {x : Rn} {m : List Rn} (h : Form (x :: m)) {s : Int} (hs : s < x.fin) : page m s = none :=
  page_none (fun y hy => by have := ((Form.cons.1 h).2.1 y hy).1; omega)

theorem Form.head_le {x y : Rn} {a b : List Rn} (ha : Form (x :: a)) (hb : Form (y :: b)) (e : ∀ s, page (x :: a) s = page (y :: b) s) : y.lba ≤ x.lba := by
  have h1 := (Form.cons.1 ha).1
  have hp : page (x :: a) x.lba = some (x.phys + (x.lba - x.lba)) := ha.page_of (by simp) (Int.le_refl _) (by unfold Rn.fin; have := h1.2.1; omega)
  rw [e] at hp
  obtain ⟨z, hz, z1, z2, -⟩ := page_mem hp
  rcases List.mem_cons.1 hz with rfl | hz
  · exact z1
  · have := ((Form.cons.1 hb).2.1 z hz).1
    have := (Form.cons.1 hb).1.2.1
    unfold Rn.fin at *
    omega
theorem Form.len_le {x y : Rn} {a b : List Rn} (ha : Form (x :: a)) (hb : Form (y :: b)) (e : ∀ s, page (x :: a) s = page (y :: b) s) (hl : x.lba = y.lba) (hp : x.phys = y.phys) : y.len ≤ x.len := by
  by_cases h : y.len ≤ x.len
  · exact h
  · have hx := (Form.cons.1 ha).1
    have hy := (Form.cons.1 hb).1
    have h1 : page (y :: b) x.fin = some (y.phys + (x.fin - y.lba)) := hb.page_of (by simp) (by unfold Rn.fin; have := hx.2.1; omega) (by unfold Rn.fin; omega)
    rw [← e] at h1
    obtain ⟨z, hz, z1, z2, z3⟩ := page_mem h1
    rcases List.mem_cons.1 hz with rfl | hz
    · omega
    · obtain ⟨g1, g2⟩ := (Form.cons.1 ha).2.1 z hz
      refine absurd ⟨?_, ?_⟩ g2
      · omega
      · unfold Rn.fin at *; omega
/-- A map has just one list of that form. -/
theorem Form.one : ∀ {a b : List Rn}, Form a → Form b → (∀ s, page a s = page b s) → a = b
  | [], [], _, _, _ => rfl
  | [], y :: b, _, hb, e => by
    have hy := (Form.cons.1 hb).1
    have h1 : page (y :: b) y.lba = some (y.phys + (y.lba - y.lba)) := hb.page_of (by simp) (Int.le_refl _) (by unfold Rn.fin; have := hy.2.1; omega)
    rw [← e] at h1; cases h1
  | x :: a, [], ha, _, e => by
    have hx := (Form.cons.1 ha).1
    have h1 : page (x :: a) x.lba = some (x.phys + (x.lba - x.lba)) := ha.page_of (by simp) (Int.le_refl _) (by unfold Rn.fin; have := hx.2.1; omega)
    rw [e] at h1; cases h1
  | x :: a, y :: b, ha, hb, e => by
    have e' : ∀ s, page (y :: b) s = page (x :: a) s := fun s => (e s).symm
    have hl : x.lba = y.lba := by have := ha.head_le hb e; have := hb.head_le ha e'; omega
    have hx := (Form.cons.1 ha).1
    have hy := (Form.cons.1 hb).1
    have hp : x.phys = y.phys := by
      have h1 : page (x :: a) x.lba = some (x.phys + (x.lba - x.lba)) := ha.page_of (by simp) (Int.le_refl _) (by unfold Rn.fin; have := hx.2.1; omega)
      have h2 : page (y :: b) x.lba = some (y.phys + (x.lba - y.lba)) := hb.page_of (by simp) (by omega) (by unfold Rn.fin; have := hy.2.1; omega)
      rw [e, h2] at h1
      injection h1 with h1
      omega
    have hn : x.len = y.len := by have := ha.len_le hb e hl hp; have := hb.len_le ha e' hl.symm hp.symm; omega
    have hxy : x = y := by cases x; cases y; simp only at *; subst hl hp hn; rfl
    subst hxy
    congr 1
    refine Form.one (Form.cons.1 ha).2.2 (Form.cons.1 hb).2.2 (fun s => ?_)
    by_cases h : s < x.fin
    · rw [ha.page_low h, hb.page_low h]
    · have := e s
      rwa [page, page, if_neg (by omega), if_neg (by omega)] at this

/-- One entry a sector: below 0 none. -/
def entry (t : List Int) (s : Int) : Option Int := if 0 ≤ s ∧ s < t.length ∧ 0 ≤ t.getD s.toNat (-1) then some (t.getD s.toNat (-1)) else none

/-- The last run, one sector longer. -/
def grow : List Rn → List Rn
  | [] => []
  | [x] => [⟨x.lba, x.len + 1, x.phys⟩]
  | x :: y :: m => x :: grow (y :: m)
theorem grow_snoc (m : List Rn) (x : Rn) : grow (m ++ [x]) = m ++ [⟨x.lba, x.len + 1, x.phys⟩] := by
  induction m with
  | nil => rfl
  | cons y m ih =>
    cases m with
    | nil => rfl
    | cons z m => rw [List.cons_append, List.cons_append, grow, ← List.cons_append, ih]; rfl
/-- The document's own runs of the first i entries. -/
def refR (t : List Int) : Nat → List Rn
  | 0 => []
  | i + 1 => if t.getD i (-1) < 0 then refR t i else if 0 < i ∧ 0 ≤ t.getD (i - 1) (-1) ∧ t.getD (i - 1) (-1) + 1 = t.getD i (-1) then grow (refR t i) else refR t i ++ [⟨(i : Int), 1, t.getD i (-1)⟩]

/-- What the runs of the first i entries are. -/
structure RefI (t : List Int) (i : Nat) (m : List Rn) : Prop where
  form : Form m
  page : ∀ s, page m s = if 0 ≤ s ∧ s < (i : Int) ∧ 0 ≤ t.getD s.toNat (-1) then some (t.getD s.toNat (-1)) else none
  fin : ∀ x ∈ m, x.fin ≤ (i : Int)
  last : 0 < i → 0 ≤ t.getD (i - 1) (-1) → ∃ a x, m = a ++ [x] ∧ x.fin = (i : Int) ∧ x.phys + x.len = t.getD (i - 1) (-1) + 1

theorem refR_ok (t : List Int) : ∀ i, RefI t i (refR t i)
  | 0 => ⟨Form.nil, fun s => by rw [refR, Tg.page, if_neg (by omega)], by simp [refR], by omega⟩
  | i + 1 => by
    have ih := refR_ok t i
    rw [refR]
    by_cases h1 : t.getD i (-1) < 0
    · rw [if_pos h1]
      refine ⟨ih.form, fun s => ?_, fun x hx => by have := ih.fin x hx; omega, fun _ h => ?_⟩
      · rw [ih.page s]
        by_cases e : s = (i : Int)
        · subst e
          rw [if_neg (by omega), if_neg (by rw [Int.toNat_natCast]; omega)]
        · by_cases e2 : 0 ≤ s ∧ s < (i : Int) ∧ 0 ≤ t.getD s.toNat (-1)
          · rw [if_pos e2, if_pos ⟨e2.1, by omega, e2.2.2⟩]
          · rw [if_neg e2, if_neg (by rintro ⟨a, b, c⟩; exact e2 ⟨a, by omega, c⟩)]
      · rw [Nat.add_sub_cancel] at h; omega
    · rw [if_neg h1]
      by_cases h2 : 0 < i ∧ 0 ≤ t.getD (i - 1) (-1) ∧ t.getD (i - 1) (-1) + 1 = t.getD i (-1)
      · rw [if_pos h2]
        obtain ⟨a, x, e, hf, hp⟩ := ih.last h2.1 h2.2.1
        rw [e, grow_snoc]
        have hform := ih.form
        rw [e] at hform
        obtain ⟨fa, fx, fax⟩ := Form.app.1 hform
        have hxo := (Form.cons.1 fx).1
        have hfin : (⟨x.lba, x.len + 1, x.phys⟩ : Rn).fin = (i : Int) + 1 := by unfold Rn.fin at *; simp only; omega
        refine ⟨Form.app.2 ⟨fa, Form.cons.2 ⟨⟨hxo.1, by have := hxo.2.1; simp only; omega, hxo.2.2⟩, by simp, Form.nil⟩, fun y hy z hz => ?_⟩, fun s => ?_, fun y hy => ?_, fun _ _ => ⟨a, _, rfl, by rw [hfin]; rfl, by rw [Nat.add_sub_cancel]; simp only; omega⟩⟩
        · rw [List.mem_singleton] at hz
          subst hz
          exact fax y hy x (by simp)
        · have ip := ih.page s
          rw [e, page_app] at ip
          rw [page_app]
          simp only [Tg.page] at ip ⊢
          rw [hfin]
          rw [hf] at ip
          by_cases e3 : s = (i : Int)
          · subst e3
            have hn : page a (i : Int) = none := page_none (fun y hy => by
              have := (fax y hy x (by simp)).1
              have := hxo.2.1
              unfold Rn.fin at *; omega)
            rw [hn, if_pos (by unfold Rn.fin at *; have := hxo.2.1; omega), if_pos (by rw [Int.toNat_natCast]; omega), Int.toNat_natCast]
            simp only [Option.none_or]
            congr 1
            unfold Rn.fin at hf
            omega
          · have c1 : (x.lba ≤ s ∧ s < (i : Int) + 1) ↔ (x.lba ≤ s ∧ s < (i : Int)) := by omega
            have c2 : (0 ≤ s ∧ s < ((i + 1 : Nat) : Int) ∧ 0 ≤ t.getD s.toNat (-1)) ↔ (0 ≤ s ∧ s < (i : Int) ∧ 0 ≤ t.getD s.toNat (-1)) := by
              constructor
              · rintro ⟨p1, p2, p3⟩; exact ⟨p1, by omega, p3⟩
              · rintro ⟨p1, p2, p3⟩; exact ⟨p1, by omega, p3⟩
            simp only [c1, c2]
            exact ip
        · rcases List.mem_append.1 hy with hy | hy
          · have := ih.fin y (by rw [e]; simp [hy]); omega
          · rw [List.mem_singleton] at hy; subst hy; rw [hfin]; omega
      · rw [if_neg h2]
        have hfin : (⟨(i : Int), 1, t.getD i (-1)⟩ : Rn).fin = (i : Int) + 1 := rfl
        refine ⟨Form.app.2 ⟨ih.form, Form.cons.2 ⟨⟨by simp only; omega, by simp, by simp only; omega⟩, by simp, Form.nil⟩, fun y hy z hz => ?_⟩, fun s => ?_, fun y hy => ?_, fun _ _ => ⟨_, _, rfl, by rw [hfin]; rfl, by rw [Nat.add_sub_cancel]⟩⟩
        · rw [List.mem_singleton] at hz
          subst hz
          have hyf := ih.fin y hy
          refine ⟨hyf, ?_⟩
          rintro ⟨g1, g2⟩
          simp only at g1 g2
          have hyo := ih.form.1 y hy
          have hpg := ih.form.page_of hy (s := (i : Int) - 1) (by unfold Rn.fin at *; have := hyo.2.1; omega) (by omega)
          rw [ih.page] at hpg
          by_cases c : 0 ≤ (i : Int) - 1 ∧ (i : Int) - 1 < (i : Int) ∧ 0 ≤ t.getD ((i : Int) - 1).toNat (-1)
          · rw [if_pos c] at hpg
            injection hpg with hpg
            have ei : ((i : Int) - 1).toNat = i - 1 := by omega
            rw [ei] at c hpg
            refine h2 ⟨by omega, c.2.2, ?_⟩
            unfold Rn.fin at *
            omega
          · rw [if_neg c] at hpg; cases hpg
        · rw [page_app, ih.page s]
          simp only [Tg.page, hfin]
          by_cases e3 : s = (i : Int)
          · subst e3
            rw [if_neg (by omega), if_pos (by omega), if_pos (by rw [Int.toNat_natCast]; omega), Int.toNat_natCast]
            simp
          · have c2 : (0 ≤ s ∧ s < ((i + 1 : Nat) : Int) ∧ 0 ≤ t.getD s.toNat (-1)) ↔ (0 ≤ s ∧ s < (i : Int) ∧ 0 ≤ t.getD s.toNat (-1)) := by
              constructor
              · rintro ⟨p1, p2, p3⟩; exact ⟨p1, by omega, p3⟩
              · rintro ⟨p1, p2, p3⟩; exact ⟨p1, by omega, p3⟩
            rw [if_neg (show ¬ ((i : Int) ≤ s ∧ s < (i : Int) + 1) by omega)]
            simp only [c2, Option.or_none]
        · rcases List.mem_append.1 hy with hy | hy
          · have := ih.fin y hy; omega
          · rw [List.mem_singleton] at hy; subst hy; rw [hfin]; omega
/-- The document's own runs are the one list of that form. -/
theorem refR_one (t : List Int) {m : List Rn} (h : Form m) (hp : ∀ s, page m s = entry t s) : m = refR t t.length := by
  have hr := refR_ok t t.length
  refine Form.one h hr.form (fun s => ?_)
  rw [hp, hr.page]
  rfl
end Tg
end Go.Proofs.Ytbdankhlbepjoaa
