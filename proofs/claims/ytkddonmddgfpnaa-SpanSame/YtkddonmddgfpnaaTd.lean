/-
  Lists of runs as maps, as mathematics: the page of a sector, the one form, that a map has just one list of that form; the document's own runs of a list of pages. A range of a map of runs set or cleared, as mathematics: what is below it, what is above it, runs that go on joined. One entry a sector, as mathematics: what a put range holds, that runs set and cleared are those of the entries; a range cut into the fewest pieces, that there is one such cut, and that the document's own is it. Consequences, as mathematics: how many runs there can be, what is set again changes nothing, ranges apart, a map built again from its runs, bounds of sectors and pages. A range walked, as mathematics: a piece of a run, a piece of a hole, where a hole ends; what a walk along the list of the runs cuts. What the program's lay makes of a list of runs, as mathematics: the runs near a range, their parts, joined; what takes their place.
-/
import Derived.Test.YtkddonmddgfpnaaTa
namespace Go.Proofs.Ytkddonmddgfpnaa
namespace Tg

/-- The sector behind a run. -/
def Rn.fin (x : Rn) : Int := x.lba + x.len
/-- Does the second go on where the first ends, in sectors and in pages? -/
def Glued (a b : Rn) : Prop := a.fin = b.lba ∧ a.phys + a.len = b.phys
def Rn.Ok (x : Rn) : Prop := 0 ≤ x.lba ∧ 1 ≤ x.len ∧ 0 ≤ x.phys
/-- The one form. -/
def Form (m : List Rn) : Prop := (∀ x ∈ m, x.Ok) ∧ m.Pairwise (fun a b => a.fin ≤ b.lba ∧ ¬ Glued a b)
/-- A sector's page. -/
def page : List Rn → Int → Option Int
  | [], _ => none
  | x :: m, s => if x.lba ≤ s ∧ s < x.fin then some (x.phys + (s - x.lba)) else page m s

theorem Form.nil : Form [] := ⟨by simp, List.Pairwise.nil⟩
theorem Form.cons {x : Rn} {m : List Rn} : Form (x :: m) ↔ x.Ok ∧ (∀ y ∈ m, x.fin ≤ y.lba ∧ ¬ Glued x y) ∧ Form m := by
  unfold Form
  rw [List.pairwise_cons]
  constructor
  · rintro ⟨h1, h2, h3⟩
    exact ⟨h1 x (by simp), h2, fun y hy => h1 y (by simp [hy]), h3⟩
  · rintro ⟨h1, h2, h3, h4⟩
    exact ⟨fun y hy => by rcases List.mem_cons.1 hy with rfl | hy; exact h1; exact h3 y hy, h2, h4⟩
theorem Form.app {a b : List Rn} : Form (a ++ b) ↔ Form a ∧ Form b ∧ ∀ x ∈ a, ∀ y ∈ b, x.fin ≤ y.lba ∧ ¬ Glued x y := by
  unfold Form
  rw [List.pairwise_append]
  constructor
  · rintro ⟨h1, h2, h3, h4⟩
    exact ⟨⟨fun x hx => h1 x (by simp [hx]), h2⟩, ⟨fun x hx => h1 x (by simp [hx]), h3⟩, h4⟩
  · rintro ⟨⟨h1, h2⟩, ⟨h3, h4⟩, h5⟩
    exact ⟨fun x hx => by rcases List.mem_append.1 hx with hx | hx; exact h1 x hx; exact h3 x hx, h2, h4, h5⟩
/-- Runs in their form rise. -/
theorem Form.up {m : List Rn} (h : Form m) : Tr.Up m := by
  refine List.Pairwise.imp_of_mem ?_ h.2
  intro a b ha hb hab
  have := (h.1 a ha).2.1
  unfold Rn.fin at hab
  omega

theorem page_none {m : List Rn} {s : Int} (h : ∀ x ∈ m, ¬ (x.lba ≤ s ∧ s < x.fin)) : page m s = none := by
  induction m with
  | nil => rfl
  | cons x m ih => rw [page, if_neg (h x (by simp))]; exact ih (fun y hy => h y (by simp [hy]))
theorem page_app (a b : List Rn) (s : Int) : page (a ++ b) s = (page a s).or (page b s) := by
  induction a with
  | nil => simp [page]
  | cons x a ih =>
    rw [List.cons_append, page, page]
    split
    · rfl
    · exact ih
theorem page_mem {m : List Rn} {s p : Int} (h : page m s = some p) : ∃ x ∈ m, x.lba ≤ s ∧ s < x.fin ∧ p = x.phys + (s - x.lba) := by
  induction m with
  | nil => cases h
  | cons x m ih =>
    rw [page] at h
    split at h
    · next e => injection h with h; exact ⟨x, by simp, e.1, e.2, h.symm⟩
    · obtain ⟨y, hy, h'⟩ := ih h
      exact ⟨y, by simp [hy], h'⟩
/-- In the form each run tells its pages. -/
theorem Form.page_of {m : List Rn} (h : Form m) {x : Rn} (hx : x ∈ m) {s : Int} (h1 : x.lba ≤ s) (h2 : s < x.fin) : page m s = some (x.phys + (s - x.lba)) := by
  induction m with
  | nil => cases hx
  | cons y m ih =>
    obtain ⟨hy, hr, hm⟩ := Form.cons.1 h
    rw [page]
    rcases List.mem_cons.1 hx with rfl | hx'
    · rw [if_pos ⟨h1, h2⟩]
    · have := (hr x hx').1
      rw [if_neg (by omega)]
      exact ih hm hx'
theorem Form.page_low {x : Rn} {m : List Rn} (h : Form (x :: m)) {s : Int} (hs : s < x.fin) : page m s = none :=
  page_none (fun y hy => by have := ((Form.cons.1 h).2.1 y hy).1; omega)

theorem Form.head_le {x y : Rn} {a b : List Rn} (ha : Form (x :: a)) (hb : Form (y :: b)) (e : ∀ s, page (x :: a) s = page (y :: b) s) : y.lba ≤ x.lba := by
  have h1 := (Form.cons.1 ha).1
  have hp : page (x :: a) x.lba = some (x.phys + (x.lba - x.lba)) := ha.page_of (by simp) (Int.le_refl _) (by unfold Rn.fin; have := h1.2.1; omega)
  rw [e] at hp
  obtain ⟨z, hz, z1, z2, -⟩ := page_mem hp
  rcases List.mem_cons.1 hz with rfl | hz
  · exact z1
  · have := ((Form.cons.1 hb).2.1 z hz).1
    have := (Form.cons.1 hb).1.2.1
    unfold Rn.fin at *
    omega
theorem Form.len_le {x y : Rn} {a b : List Rn} (ha : Form (x :: a)) (hb : Form (y :: b)) (e : ∀ s, page (x :: a) s = page (y :: b) s) (hl : x.lba = y.lba) (hp : x.phys = y.phys) : y.len ≤ x.len := by
  by_cases h : y.len ≤ x.len
  · exact h
  · have hx := (Form.cons.1 ha).1
    have hy := (Form.cons.1 hb).1
    have h1 : page (y :: b) x.fin = some (y.phys + (x.fin - y.lba)) := hb.page_of (by simp) (by unfold Rn.fin; have := hx.2.1; omega) (by unfold Rn.fin; omega)
    rw [← e] at h1
    obtain ⟨z, hz, z1, z2, z3⟩ := page_mem h1
    rcases List.mem_cons.1 hz with rfl | hz
    · omega
    · obtain ⟨g1, g2⟩ := (Form.cons.1 ha).2.1 z hz
      refine absurd ⟨?_, ?_⟩ g2
      · omega
      · unfold Rn.fin at *; omega
/-- A map has just one list of that form. -/
theorem Form.one : ∀ {a b : List Rn}, Form a → Form b → (∀ s, page a s = page b s) → a = b
  | [], [], _, _, _ => rfl
  | [], y :: b, _, hb, e => by
    have hy := (Form.cons.1 hb).1
    have h1 : page (y :: b) y.lba = some (y.phys + (y.lba - y.lba)) := hb.page_of (by simp) (Int.le_refl _) (by unfold Rn.fin; have := hy.2.1; omega)
    rw [← e] at h1; cases h1
  | x :: a, [], ha, _, e => by
    have hx := (Form.cons.1 ha).1
    have h1 : page (x :: a) x.lba = some (x.phys + (x.lba - x.lba)) := ha.page_of (by simp) (Int.le_refl _) (by unfold Rn.fin; have := hx.2.1; omega)
    rw [e] at h1; cases h1
  | x :: a, y :: b, ha, hb, e => by
    have e' : ∀ s, page (y :: b) s = page (x :: a) s := fun s => (e s).symm
    have hl : x.lba = y.lba := by have := ha.head_le hb e; have := hb.head_le ha e'; omega
    have hx := (Form.cons.1 ha).1
    have hy := (Form.cons.1 hb).1
    have hp : x.phys = y.phys := by
      have h1 : page (x :: a) x.lba = some (x.phys + (x.lba - x.lba)) := ha.page_of (by simp) (Int.le_refl _) (by unfold Rn.fin; have := hx.2.1; omega)
      have h2 : page (y :: b) x.lba = some (y.phys + (x.lba - y.lba)) := hb.page_of (by simp) (by omega) (by unfold Rn.fin; have := hy.2.1; omega)
      rw [e, h2] at h1
      injection h1 with h1
      omega
    have hn : x.len = y.len := by have := ha.len_le hb e hl hp; have := hb.len_le ha e' hl.symm hp.symm; omega
    have hxy : x = y := by cases x; cases y; simp only at *; subst hl hp hn; rfl
    subst hxy
    congr 1
    refine Form.one (Form.cons.1 ha).2.2 (Form.cons.1 hb).2.2 (fun s => ?_)
    by_cases h : s < x.fin
    · rw [ha.page_low h, hb.page_low h]
    · have := e s
      rwa [page, page, if_neg (by omega), if_neg (by omega)] at this

/-- One entry a sector: below 0 none. -/
def entry (t : List Int) (s : Int) : Option Int := if 0 ≤ s ∧ s < t.length ∧ 0 ≤ t.getD s.toNat (-1) then some (t.getD s.toNat (-1)) else none

/-- The last run, one sector longer. -/
def grow : List Rn → List Rn
  | [] => []
  | [x] => [⟨x.lba, x.len + 1, x.phys⟩]
  | x :: y :: m => x :: grow (y :: m)
theorem grow_snoc (m : List Rn) (x : Rn) : grow (m ++ [x]) = m ++ [⟨x.lba, x.len + 1, x.phys⟩] := by
  induction m with
  | nil => rfl
  | cons y m ih =>
    cases m with
    | nil => rfl
    | cons z m => rw [List.cons_append, List.cons_append, grow, ← List.cons_append, ih]; rfl
/-- The document's own runs of the first i entries. -/
def refR (t : List Int) : Nat → List Rn
  | 0 => []
  | i + 1 => if t.getD i (-1) < 0 then refR t i else if 0 < i ∧ 0 ≤ t.getD (i - 1) (-1) ∧ t.getD (i - 1) (-1) + 1 = t.getD i (-1) then grow (refR t i) else refR t i ++ [⟨(i : Int), 1, t.getD i (-1)⟩]

/-- What the runs of the first i entries are. -/
structure RefI (t : List Int) (i : Nat) (m : List Rn) : Prop where
  form : Form m
  page : ∀ s, page m s = if 0 ≤ s ∧ s < (i : Int) ∧ 0 ≤ t.getD s.toNat (-1) then some (t.getD s.toNat (-1)) else none
  fin : ∀ x ∈ m, x.fin ≤ (i : Int)
  last : 0 < i → 0 ≤ t.getD (i - 1) (-1) → ∃ a x, m = a ++ [x] ∧ x.fin = (i : Int) ∧ x.phys + x.len = t.getD (i - 1) (-1) + 1

theorem refR_ok (t : List Int) : ∀ i, RefI t i (refR t i)
  | 0 => ⟨Form.nil, fun s => by rw [refR, Tg.page, if_neg (by omega)], by simp [refR], by omega⟩
  | i + 1 => by
    have ih := refR_ok t i
    rw [refR]
    by_cases h1 : t.getD i (-1) < 0
    · rw [if_pos h1]
      refine ⟨ih.form, fun s => ?_, fun x hx => by have := ih.fin x hx; omega, fun _ h => ?_⟩
      · rw [ih.page s]
        by_cases e : s = (i : Int)
        · subst e
          rw [if_neg (by omega), if_neg (by rw [Int.toNat_natCast]; omega)]
        · by_cases e2 : 0 ≤ s ∧ s < (i : Int) ∧ 0 ≤ t.getD s.toNat (-1)
          · rw [if_pos e2, if_pos ⟨e2.1, by omega, e2.2.2⟩]
          · rw [if_neg e2, if_neg (by rintro ⟨a, b, c⟩; exact e2 ⟨a, by omega, c⟩)]
      · rw [Nat.add_sub_cancel] at h; omega
    · rw [if_neg h1]
      by_cases h2 : 0 < i ∧ 0 ≤ t.getD (i - 1) (-1) ∧ t.getD (i - 1) (-1) + 1 = t.getD i (-1)
      · rw [if_pos h2]
        obtain ⟨a, x, e, hf, hp⟩ := ih.last h2.1 h2.2.1
        rw [e, grow_snoc]
        have hform := ih.form
        rw [e] at hform
        obtain ⟨fa, fx, fax⟩ := Form.app.1 hform
        have hxo := (Form.cons.1 fx).1
        have hfin : (⟨x.lba, x.len + 1, x.phys⟩ : Rn).fin = (i : Int) + 1 := by unfold Rn.fin at *; simp only; omega
        refine ⟨Form.app.2 ⟨fa, Form.cons.2 ⟨⟨hxo.1, by have := hxo.2.1; simp only; omega, hxo.2.2⟩, by simp, Form.nil⟩, fun y hy z hz => ?_⟩, fun s => ?_, fun y hy => ?_, fun _ _ => ⟨a, _, rfl, by rw [hfin]; rfl, by rw [Nat.add_sub_cancel]; simp only; omega⟩⟩
        · rw [List.mem_singleton] at hz
          subst hz
          exact fax y hy x (by simp)
        · have ip := ih.page s
          rw [e, page_app] at ip
          rw [page_app]
          simp only [Tg.page] at ip ⊢
          rw [hfin]
          rw [hf] at ip
          by_cases e3 : s = (i : Int)
          · subst e3
            have hn : page a (i : Int) = none := page_none (fun y hy => by
              have := (fax y hy x (by simp)).1
              have := hxo.2.1
              unfold Rn.fin at *; omega)
            rw [hn, if_pos (by unfold Rn.fin at *; have := hxo.2.1; omega), if_pos (by rw [Int.toNat_natCast]; omega), Int.toNat_natCast]
            simp only [Option.none_or]
            congr 1
            unfold Rn.fin at hf
            omega
          · have c1 : (x.lba ≤ s ∧ s < (i : Int) + 1) ↔ (x.lba ≤ s ∧ s < (i : Int)) := by omega
            have c2 : (0 ≤ s ∧ s < ((i + 1 : Nat) : Int) ∧ 0 ≤ t.getD s.toNat (-1)) ↔ (0 ≤ s ∧ s < (i : Int) ∧ 0 ≤ t.getD s.toNat (-1)) := by
              constructor
              · rintro ⟨p1, p2, p3⟩; exact ⟨p1, by omega, p3⟩
              · rintro ⟨p1, p2, p3⟩; exact ⟨p1, by omega, p3⟩
            simp only [c1, c2]
            exact ip
        · rcases List.mem_append.1 hy with hy | hy
          · have := ih.fin y (by rw [e]; simp [hy]); omega
          · rw [List.mem_singleton] at hy; subst hy; rw [hfin]; omega
      · rw [if_neg h2]
        have hfin : (⟨(i : Int), 1, t.getD i (-1)⟩ : Rn).fin = (i : Int) + 1 := rfl
        refine ⟨Form.app.2 ⟨ih.form, Form.cons.2 ⟨⟨by simp only; omega, by simp, by simp only; omega⟩, by simp, Form.nil⟩, fun y hy z hz => ?_⟩, fun s => ?_, fun y hy => ?_, fun _ _ => ⟨_, _, rfl, by rw [hfin]; rfl, by rw [Nat.add_sub_cancel]⟩⟩
        · rw [List.mem_singleton] at hz
          subst hz
          have hyf := ih.fin y hy
          refine ⟨hyf, ?_⟩
          rintro ⟨g1, g2⟩
          simp only at g1 g2
          have hyo := ih.form.1 y hy
          have hpg := ih.form.page_of hy (s := (i : Int) - 1) (by unfold Rn.fin at *; have := hyo.2.1; omega) (by omega)
          rw [ih.page] at hpg
          by_cases c : 0 ≤ (i : Int) - 1 ∧ (i : Int) - 1 < (i : Int) ∧ 0 ≤ t.getD ((i : Int) - 1).toNat (-1)
          · rw [if_pos c] at hpg
            injection hpg with hpg
            have ei : ((i : Int) - 1).toNat = i - 1 := by omega
            rw [ei] at c hpg
            refine h2 ⟨by omega, c.2.2, ?_⟩
            unfold Rn.fin at *
            omega
          · rw [if_neg c] at hpg; cases hpg
        · rw [page_app, ih.page s]
          simp only [Tg.page, hfin]
          by_cases e3 : s = (i : Int)
          · subst e3
            rw [if_neg (by omega), if_pos (by omega), if_pos (by rw [Int.toNat_natCast]; omega), Int.toNat_natCast]
            simp
          · have c2 : (0 ≤ s ∧ s < ((i + 1 : Nat) : Int) ∧ 0 ≤ t.getD s.toNat (-1)) ↔ (0 ≤ s ∧ s < (i : Int) ∧ 0 ≤ t.getD s.toNat (-1)) := by
              constructor
              · rintro ⟨p1, p2, p3⟩; exact ⟨p1, by omega, p3⟩
              · rintro ⟨p1, p2, p3⟩; exact ⟨p1, by omega, p3⟩
            rw [if_neg (show ¬ ((i : Int) ≤ s ∧ s < (i : Int) + 1) by omega)]
            simp only [c2, Option.or_none]
        · rcases List.mem_append.1 hy with hy | hy
          · have := ih.fin y hy; omega
          · rw [List.mem_singleton] at hy; subst hy; rw [hfin]; omega
/-- The document's own runs are the one list of that form. -/
theorem refR_one (t : List Int) {m : List Rn} (h : Form m) (hp : ∀ s, page m s = entry t s) : m = refR t t.length := by
  have hr := refR_ok t t.length
  refine Form.one h hr.form (fun s => ?_)
  rw [hp, hr.page]
  rfl
end Tg
end Go.Proofs.Ytkddonmddgfpnaa
namespace Go.Proofs.Ytkddonmddgfpnaa
namespace Tg

/-- A run's part below a sector, and from a sector on. -/
def below1 (lo : Int) (x : Rn) : List Rn := if x.fin ≤ lo then [x] else if x.lba < lo then [⟨x.lba, lo - x.lba, x.phys⟩] else []
def above1 (hi : Int) (x : Rn) : List Rn := if hi ≤ x.lba then [x] else if hi < x.fin then [⟨hi, x.fin - hi, x.phys + (hi - x.lba)⟩] else []
def belowL (lo : Int) (m : List Rn) : List Rn := m.flatMap (below1 lo)
def aboveL (hi : Int) (m : List Rn) : List Rn := m.flatMap (above1 hi)

theorem below1_mem {lo : Int} {x y : Rn} (hx : x.Ok) (h : y ∈ below1 lo x) : y.Ok ∧ y.lba = x.lba ∧ y.phys = x.phys ∧ y.fin ≤ lo ∧ y.fin ≤ x.fin ∧ (y.fin = lo ∨ y = x) := by
  unfold below1 at h
  have := hx.2.1
  split at h
  · simp at h; subst h; exact ⟨hx, rfl, rfl, by assumption, Int.le_refl _, Or.inr rfl⟩
  · split at h
    · simp at h; subst h
      refine ⟨⟨hx.1, by simp only; omega, hx.2.2⟩, rfl, rfl, ?_, ?_, Or.inl ?_⟩ <;> unfold Rn.fin at * <;> simp only <;> omega
    · simp at h
theorem above1_mem {hi : Int} {x y : Rn} (h0 : 0 ≤ hi) (hx : x.Ok) (h : y ∈ above1 hi x) : y.Ok ∧ y.fin = x.fin ∧ y.phys + y.len = x.phys + x.len ∧ hi ≤ y.lba ∧ x.lba ≤ y.lba ∧ (y.lba = hi ∨ y = x) := by
  unfold above1 at h
  have := hx.2.1
  split at h
  · simp at h; subst h; exact ⟨hx, rfl, rfl, by assumption, Int.le_refl _, Or.inr rfl⟩
  · split at h
    · simp at h; subst h
      have := hx.2.2
      refine ⟨⟨h0, ?_, ?_⟩, ?_, ?_, Int.le_refl _, ?_, Or.inl rfl⟩ <;> unfold Rn.fin at * <;> simp only <;> omega
    · simp at h
theorem below1_page {lo : Int} {x : Rn} (s : Int) : page (below1 lo x) s = if s < lo then page [x] s else none := by
  unfold below1
  by_cases h1 : x.fin ≤ lo
  · rw [if_pos h1]
    by_cases h : s < lo
    · rw [if_pos h]
    · rw [if_neg h, page, if_neg (by omega)]; rfl
  · rw [if_neg h1]
    by_cases h2 : x.lba < lo
    · rw [if_pos h2]
      have hf : (⟨x.lba, lo - x.lba, x.phys⟩ : Rn).fin = lo := by unfold Rn.fin; simp only; omega
      simp only [page, hf]
      by_cases h : s < lo
      · rw [if_pos h]
        have : (x.lba ≤ s ∧ s < lo) ↔ (x.lba ≤ s ∧ s < x.fin) := by omega
        simp only [this]
      · rw [if_neg h, if_neg (by omega)]
    · rw [if_neg h2]
      by_cases h : s < lo
      · rw [if_pos h, page, page, if_neg (by omega)]; rfl
      · rw [if_neg h]; rfl
theorem above1_page {hi : Int} {x : Rn} (s : Int) : page (above1 hi x) s = if hi ≤ s then page [x] s else none := by
  unfold above1
  by_cases h1 : hi ≤ x.lba
  · rw [if_pos h1]
    by_cases h : hi ≤ s
    · rw [if_pos h]
    · rw [if_neg h, page, if_neg (by omega)]; rfl
  · rw [if_neg h1]
    by_cases h2 : hi < x.fin
    · rw [if_pos h2]
      have hf : (⟨hi, x.fin - hi, x.phys + (hi - x.lba)⟩ : Rn).fin = x.fin := by unfold Rn.fin; simp only; omega
      simp only [page, hf]
      by_cases h : hi ≤ s
      · rw [if_pos h]
        have : (hi ≤ s ∧ s < x.fin) ↔ (x.lba ≤ s ∧ s < x.fin) := by omega
        simp only [this]
        split
        · congr 1; omega
        · rfl
      · rw [if_neg h, if_neg (by omega)]
    · rw [if_neg h2]
      by_cases h : hi ≤ s
      · rw [if_pos h, page, page, if_neg (by omega)]; rfl
      · rw [if_neg h]; rfl

theorem belowL_cons (lo : Int) (x : Rn) (m : List Rn) : belowL lo (x :: m) = below1 lo x ++ belowL lo m := rfl
theorem aboveL_cons (hi : Int) (x : Rn) (m : List Rn) : aboveL hi (x :: m) = above1 hi x ++ aboveL hi m := rfl
theorem belowL_page (lo : Int) (m : List Rn) (s : Int) : page (belowL lo m) s = if s < lo then page m s else none := by
  induction m with
  | nil => simp [belowL, page]
  | cons x m ih =>
    rw [belowL_cons, page_app, below1_page, ih, show x :: m = [x] ++ m from rfl, page_app]
    split <;> rfl
theorem aboveL_page (hi : Int) (m : List Rn) (s : Int) : page (aboveL hi m) s = if hi ≤ s then page m s else none := by
  induction m with
  | nil => simp [aboveL, page]
  | cons x m ih =>
    rw [aboveL_cons, page_app, above1_page, ih, show x :: m = [x] ++ m from rfl, page_app]
    split <;> rfl
theorem belowL_mem {lo : Int} {m : List Rn} {y : Rn} (h : y ∈ belowL lo m) : ∃ x ∈ m, y ∈ below1 lo x := List.mem_flatMap.1 h
theorem aboveL_mem {hi : Int} {m : List Rn} {y : Rn} (h : y ∈ aboveL hi m) : ∃ x ∈ m, y ∈ above1 hi x := List.mem_flatMap.1 h
theorem one_below (lo : Int) (x : Rn) : below1 lo x = [] ∨ ∃ y, below1 lo x = [y] := by
  unfold below1
  split
  · exact Or.inr ⟨_, rfl⟩
  · split
    · exact Or.inr ⟨_, rfl⟩
    · exact Or.inl rfl
theorem one_above (hi : Int) (x : Rn) : above1 hi x = [] ∨ ∃ y, above1 hi x = [y] := by
  unfold above1
  split
  · exact Or.inr ⟨_, rfl⟩
  · split
    · exact Or.inr ⟨_, rfl⟩
    · exact Or.inl rfl
theorem Form.single {y : Rn} (h : y.Ok) : Form [y] := Form.cons.2 ⟨h, by simp, Form.nil⟩
theorem belowL_fin {lo : Int} {m : List Rn} (h : Form m) {y : Rn} (hy : y ∈ belowL lo m) : y.fin ≤ lo := by
  obtain ⟨x, hx, hy⟩ := belowL_mem hy
  exact (below1_mem (h.1 x hx) hy).2.2.2.1
theorem aboveL_lba {hi : Int} (h0 : 0 ≤ hi) {m : List Rn} (h : Form m) {y : Rn} (hy : y ∈ aboveL hi m) : hi ≤ y.lba := by
  obtain ⟨x, hx, hy⟩ := aboveL_mem hy
  exact (above1_mem h0 (h.1 x hx) hy).2.2.2.1
theorem belowL_form (lo : Int) : ∀ {m : List Rn}, Form m → Form (belowL lo m)
  | [], _ => Form.nil
  | x :: m, h => by
    obtain ⟨hx, hr, hm⟩ := Form.cons.1 h
    rw [belowL_cons]
    refine Form.app.2 ⟨?_, belowL_form lo hm, fun y hy z hz => ?_⟩
    · rcases one_below lo x with e | ⟨y, e⟩
      · rw [e]; exact Form.nil
      · rw [e]; exact Form.single (below1_mem hx (by rw [e]; simp)).1
    · obtain ⟨o1, o2, o3, o4, o5, o6⟩ := below1_mem hx hy
      obtain ⟨w, hw, hz⟩ := belowL_mem hz
      obtain ⟨p1, p2, p3, p4, p5, p6⟩ := below1_mem (hm.1 w hw) hz
      have g := hr w hw
      refine ⟨by omega, ?_⟩
      rintro ⟨g1, g2⟩
      rcases o6 with o6 | rfl
      · have := p1.2.1
        unfold Rn.fin at *
        omega
      · exact g.2 ⟨by omega, by omega⟩
theorem aboveL_form {hi : Int} (h0 : 0 ≤ hi) : ∀ {m : List Rn}, Form m → Form (aboveL hi m)
  | [], _ => Form.nil
  | x :: m, h => by
    obtain ⟨hx, hr, hm⟩ := Form.cons.1 h
    rw [aboveL_cons]
    refine Form.app.2 ⟨?_, aboveL_form h0 hm, fun y hy z hz => ?_⟩
    · rcases one_above hi x with e | ⟨y, e⟩
      · rw [e]; exact Form.nil
      · rw [e]; exact Form.single (above1_mem h0 hx (by rw [e]; simp)).1
    · obtain ⟨o1, o2, o3, o4, o5, o6⟩ := above1_mem h0 hx hy
      obtain ⟨w, hw, hz⟩ := aboveL_mem hz
      obtain ⟨p1, p2, p3, p4, p5, p6⟩ := above1_mem h0 (hm.1 w hw) hz
      have g := hr w hw
      refine ⟨by omega, ?_⟩
      rintro ⟨g1, g2⟩
      rcases p6 with p6 | rfl
      · have := o1.2.1
        unfold Rn.fin at *
        omega
      · exact g.2 ⟨by omega, by omega⟩

/-- A range cleared. -/
def clearL (lo hi : Int) (m : List Rn) : List Rn := belowL lo m ++ aboveL hi m
theorem clearL_form {lo hi : Int} (h0 : 0 ≤ lo) (hl : lo < hi) {m : List Rn} (h : Form m) : Form (clearL lo hi m) :=
  Form.app.2 ⟨belowL_form lo h, aboveL_form (by omega) h, fun y hy z hz => by
    have h1 := belowL_fin h hy
    have h2 := aboveL_lba (by omega) h hz
    exact ⟨by omega, fun g => by have := g.1; omega⟩⟩
theorem clearL_page {lo hi : Int} (hl : lo ≤ hi) (m : List Rn) (s : Int) : page (clearL lo hi m) s = if lo ≤ s ∧ s < hi then none else page m s := by
  unfold clearL
  rw [page_app, belowL_page, aboveL_page]
  by_cases h1 : s < lo
  · rw [if_pos h1, if_neg (show ¬ hi ≤ s by omega), if_neg (by omega), Option.or_none]
  · rw [if_neg h1]
    by_cases h2 : hi ≤ s
    · rw [if_pos h2, if_neg (by omega)]; rfl
    · rw [if_neg h2, if_pos (by omega)]; rfl

/-- A run ahead of a list, joined where it goes on. -/
def consG (x : Rn) : List Rn → List Rn
  | [] => [x]
  | y :: m => if x.fin = y.lba ∧ x.phys + x.len = y.phys then ⟨x.lba, x.len + y.len, x.phys⟩ :: m else x :: y :: m
/-- A list ahead of a list, its last one joined where it goes on. -/
def appG : List Rn → List Rn → List Rn
  | [], m => m
  | [x], m => consG x m
  | x :: y :: a, m => x :: appG (y :: a) m
theorem consG_form {x : Rn} {m : List Rn} (hx : x.Ok) (hm : Form m) (hr : ∀ y ∈ m, x.fin ≤ y.lba) : Form (consG x m) := by
  cases m with
  | nil => exact Form.single hx
  | cons y m =>
    obtain ⟨hy, hz, hm'⟩ := Form.cons.1 hm
    rw [consG]
    split
    · next e =>
      refine Form.cons.2 ⟨⟨hx.1, by have := hx.2.1; have := hy.2.1; simp only; omega, hx.2.2⟩, fun z hz' => ?_, hm'⟩
      have g := hz z hz'
      have hf : (⟨x.lba, x.len + y.len, x.phys⟩ : Rn).fin = y.fin := by unfold Rn.fin at *; simp only; omega
      refine ⟨by rw [hf]; exact g.1, ?_⟩
      rintro ⟨g1, g2⟩
      rw [hf] at g1
      refine g.2 ⟨g1, ?_⟩
      simp only at g2
      omega
    · next e =>
      refine Form.cons.2 ⟨hx, fun z hz' => ?_, hm⟩
      rcases List.mem_cons.1 hz' with rfl | hz'
      · exact ⟨hr z (by simp), e⟩
      · have := hr z (by simp [hz'])
        have g := (hz z hz').1
        have h1 := hr y (by simp)
        have := hy.2.1
        refine ⟨by omega, fun g' => ?_⟩
        have := g'.1
        unfold Rn.fin at *
        omega
theorem consG_page (x : Rn) (m : List Rn) (hx : 0 ≤ x.len) (hm : ∀ y ∈ m, 0 ≤ y.len) (s : Int) : page (consG x m) s = page (x :: m) s := by
  cases m with
  | nil => rfl
  | cons y m =>
    rw [consG]
    split
    · next e =>
      have hy := hm y (by simp)
      have hf : (⟨x.lba, x.len + y.len, x.phys⟩ : Rn).fin = y.fin := by unfold Rn.fin at *; simp only; omega
      simp only [page, hf]
      by_cases h1 : x.lba ≤ s ∧ s < x.fin
      · rw [if_pos h1, if_pos (by unfold Rn.fin at *; omega)]
      · rw [if_neg h1]
        by_cases h2 : y.lba ≤ s ∧ s < y.fin
        · rw [if_pos h2, if_pos (by unfold Rn.fin at *; omega)]
          congr 1
          unfold Rn.fin at *
          omega
        · rw [if_neg h2, if_neg (by unfold Rn.fin at *; omega)]
    · rfl
theorem consG_head {x : Rn} {m : List Rn} {z : Rn} (h : z ∈ consG x m) : (z.lba = x.lba ∧ z.phys = x.phys) ∨ z ∈ m := by
  cases m with
  | nil => simp [consG] at h; exact Or.inl (by rw [h]; exact ⟨rfl, rfl⟩)
  | cons y m =>
    rw [consG] at h
    split at h
    · rcases List.mem_cons.1 h with rfl | h
      · exact Or.inl ⟨rfl, rfl⟩
      · exact Or.inr (by simp [h])
    · rcases List.mem_cons.1 h with rfl | h
      · exact Or.inl ⟨rfl, rfl⟩
      · exact Or.inr h
theorem appG_head : ∀ {a m : List Rn} {z : Rn}, z ∈ appG a m → (∃ w ∈ a, z.lba = w.lba ∧ z.phys = w.phys) ∨ z ∈ m
  | [], _, _, h => Or.inr h
  | [x], _, _, h => (consG_head h).imp (fun e => ⟨x, by simp, e⟩) id
  | x :: y :: a, m, z, h => by
    rw [appG] at h
    rcases List.mem_cons.1 h with rfl | h
    · exact Or.inl ⟨z, by simp, rfl, rfl⟩
    · exact (appG_head h).imp (fun ⟨w, hw, e⟩ => ⟨w, List.mem_cons_of_mem _ hw, e⟩) id
theorem appG_form : ∀ {a m : List Rn}, Form a → Form m → (∀ x ∈ a, ∀ y ∈ m, x.fin ≤ y.lba) → Form (appG a m)
  | [], m, _, hm, _ => hm
  | [x], m, ha, hm, h => consG_form (Form.cons.1 ha).1 hm (h x (by simp))
  | x :: y :: a, m, ha, hm, h => by
    obtain ⟨hx, hr, ha'⟩ := Form.cons.1 ha
    have ih := appG_form ha' hm (fun z hz w hw => h z (List.mem_cons_of_mem _ hz) w hw)
    rw [appG]
    have hyl := (Form.cons.1 ha').1.2.1
    have hxy := (hr y (by simp)).1
    refine Form.cons.2 ⟨hx, fun z hz => ?_, ih⟩
    rcases appG_head hz with ⟨w, hw, e1, e2⟩ | hz
    · have g := hr w hw
      refine ⟨by rw [e1]; exact g.1, fun g' => g.2 ?_⟩
      unfold Glued at g' ⊢; rw [e1, e2] at g'
      exact g'
    · have g := h y (by simp) z hz
      refine ⟨by unfold Rn.fin at *; omega, fun g' => ?_⟩
      have := g'.1
      unfold Rn.fin at *
      omega
theorem appG_page : ∀ {a m : List Rn}, (∀ x ∈ a, 0 ≤ x.len) → (∀ x ∈ m, 0 ≤ x.len) → ∀ s, page (appG a m) s = page (a ++ m) s
  | [], _, _, _, _ => rfl
  | [x], m, ha, hm, s => consG_page x m (ha x (by simp)) hm s
  | x :: y :: a, m, ha, hm, s => by
    rw [appG, List.cons_append]
    simp only [page]
    rw [appG_page (fun z hz => ha z (List.mem_cons_of_mem _ hz)) hm s]

/-- A run set: what lies below it, itself, what lies above it, joined where they go on. -/
def setL (r : Rn) (m : List Rn) : List Rn := appG (belowL r.lba m) (consG r (aboveL r.fin m))
theorem Form.len {m : List Rn} (h : Form m) {x : Rn} (hx : x ∈ m) : 0 ≤ x.len := by
  have := (h.1 x hx).2.1; omega
theorem setL_form {r : Rn} (hr : r.Ok) {m : List Rn} (h : Form m) : Form (setL r m) := by
  have h1 : 0 ≤ r.fin := by have := hr.1; have := hr.2.1; unfold Rn.fin; omega
  refine appG_form (belowL_form _ h) (consG_form hr (aboveL_form h1 h) fun y hy => aboveL_lba h1 h hy) fun x hx y hy => ?_
  have g := belowL_fin h hx
  rcases consG_head hy with e | e
  · rw [e.1]; exact g
  · have := aboveL_lba h1 h e
    have := hr.2.1
    unfold Rn.fin at *
    omega
theorem setL_page {r : Rn} (hr : r.Ok) {m : List Rn} (h : Form m) (s : Int) : page (setL r m) s = if r.lba ≤ s ∧ s < r.fin then some (r.phys + (s - r.lba)) else page m s := by
  have h1 : 0 ≤ r.fin := by have := hr.1; have := hr.2.1; unfold Rn.fin; omega
  have h2 := hr.2.1
  have hf := aboveL_form h1 h
  have hb := belowL_form r.lba h
  have hc : Form (consG r (aboveL r.fin m)) := consG_form hr hf fun y hy => aboveL_lba h1 h hy
  rw [setL, appG_page (fun x hx => hb.len hx) (fun x hx => hc.len hx), page_app, consG_page _ _ (by omega) (fun x hx => hf.len hx), belowL_page]
  simp only [page]
  rw [aboveL_page]
  by_cases e1 : s < r.lba
  · rw [if_pos e1, if_neg (show ¬ (r.lba ≤ s ∧ s < r.fin) by omega), if_neg (show ¬ (r.lba ≤ s ∧ s < r.fin) by omega), if_neg (show ¬ r.fin ≤ s by unfold Rn.fin at *; omega), Option.or_none]
  · rw [if_neg e1]
    by_cases e2 : r.lba ≤ s ∧ s < r.fin
    · rw [if_pos e2, if_pos e2]; rfl
    · rw [if_neg e2, if_neg e2, if_pos (by omega)]; rfl
end Tg
end Go.Proofs.Ytkddonmddgfpnaa
namespace Go.Proofs.Ytkddonmddgfpnaa
namespace Tg

/-- The entries with the first k of a range put (a page below 0: nowhere). -/
def putN (t : List Int) (lba : Nat) (phys : Int) : Nat → List Int
  | 0 => t
  | k + 1 => (putN t lba phys k).set (lba + k) (if phys < 0 then -1 else phys + k)
theorem putN_len (t : List Int) (lba : Nat) (phys : Int) : ∀ k, (putN t lba phys k).length = t.length
  | 0 => rfl
  | k + 1 => by rw [putN, List.length_set, putN_len t lba phys k]
theorem putN_get (t : List Int) (lba : Nat) (phys : Int) : ∀ k, lba + k ≤ t.length → ∀ j, (putN t lba phys k).getD j (-1) = if lba ≤ j ∧ j < lba + k then (if phys < 0 then -1 else phys + ((j : Int) - lba)) else t.getD j (-1)
  | 0, _, j => by rw [putN, if_neg (by omega)]
  | k + 1, h, j => by
    have ih := putN_get t lba phys k (by omega) j
    rw [putN, List.getD_eq_getElem?_getD, List.getElem?_set, putN_len]
    by_cases e : lba + k = j
    · subst e
      have e3 : ((lba + k : Nat) : Int) - lba = k := by omega
      rw [if_pos rfl, if_pos (show lba + k < t.length by omega), Option.getD_some, if_pos (show lba ≤ lba + k ∧ lba + k < lba + (k + 1) by omega), e3]
    · rw [if_neg e, ← List.getD_eq_getElem?_getD, ih]
      by_cases e2 : lba ≤ j ∧ j < lba + k
      · rw [if_pos e2, if_pos (show lba ≤ j ∧ j < lba + (k + 1) by omega)]
      · rw [if_neg e2, if_neg (show ¬ (lba ≤ j ∧ j < lba + (k + 1)) by omega)]
theorem putN_entry (t : List Int) (lba n : Nat) (phys : Int) (h : lba + n ≤ t.length) (s : Int) : entry (putN t lba phys n) s = if (lba : Int) ≤ s ∧ s < (lba : Int) + n then (if phys < 0 then none else some (phys + (s - lba))) else entry t s := by
  unfold entry
  rw [putN_len, putN_get t lba phys n h]
  by_cases e : (lba : Int) ≤ s ∧ s < (lba : Int) + n
  · rw [if_pos e]
    have e2 : lba ≤ s.toNat ∧ s.toNat < lba + n := by omega
    rw [if_pos e2]
    by_cases e3 : phys < 0
    · rw [if_pos e3, if_pos e3, if_neg (by omega)]
    · have e4 : ((s.toNat : Nat) : Int) = s := by omega
      rw [if_neg e3, if_neg e3, e4, if_pos (by omega)]
  · rw [if_neg e]
    by_cases e1 : 0 ≤ s
    · rw [if_neg (show ¬ (lba ≤ s.toNat ∧ s.toNat < lba + n) by omega)]
    · rw [if_neg (by omega), if_neg (by omega)]

/-- Are these runs those of these entries? -/
def Of (t : List Int) (m : List Rn) : Prop := Form m ∧ ∀ s, page m s = entry t s
theorem Of.runs {t : List Int} {m : List Rn} (h : Of t m) : m = refR t t.length := refR_one t h.1 h.2
theorem refR_of (t : List Int) : Of t (refR t t.length) := ⟨(refR_ok t t.length).form, fun s => by rw [(refR_ok t t.length).page]; rfl⟩
theorem Of.fin {t : List Int} {m : List Rn} (h : Of t m) {x : Rn} (hx : x ∈ m) : x.fin ≤ (t.length : Int) := by
  rw [h.runs] at hx
  exact (refR_ok t t.length).fin x hx
theorem Of.set {t : List Int} {m : List Rn} (h : Of t m) {lba n : Nat} {phys : Int} (hn : 1 ≤ n) (hp : 0 ≤ phys) (hr : lba + n ≤ t.length) : Of (putN t lba phys n) (setL ⟨(lba : Int), (n : Int), phys⟩ m) := by
  have ho : (⟨(lba : Int), (n : Int), phys⟩ : Rn).Ok := ⟨by simp only; omega, by simp only; omega, hp⟩
  refine ⟨setL_form ho h.1, fun s => ?_⟩
  rw [setL_page ho h.1, putN_entry t lba n phys hr, h.2 s, if_neg (show ¬ phys < 0 by omega)]
  rfl
theorem Of.clear {t : List Int} {m : List Rn} (h : Of t m) {lba n : Nat} {phys : Int} (hn : 1 ≤ n) (hp : phys < 0) (hr : lba + n ≤ t.length) : Of (putN t lba phys n) (clearL (lba : Int) ((lba : Int) + n) m) := by
  refine ⟨clearL_form (by omega) (by omega) h.1, fun s => ?_⟩
  rw [clearL_page (by omega), putN_entry t lba n phys hr, h.2 s, if_pos hp]
/-- No run goes on where it ends. -/
theorem Form.stop {m : List Rn} (h : Form m) {x : Rn} (hx : x ∈ m) : page m x.fin ≠ some (x.phys + x.len) := by
  intro e
  obtain ⟨z, hz, z1, z2, z3⟩ := page_mem e
  have hxo := (h.1 x hx).2.1
  induction m with
  | nil => cases hx
  | cons y m ih =>
    obtain ⟨hy, hr, hm⟩ := Form.cons.1 h
    rcases List.mem_cons.1 hx with rfl | hx'
    · rcases List.mem_cons.1 hz with rfl | hz
      · omega
      · have g := hr z hz
        exact g.2 ⟨by omega, by unfold Rn.fin at *; omega⟩
    · rcases List.mem_cons.1 hz with rfl | hz
      · have g := (hr x hx').1
        unfold Rn.fin at *
        omega
      · refine ih hm hx' ?_ hz
        rw [page] at e
        have g := (hr x hx').1
        rwa [if_neg (by unfold Rn.fin at *; omega)] at e

/-- Does a piece tell a sector (a page below 0: nowhere)? -/
def Fit (f : Int → Option Int) (x : Rn) (s : Int) : Prop := f s = if x.phys < 0 then none else some (x.phys + (s - x.lba))
/-- A range cut into the fewest pieces, in order. -/
def Cut (f : Int → Option Int) (hi : Int) : Int → List Rn → Prop
  | lo, [] => lo = hi
  | lo, x :: m => x.lba = lo ∧ 1 ≤ x.len ∧ -1 ≤ x.phys ∧ x.fin ≤ hi ∧ (∀ s, lo ≤ s → s < x.fin → Fit f x s) ∧ (x.fin = hi ∨ ¬ Fit f x x.fin) ∧ Cut f hi x.fin m
theorem Cut.len_le {f : Int → Option Int} {hi lo : Int} {x y : Rn} {a b : List Rn} (ha : Cut f hi lo (x :: a)) (hb : Cut f hi lo (y :: b)) (hp : x.phys = y.phys) : y.len ≤ x.len := by
  by_cases h : y.len ≤ x.len
  · exact h
  · obtain ⟨a1, a2, a3, a4, a5, a6, a7⟩ := ha
    obtain ⟨b1, b2, b3, b4, b5, b6, b7⟩ := hb
    have hlt : x.fin < y.fin := by unfold Rn.fin; omega
    rcases a6 with a6 | a6
    · omega
    · refine absurd ?_ a6
      have := b5 x.fin (by unfold Rn.fin; omega) hlt
      unfold Fit at *
      rw [hp, a1, ← b1]; exact this
/-- There is just one such cut. -/
theorem Cut.one {f : Int → Option Int} {hi : Int} : ∀ {lo : Int} {a b : List Rn}, Cut f hi lo a → Cut f hi lo b → a = b
  | _, [], [], _, _ => rfl
  | lo, [], y :: b, ha, hb => by
    obtain ⟨b1, b2, b3, b4, -⟩ := hb
    have : lo = hi := ha
    unfold Rn.fin at *; omega
  | lo, x :: a, [], ha, hb => by
    obtain ⟨b1, b2, b3, b4, -⟩ := ha
    have : lo = hi := hb
    unfold Rn.fin at *; omega
  | lo, x :: a, y :: b, ha, hb => by
    have ha' := ha
    have hb' := hb
    obtain ⟨a1, a2, a3, a4, a5, a6, a7⟩ := ha'
    obtain ⟨b1, b2, b3, b4, b5, b6, b7⟩ := hb'
    have hp : x.phys = y.phys := by
      have h1 := a5 lo (Int.le_refl _) (by unfold Rn.fin; omega)
      have h2 := b5 lo (Int.le_refl _) (by unfold Rn.fin; omega)
      unfold Fit at h1 h2
      rw [h1] at h2
      by_cases c1 : x.phys < 0
      · by_cases c2 : y.phys < 0
        · omega
        · rw [if_pos c1, if_neg c2] at h2; cases h2
      · by_cases c2 : y.phys < 0
        · rw [if_neg c1, if_pos c2] at h2; cases h2
        · rw [if_neg c1, if_neg c2] at h2
          injection h2 with h2
          omega
    have hn : x.len = y.len := by have := ha.len_le hb hp; have := hb.len_le ha hp.symm; omega
    have hxy : x = y := by cases x; cases y; simp only at *; subst hp hn; rw [a1, b1]
    subst hxy
    congr 1
    exact Cut.one a7 b7

/-- Pieces each of which ends where it must. -/
def Pre (f : Int → Option Int) : Int → Int → List Rn → Prop
  | lo, hi, [] => lo = hi
  | lo, hi, x :: m => x.lba = lo ∧ 1 ≤ x.len ∧ -1 ≤ x.phys ∧ (∀ s, lo ≤ s → s < x.fin → Fit f x s) ∧ ¬ Fit f x x.fin ∧ Pre f x.fin hi m
theorem Pre.le {f : Int → Option Int} : ∀ {lo hi : Int} {a : List Rn}, Pre f lo hi a → lo ≤ hi
  | _, _, [], h => Int.le_of_eq h
  | lo, hi, x :: a, ⟨h1, h2, _, _, _, h⟩ => by have := h.le; unfold Rn.fin at this; omega
theorem Pre.snoc {f : Int → Option Int} : ∀ {lo : Int} {a : List Rn} {x : Rn}, Pre f lo x.lba a → 1 ≤ x.len → -1 ≤ x.phys → (∀ s, x.lba ≤ s → s < x.fin → Fit f x s) → ¬ Fit f x x.fin → Pre f lo x.fin (a ++ [x])
  | _, [], _, h, h1, h2, h3, h4 => by
    have h : _ = _ := h
    exact ⟨h.symm, h1, h2, fun s hs => h3 s (by omega), h4, rfl⟩
  | _, _ :: _, _, ⟨g1, g2, g3, g4, g5, g6⟩, h1, h2, h3, h4 => ⟨g1, g2, g3, g4, g5, g6.snoc h1 h2 h3 h4⟩
theorem Pre.cut {f : Int → Option Int} {hi mid : Int} (hm : mid ≤ hi) {b : List Rn} (hb : Cut f hi mid b) : ∀ {lo : Int} {a : List Rn}, Pre f lo mid a → Cut f hi lo (a ++ b)
  | _, [], h => by
    have h : _ = _ := h
    subst h
    exact hb
  | _, _ :: _, ⟨g1, g2, g3, g4, g5, g6⟩ => ⟨g1, g2, g3, by have := g6.le; omega, g4, Or.inr g5, Pre.cut hm hb g6⟩

/-- The document's own cut of the first i sectors behind a sector. -/
def refP (t : List Int) (lba : Nat) : Nat → List Rn
  | 0 => []
  | i + 1 => if 0 < i ∧ (t.getD (lba + i) (-1) < 0 ∧ t.getD (lba + i - 1) (-1) < 0 ∨ 0 ≤ t.getD (lba + i) (-1) ∧ 0 ≤ t.getD (lba + i - 1) (-1) ∧ t.getD (lba + i - 1) (-1) + 1 = t.getD (lba + i) (-1)) then grow (refP t lba i) else refP t lba i ++ [⟨((lba + i : Nat) : Int), 1, if t.getD (lba + i) (-1) < 0 then -1 else t.getD (lba + i) (-1)⟩]
theorem entry_nat {t : List Int} {i : Nat} (h : i < t.length) : entry t (i : Int) = if t.getD i (-1) < 0 then none else some (t.getD i (-1)) := by
  unfold entry
  rw [Int.toNat_natCast]
  by_cases c : t.getD i (-1) < 0
  · rw [if_pos c, if_neg (by omega)]
  · rw [if_neg c, if_pos (by omega)]
theorem refP_ok (t : List Int) (lba : Nat) : ∀ i, lba + (i + 1) ≤ t.length → ∃ a x, refP t lba (i + 1) = a ++ [x] ∧ Pre (entry t) lba x.lba a ∧ x.fin = ((lba + (i + 1) : Nat) : Int) ∧ 1 ≤ x.len ∧ -1 ≤ x.phys ∧ ∀ s, x.lba ≤ s → s < x.fin → Fit (entry t) x s
  | 0, h => by
    refine ⟨[], _, by rw [refP, if_neg (by omega), refP], by show (lba : Int) = _; rfl, rfl, by simp, by simp only; split <;> omega, fun s h1 h2 => ?_⟩
    unfold Rn.fin at h2
    simp only at h1 h2
    have e : s = ((lba + 0 : Nat) : Int) := by omega
    subst e
    unfold Fit
    rw [entry_nat (by omega)]
    by_cases c : t.getD (lba + 0) (-1) < 0
    · simp only [if_pos c]; rfl
    · simp only [if_neg c]; simp
  | i + 1, h => by
    obtain ⟨a, x, e, hpre, hf, hl, hp, hfit⟩ := refP_ok t lba i (by omega)
    have hs : ∀ k : Nat, k < t.length → (Fit (entry t) x (k : Int) ↔ (t.getD k (-1) < 0 ∧ x.phys < 0 ∨ 0 ≤ t.getD k (-1) ∧ 0 ≤ x.phys ∧ x.phys + ((k : Int) - x.lba) = t.getD k (-1))) := by
      intro k hk
      unfold Fit
      rw [entry_nat hk]
      generalize t.getD k (-1) = v
      by_cases c1 : v < 0
      · by_cases c2 : x.phys < 0
        · rw [if_pos c1, if_pos c2]; exact ⟨fun _ => Or.inl ⟨c1, c2⟩, fun _ => rfl⟩
        · rw [if_pos c1, if_neg c2]; exact ⟨fun e => (by cases e), fun _ => by omega⟩
      · by_cases c2 : x.phys < 0
        · rw [if_neg c1, if_pos c2]; exact ⟨fun e => (by cases e), fun _ => by omega⟩
        · rw [if_neg c1, if_neg c2]; exact ⟨fun e => by injection e with e; omega, fun _ => by congr 1; omega⟩
    have hlast := (hs (lba + i) (by omega)).1 (hfit _ (by unfold Rn.fin at hf; omega) (by omega))
    have hnext := hs (lba + (i + 1)) (by omega)
    have hk : lba + (i + 1) - 1 = lba + i := by omega
    unfold Rn.fin at hf
    rw [refP, hk]
    split
    · next c =>
      have c := c.2
      have hfits : Fit (entry t) x ((lba + (i + 1) : Nat) : Int) := hnext.2 (by omega)
      rw [e, grow_snoc]
      refine ⟨a, _, rfl, hpre, by unfold Rn.fin; simp only; omega, by simp only; omega, hp, fun s h1 h2 => ?_⟩
      unfold Rn.fin at h2
      simp only at h1 h2
      show Fit (entry t) x s
      by_cases c3 : s < x.fin
      · exact hfit s h1 c3
      · have : s = ((lba + (i + 1) : Nat) : Int) := by unfold Rn.fin at c3; omega
        rw [this]; exact hfits
    · next c =>
      have hno : ¬ Fit (entry t) x x.fin := by
        rw [show x.fin = ((lba + (i + 1) : Nat) : Int) from hf, hnext]
        omega
      rw [e]
      refine ⟨a ++ [x], _, rfl, ?_, rfl, by simp, by simp only; split <;> omega, fun s h1 h2 => ?_⟩
      · show Pre (entry t) lba ((lba + (i + 1) : Nat) : Int) (a ++ [x])
        rw [← show x.fin = ((lba + (i + 1) : Nat) : Int) from hf]
        exact hpre.snoc hl hp hfit hno
      · unfold Rn.fin at h2
        simp only at h1 h2
        have e : s = ((lba + (i + 1) : Nat) : Int) := by omega
        subst e
        unfold Fit
        rw [entry_nat (by omega)]
        by_cases c : t.getD (lba + (i + 1)) (-1) < 0
        · simp only [if_pos c]; rfl
        · simp only [if_neg c]; simp
/-- The document's own cut is the one. -/
theorem refP_cut (t : List Int) (lba n : Nat) (h : lba + n ≤ t.length) : Cut (entry t) ((lba : Int) + n) lba (refP t lba n) := by
  cases n with
  | zero => show (lba : Int) = _; simp
  | succ i =>
    obtain ⟨a, x, e, hpre, hf, hl, hp, hfit⟩ := refP_ok t lba i h
    rw [e]
    refine hpre.cut (by unfold Rn.fin at hf; omega) ?_
    exact ⟨rfl, hl, hp, by omega, hfit, Or.inl (by omega), by show x.fin = _; omega⟩
theorem Of.cut {t : List Int} {m : List Rn} (h : Of t m) {lba n : Nat} (hr : lba + n ≤ t.length) {p : List Rn} (hc : Cut (page m) ((lba : Int) + n) lba p) : p = refP t lba n := by
  have e : page m = entry t := funext h.2
  rw [e] at hc
  exact hc.one (refP_cut t lba n hr)
end Tg
end Go.Proofs.Ytkddonmddgfpnaa
namespace Go.Proofs.Ytkddonmddgfpnaa
namespace Tg

/-- No more runs than sectors. -/
theorem Form.count : ∀ {m : List Rn} {lo hi : Int}, Form m → lo ≤ hi → (∀ x ∈ m, lo ≤ x.lba ∧ x.fin ≤ hi) → lo + m.length ≤ hi
  | [], lo, hi, _, h, _ => by simp; exact h
  | x :: m, lo, hi, hm, _, hx => by
    obtain ⟨ho, hr, hm'⟩ := Form.cons.1 hm
    have h1 := hx x (by simp)
    have h2 := ho.2.1
    have ih := Form.count (lo := x.fin) (hi := hi) hm' h1.2 (fun y hy => ⟨(hr y hy).1, (hx y (by simp [hy])).2⟩)
    rw [List.length_cons]
    unfold Rn.fin at *
    omega
theorem Of.count {t : List Int} {m : List Rn} (h : Of t m) : m.length ≤ t.length := by
  have := h.1.count (lo := 0) (hi := t.length) (by omega) (fun x hx => ⟨(h.1.1 x hx).1, h.fin hx⟩)
  omega

/-- What is there already, set again. -/
theorem setL_same {r : Rn} (hr : r.Ok) {m : List Rn} (h : Form m) (hs : ∀ s, r.lba ≤ s → s < r.fin → page m s = some (r.phys + (s - r.lba))) : setL r m = m :=
  Form.one (setL_form hr h) h (fun s => by
    rw [setL_page hr h]
    split
    · next c => rw [hs s c.1 c.2]
    · rfl)
theorem clearL_same {lo hi : Int} (h0 : 0 ≤ lo) (hl : lo < hi) {m : List Rn} (h : Form m) (hs : ∀ s, lo ≤ s → s < hi → page m s = none) : clearL lo hi m = m :=
  Form.one (clearL_form h0 hl h) h (fun s => by
    rw [clearL_page (by omega)]
    split
    · next c => rw [hs s c.1 c.2]
    · rfl)
/-- A piece of the map, set again (a hole: cleared). -/
theorem fit_same {x : Rn} {m : List Rn} (h : Form m) (h0 : 0 ≤ x.lba) (h1 : 1 ≤ x.len) (hs : ∀ s, x.lba ≤ s → s < x.fin → Fit (page m) x s) : (if x.phys < 0 then clearL x.lba x.fin m else setL x m) = m := by
  by_cases c : x.phys < 0
  · rw [if_pos c]
    refine clearL_same h0 (by unfold Rn.fin; omega) h (fun s a b => ?_)
    have := hs s a b
    unfold Fit at this
    rwa [if_pos c] at this
  · rw [if_neg c]
    refine setL_same ⟨h0, h1, by omega⟩ h (fun s a b => ?_)
    have := hs s a b
    unfold Fit at this
    rwa [if_neg c] at this
/-- Every piece of a cut lies in its range and fits. -/
theorem Cut.mem {f : Int → Option Int} {hi : Int} : ∀ {lo : Int} {p : List Rn}, Cut f hi lo p → ∀ x ∈ p, lo ≤ x.lba ∧ 1 ≤ x.len ∧ -1 ≤ x.phys ∧ x.fin ≤ hi ∧ ∀ s, x.lba ≤ s → s < x.fin → Fit f x s
  | _, [], _, x, hx => by cases hx
  | lo, y :: p, ⟨h1, h2, h3, h4, h5, _, h7⟩, x, hx => by
    rcases List.mem_cons.1 hx with rfl | hx
    · exact ⟨by omega, h2, h3, h4, fun s hs => h5 s (by omega)⟩
    · obtain ⟨g1, g2⟩ := h7.mem x hx
      exact ⟨by unfold Rn.fin at g1; omega, g2⟩
/-- A run ahead of all others, set. -/
theorem setL_cons {x : Rn} {m : List Rn} (h : Form (x :: m)) : setL x m = x :: m :=
  Form.one (setL_form (Form.cons.1 h).1 (Form.cons.1 h).2.2) h (fun s => by rw [setL_page (Form.cons.1 h).1 (Form.cons.1 h).2.2, page])
/-- The runs of a map, set from the last to the first into an empty one. -/
theorem setL_all : ∀ {m : List Rn}, Form m → m.foldr setL [] = m
  | [], _ => rfl
  | x :: m, h => by rw [List.foldr_cons, setL_all (Form.cons.1 h).2.2, setL_cons h]

/-- A change: a range set, or cleared. -/
def chg (x : Rn) (m : List Rn) : List Rn := if x.phys < 0 then clearL x.lba x.fin m else setL x m
theorem chg_form {x : Rn} (h0 : 0 ≤ x.lba) (h1 : 1 ≤ x.len) {m : List Rn} (h : Form m) : Form (chg x m) := by
  unfold chg
  split
  · exact clearL_form h0 (by unfold Rn.fin; omega) h
  · exact setL_form ⟨h0, h1, by omega⟩ h
theorem chg_page {x : Rn} (h0 : 0 ≤ x.lba) (h1 : 1 ≤ x.len) {m : List Rn} (h : Form m) (s : Int) : page (chg x m) s = if x.lba ≤ s ∧ s < x.fin then (if x.phys < 0 then none else some (x.phys + (s - x.lba))) else page m s := by
  unfold chg
  split
  · exact clearL_page (by unfold Rn.fin; omega) m s
  · exact setL_page ⟨h0, h1, by omega⟩ h s
/-- Changes of ranges apart, in either order. -/
theorem chg_comm {x y : Rn} (x0 : 0 ≤ x.lba) (x1 : 1 ≤ x.len) (y0 : 0 ≤ y.lba) (y1 : 1 ≤ y.len) (hd : x.fin ≤ y.lba ∨ y.fin ≤ x.lba) {m : List Rn} (h : Form m) : chg x (chg y m) = chg y (chg x m) :=
  Form.one (chg_form x0 x1 (chg_form y0 y1 h)) (chg_form y0 y1 (chg_form x0 x1 h)) (fun s => by
    rw [chg_page x0 x1 (chg_form y0 y1 h), chg_page y0 y1 h, chg_page y0 y1 (chg_form x0 x1 h), chg_page x0 x1 h]
    by_cases c1 : x.lba ≤ s ∧ s < x.fin
    · rw [if_pos c1, if_neg (show ¬ (y.lba ≤ s ∧ s < y.fin) by omega), if_pos c1]
    · rw [if_neg c1, if_neg c1])
/-- All of it cleared. -/
theorem clearL_whole {hi : Int} (hl : 0 < hi) {m : List Rn} (h : Form m) (hf : ∀ x ∈ m, x.fin ≤ hi) : clearL 0 hi m = [] :=
  Form.one (clearL_form (Int.le_refl _) hl h) Form.nil (fun s => by
    rw [clearL_page (by omega)]
    split
    · rfl
    · next c =>
      refine page_none (fun x hx => ?_)
      have := hf x hx
      have := (h.1 x hx).1
      omega)

/-- Bounds of sectors and pages. -/
def Lim (cap top : Int) (m : List Rn) : Prop := ∀ x ∈ m, x.fin ≤ cap ∧ x.phys + x.len ≤ top
theorem Lim.nil (cap top : Int) : Lim cap top [] := fun _ h => by cases h
theorem Lim.page {cap top : Int} {m : List Rn} (h : Lim cap top m) (hm : Form m) {s p : Int} (hp : page m s = some p) : 0 ≤ s ∧ s < cap ∧ 0 ≤ p ∧ p < top := by
  obtain ⟨x, hx, h1, h2, h3⟩ := page_mem hp
  have h4 := h x hx
  have h5 := hm.1 x hx
  have := h5.1
  have := h5.2.2
  unfold Rn.fin at *
  omega
theorem Lim.of {cap top : Int} {m : List Rn} (hm : Form m) (h : ∀ s p, Tg.page m s = some p → s < cap ∧ p < top) : Lim cap top m := fun x hx => by
  have h1 := (hm.1 x hx).2.1
  have := h (x.fin - 1) _ (hm.page_of hx (by unfold Rn.fin; omega) (by omega))
  unfold Rn.fin at *
  omega
theorem Lim.chg {cap top : Int} {m : List Rn} (h : Lim cap top m) (hm : Form m) {x : Rn} (h0 : 0 ≤ x.lba) (h1 : 1 ≤ x.len) (h2 : x.fin ≤ cap) (h3 : 0 ≤ x.phys → x.phys + x.len ≤ top) : Lim cap top (chg x m) :=
  Lim.of (chg_form h0 h1 hm) (fun s p hp => by
    rw [chg_page h0 h1 hm] at hp
    split at hp
    · next c =>
      split at hp
      · cases hp
      · next c2 =>
        injection hp with hp
        have := h3 (by omega)
        unfold Rn.fin at *
        omega
    · have := h.page hm hp
      omega)
theorem Lim.count {cap top : Int} {m : List Rn} (h : Lim cap top m) (hm : Form m) (hc : 0 ≤ cap) : (m.length : Int) ≤ cap := by
  have := hm.count (lo := 0) (hi := cap) hc (fun x hx => ⟨(hm.1 x hx).1, (h x hx).1⟩)
  omega
/-- What a run tells of a sector that is at its first one or behind. -/
def told (s : Int) : Option Rn → Option Int
  | none => none
  | some x => if s < x.fin then some (x.phys + (s - x.lba)) else none
theorem told_floorL (s : Int) : ∀ (m : List Rn) (d : Option Rn), Form m → (∀ x, d = some x → ∀ y ∈ m, x.fin ≤ y.lba) → told s (Tr.floorL s m d) = (page m s).or (told s d)
  | [], d, _, _ => by simp [Tr.floorL, page]
  | y :: m, d, hm, hd => by
    obtain ⟨ho, hr, hm'⟩ := Form.cons.1 hm
    rw [Tr.floorL, page]
    by_cases c : y.lba ≤ s
    · rw [if_pos c, told_floorL s m (some y) hm' (fun x e z hz => by injection e with e; subst e; exact (hr z hz).1)]
      by_cases c2 : s < y.fin
      · rw [if_pos ⟨c, c2⟩, hm.page_low c2, told, if_pos c2]; rfl
      · rw [if_neg (show ¬ (y.lba ≤ s ∧ s < y.fin) by omega), told, if_neg c2]
        have : told s d = none := by
          cases d with
          | none => rfl
          | some x =>
            have := hd x rfl y (by simp)
            rw [told, if_neg (by omega)]
        rw [this]
    · rw [if_neg c, told_floorL s m d hm' (fun x e z hz => hd x e z (by simp [hz])), if_neg (by omega)]
/-- A sector's page, by the run that begins at it or last ahead of it. -/
theorem page_floor {m : List Rn} (h : Form m) (s : Int) : page m s = told s (Tr.floorL s m none) := by
  rw [told_floorL s m none h (by simp), told, Option.or_none]
theorem page_tree {t : Tr} (h : Form t.runs) (s : Int) : page t.runs s = told s (t.floor s none) := by
  rw [page_floor h, Tr.floor_eq s t none h.up]
end Tg
end Go.Proofs.Ytkddonmddgfpnaa
namespace Go.Proofs.Ytkddonmddgfpnaa
namespace Tg

theorem Cut.run {m : List Rn} (h : Form m) {x : Rn} (hx : x ∈ m) {k hi e : Int} (h1 : x.lba ≤ k) (h2 : k < e) (h3 : e ≤ x.fin) (h4 : e ≤ hi) (h5 : e = x.fin ∨ e = hi) {b : List Rn} (hb : Cut (page m) hi e b) : Cut (page m) hi k (⟨k, e - k, x.phys + (k - x.lba)⟩ :: b) := by
  have ho := h.1 x hx
  have hf : (⟨k, e - k, x.phys + (k - x.lba)⟩ : Rn).fin = e := by unfold Rn.fin; simp only; omega
  have hp := ho.2.2
  refine ⟨rfl, by simp only; omega, by simp only; omega, by rw [hf]; exact h4, fun s s1 s2 => ?_, ?_, by rw [hf]; exact hb⟩
  · rw [hf] at s2
    unfold Fit
    simp only
    rw [if_neg (by omega), h.page_of hx (by omega) (by omega)]
    congr 1
    omega
  · rw [hf]
    rcases h5 with h5 | h5
    · refine Or.inr (fun g => h.stop hx ?_)
      unfold Fit at g
      simp only at g
      rw [if_neg (by omega), h5] at g
      rw [g]
      congr 1
      unfold Rn.fin
      omega
    · exact Or.inl h5
theorem Cut.hole {f : Int → Option Int} {k hi e : Int} (h2 : k < e) (h4 : e ≤ hi) (hn : ∀ s, k ≤ s → s < e → f s = none) (h5 : f e ≠ none ∨ e = hi) {b : List Rn} (hb : Cut f hi e b) : Cut f hi k (⟨k, e - k, -1⟩ :: b) := by
  have hf : (⟨k, e - k, -1⟩ : Rn).fin = e := by unfold Rn.fin; simp only; omega
  refine ⟨rfl, by simp only; omega, by simp, by rw [hf]; exact h4, fun s s1 s2 => ?_, ?_, by rw [hf]; exact hb⟩
  · rw [hf] at s2
    unfold Fit
    rw [hn s s1 s2]; rfl
  · rw [hf]
    rcases h5 with h5 | h5
    · exact Or.inr (fun g => h5 g)
    · exact Or.inl h5
/-- The first run that begins at a sector or behind it: those ahead begin ahead of it. -/
theorem ceilL_some {k : Int} {x : Rn} : ∀ {m : List Rn}, Tr.ceilL k m none = some x → ∃ a b, m = a ++ x :: b ∧ k ≤ x.lba ∧ ∀ y ∈ a, y.lba < k
  | [], h => by cases h
  | y :: m, h => by
    rw [Tr.ceilL] at h
    split at h
    · next c => injection h with h; subst h; exact ⟨[], m, rfl, c, by simp⟩
    · next c =>
      obtain ⟨a, b, e, h1, h2⟩ := ceilL_some h
      exact ⟨y :: a, b, by rw [e]; rfl, h1, fun z hz => by rcases List.mem_cons.1 hz with rfl | hz; omega; exact h2 z hz⟩
theorem ceilL_none {k : Int} : ∀ {m : List Rn}, Tr.ceilL k m none = none → ∀ y ∈ m, y.lba < k
  | [], _, y, hy => by cases hy
  | z :: m, h, y, hy => by
    rw [Tr.ceilL] at h
    split at h
    · cases h
    · next c =>
      rcases List.mem_cons.1 hy with rfl | hy
      · omega
      · exact ceilL_none h y hy
/-- From a sector that goes nowhere on nothing goes anywhere, up to the next run. -/
theorem hole_to {m : List Rn} (h : Form m) {k : Int} (hk : page m k = none) {s : Int} (hs : k ≤ s) (hc : ∀ x, Tr.ceilL k m none = some x → s < x.lba) : page m s = none := by
  refine page_none (fun y hy c => ?_)
  have h1 : y.lba < k := by
    cases e : Tr.ceilL k m none with
    | none => exact ceilL_none e y hy
    | some x =>
      obtain ⟨a, b, e2, h2, h3⟩ := ceilL_some e
      have := hc x e
      rw [e2] at hy h
      rcases List.mem_append.1 hy with hy | hy
      · exact h3 y hy
      · obtain ⟨-, hb, -⟩ := Form.app.1 h
        obtain ⟨ho, hr, -⟩ := Form.cons.1 hb
        rcases List.mem_cons.1 hy with rfl | hy
        · omega
        · have := (hr y hy).1
          have := ho.2.1
          unfold Rn.fin at *
          omega
  rw [h.page_of hy (by omega) (by omega)] at hk
  cases hk
theorem hole_end {m : List Rn} (h : Form m) {x : Rn} (hx : x ∈ m) : page m x.lba ≠ none := by
  have := (h.1 x hx).2.1
  rw [h.page_of hx (Int.le_refl _) (by unfold Rn.fin; omega)]
  intro e; cases e

/-- A walk along the runs: what lies in a range, the holes between. -/
def cutL (hi : Int) : Int → List Rn → List Rn
  | lo, [] => if lo < hi then [⟨lo, hi - lo, -1⟩] else []
  | lo, x :: m => if hi ≤ lo then [] else if x.fin ≤ lo then cutL hi lo m else
    if lo < x.lba then
      (if hi ≤ x.lba then [⟨lo, hi - lo, -1⟩] else
        ⟨lo, x.lba - lo, -1⟩ :: ⟨x.lba, (if hi ≤ x.fin then hi else x.fin) - x.lba, x.phys⟩ :: cutL hi (if hi ≤ x.fin then hi else x.fin) m)
    else ⟨lo, (if hi ≤ x.fin then hi else x.fin) - lo, x.phys + (lo - x.lba)⟩ :: cutL hi (if hi ≤ x.fin then hi else x.fin) m
theorem cutL_cut {w : List Rn} (hw : Form w) (hi : Int) : ∀ (m a : List Rn) (lo : Int), w = a ++ m → lo ≤ hi → (∀ y ∈ a, y.fin ≤ lo) → Cut (page w) hi lo (cutL hi lo m)
  | [], a, lo, e, hl, ha => by
    rw [cutL]
    split
    · next c =>
      refine Cut.hole c (Int.le_refl _) (fun s h1 h2 => page_none (fun y hy => ?_)) (Or.inr rfl) (show hi = hi from rfl)
      have := ha y (by simpa [e] using hy)
      omega
    · show lo = hi
      omega
  | x :: m, a, lo, e, hl, ha => by
    have hx : x ∈ w := by rw [e]; simp
    have hform := hw
    rw [e] at hform
    obtain ⟨fa, fx, fax⟩ := Form.app.1 hform
    obtain ⟨ho, hr, hm⟩ := Form.cons.1 fx
    have ho2 := ho.2.1
    have e' : w = (a ++ [x]) ++ m := by rw [e]; simp
    have hnone : ∀ s, lo ≤ s → s < x.lba → page w s = none := fun s s1 s2 => page_none (fun y hy c => by
      rw [e] at hy
      rcases List.mem_append.1 hy with hy | hy
      · have := ha y hy; omega
      · rcases List.mem_cons.1 hy with rfl | hy
        · omega
        · have := (hr y hy).1
          unfold Rn.fin at *
          omega)
    rw [cutL]
    by_cases c1 : hi ≤ lo
    · rw [if_pos c1]; show lo = hi; omega
    rw [if_neg c1]
    by_cases c2 : x.fin ≤ lo
    · rw [if_pos c2]
      exact cutL_cut hw hi m (a ++ [x]) lo e' hl (fun y hy => by
        rcases List.mem_append.1 hy with hy | hy
        · exact ha y hy
        · rw [List.mem_singleton] at hy; subst hy; exact c2)
    rw [if_neg c2]
    have hrest : ∀ k, lo ≤ k → k ≤ hi → (k = hi ∨ k = x.fin) → Cut (page w) hi k (cutL hi k m) := by
      intro k k1 k2 k3
      by_cases c : k = hi
      · subst c
        have : cutL k k m = [] := by
          cases m with
          | nil => rw [cutL, if_neg (by omega)]
          | cons y m => rw [cutL, if_pos (by omega)]
        rw [this]
        exact rfl
      · have c : k = x.fin := k3.resolve_left c
        refine cutL_cut hw hi m (a ++ [x]) k e' k2 (fun y hy => ?_)
        rcases List.mem_append.1 hy with hy | hy
        · have := ha y hy; omega
        · rw [List.mem_singleton] at hy; subst hy; omega
    have hE : ∀ E, E = (if hi ≤ x.fin then hi else x.fin) → E ≤ hi ∧ E ≤ x.fin ∧ (E = x.fin ∨ E = hi) := by
      intro E hE
      split at hE <;> omega
    generalize hEe : (if hi ≤ x.fin then hi else x.fin) = E
    obtain ⟨e1, e2, e3⟩ := hE E hEe.symm
    by_cases c3 : lo < x.lba
    · rw [if_pos c3]
      by_cases c4 : hi ≤ x.lba
      · rw [if_pos c4]
        exact Cut.hole (by omega) (Int.le_refl _) (fun s s1 s2 => hnone s s1 (by omega)) (Or.inr rfl) (show hi = hi from rfl)
      · rw [if_neg c4]
        have hlt : x.lba < E := by unfold Rn.fin at *; omega
        refine Cut.hole c3 (by omega) hnone (Or.inl (hole_end hw hx)) ?_
        have := Cut.run hw hx (Int.le_refl _) hlt e2 e1 e3 (hrest E (by omega) e1 e3.symm)
        rwa [Int.sub_self, Int.add_zero] at this
    · rw [if_neg c3]
      exact Cut.run hw hx (by omega) (by omega) e2 e1 e3 (hrest E (by omega) e1 e3.symm)
theorem Of.cutL {t : List Int} {m : List Rn} (h : Of t m) {lba n : Nat} (hr : lba + n ≤ t.length) : Tg.cutL ((lba : Int) + n) lba m = refP t lba n :=
  h.cut hr (cutL_cut h.1 _ m [] _ rfl (by omega) (by simp))
end Tg
end Go.Proofs.Ytkddonmddgfpnaa
namespace Go.Proofs.Ytkddonmddgfpnaa
namespace Tg

/-- A run's part from a sector up to another one. -/
def partR (x : Rn) (a b : Int) : Rn := ⟨max a x.lba, min (b - max a x.lba) (x.len - (max a x.lba - x.lba)), x.phys + max a x.lba - x.lba⟩
/-- A run behind others, joined where it goes on, passed over where it is empty. -/
def joinL (l : List Rn) (r : Rn) : List Rn := if r.len < 1 then l else match l.getLast? with
  | none => [r]
  | some x => if x.fin = r.lba ∧ x.phys + x.len = r.phys then l.dropLast ++ [⟨x.lba, x.len + r.len, x.phys⟩] else l ++ [r]
def joins (l : List Rn) (c : List Rn) : List Rn := c.foldl joinL l
/-- The runs that have a sector of a range, or end or begin at its ends. -/
def nearL (lo hi : Int) (m : List Rn) : List Rn := m.filter (fun x => decide (lo ≤ x.fin) && decide (x.lba ≤ hi))

theorem joins_app (l a b : List Rn) : joins l (a ++ b) = joins (joins l a) b := by simp [joins]
theorem joins_nil (l : List Rn) : joins l [] = l := rfl
theorem joins_cons (l : List Rn) (r : Rn) (c : List Rn) : joins l (r :: c) = joins (joinL l r) c := rfl
theorem joinL_empty {l : List Rn} {r : Rn} (h : r.len < 1) : joinL l r = l := by rw [joinL, if_pos h]
theorem joinL_nil {r : Rn} (h : 1 ≤ r.len) : joinL [] r = [r] := by rw [joinL, if_neg (by omega)]; rfl
theorem joinL_glue {l : List Rn} {x r : Rn} (h : 1 ≤ r.len) (g : x.fin = r.lba ∧ x.phys + x.len = r.phys) : joinL (l ++ [x]) r = l ++ [⟨x.lba, x.len + r.len, x.phys⟩] := by
  rw [joinL, if_neg (by omega)]
  simp only [List.getLast?_concat, List.dropLast_concat]
  rw [if_pos g]
theorem joinL_new {l : List Rn} {x r : Rn} (h : 1 ≤ r.len) (g : ¬ (x.fin = r.lba ∧ x.phys + x.len = r.phys)) : joinL (l ++ [x]) r = l ++ [x] ++ [r] := by
  rw [joinL, if_neg (by omega)]
  simp only [List.getLast?_concat]
  rw [if_neg g]

theorem snoc_cases (l : List Rn) : l = [] ∨ ∃ a x, l = a ++ [x] := by
  rcases List.eq_nil_or_concat l with h | ⟨a, x, h⟩
  · exact Or.inl h
  · exact Or.inr ⟨a, x, by simpa using h⟩

/-- What joining a row of runs leaves. -/
structure Jn (c l : List Rn) : Prop where
  form : Form l
  page : ∀ s, page l s = page c s
  head : ∀ y ∈ l, ∃ z ∈ c, y.lba = z.lba ∧ y.phys = z.phys
  tail : ∀ y ∈ l, ∃ z ∈ c, y.fin = z.fin ∧ y.phys + y.len = z.phys + z.len
  len : l.length ≤ c.length
theorem Jn.nil : Jn [] [] := ⟨Form.nil, fun _ => rfl, by simp, by simp, Nat.le_refl _⟩
theorem Jn.snoc {c l : List Rn} (h : Jn c l) {r : Rn} (hr : r.Ok) (hc : ∀ z ∈ c, z.fin ≤ r.lba) : Jn (c ++ [r]) (joinL l r) := by
  have hl : ∀ y ∈ l, y.fin ≤ r.lba := fun y hy => by obtain ⟨z, hz, e, -⟩ := h.tail y hy; rw [e]; exact hc z hz
  have hr1 := hr.2.1
  rcases snoc_cases l with rfl | ⟨a, x, rfl⟩
  · rw [joinL_nil hr1]
    refine ⟨Form.single hr, fun s => ?_, fun y hy => ⟨r, by simp, ?_⟩, fun y hy => ⟨r, by simp, ?_⟩, by simp⟩
    · rw [page_app, ← h.page s]; rfl
    · simp at hy; subst hy; exact ⟨rfl, rfl⟩
    · simp at hy; subst hy; exact ⟨rfl, rfl⟩
  · obtain ⟨fa, fx, fax⟩ := Form.app.1 h.form
    have hx := (Form.cons.1 fx).1
    have hx1 := hx.2.1
    have hxl := hl x (by simp)
    have hlen := h.len
    by_cases g : x.fin = r.lba ∧ x.phys + x.len = r.phys
    · rw [joinL_glue hr1 g]
      have hfin : (⟨x.lba, x.len + r.len, x.phys⟩ : Rn).fin = r.fin := by unfold Rn.fin at *; simp only; omega
      refine ⟨Form.app.2 ⟨fa, Form.single ⟨hx.1, by simp only; omega, hx.2.2⟩, fun y hy z hz => ?_⟩, fun s => ?_, fun y hy => ?_, fun y hy => ?_, by simp at hlen ⊢; omega⟩
      · rw [List.mem_singleton] at hz
        subst hz
        exact fax y hy x (by simp)
      · have hp := h.page s
        rw [page_app] at hp ⊢
        rw [page_app, ← hp]
        simp only [Tg.page, hfin]
        cases ha : Tg.page a s with
        | some v => simp
        | none =>
          simp only [Option.none_or]
          by_cases h1 : x.lba ≤ s ∧ s < x.fin
          · rw [if_pos h1, if_pos (by unfold Rn.fin at *; omega)]; simp
          · rw [if_neg h1]
            by_cases h2 : r.lba ≤ s ∧ s < r.fin
            · rw [if_pos h2, if_pos (by unfold Rn.fin at *; omega)]
              simp only [Option.none_or]
              congr 1
              unfold Rn.fin at *
              omega
            · rw [if_neg h2, if_neg (by unfold Rn.fin at *; omega)]; rfl
      · rcases List.mem_append.1 hy with hy | hy
        · obtain ⟨z, hz, e⟩ := h.head y (by simp [hy]); exact ⟨z, by simp [hz], e⟩
        · simp at hy; subst hy
          obtain ⟨z, hz, e⟩ := h.head x (by simp); exact ⟨z, by simp [hz], e⟩
      · rcases List.mem_append.1 hy with hy | hy
        · obtain ⟨z, hz, e⟩ := h.tail y (by simp [hy]); exact ⟨z, by simp [hz], e⟩
        · rw [List.mem_singleton] at hy; subst hy
          exact ⟨r, by simp, hfin, by simp only; omega⟩
    · rw [joinL_new hr1 g]
      refine ⟨Form.app.2 ⟨h.form, Form.single hr, fun y hy z hz => ?_⟩, fun s => by rw [page_app, page_app c, h.page s], fun y hy => ?_, fun y hy => ?_, by simp at hlen ⊢; omega⟩
      · rw [List.mem_singleton] at hz
        subst hz
        refine ⟨hl y hy, fun gl => ?_⟩
        rcases List.mem_append.1 hy with hy | hy
        · have := (fax y hy x (by simp)).1
          have := gl.1
          unfold Rn.fin at *
          omega
        · simp at hy; subst hy; exact g gl
      · rcases List.mem_append.1 hy with hy | hy
        · obtain ⟨z, hz, e⟩ := h.head y hy; exact ⟨z, by simp [hz], e⟩
        · simp at hy; subst hy; exact ⟨y, by simp, rfl, rfl⟩
      · rcases List.mem_append.1 hy with hy | hy
        · obtain ⟨z, hz, e⟩ := h.tail y hy; exact ⟨z, by simp [hz], e⟩
        · simp at hy; subst hy; exact ⟨y, by simp, rfl, rfl⟩
/-- A row of runs one behind the other. -/
def Asc (c : List Rn) : Prop := (∀ x ∈ c, x.Ok) ∧ c.Pairwise (fun a b => a.fin ≤ b.lba)
theorem Jn.all : ∀ {d c l : List Rn}, Jn c l → Asc (c ++ d) → Jn (c ++ d) (joins l d)
  | [], c, l, h, _ => by rw [List.append_nil]; exact h
  | r :: d, c, l, h, ha => by
    have e : c ++ r :: d = (c ++ [r]) ++ d := by simp
    rw [e] at ha ⊢
    rw [joins_cons]
    refine Jn.all (h.snoc (ha.1 r (by simp)) (fun z hz => ?_)) ha
    exact (List.pairwise_append.1 (List.pairwise_append.1 ha.2).1).2.2 z hz r (by simp)
theorem Form.asc {m : List Rn} (h : Form m) : Asc m := ⟨h.1, h.2.imp (fun e => e.1)⟩
theorem Asc.app {a b : List Rn} (ha : Asc a) (hb : Asc b) (h : ∀ x ∈ a, ∀ y ∈ b, x.fin ≤ y.lba) : Asc (a ++ b) :=
  ⟨fun x hx => (List.mem_append.1 hx).elim (ha.1 x) (hb.1 x), List.pairwise_append.2 ⟨ha.2, hb.2, h⟩⟩

/-- The parts below, of which those that are empty are passed over. -/
theorem joins_below {lo : Int} : ∀ {o l : List Rn}, (∀ x ∈ o, x.Ok) → joins l (o.map (fun x => partR x 0 lo)) = joins l (belowL lo o)
  | [], _, _ => rfl
  | x :: o, l, h => by
    have hx := h x (by simp)
    have h0 := hx.1
    have h1 := hx.2.1
    rw [List.map_cons, joins_cons, belowL_cons, joins_app, joins_below (fun y hy => h y (by simp [hy]))]
    congr 1
    have e : partR x 0 lo = ⟨x.lba, min (lo - x.lba) x.len, x.phys⟩ := by
      unfold partR
      rw [show max 0 x.lba = x.lba by omega]
      congr 1
      · omega
      · omega
    rw [e]
    unfold below1 Rn.fin
    by_cases c1 : x.lba + x.len ≤ lo
    · rw [if_pos c1, show min (lo - x.lba) x.len = x.len by omega]; rfl
    · rw [if_neg c1]
      by_cases c2 : x.lba < lo
      · rw [if_pos c2, show min (lo - x.lba) x.len = lo - x.lba by omega]; rfl
      · rw [if_neg c2, joinL_empty (by simp only; omega)]; rfl
theorem joins_above {hi cap : Int} : ∀ {o l : List Rn}, (∀ x ∈ o, x.Ok ∧ x.fin ≤ cap) → joins l (o.map (fun x => partR x hi cap)) = joins l (aboveL hi o)
  | [], _, _ => rfl
  | x :: o, l, h => by
    have hx := (h x (by simp)).1
    have hf := (h x (by simp)).2
    have h1 := hx.2.1
    rw [List.map_cons, joins_cons, aboveL_cons, joins_app, joins_above (fun y hy => h y (by simp [hy]))]
    congr 1
    unfold Rn.fin at hf
    unfold above1 Rn.fin
    by_cases c1 : hi ≤ x.lba
    · have e : partR x hi cap = x := by
        unfold partR
        rw [show max hi x.lba = x.lba by omega]
        cases x
        simp only at *
        congr 1
        · omega
        · omega
      rw [if_pos c1, e]; rfl
    · rw [if_neg c1]
      have e : partR x hi cap = ⟨hi, x.lba + x.len - hi, x.phys + (hi - x.lba)⟩ := by
        unfold partR
        rw [show max hi x.lba = hi by omega]
        congr 1
        · omega
        · omega
      rw [e]
      by_cases c2 : hi < x.lba + x.len
      · rw [if_pos c2]; rfl
      · rw [if_neg c2, joinL_empty (by simp only; omega)]; rfl

/-- What stands ahead of the runs near a range, and behind them. -/
theorem near_split (lo hi : Int) (hl : lo ≤ hi) : ∀ {m : List Rn}, Form m → ∃ A B, m = A ++ nearL lo hi m ++ B ∧ (∀ x ∈ A, x.fin < lo) ∧ ∀ x ∈ B, hi < x.lba
  | [], _ => ⟨[], [], rfl, by simp, by simp⟩
  | x :: m, h => by
    obtain ⟨hx, hr, hm⟩ := Form.cons.1 h
    have h1 := hx.2.1
    obtain ⟨A, B, e, hA, hB⟩ := near_split lo hi hl hm
    by_cases c1 : x.fin < lo
    · have en : nearL lo hi (x :: m) = nearL lo hi m := by
        unfold nearL
        rw [List.filter_cons_of_neg (by simp; omega)]
      refine ⟨x :: A, B, by rw [en]; simp only [List.cons_append]; rw [← e], fun y hy => ?_, hB⟩
      rcases List.mem_cons.1 hy with rfl | hy
      · exact c1
      · exact hA y hy
    · by_cases c2 : x.lba ≤ hi
      · have en : nearL lo hi (x :: m) = x :: nearL lo hi m := by
          unfold nearL
          rw [List.filter_cons_of_pos (by simp; omega)]
        have hA0 : A = [] := by
          rcases A with _ | ⟨y, A⟩
          · rfl
          · have hy := hA y (by simp)
            have := (hr y (by rw [e]; simp)).1
            have := (hm.1 y (by rw [e]; simp)).2.1
            unfold Rn.fin at *
            omega
        subst hA0
        exact ⟨[], B, by rw [en]; simp only [List.nil_append, List.cons_append] at e ⊢; rw [← e], by simp, hB⟩
      · have en : nearL lo hi (x :: m) = [] := by
          unfold nearL
          rw [List.filter_cons_of_neg (by simp; omega), List.filter_eq_nil_iff]
          intro y hy
          have := (hr y hy).1
          unfold Rn.fin at *
          simp; omega
        refine ⟨[], x :: m, by rw [en]; rfl, by simp, fun y hy => ?_⟩
        rcases List.mem_cons.1 hy with rfl | hy
        · omega
        · have := (hr y hy).1
          unfold Rn.fin at *
          omega

theorem below_len (lo : Int) : ∀ o : List Rn, (belowL lo o).length ≤ o.length
  | [] => by simp [belowL]
  | x :: o => by
    have := below_len lo o
    rw [belowL_cons, List.length_append, List.length_cons]
    rcases one_below lo x with e | ⟨y, e⟩ <;> rw [e] <;> simp <;> omega
theorem above_len (hi : Int) : ∀ o : List Rn, (aboveL hi o).length ≤ o.length
  | [] => by simp [aboveL]
  | x :: o => by
    have := above_len hi o
    rw [aboveL_cons, List.length_append, List.length_cons]
    rcases one_above hi x with e | ⟨y, e⟩ <;> rw [e] <;> simp <;> omega
/-- What takes the place of the runs near a range. -/
def freshL (lo hi cap : Int) (ins : List Rn) (m : List Rn) : List Rn :=
  joins (joins (joins [] ((nearL lo hi m).map (fun x => partR x 0 lo))) ins) ((nearL lo hi m).map (fun x => partR x hi cap))

/-- What lay makes of it all. -/
structure Laid (lo hi cap : Int) (ins m : List Rn) (A F B : List Rn) : Prop where
  split : m = A ++ nearL lo hi m ++ B
  fresh : F = freshL lo hi cap ins m
  form : Form (A ++ F ++ B)
  page : ∀ s, page (A ++ F ++ B) s = if lo ≤ s ∧ s < hi then Tg.page ins s else Tg.page m s
  len : F.length ≤ 2 * m.length + ins.length
theorem laid {lo hi cap : Int} {ins m : List Rn} (h0 : 0 ≤ lo) (hl : lo < hi) (hm : Form m) (hc : ∀ x ∈ m, x.fin ≤ cap) (hi1 : Form ins) (hi2 : ∀ x ∈ ins, lo ≤ x.lba ∧ x.fin ≤ hi) :
    ∃ A F B, Laid lo hi cap ins m A F B := by
  obtain ⟨A, B, e, hA, hB⟩ := near_split lo hi (by omega) hm
  generalize ho : nearL lo hi m = o at e
  have hm' := hm
  rw [e] at hm'
  obtain ⟨fao, fb, faob⟩ := Form.app.1 hm'
  obtain ⟨fa, fo, fa_o⟩ := Form.app.1 fao
  have hc' : ∀ x ∈ o, x.Ok ∧ x.fin ≤ cap := fun x hx => ⟨fo.1 x hx, hc x (by rw [e]; simp [hx])⟩
  have hF : freshL lo hi cap ins m = joins [] (belowL lo o ++ ins ++ aboveL hi o) := by
    unfold freshL
    rw [ho, joins_below fo.1, joins_above hc', joins_app, joins_app]
  have hb := belowL_form lo fo
  have hv := aboveL_form (hi := hi) (by omega) fo
  have hasc : Asc (belowL lo o ++ ins ++ aboveL hi o) := by
    refine (hb.asc.app hi1.asc (fun x hx y hy => ?_)).app hv.asc (fun x hx y hy => ?_)
    · have := belowL_fin fo hx; have := (hi2 y hy).1; omega
    · have h2 := aboveL_lba (by omega) fo hy
      rcases List.mem_append.1 hx with hx | hx
      · have := belowL_fin fo hx; omega
      · have := (hi2 x hx).2; omega
  have J : Jn (belowL lo o ++ ins ++ aboveL hi o) (freshL lo hi cap ins m) := by
    rw [hF]
    have := Jn.nil.all (d := belowL lo o ++ ins ++ aboveL hi o) (by simpa using hasc)
    simpa using this
  refine ⟨A, _, B, by rw [ho]; exact e, rfl, ?_, fun s => ?_, ?_⟩
  · refine Form.app.2 ⟨Form.app.2 ⟨fa, J.form, fun x hx y hy => ?_⟩, fb, fun x hx y hy => ?_⟩
    · have hxl := hA x hx
      obtain ⟨z, hz, e1, e2⟩ := J.head y hy
      rcases List.mem_append.1 hz with hz | hz
      · rcases List.mem_append.1 hz with hz | hz
        · obtain ⟨u, hu, hz⟩ := belowL_mem hz
          obtain ⟨-, b1, b2, -⟩ := below1_mem (fo.1 u hu) hz
          have := fa_o x hx u hu
          refine ⟨by omega, fun g => this.2 ⟨by have := g.1; omega, by have := g.2; omega⟩⟩
        · have := (hi2 z hz).1
          exact ⟨by omega, fun g => by have := g.1; omega⟩
      · have := aboveL_lba (by omega) fo hz
        exact ⟨by omega, fun g => by have := g.1; omega⟩
    · have hyl := hB y hy
      rcases List.mem_append.1 hx with hx | hx
      · exact faob x (by simp [hx]) y hy
      · obtain ⟨z, hz, e1, e2⟩ := J.tail x hx
        rcases List.mem_append.1 hz with hz | hz
        · have : z.fin ≤ hi := by
            rcases List.mem_append.1 hz with hz | hz
            · have := belowL_fin fo hz; omega
            · exact (hi2 z hz).2
          exact ⟨by omega, fun g => by have := g.1; omega⟩
        · obtain ⟨u, hu, hz⟩ := aboveL_mem hz
          obtain ⟨-, b1, b2, -⟩ := above1_mem (by omega) (fo.1 u hu) hz
          have := faob u (by simp [hu]) y hy
          refine ⟨by omega, fun g => this.2 ⟨by have := g.1; omega, by have := g.2; omega⟩⟩
  · rw [page_app, page_app, J.page s, page_app, page_app, belowL_page, aboveL_page]
    have hp : page m s = ((page A s).or (page o s)).or (page B s) := by rw [e, page_app, page_app]
    have hIn : ¬ (lo ≤ s ∧ s < hi) → page ins s = none := fun h => page_none (fun x hx => by have := hi2 x hx; omega)
    by_cases c : lo ≤ s ∧ s < hi
    · rw [if_pos c, if_neg (show ¬ s < lo by omega), if_neg (show ¬ hi ≤ s by omega)]
      have h1 : page A s = none := page_none (fun x hx => by have := hA x hx; omega)
      have h2 : page B s = none := page_none (fun x hx => by have := hB x hx; omega)
      rw [h1, h2]; simp
    · rw [if_neg c, hIn c, hp]
      by_cases c2 : s < lo
      · rw [if_pos c2, if_neg (show ¬ hi ≤ s by omega)]; simp
      · rw [if_neg c2, if_pos (show hi ≤ s by omega)]; simp
  · have h1 := J.len
    have h2 := below_len lo o
    have h3 := above_len hi o
    have h4 : o.length ≤ m.length := by rw [e]; simp; omega
    simp at h1
    omega

/-- A range set, a range cleared: what lay makes is what the mathematics of maps says. -/
theorem Laid.set {r : Rn} {cap : Int} {m A F B : List Rn} (hr : r.Ok) (hm : Form m) (h : Laid r.lba r.fin cap [r] m A F B) : A ++ F ++ B = setL r m :=
  Form.one h.form (setL_form hr hm) (fun s => by
    rw [h.page, setL_page hr hm]
    by_cases c : r.lba ≤ s ∧ s < r.fin
    · rw [if_pos c, if_pos c, Tg.page, if_pos c]
    · rw [if_neg c, if_neg c])
theorem Laid.clear {lo hi cap : Int} {m A F B : List Rn} (h0 : 0 ≤ lo) (hl : lo < hi) (hm : Form m) (h : Laid lo hi cap [] m A F B) : A ++ F ++ B = clearL lo hi m :=
  Form.one h.form (clearL_form h0 hl hm) (fun s => by rw [h.page, clearL_page (by omega)]; rfl)

/-- Rising numbers all of which are among others are not more. -/
theorem rise_len : ∀ {b a : List Int}, a.Pairwise (· < ·) → b.Pairwise (· < ·) → (∀ x ∈ a, x ∈ b) → a.length ≤ b.length
  | [], a, _, _, h => by
    rcases a with _ | ⟨x, a⟩
    · simp
    · have := h x (by simp); cases this
  | y :: b, a, ha, hb, h => by
    rcases a with _ | ⟨x, a⟩
    · simp
    · obtain ⟨a1, a2⟩ := List.pairwise_cons.1 ha
      obtain ⟨b1, b2⟩ := List.pairwise_cons.1 hb
      by_cases e : x = y
      · subst e
        have := rise_len a2 b2 (fun z hz => by
          rcases List.mem_cons.1 (h z (by simp [hz])) with rfl | hz'
          · have := a1 z hz; omega
          · exact hz')
        simp; omega
      · have hx : x ∈ b := by rcases List.mem_cons.1 (h x (by simp)) with hx | hx; exact absurd hx e; exact hx
        have hxy := b1 x hx
        have := rise_len ha b2 (fun z hz => by
          rcases List.mem_cons.1 (h z hz) with rfl | hz'
          · rcases List.mem_cons.1 hz with rfl | hz
            · omega
            · have := a1 z hz; omega
          · exact hz')
        simp at this ⊢; omega
theorem up_len {a b : List Rn} (ha : Tr.Up a) (hb : Tr.Up b) (h : ∀ x ∈ a, ∃ y ∈ b, y.lba = x.lba) : a.length ≤ b.length := by
  have ha' : (a.map Rn.lba).Pairwise (fun x y => x < y) := List.pairwise_map.2 ha
  have hb' : (b.map Rn.lba).Pairwise (fun x y => x < y) := List.pairwise_map.2 hb
  have := rise_len ha' hb' (fun v hv => by
    obtain ⟨x, hx, rfl⟩ := List.mem_map.1 hv
    obtain ⟨y, hy, e⟩ := h x hx
    exact List.mem_map.2 ⟨y, hy, e⟩)
  simpa using this
end Tg
end Go.Proofs.Ytkddonmddgfpnaa
