/-
  Runs cut where blocks end, and how many pages of each block they map: mathematics alone.
-/
import Derived.Test.YtkddonmddgfpnabBs
namespace Go.Proofs.Ytkddonmddgfpnab
namespace Tg
/-- Runs that pass the test are in their form. -/
theorem formP_form : ∀ {l : List Rn} {p : Option Rn}, formP p l = true → Form l ∧ (∀ x ∈ l, inB x = true) ∧ ∀ a, p = some a → 1 ≤ a.len → ∀ x ∈ l, a.fin ≤ x.lba ∧ ¬ Glued a x
  | [], p, _ => ⟨Form.nil, (fun x hx => by cases hx), (fun a _ _ x hx => by cases hx)⟩
  | x :: l, p, h => by
    have h' : okAt p x = true ∧ formP (some x) l = true := by rwa [formP_at, Bool.and_eq_true] at h
    obtain ⟨h1, h2⟩ := h'
    obtain ⟨f1, f2, f3⟩ := formP_form h2
    have hb : inB x = true := by
      unfold okAt at h1
      rw [Bool.and_eq_true] at h1
      exact h1.1
    have hb' := inB_iff.1 hb
    refine ⟨Form.cons.2 ⟨⟨hb'.1, hb'.2.2.1, hb'.2.2.2.2.1⟩, f3 x rfl hb'.2.2.1, f1⟩, fun y hy => ?_, fun a e ha y hy => ?_⟩
    · rcases List.mem_cons.1 hy with rfl | hy
      · exact hb
      · exact f2 y hy
    · subst e
      have hfo : folB a x = true := by
        unfold okAt at h1
        rw [Bool.and_eq_true] at h1
        exact h1.2
      have hax : a.fin ≤ x.lba ∧ ¬ Glued a x := by
        unfold folB at hfo
        unfold Glued Rn.fin
        split at hfo
        · simp at hfo; omega
        · simp at hfo; omega
      rcases List.mem_cons.1 hy with rfl | hy
      · exact hax
      · have h4 := f3 x rfl hb'.2.2.1 y hy
        unfold Glued Rn.fin at *
        omega
/-- Do runs end where they may? -/
def endB (l : List Rn) : Bool := match l.getLast? with
  | none => true
  | some x => decide (x.fin ≤ 512)
theorem ends_fin {l : List Rn} (h : Form l) (he : endB l = true) : ∀ x ∈ l, x.fin ≤ 512 := by
  unfold endB at he
  cases hl : l.getLast? with
  | none =>
    simp only [List.getLast?_eq_none_iff] at hl
    subst hl
    simp
  | some y =>
    rw [hl] at he
    simp only [decide_eq_true_iff] at he
    intro x hx
    obtain ⟨m, rfl⟩ := List.getLast?_eq_some_iff.1 hl
    rcases List.mem_append.1 hx with hx | hx
    · have h5 := (List.pairwise_append.1 h.2).2.2 x hx y (by simp)
      have h6 := h.1 y (by simp)
      unfold Rn.Ok at h6
      unfold Rn.fin at *
      omega
    · simp at hx; subst hx; exact he
/-- May these runs be? -/
def fit13 (l : List Rn) : Bool := decide (l.length ≤ 512) && (formP none l && endB l)
structure Ft13 (l : List Rn) : Prop where
  len : l.length ≤ 512
  form : Form l
  inb : ∀ x ∈ l, inB x = true
  fin : ∀ x ∈ l, x.fin ≤ 512
theorem Ft13.of {l : List Rn} (h : fit13 l = true) : Ft13 l := by
  unfold fit13 at h
  rw [Bool.and_eq_true, Bool.and_eq_true, decide_eq_true_iff] at h
  obtain ⟨h1, h2, h3⟩ := h
  have hf := formP_form h2
  exact ⟨h1, hf.1, hf.2.1, ends_fin hf.1 h3⟩
theorem Ft13.bd {l : List Rn} (h : Ft13 l) {x : Rn} (hx : x ∈ l) : 0 ≤ x.lba ∧ 1 ≤ x.len ∧ x.lba + x.len ≤ 512 ∧ 0 ≤ x.phys ∧ x.phys ≤ 1073741824 := by
  have h1 := inB_iff.1 (h.inb x hx)
  have h2 := h.fin x hx
  unfold Rn.fin at h2
  omega
/-- Do all pages of runs lie below a number? -/
def inP (P : Int) (l : List Rn) : Bool := l.all (fun x => decide (x.phys + x.len ≤ P))
theorem inP_snoc (P : Int) (l : List Rn) (x : Rn) : inP P (l ++ [x]) = (inP P l && decide (x.phys + x.len ≤ P)) := by simp [inP]
theorem inP_iff {P : Int} {l : List Rn} : inP P l = true ↔ ∀ x ∈ l, x.phys + x.len ≤ P := by simp [inP]
/-- How many of the first k pages from phys on lie in a block. -/
def cntK (pages phys b : Int) : Nat → Int
  | 0 => 0
  | k + 1 => cntK pages phys b k + (if (phys + (k : Int)) / pages = b then 1 else 0)
theorem cntK_le (pages phys b : Int) : ∀ k : Nat, 0 ≤ cntK pages phys b k ∧ cntK pages phys b k ≤ (k : Int)
  | 0 => ⟨Int.le_refl _, Int.le_refl _⟩
  | k + 1 => by
    have := cntK_le pages phys b k
    unfold cntK
    split <;> omega
/-- How many pages of a block runs map. -/
def cnt (pages b : Int) : List Rn → Int
  | [] => 0
  | x :: l => cntK pages x.phys b x.len.toNat + cnt pages b l
theorem cnt_app (pages b : Int) : ∀ l m : List Rn, cnt pages b (l ++ m) = cnt pages b l + cnt pages b m
  | [], m => by simp [cnt]
  | x :: l, m => by simp only [List.cons_append, cnt, cnt_app pages b l m]; omega
theorem cnt_le {pages b : Int} : ∀ {l : List Rn}, (∀ x ∈ l, 0 ≤ x.len ∧ x.len ≤ 512) → 0 ≤ cnt pages b l ∧ cnt pages b l ≤ 512 * (l.length : Int)
  | [], _ => by simp [cnt]
  | x :: l, h => by
    have h1 := cntK_le pages x.phys b x.len.toNat
    have h2 := h x (by simp)
    have h3 := cnt_le (pages := pages) (b := b) (l := l) (fun y hy => h y (by simp [hy]))
    simp only [cnt, List.length_cons]
    omega
/-- Each block's valid pages. -/
def valL (pages : Int) (l : List Rn) (n : Nat) : List Int := (List.range n).map (fun b : Nat => cnt pages (b : Int) l)
theorem valL_len (pages : Int) (l : List Rn) (n : Nat) : (valL pages l n).length = n := by simp [valL]
/-- The first k pages of a run, cut where blocks end. -/
def partK (pages lba phys : Int) : Nat → List Rn
  | 0 => []
  | k + 1 => if k = 0 ∨ (phys + (k : Int)) % pages = 0 then partK pages lba phys k ++ [⟨lba + (k : Int), 1, phys + (k : Int)⟩] else grow (partK pages lba phys k)
def parts (pages : Int) (x : Rn) : List Rn := partK pages x.lba x.phys x.len.toNat
/-- Runs, cut where blocks end. -/
def splL (pages : Int) (l : List Rn) : List Rn := l.flatMap (parts pages)
/-- The parts that lie in a block. -/
def movL (pages b : Int) (l : List Rn) : List Rn := (splL pages l).filter (fun x => decide (x.phys / pages = b))
theorem partK_last (pages lba phys : Int) : ∀ k : Nat, 0 < k → ∃ m y, partK pages lba phys k = m ++ [y] ∧ y.lba + y.len = lba + (k : Int) ∧ y.phys + y.len = phys + (k : Int) ∧ 1 ≤ y.len ∧ lba ≤ y.lba
  | 0, h => by omega
  | k + 1, _ => by
    unfold partK
    split
    · exact ⟨_, _, rfl, by simp only; omega, by simp only; omega, by simp only; omega, by simp only; omega⟩
    · next h =>
      obtain ⟨m, y, e, h1, h2, h3, h4⟩ := partK_last pages lba phys k (by omega)
      rw [e, grow_snoc]
      exact ⟨m, _, rfl, by simp only; omega, by simp only; omega, by simp only; omega, h4⟩
theorem partK_len (pages lba phys : Int) : ∀ k : Nat, (partK pages lba phys k).length ≤ k
  | 0 => by simp [partK]
  | k + 1 => by
    have := partK_len pages lba phys k
    unfold partK
    split
    · simp; omega
    · rw [grow_len]; omega
theorem splL_len {pages : Int} : ∀ {l : List Rn}, (∀ x ∈ l, x.len ≤ 512) → (splL pages l).length ≤ 512 * l.length
  | [], _ => by simp [splL]
  | x :: l, h => by
    have h1 := partK_len pages x.lba x.phys x.len.toNat
    have h2 := h x (by simp)
    have h3 := splL_len (pages := pages) (l := l) (fun y hy => h y (by simp [hy]))
    have h4 : (parts pages x).length ≤ 512 := by unfold parts; omega
    unfold splL at *
    rw [List.flatMap_cons, List.length_append, List.length_cons]
    omega
theorem splL_snoc (pages : Int) (l : List Rn) (x : Rn) : splL pages (l ++ [x]) = splL pages l ++ parts pages x := by simp [splL]
theorem splL_sum {pages : Int} : ∀ {l : List Rn} {lo : Int}, Form l → (∀ y ∈ l, lo ≤ y.lba ∧ y.fin ≤ 512) → lo ≤ 512 → ((splL pages l).length : Int) ≤ 512 - lo
  | [], lo, _, _, h => by simp [splL]; omega
  | x :: l, lo, hf, hb, _ => by
    obtain ⟨h1, h2, h3⟩ := Form.cons.1 hf
    have hx := hb x (by simp)
    have ih := splL_sum (pages := pages) (l := l) (lo := x.fin) h3 (fun y hy => ⟨(h2 y hy).1, (hb y (by simp [hy])).2⟩) hx.2
    have h4 := partK_len pages x.lba x.phys x.len.toNat
    have h5 : (parts pages x).length ≤ x.len.toNat := h4
    unfold splL at *
    rw [List.flatMap_cons, List.length_append]
    unfold Rn.Ok at h1
    unfold Rn.fin at *
    omega
theorem splL_512 {pages : Int} {l : List Rn} (h : Ft13 l) : (splL pages l).length ≤ 512 := by
  have := splL_sum (pages := pages) (lo := 0) h.form (fun y hy => ⟨(h.bd hy).1, h.fin y hy⟩) (by omega)
  omega
/-- What Valid asks. -/
def vOk (l : List Rn) (n pages : Int) : Bool := decide (1 ≤ pages ∧ pages ≤ 32) && (fit13 l && (decide (1 ≤ n ∧ n ≤ 64) && inP (n * pages) l))
/-- What Split asks. -/
def sOk (l : List Rn) (pages : Int) : Bool := decide (1 ≤ pages ∧ pages ≤ 32) && (fit13 l && l.all (fun x => decide (x.phys ≤ 1048576)))
end Tg
end Go.Proofs.Ytkddonmddgfpnab
