/-
  Balanced ordered trees as mathematics: rotations, insertion, deletion; what each leaves in order, and that the rule holds.
-/
namespace Go.Proofs.Ytbdankhlbepjoaa
namespace Tg

/-- A run. -/
structure Rn where
  lba : Int
  len : Int
  phys : Int

/-- A tree: each node has its number and its run. -/
inductive Tr where
  | nil : Tr
  | node (i : Nat) (l : Tr) (x : Rn) (r : Tr) : Tr

namespace Tr
def h : Tr → Nat
  | nil => 0
  | node _ l _ r => max l.h r.h + 1
/-- In order: the nodes with their runs. -/
def seq : Tr → List (Nat × Rn)
  | nil => []
  | node i l x r => l.seq ++ (i, x) :: r.seq
/-- The rule. -/
def Bal : Tr → Prop
  | nil => True
  | node _ l _ r => l.Bal ∧ r.Bal ∧ l.h ≤ r.h + 1 ∧ r.h ≤ l.h + 1
/-- Rising by Lba. -/
def Ord (t : Tr) : Prop := t.seq.Pairwise (fun a b => a.2.lba < b.2.lba)

def rotR : Tr → Tr
  | node i (node j a x b) y c => node j a x (node i b y c)
  | t => t
def rotL : Tr → Tr
  | node i a x (node j b y c) => node j (node i a x b) y c
  | t => t
theorem rotR_seq (t : Tr) : t.rotR.seq = t.seq := by
  unfold rotR
  split
  · simp [seq]
  · rfl
theorem rotL_seq (t : Tr) : t.rotL.seq = t.seq := by
  unfold rotL
  split
  · simp [seq]
  · rfl

/-- Is the right branch higher than the left one, the left one than the right one? -/
def rightHigh : Tr → Bool
  | nil => false
  | node _ l _ r => l.h < r.h
def leftHigh : Tr → Bool
  | nil => false
  | node _ l _ r => r.h < l.h

/-- A node is brought back to the rule. -/
def fix : Tr → Tr
  | nil => nil
  | node i l x r => if r.h + 1 < l.h then (node i (if l.rightHigh then l.rotL else l) x r).rotR else if l.h + 1 < r.h then (node i l x (if r.leftHigh then r.rotR else r)).rotL else node i l x r

theorem fix_seq (t : Tr) : t.fix.seq = t.seq := by
  cases t with
  | nil => rfl
  | node i l x r =>
    rw [fix]
    split
    · rw [rotR_seq]
      simp only [seq]
      split
      · rw [rotL_seq]
      · rfl
    · split
      · rw [rotL_seq]
        simp only [seq]
        split
        · rw [rotR_seq]
        · rfl
      · rfl

theorem fix_bal {i : Nat} {l : Tr} {x : Rn} {r : Tr} (hl : l.Bal) (hr : r.Bal) (h1 : l.h ≤ r.h + 2) (h2 : r.h ≤ l.h + 2) :
    (node i l x r).fix.Bal ∧ max l.h r.h ≤ (node i l x r).fix.h ∧ (node i l x r).fix.h ≤ max l.h r.h + 1 ∧ (l.h ≤ r.h + 1 → r.h ≤ l.h + 1 → (node i l x r).fix.h = max l.h r.h + 1) := by
  rw [fix]
  by_cases e1 : r.h + 1 < l.h
  · rw [if_pos e1]
    cases l with
    | nil => simp [h] at e1
    | node j a y b =>
      simp only [Bal] at hl
      simp only [h] at h1 h2 e1
      by_cases e2 : a.h < b.h
      · have : (node j a y b).rightHigh = true := by simp [rightHigh, e2]
        rw [if_pos this]
        cases b with
        | nil => simp [h] at e2
        | node k b1 z b2 =>
          simp only [Bal, h] at hl e2 h1 h2 e1
          simp only [rotL, rotR, Bal, h]
          refine ⟨⟨⟨hl.1, hl.2.1.1, by omega, by omega⟩, ⟨hl.2.1.2.1, hr, by omega, by omega⟩, by omega, by omega⟩, by omega, by omega, by omega⟩
      · have : (node j a y b).rightHigh = false := by simp [rightHigh]; omega
        rw [if_neg (by rw [this]; decide)]
        simp only [rotR, Bal, h]
        refine ⟨⟨hl.1, ⟨hl.2.1, hr, by omega, by omega⟩, by omega, by omega⟩, by omega, by omega, by omega⟩
  · rw [if_neg e1]
    by_cases e3 : l.h + 1 < r.h
    · rw [if_pos e3]
      cases r with
      | nil => simp [h] at e3
      | node j a y b =>
        simp only [Bal] at hr
        simp only [h] at h1 h2 e1 e3
        by_cases e2 : b.h < a.h
        · have : (node j a y b).leftHigh = true := by simp [leftHigh, e2]
          rw [if_pos this]
          cases a with
          | nil => simp [h] at e2
          | node k a1 z a2 =>
            simp only [Bal, h] at hr e2 h1 h2 e1 e3
            simp only [rotL, rotR, Bal, h]
            refine ⟨⟨⟨hl, hr.1.1, by omega, by omega⟩, ⟨hr.1.2.1, hr.2.1, by omega, by omega⟩, by omega, by omega⟩, by omega, by omega, by omega⟩
        · have : (node j a y b).leftHigh = false := by simp [leftHigh]; omega
          rw [if_neg (by rw [this]; decide)]
          simp only [rotL, Bal, h]
          refine ⟨⟨⟨hl, hr.1, by omega, by omega⟩, hr.2.1, by omega, by omega⟩, by omega, by omega, by omega⟩
    · rw [if_neg e3]
      simp only [Bal, h]
      exact ⟨⟨hl, hr, by omega, by omega⟩, by omega, by omega, by simp⟩

/-- One more node. -/
def ins (n : Nat) (v : Rn) : Tr → Tr
  | nil => node n nil v nil
  | node i l x r => if v.lba < x.lba then fix (node i (ins n v l) x r) else fix (node i l x (ins n v r))

theorem ins_bal (n : Nat) (v : Rn) : ∀ t : Tr, t.Bal → (t.ins n v).Bal ∧ t.h ≤ (t.ins n v).h ∧ (t.ins n v).h ≤ t.h + 1
  | nil, _ => by simp [ins, Bal, h]
  | node i l x r, hb => by
    simp only [Bal] at hb
    rw [ins]
    split
    · obtain ⟨k1, k2, k3⟩ := ins_bal n v l hb.1
      have := fix_bal (i := i) (x := x) k1 hb.2.1 (by omega) (by omega)
      refine ⟨this.1, ?_, ?_⟩
      · simp only [h]
        by_cases e : (ins n v l).h ≤ r.h + 1
        · have := this.2.2.2 e (by omega); omega
        · have := this.2.1; omega
      · simp only [h]
        by_cases e : (ins n v l).h ≤ r.h + 1
        · have := this.2.2.2 e (by omega); omega
        · have := this.2.2.1; omega
    · obtain ⟨k1, k2, k3⟩ := ins_bal n v r hb.2.1
      have := fix_bal (i := i) (x := x) hb.1 k1 (by omega) (by omega)
      refine ⟨this.1, ?_, ?_⟩
      · simp only [h]
        by_cases e : (ins n v r).h ≤ l.h + 1
        · have := this.2.2.2 (by omega) e; omega
        · have := this.2.1; omega
      · simp only [h]
        by_cases e : (ins n v r).h ≤ l.h + 1
        · have := this.2.2.2 (by omega) e; omega
        · have := this.2.2.1; omega

/-- A row of nodes with one more, ahead of the first that is not less. -/
def putL (n : Nat) (v : Rn) : List (Nat × Rn) → List (Nat × Rn)
  | [] => [(n, v)]
  | y :: r => if v.lba < y.2.lba then (n, v) :: y :: r else y :: putL n v r

theorem putL_left {n : Nat} {v : Rn} {y : Nat × Rn} (hy : v.lba < y.2.lba) : ∀ (a b : List (Nat × Rn)), putL n v (a ++ y :: b) = putL n v a ++ y :: b
  | [], b => by simp [putL, hy]
  | z :: a, b => by
    simp only [List.cons_append, putL]
    split
    · rfl
    · rw [putL_left hy a b]; rfl
theorem putL_right {n : Nat} {v : Rn} {y : Nat × Rn} (hy : ¬ v.lba < y.2.lba) : ∀ (a b : List (Nat × Rn)), (∀ z ∈ a, z.2.lba < y.2.lba) → putL n v (a ++ y :: b) = a ++ y :: putL n v b
  | [], b, _ => by simp [putL, hy]
  | z :: a, b, hz => by
    have := hz z (by simp)
    simp only [List.cons_append, putL, if_neg (show ¬ v.lba < z.2.lba by omega)]
    rw [putL_right hy a b (fun q hq => hz q (by simp [hq]))]

theorem ins_seq (n : Nat) (v : Rn) : ∀ t : Tr, t.Ord → (t.ins n v).seq = putL n v t.seq
  | nil, _ => rfl
  | node i l x r, ho => by
    have ho' := List.pairwise_append.1 (show (l.seq ++ (i, x) :: r.seq).Pairwise _ from ho)
    rw [ins]
    split
    · next e =>
      rw [fix_seq]
      simp only [seq]
      rw [ins_seq n v l ho'.1, putL_left (y := (i, x)) e]
    · next e =>
      rw [fix_seq]
      simp only [seq]
      rw [ins_seq n v r (List.pairwise_cons.1 ho'.2.1).2, putL_right (y := (i, x)) e _ _ (fun z hz => ho'.2.2 z hz (i, x) (by simp))]

/-- The first node in order, and the tree without it. -/
def pop : Tr → Tr → Nat × Rn × Tr
  | nil, d => (0, ⟨0, 0, 0⟩, d)
  | node i nil x r, _ => (i, x, r)
  | node i (node j a y b) x r, _ => let p := pop (node j a y b) nil; (p.1, p.2.1, fix (node i p.2.2 x r))
theorem pop_seq : ∀ (i : Nat) (l : Tr) (x : Rn) (r d : Tr), (node i l x r).seq = ((pop (node i l x r) d).1, (pop (node i l x r) d).2.1) :: (pop (node i l x r) d).2.2.seq
  | i, nil, x, r, d => by simp [pop, seq]
  | i, node j a y b, x, r, d => by
    have := pop_seq j a y b nil
    simp only [pop, fix_seq]
    rw [seq, this]
    simp [seq]
theorem pop_bal : ∀ (i : Nat) (l : Tr) (x : Rn) (r d : Tr), (node i l x r).Bal → (pop (node i l x r) d).2.2.Bal ∧ (node i l x r).h ≤ (pop (node i l x r) d).2.2.h + 1 ∧ (pop (node i l x r) d).2.2.h ≤ (node i l x r).h
  | i, nil, x, r, d, hb => by
    simp only [Bal] at hb
    simp only [pop, h] at *
    refine ⟨hb.2.1, by omega, by omega⟩
  | i, node j a y b, x, r, d, hb => by
    rw [Bal] at hb
    obtain ⟨k1, k2, k3⟩ := pop_bal j a y b nil hb.1
    simp only [pop]
    have := fix_bal (i := i) (x := x) k1 hb.2.1 (by omega) (by omega)
    refine ⟨this.1, ?_, ?_⟩
    · rw [h]
      by_cases e : r.h ≤ (pop (node j a y b) nil).2.2.h + 1
      · have := this.2.2.2 (by omega) e; omega
      · have := this.2.1; omega
    · rw [h]
      by_cases e : r.h ≤ (pop (node j a y b) nil).2.2.h + 1
      · have := this.2.2.2 (by omega) e; omega
      · have := this.2.2.1; omega

/-- The least number of nodes of a tree of a height. -/
def least : Nat → Nat
  | 0 => 0
  | 1 => 1
  | n + 2 => least (n + 1) + least n + 1
theorem least_mono : ∀ n, least n ≤ least (n + 1)
  | 0 => by decide
  | n + 1 => by show least (n + 1) ≤ least (n + 1) + least n + 1; omega
theorem least_le {t : Tr} : t.Bal → least t.h ≤ t.seq.length := by
  induction t with
  | nil => intro _; simp [h, least]
  | node i l x r il ir =>
    intro hb
    simp only [Bal] at hb
    have k1 := il hb.1
    have k2 := ir hb.2.1
    simp only [h, seq, List.length_append, List.length_cons]
    rcases Nat.le_total l.h r.h with e | e
    · rw [Nat.max_eq_right e]
      cases hr : r.h with
      | zero => simp [least]; omega
      | succ m =>
        rw [hr] at k2 e
        show least (m + 1) + least m + 1 ≤ _
        have : least m ≤ least l.h := by
          have : l.h = m ∨ l.h = m + 1 := by omega
          rcases this with q | q <;> rw [q]
          · exact Nat.le_refl _
          · exact least_mono m
        omega
    · rw [Nat.max_eq_left e]
      cases hl : l.h with
      | zero => simp [least]; omega
      | succ m =>
        rw [hl] at k1 e
        show least (m + 1) + least m + 1 ≤ _
        have : least m ≤ least r.h := by
          have : r.h = m ∨ r.h = m + 1 := by omega
          rcases this with q | q <;> rw [q]
          · exact Nat.le_refl _
          · exact least_mono m
        omega
/-- The last node in order, and the tree without it. -/
def popR : Tr → Tr → Nat × Rn × Tr
  | nil, d => (0, ⟨0, 0, 0⟩, d)
  | node i l x nil, _ => (i, x, l)
  | node i l x (node j a y b), _ => let p := popR (node j a y b) nil; (p.1, p.2.1, fix (node i l x p.2.2))
theorem popR_seq : ∀ (i : Nat) (l : Tr) (x : Rn) (r d : Tr), (node i l x r).seq = (popR (node i l x r) d).2.2.seq ++ [((popR (node i l x r) d).1, (popR (node i l x r) d).2.1)]
  | i, l, x, nil, d => by simp [popR, seq]
  | i, l, x, node j a y b, d => by
    have := popR_seq j a y b nil
    simp only [popR, fix_seq]
    rw [seq, this]
    simp [seq]
theorem popR_bal : ∀ (i : Nat) (l : Tr) (x : Rn) (r d : Tr), (node i l x r).Bal → (popR (node i l x r) d).2.2.Bal ∧ (node i l x r).h ≤ (popR (node i l x r) d).2.2.h + 1 ∧ (popR (node i l x r) d).2.2.h ≤ (node i l x r).h
  | i, l, x, nil, d, hb => by
    simp only [Bal] at hb
    simp only [popR, h] at *
    refine ⟨hb.1, by omega, by omega⟩
  | i, l, x, node j a y b, d, hb => by
    rw [Bal] at hb
    obtain ⟨k1, k2, k3⟩ := popR_bal j a y b nil hb.2.1
    simp only [popR]
    have := fix_bal (i := i) (x := x) hb.1 k1 (by omega) (by omega)
    refine ⟨this.1, ?_, ?_⟩
    · rw [h]
      by_cases e : l.h ≤ (popR (node j a y b) nil).2.2.h + 1
      · have := this.2.2.2 e (by omega); omega
      · have := this.2.1; omega
    · rw [h]
      by_cases e : l.h ≤ (popR (node j a y b) nil).2.2.h + 1
      · have := this.2.2.2 e (by omega); omega
      · have := this.2.2.1; omega

/-- The run with that Lba; the greatest that is at most lba; the least that is at least lba. -/
def find (k : Int) : Tr → Option Rn
  | nil => none
  | node _ l x r => if k < x.lba then find k l else if x.lba < k then find k r else some x
def floor (k : Int) : Tr → Option Rn → Option Rn
  | nil, d => d
  | node _ l x r, d => if k < x.lba then floor k l d else floor k r (some x)
def ceil (k : Int) : Tr → Option Rn → Option Rn
  | nil, d => d
  | node _ l x r, d => if x.lba < k then ceil k r d else ceil k l (some x)
def runs (t : Tr) : List Rn := t.seq.map (·.2)
theorem runs_node (i : Nat) (l : Tr) (x : Rn) (r : Tr) : (node i l x r).runs = l.runs ++ x :: r.runs := by simp [runs, seq]
/-- The last of a row that is at most k, the first that is at least k. -/
def floorL (k : Int) : List Rn → Option Rn → Option Rn
  | [], d => d
  | y :: m, d => floorL k m (if y.lba ≤ k then some y else d)
def ceilL (k : Int) : List Rn → Option Rn → Option Rn
  | [], d => d
  | y :: m, d => if k ≤ y.lba then some y else ceilL k m d
theorem floorL_high {k : Int} : ∀ (m : List Rn) (d : Option Rn), (∀ y ∈ m, k < y.lba) → floorL k m d = d
  | [], _, _ => rfl
  | y :: m, d, hm => by
    have := hm y (by simp)
    rw [floorL, if_neg (by omega)]
    exact floorL_high m d (fun z hz => hm z (by simp [hz]))
theorem floorL_app {k : Int} : ∀ (a b : List Rn) (d : Option Rn), floorL k (a ++ b) d = floorL k b (floorL k a d)
  | [], _, _ => rfl
  | y :: a, b, d => by simp only [List.cons_append, floorL]; exact floorL_app a b _
theorem ceilL_low {k : Int} : ∀ (a b : List Rn) (d : Option Rn), (∀ y ∈ a, y.lba < k) → ceilL k (a ++ b) d = ceilL k b d
  | [], _, _, _ => rfl
  | y :: a, b, d, ha => by
    have := ha y (by simp)
    simp only [List.cons_append, ceilL]
    rw [if_neg (by omega)]
    exact ceilL_low a b d (fun z hz => ha z (by simp [hz]))
theorem ceilL_app {k : Int} : ∀ (a b : List Rn) (d : Option Rn), ceilL k (a ++ b) d = ceilL k a (ceilL k b d)
  | [], _, _ => rfl
  | y :: a, b, d => by
    simp only [List.cons_append, ceilL]
    split
    · rfl
    · exact ceilL_app a b d
/-- Rising by Lba, told of the runs alone. -/
def Up (m : List Rn) : Prop := m.Pairwise (fun a b => a.lba < b.lba)
theorem ord_up {t : Tr} : t.Ord ↔ Up t.runs := by unfold Ord Up runs; rw [List.pairwise_map]
theorem up_parts {a b : List Rn} {x : Rn} (hu : Up (a ++ x :: b)) : Up a ∧ Up b ∧ (∀ y ∈ a, y.lba < x.lba) ∧ (∀ y ∈ b, x.lba < y.lba) := by
  have h1 := List.pairwise_append.1 hu
  have h2 := List.pairwise_cons.1 h1.2.1
  exact ⟨h1.1, h2.2, fun y hy => h1.2.2 y hy x (by simp), h2.1⟩
theorem floor_eq (k : Int) : ∀ (t : Tr) (d : Option Rn), Up t.runs → t.floor k d = floorL k t.runs d
  | nil, _, _ => rfl
  | node i l x r, d, hu => by
    rw [runs_node] at hu ⊢
    obtain ⟨u1, u2, u3, u4⟩ := up_parts hu
    rw [floor, floorL_app, floorL]
    split
    · next e =>
      rw [if_neg (by omega), floorL_high _ _ (fun y hy => by have := u4 y hy; omega), floor_eq k l d u1]
    · next e => rw [if_pos (by omega), floor_eq k r _ u2]
theorem ceil_eq (k : Int) : ∀ (t : Tr) (d : Option Rn), Up t.runs → t.ceil k d = ceilL k t.runs d
  | nil, _, _ => rfl
  | node i l x r, d, hu => by
    rw [runs_node] at hu ⊢
    obtain ⟨u1, u2, u3, u4⟩ := up_parts hu
    rw [ceil]
    split
    · next e =>
      rw [ceilL_low _ _ _ (fun y hy => by have := u3 y hy; omega), ceilL, if_neg (by omega), ceil_eq k r d u2]
    · next e =>
      rw [ceilL_app, ceilL, if_pos (by omega), ceil_eq k l _ u1]
def findL (k : Int) : List Rn → Option Rn
  | [] => none
  | y :: m => if y.lba = k then some y else findL k m
theorem findL_none {k : Int} : ∀ (a b : List Rn), (∀ y ∈ a, y.lba ≠ k) → findL k (a ++ b) = findL k b
  | [], _, _ => rfl
  | y :: a, b, ha => by
    simp only [List.cons_append, findL]
    rw [if_neg (ha y (by simp))]
    exact findL_none a b (fun z hz => ha z (by simp [hz]))
theorem findL_left {k : Int} : ∀ (a b : List Rn), (∀ y ∈ b, y.lba ≠ k) → findL k (a ++ b) = findL k a
  | [], b, hb => by
    have := findL_none b [] hb
    simpa [findL] using this
  | y :: a, b, hb => by
    simp only [List.cons_append, findL]
    split
    · rfl
    · exact findL_left a b hb
theorem find_eq (k : Int) : ∀ (t : Tr), Up t.runs → t.find k = findL k t.runs
  | nil, _ => rfl
  | node i l x r, hu => by
    rw [runs_node] at hu ⊢
    obtain ⟨u1, u2, u3, u4⟩ := up_parts hu
    rw [find]
    split
    · next e =>
      rw [findL_left _ _ (fun y hy => by rcases List.mem_cons.1 hy with rfl | hy; (omega); (have := u4 y hy; omega)), find_eq k l u1]
    · next e =>
      split
      · next e2 => rw [findL_none _ _ (fun y hy => by have := u3 y hy; omega), findL, if_neg (by omega), find_eq k r u2]
      · next e2 => rw [findL_none _ _ (fun y hy => by have := u3 y hy; omega), findL, if_pos (by omega)]
end Tr
end Tg
end Go.Proofs.Ytbdankhlbepjoaa
