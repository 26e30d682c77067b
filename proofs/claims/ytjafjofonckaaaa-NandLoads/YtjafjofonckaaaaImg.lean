/-
  Images as mathematics: which bytes are an image, that of every flash that calls lead to its image is one, and that two flashes which are alike but for what they count go on alike. No condition but the bounds that each law names.
-/
import Derived.Test.YtjafjofonckaaaaWear
import Derived.Test.YtjafjofonckaaaaPlay
namespace Go.Proofs.Ytjafjofonckaaaa
namespace Nd

/-- Bytes that are an image: of one block, of all. -/
structure Good (B P : Nat) (d : Nat → Int) (b : Nat) : Prop where
  mark : d (B * P * 68 + 2 * b) ≤ 3
  next : d (B * P * 68 + 2 * b + 1) ≤ P
  torn : 2 ≤ d (B * P * 68 + 2 * b) → d (B * P * 68 + 2 * b + 1) = 0
  rest : ∀ i : Nat, d (B * P * 68 + 2 * b + 1) * 68 ≤ i → i < P * 68 → d (b * (P * 68) + i) = if 2 ≤ d (B * P * 68 + 2 * b) then 0 else 255

theorem cell_split {P b c i k : Nat} (hi : i < P) (h : b * P + i = c * P + k) (hk : k < P) : b = c ∧ i = k := by
  have h1 : (b * P + i) / P = b := by rw [Nat.mul_comm, Nat.mul_add_div (by omega), Nat.div_eq_of_lt hi, Nat.add_zero]
  have h2 : (c * P + k) / P = c := by rw [Nat.mul_comm, Nat.mul_add_div (by omega), Nat.div_eq_of_lt hk, Nat.add_zero]
  have : b = c := by rw [← h1, h, h2]
  subst this
  exact ⟨rfl, by omega⟩

theorem page_in {P b j i : Nat} (hj : j < P) (h0 : (b * P + j) * 68 ≤ i) (h1 : i < (b * P + j) * 68 + 68) : ∃ k, i = b * (P * 68) + k ∧ j * 68 ≤ k ∧ k < (j + 1) * 68 ∧ k < P * 68 := by
  have e : (b * P + j) * 68 = b * (P * 68) + j * 68 := by rw [Nat.add_mul, Nat.mul_assoc]
  have : (j + 1) * 68 ≤ P * 68 := Nat.mul_le_mul_right 68 hj
  exact ⟨i - b * (P * 68), by omega, by omega, by omega, by omega⟩

theorem Fl.Right.chunk {s : Fl} (h : s.Right) {b j q : Nat} (hb : b < s.B) (hj : j < s.P) (ht : s.torn b = false) (hn : s.next b = j ∨ s.next b = j + 1) (d : Nat → Int) (hq : q < 17) : (s.chunk b j d q).Right := by
  intro b' hb'
  have hB : (s.chunk b j d q).B = s.B := rfl
  have hP : (s.chunk b j d q).P = s.P := rfl
  rw [hB] at hb'
  rw [hP]
  obtain ⟨h1, h2⟩ := h b' hb'
  have hcell : ∀ i, i < s.P * 68 → (b' ≠ b ∨ (j + 1) * 68 ≤ i) → (s.chunk b j d q).cell (b' * (s.P * 68) + i) = s.cell (b' * (s.P * 68) + i) := by
    intro i hi hne
    simp only [Fl.chunk]
    rw [if_neg]
    rintro ⟨e1, e2⟩
    obtain ⟨k, hk, _, hk2, hk3⟩ := page_in (b := b) (i := b' * (s.P * 68) + i) hj (by omega) (by omega)
    obtain ⟨e3, e4⟩ := cell_split hi hk hk3
    omega
  by_cases e : b' = b
  · subst e
    have et : (s.chunk b' j d q).torn b' = false := ht
    have en : (s.chunk b' j d q).next b' = j + 1 := by simp [Fl.chunk]
    refine ⟨fun e => absurd (et.symm.trans e) (by decide), fun _ i hi0 hi => ?_⟩
    rw [en] at hi0
    rw [hcell i hi (Or.inr hi0)]
    exact h2 ht i (by rcases hn with hn | hn <;> rw [hn] <;> omega) hi
  · have et : (s.chunk b j d q).torn b' = s.torn b' := rfl
    have en : (s.chunk b j d q).next b' = s.next b' := by simp [Fl.chunk, e]
    rw [et, en]
    exact ⟨fun ht' => ⟨(h1 ht').1, fun i hi => by rw [hcell i hi (Or.inl e)]; exact (h1 ht').2 i hi⟩, fun ht' i hi0 hi => by rw [hcell i hi (Or.inl e)]; exact h2 ht' i hi0 hi⟩

theorem Fl.Right.write {b j : Nat} {d : Nat → Int} : ∀ (n q : Nat) (s : Fl), s.Right → b < s.B → j < s.P → s.torn b = false → (s.next b = j ∨ s.next b = j + 1) → q + n ≤ 17 → (s.write b j d q n).2.Right
  | 0, _, _, h, _, _, _, _, _ => h
  | n + 1, q, s, h, hb, hj, ht, hn, hq => by
    unfold Fl.write
    split
    · refine Fl.Right.write n (q + 1) _ (h.step.chunk (by simpa using hb) (by simpa using hj) (by simpa using ht) (by simpa using hn) d (by omega)) (by simpa using hb) (by simpa using hj) ?_ (Or.inr (by simp [Fl.chunk])) (by omega)
      show (s.step).torn b = false
      simpa using ht
    · exact h.step
theorem Fl.Right.setBad {s : Fl} (h : s.Right) (b : Nat) : (s.setBad b).Right := h
theorem Fl.Right.progOne {s : Fl} (h : s.Right) : s.progOne.Right := h
theorem Fl.Right.program {s : Fl} (h : s.Right) {b j : Nat} (hb : b < s.B) (hj : j < s.P) (d : Nat → Int) : (s.program b j d).2.Right := by
  unfold Fl.program
  split
  · exact h
  · split
    · exact h
    · split
      · exact h
      · rename_i ho
        simp at ho
        have hw := fun n (hn : n ≤ 17) => Fl.Right.write (b := b) (j := j) (d := d) n 0 s.progOne.failed h.progOne.failed (by rw [Fl.failed_B]; exact hb) (by rw [Fl.failed_P]; exact hj) (by rw [Fl.failed_torn]; exact ho.1) (Or.inl (by rw [Fl.failed_next]; exact ho.2.symm)) (by omega)
        unfold Fl.prog Fl.wrote
        split
        · split
          · exact (hw 4 (by omega)).setBad b
          · exact hw 4 (by omega)
        · split
          · exact hw 17 (by omega)
          · exact hw 17 (by omega)
theorem Fl.Right.leave {s : Fl} (h : s.Right) (b : Nat) (tn : Bool) : (s.leave b tn).Right := by
  intro b' hb'
  have hB : (s.leave b tn).B = s.B := rfl
  have hP : (s.leave b tn).P = s.P := rfl
  rw [hB] at hb'
  rw [hP]
  obtain ⟨h1, h2⟩ := h b' hb'
  have hin : ∀ i, i < s.P * 68 → (s.leave b tn).cell (b' * (s.P * 68) + i) = if b' = b then (if tn then 0 else 255) else s.cell (b' * (s.P * 68) + i) := by
    intro i hi
    simp only [Fl.leave]
    by_cases e : b' = b
    · subst e
      rw [if_pos rfl, if_pos]
      rw [Nat.add_mul]; omega
    · rw [if_neg e, if_neg]
      rintro ⟨e1, e2⟩
      rw [Nat.add_mul, Nat.one_mul] at e2
      exact e (cell_split hi (show b' * (s.P * 68) + i = b * (s.P * 68) + (b' * (s.P * 68) + i - b * (s.P * 68)) by omega) (by omega)).1
  by_cases e : b' = b
  · subst e
    have et : (s.leave b' tn).torn b' = tn := by simp [Fl.leave]
    have en : (s.leave b' tn).next b' = 0 := by simp [Fl.leave]
    rw [et, en]
    exact ⟨fun ht => ⟨rfl, fun i hi => by rw [hin i hi, if_pos rfl, ht]; rfl⟩, fun ht i _ hi => by rw [hin i hi, if_pos rfl, ht]; rfl⟩
  · have et : (s.leave b tn).torn b' = s.torn b' := by simp [Fl.leave, e]
    have en : (s.leave b tn).next b' = s.next b' := by simp [Fl.leave, e]
    rw [et, en]
    exact ⟨fun ht => ⟨(h1 ht).1, fun i hi => by rw [hin i hi, if_neg e]; exact (h1 ht).2 i hi⟩, fun ht i hi0 hi => by rw [hin i hi, if_neg e]; exact h2 ht i hi0 hi⟩
theorem Fl.Right.begin {s : Fl} (h : s.Right) (b : Nat) : (s.begin b).Right := h
theorem Fl.Right.erase {s : Fl} (h : s.Right) (b : Nat) : (s.erase b).2.Right := by
  unfold Fl.erase
  split
  · exact h
  · split
    · exact h
    · unfold Fl.era
      simp only
      split
      · split
        · exact (((h.begin b).failed.step).leave b true).setBad b
        · split
          · exact ((((h.begin b).failed.step).leave b true).step).leave b false
          · exact (((h.begin b).failed.step).leave b true).step
      · exact ((h.begin b).failed).step
theorem Fl.Right.call0 {s : Fl} (h : s.Right) (n : Int) (m : Nat) (d : Nat → Int) {N : Nat} (ok : s.Ok N) : (s.call0 n m d).2.Right := by
  unfold Fl.call0
  split
  · rename_i hh
    obtain ⟨pg, e, hb, hj, hpg⟩ := page_parts ok.p1 hh.1 hh.2.1
    exact h.program hb hj d
  · exact h
theorem Fl.Right.call1 {s : Fl} (h : s.Right) (n : Int) : (s.call1 n).2.Right := by
  unfold Fl.call1
  split
  · exact h.erase _
  · exact h
theorem Fl.Right.turnOn {s : Fl} (h : s.Right) : s.turnOn.Right := h
theorem Fl.Right.setCut {s : Fl} (h : s.Right) (n : Int) : (s.setCut n).Right := h
theorem Fl.Right.setFail {s : Fl} (h : s.Right) (n : Int) : (s.setFail n).Right := h

/-- What an image tells of one block. -/
theorem Fl.image_mark (s : Fl) (b : Nat) : s.image (s.B * s.P * 68 + 2 * b) = s.mark b ∧ s.image (s.B * s.P * 68 + 2 * b + 1) = s.next b := by
  unfold Fl.image
  constructor
  · rw [if_neg (by omega), if_pos (by omega), show (s.B * s.P * 68 + 2 * b - s.B * s.P * 68) / 2 = b by omega]
  · rw [if_neg (by omega), if_neg (by omega), show (s.B * s.P * 68 + 2 * b + 1 - s.B * s.P * 68) / 2 = b by omega]
theorem Fl.image_cell (s : Fl) {b i : Nat} (hb : b < s.B) (hi : i < s.P * 68) : b * (s.P * 68) + i < s.B * s.P * 68 ∧ s.image (b * (s.P * 68) + i) = s.cell (b * (s.P * 68) + i) := by
  have h1 : (b + 1) * (s.P * 68) ≤ s.B * (s.P * 68) := Nat.mul_le_mul_right _ hb
  have h2 : s.B * (s.P * 68) = s.B * s.P * 68 := by rw [Nat.mul_assoc]
  have h3 : b * (s.P * 68) + i < s.B * s.P * 68 := by rw [Nat.add_mul] at h1; omega
  exact ⟨h3, by unfold Fl.image; rw [if_pos h3]⟩
theorem Fl.mark_torn (s : Fl) (b : Nat) : (2 ≤ s.mark b) ↔ s.torn b = true := by unfold Fl.mark; cases s.bad b <;> cases s.torn b <;> decide
theorem Fl.Right.good {s : Fl} (h : s.Right) {N : Nat} (ok : s.Ok N) {b : Nat} (hb : b < s.B) : Good s.B s.P s.image b := by
  obtain ⟨e1, e2⟩ := s.image_mark b
  obtain ⟨h1, h2⟩ := h b hb
  have hn := ok.next b
  refine ⟨?_, ?_, fun ht => ?_, fun i hi0 hi => ?_⟩
  · rw [e1]; unfold Fl.mark; cases s.bad b <;> cases s.torn b <;> decide
  · rw [e2]; omega
  · rw [e1, s.mark_torn] at ht
    rw [e2, (h1 ht).1]; rfl
  · rw [(s.image_cell hb hi).2, e1]
    rw [e2] at hi0
    cases ht : s.torn b
    · rw [if_neg (by rw [s.mark_torn, ht]; decide)]
      exact h2 ht i (by omega) hi
    · rw [if_pos ((s.mark_torn b).2 ht)]
      exact (h1 ht).2 i hi

/-- Two flashes that are alike but for what they count. -/
structure Sim (s t : Fl) : Prop where
  B : s.B = t.B
  P : s.P = t.P
  cell : s.cell = t.cell
  bad : s.bad = t.bad
  torn : s.torn = t.torn
  next : s.next = t.next
  on : s.on = t.on
  cut : s.cut = t.cut
  fail : s.fail = t.fail
theorem Sim.stepOk {s t : Fl} (h : Sim s t) : s.stepOk = t.stepOk := by unfold Fl.stepOk; rw [h.cut]
theorem Sim.failB {s t : Fl} (h : Sim s t) : s.failB = t.failB := by unfold Fl.failB; rw [h.fail]
theorem Sim.step {s t : Fl} (h : Sim s t) : Sim s.step t.step := by
  unfold Fl.step
  rw [h.cut]
  split
  · exact h
  · split
    · exact ⟨h.B, h.P, h.cell, h.bad, h.torn, h.next, rfl, rfl, h.fail⟩
    · exact ⟨h.B, h.P, h.cell, h.bad, h.torn, h.next, h.on, rfl, h.fail⟩
theorem Sim.failed {s t : Fl} (h : Sim s t) : Sim s.failed t.failed := by
  unfold Fl.failed
  rw [h.fail]
  split
  · exact h
  · exact ⟨h.B, h.P, h.cell, h.bad, h.torn, h.next, h.on, h.cut, rfl⟩
theorem Sim.chunk {s t : Fl} (h : Sim s t) (b j : Nat) (d : Nat → Int) (q : Nat) : Sim (s.chunk b j d q) (t.chunk b j d q) := by
  unfold Fl.chunk
  rw [h.P, h.cell, h.next]
  exact ⟨h.B, rfl, rfl, h.bad, h.torn, rfl, h.on, h.cut, h.fail⟩
theorem Sim.write {b j : Nat} {d : Nat → Int} : ∀ (n q : Nat) (s t : Fl), Sim s t → (s.write b j d q n).1 = (t.write b j d q n).1 ∧ Sim (s.write b j d q n).2 (t.write b j d q n).2
  | 0, _, _, _, h => ⟨rfl, h⟩
  | n + 1, q, s, t, h => by
    unfold Fl.write
    rw [h.stepOk]
    split
    · exact Sim.write n (q + 1) _ _ (h.step.chunk b j d q)
    · exact ⟨rfl, h.step⟩
theorem Sim.setBad {s t : Fl} (h : Sim s t) (b : Nat) : Sim (s.setBad b) (t.setBad b) := by
  unfold Fl.setBad
  rw [h.bad]
  exact ⟨h.B, h.P, h.cell, rfl, h.torn, h.next, h.on, h.cut, h.fail⟩
theorem Sim.progOne {s t : Fl} (h : Sim s t) : Sim s.progOne t.progOne := ⟨h.B, h.P, h.cell, h.bad, h.torn, h.next, h.on, h.cut, h.fail⟩
theorem Sim.prog {s t : Fl} (h : Sim s t) (b j : Nat) (d : Nat → Int) : (s.prog b j d).1 = (t.prog b j d).1 ∧ Sim (s.prog b j d).2 (t.prog b j d).2 := by
  have hw := fun n => Sim.write (b := b) (j := j) (d := d) n 0 _ _ h.progOne.failed
  unfold Fl.prog Fl.wrote
  rw [h.failB]
  split
  · rw [(hw 4).1]
    split
    · exact ⟨rfl, (hw 4).2.setBad b⟩
    · exact ⟨rfl, (hw 4).2⟩
  · rw [(hw 17).1]
    split
    · exact ⟨rfl, (hw 17).2⟩
    · exact ⟨rfl, (hw 17).2⟩
theorem Sim.program {s t : Fl} (h : Sim s t) (b j : Nat) (d : Nat → Int) : (s.program b j d).1 = (t.program b j d).1 ∧ Sim (s.program b j d).2 (t.program b j d).2 := by
  unfold Fl.program
  rw [h.on, h.bad, h.torn, h.next]
  split
  · exact ⟨rfl, h⟩
  · split
    · exact ⟨rfl, h⟩
    · split
      · exact ⟨rfl, h⟩
      · exact h.prog b j d
theorem Sim.leave {s t : Fl} (h : Sim s t) (b : Nat) (tn : Bool) : Sim (s.leave b tn) (t.leave b tn) := by
  unfold Fl.leave
  rw [h.P, h.cell, h.torn, h.next]
  exact ⟨h.B, rfl, rfl, h.bad, rfl, rfl, h.on, h.cut, h.fail⟩
theorem Sim.begin {s t : Fl} (h : Sim s t) (b : Nat) : Sim (s.begin b) (t.begin b) := ⟨h.B, h.P, h.cell, h.bad, h.torn, h.next, h.on, h.cut, h.fail⟩
theorem Sim.erase {s t : Fl} (h : Sim s t) (b : Nat) : (s.erase b).1 = (t.erase b).1 ∧ Sim (s.erase b).2 (t.erase b).2 := by
  unfold Fl.erase
  rw [h.on, h.bad]
  split
  · exact ⟨rfl, h⟩
  · split
    · exact ⟨rfl, h⟩
    · have hb := h.begin b
      have hv := hb.failed.step.leave b true
      unfold Fl.era
      simp only
      rw [hb.failed.stepOk, hb.failB, hv.stepOk]
      split
      · split
        · exact ⟨rfl, hv.setBad b⟩
        · split
          · exact ⟨rfl, hv.step.leave b false⟩
          · exact ⟨rfl, hv.step⟩
      · exact ⟨rfl, hb.failed.step⟩
theorem Sim.call0 {s t : Fl} (h : Sim s t) (n : Int) (m : Nat) (d : Nat → Int) : (s.call0 n m d).1 = (t.call0 n m d).1 ∧ Sim (s.call0 n m d).2 (t.call0 n m d).2 := by
  unfold Fl.call0
  rw [h.B, h.P]
  split
  · exact h.program _ _ d
  · exact ⟨rfl, h⟩
theorem Sim.call1 {s t : Fl} (h : Sim s t) (n : Int) : (s.call1 n).1 = (t.call1 n).1 ∧ Sim (s.call1 n).2 (t.call1 n).2 := by
  unfold Fl.call1
  rw [h.B]
  split
  · exact h.erase _
  · exact ⟨rfl, h⟩
theorem Sim.image {s t : Fl} (h : Sim s t) : s.image = t.image ∧ s.size = t.size := by
  constructor
  · funext i
    unfold Fl.image Fl.mark
    rw [h.B, h.P, h.cell, h.bad, h.torn, h.next]
  · unfold Fl.size; rw [h.B, h.P]
/-- A flash that has counted nothing. -/
def Fl.fresh (s : Fl) : Fl := { s with wear := fun _ => 0, reads := 0, progs := 0, erases := 0 }
theorem Sim.fresh (s : Fl) : Sim s s.fresh := ⟨rfl, rfl, rfl, rfl, rfl, rfl, rfl, rfl, rfl⟩
theorem Fl.Ok.fresh {s : Fl} {N : Nat} (h : s.Ok N) : s.fresh.Ok 0 := ⟨h.b1, h.b2, h.p1, h.p2, h.cell, h.next, h.cut, h.fail, Nat.le_refl _, Nat.le_refl _, Nat.le_refl _, fun _ => Nat.le_refl _⟩

/-- The flash that an image makes. -/
def Fl.load (B P : Nat) (d : Nat → Int) : Fl := { Fl.new B P with cell := d, bad := fun b => d (B * P * 68 + 2 * b) % 2 == 1, torn := fun b => decide (2 ≤ d (B * P * 68 + 2 * b)), next := fun b => (d (B * P * 68 + 2 * b + 1)).toNat }
theorem Fl.load_image {B P : Nat} {d : Nat → Int} (hd : ∀ i, 0 ≤ d i ∧ d i ≤ 255) (h : ∀ b, b < B → Good B P d b) : ∀ i, i < B * P * 68 + 2 * B → (Fl.load B P d).image i = d i := by
  intro i hi
  unfold Fl.image
  show (if i < B * P * 68 then d i else if (i - B * P * 68) % 2 = 0 then (Fl.load B P d).mark ((i - B * P * 68) / 2) else ((d (B * P * 68 + 2 * ((i - B * P * 68) / 2) + 1)).toNat : Int)) = d i
  by_cases h1 : i < B * P * 68
  · rw [if_pos h1]
  · rw [if_neg h1]
    obtain ⟨b, hb, hcase⟩ : ∃ b, b < B ∧ (i = B * P * 68 + 2 * b ∨ i = B * P * 68 + 2 * b + 1) := ⟨(i - B * P * 68) / 2, by omega, by omega⟩
    have hg := h b hb
    rcases hcase with rfl | rfl
    · rw [if_pos (by omega), show (B * P * 68 + 2 * b - B * P * 68) / 2 = b by omega]
      have hm := hg.mark
      have h0 := (hd (B * P * 68 + 2 * b)).1
      show (if (d (B * P * 68 + 2 * b) % 2 == 1) = true then (1 : Int) else 0) + (if decide (2 ≤ d (B * P * 68 + 2 * b)) = true then (2 : Int) else 0) = d (B * P * 68 + 2 * b)
      generalize d (B * P * 68 + 2 * b) = m at *
      have : m = 0 ∨ m = 1 ∨ m = 2 ∨ m = 3 := by omega
      rcases this with rfl | rfl | rfl | rfl <;> rfl
    · rw [if_neg (by omega), show (B * P * 68 + 2 * b + 1 - B * P * 68) / 2 = b by omega]
      have h0 := (hd (B * P * 68 + 2 * b + 1)).1
      omega
end Nd
end Go.Proofs.Ytjafjofonckaaaa
