/-
  Of every flash that calls lead to: the blocks' wear together is how many erases were begun; no condition.
-/
import Derived.Test.YtjafjofonckaaaaFlash
namespace Go.Proofs.Ytjafjofonckaaaa
namespace Nd

theorem Fl.write_wear {b j : Nat} {d : Nat → Int} : ∀ (n q : Nat) (s : Fl), (s.write b j d q n).2.wear = s.wear ∧ (s.write b j d q n).2.erases = s.erases
  | 0, _, _ => ⟨rfl, rfl⟩
  | n + 1, q, s => by
    unfold Fl.write
    split
    · have := Fl.write_wear (b := b) (j := j) (d := d) n (q + 1) (s.step.chunk b j d q)
      have e1 : (s.step.chunk b j d q).wear = s.wear := Fl.step_wear s
      have e2 : (s.step.chunk b j d q).erases = s.erases := Fl.step_erases s
      rw [e1, e2] at this
      exact this
    · simp

theorem Fl.program_wear (s : Fl) (b j : Nat) (d : Nat → Int) : (s.program b j d).2.wear = s.wear ∧ (s.program b j d).2.erases = s.erases := by
  have hw := fun n => Fl.write_wear (b := b) (j := j) (d := d) n 0 s.progOne.failed
  simp only [Fl.failed_wear, Fl.failed_erases] at hw
  unfold Fl.program
  split
  · exact ⟨rfl, rfl⟩
  · split
    · exact ⟨rfl, rfl⟩
    · split
      · exact ⟨rfl, rfl⟩
      · unfold Fl.prog Fl.wrote
        split
        · split
          · exact hw 4
          · exact hw 4
        · split
          · exact hw 17
          · exact hw 17

/-- Was an erase begun? -/
def Fl.begun (s : Fl) (b : Nat) : Bool := s.on && !s.bad b

theorem Fl.erase_wear (s : Fl) (b : Nat) : (s.erase b).2.wear = (if s.begun b then fun x => if x = b then s.wear x + 1 else s.wear x else s.wear) ∧ (s.erase b).2.erases = s.erases + (if s.begun b then 1 else 0) := by
  unfold Fl.erase Fl.begun
  cases e1 : s.on
  · simp
  · cases e2 : s.bad b
    · simp only [Bool.true_eq_false, Bool.false_eq_true, if_false, Bool.not_false, Bool.and_true, if_true]
      unfold Fl.era
      simp only
      split
      · split
        · simp [Fl.setBad, Fl.leave, Fl.begin]
        · split <;> simp [Fl.leave, Fl.begin]
      · simp [Fl.begin]
    · simp

/-- The wear of the first n blocks together. -/
def wsum (f : Nat → Nat) : Nat → Nat
  | 0 => 0
  | n + 1 => wsum f n + f n

theorem wsum_same {f g : Nat → Nat} : ∀ n, (∀ i, i < n → f i = g i) → wsum f n = wsum g n
  | 0, _ => rfl
  | n + 1, h => by unfold wsum; rw [wsum_same n (fun i hi => h i (by omega)), h n (by omega)]

theorem wsum_one (f : Nat → Nat) (b : Nat) : ∀ n, b < n → wsum (fun x => if x = b then f x + 1 else f x) n = wsum f n + 1
  | 0, h => by omega
  | n + 1, h => by
    unfold wsum
    by_cases e : b = n
    · subst e
      rw [wsum_same (g := f) b (fun i hi => by rw [if_neg (by omega)]), if_pos rfl]
      omega
    · rw [wsum_one f b n (by omega), if_neg (by omega)]
      omega

/-- What is true of the wear. -/
def Fl.Worn (s : Fl) : Prop := wsum s.wear s.B = s.erases

theorem Fl.Worn.new (B P : Nat) : (Fl.new B P).Worn := by
  have : ∀ n, wsum (fun _ => 0) n = 0 := fun n => by
    induction n with
    | zero => rfl
    | succ n ih => unfold wsum; rw [ih]
  exact this B
theorem Fl.Worn.program {s : Fl} (h : s.Worn) (b j : Nat) (d : Nat → Int) : (s.program b j d).2.Worn := by
  unfold Fl.Worn
  rw [(Fl.program_wear s b j d).1, (Fl.program_wear s b j d).2, (Fl.program_P s b j d).2]
  exact h
theorem Fl.Worn.erase {s : Fl} (h : s.Worn) {b : Nat} (hb : b < s.B) : (s.erase b).2.Worn := by
  unfold Fl.Worn at h ⊢
  rw [(Fl.erase_wear s b).1, (Fl.erase_wear s b).2, (Fl.erase_P s b).2]
  cases s.begun b
  · exact h
  · show wsum (fun x => if x = b then s.wear x + 1 else s.wear x) s.B = s.erases + 1
    rw [wsum_one _ _ _ hb, h]
theorem Fl.Worn.turnOn {s : Fl} (h : s.Worn) : s.turnOn.Worn := h
theorem Fl.Worn.setCut {s : Fl} (h : s.Worn) (n : Int) : (s.setCut n).Worn := h
theorem Fl.Worn.setFail {s : Fl} (h : s.Worn) (n : Int) : (s.setFail n).Worn := h

/-- What an image of every flash that calls lead to keeps: of a torn block all bytes are 0 and no page has been begun; of another one the pages from its next one on are clean. -/
def Fl.Right (s : Fl) : Prop := ∀ b, b < s.B → (s.torn b = true → s.next b = 0 ∧ ∀ i, i < s.P * 68 → s.cell (b * (s.P * 68) + i) = 0) ∧ (s.torn b = false → ∀ i, s.next b * 68 ≤ i → i < s.P * 68 → s.cell (b * (s.P * 68) + i) = 255)
theorem Fl.Right.new (B P : Nat) : (Fl.new B P).Right := fun b _ => ⟨fun h => by simp [Fl.new] at h, fun _ i _ _ => rfl⟩
theorem Fl.Right.step {s : Fl} (h : s.Right) : s.step.Right := by
  unfold Fl.Right at h ⊢
  simpa using h
theorem Fl.Right.failed {s : Fl} (h : s.Right) : s.failed.Right := by
  unfold Fl.Right at h ⊢
  simpa using h
end Nd
end Go.Proofs.Ytjafjofonckaaaa
