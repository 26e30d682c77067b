/-
  A flash as plain mathematics: what it is, what each call makes of it and answers; no condition, it imports nothing of the program.
-/
namespace Go.Proofs.Ytjafjofonckaaaa
namespace Nd

/-- A flash of B blocks of P pages: its bytes, what each block is, the power, what is set, what was done. -/
structure Fl where
  B : Nat
  P : Nat
  cell : Nat → Int
  bad : Nat → Bool
  torn : Nat → Bool
  next : Nat → Nat
  wear : Nat → Nat
  on : Bool
  cut : Int
  fail : Int
  reads : Nat
  progs : Nat
  erases : Nat

def Fl.new (B P : Nat) : Fl := ⟨B, P, fun _ => 255, fun _ => false, fun _ => false, fun _ => 0, fun _ => 0, true, -1, -1, 0, 0, 0⟩

/-- May one more step be done? -/
def Fl.stepOk (s : Fl) : Bool := !(s.cut == 0)
def Fl.step (s : Fl) : Fl := if s.cut = -1 then s else if s.cut = 0 then { s with cut := -1, on := false } else { s with cut := s.cut - 1 }

/-- Does the operation that is begun fail? -/
def Fl.failB (s : Fl) : Bool := s.fail == 0
def Fl.failed (s : Fl) : Fl := if s.fail = -1 then s else { s with fail := s.fail - 1 }

/-- One chunk of a page is written: chunk q of page j of block b. -/
def Fl.chunk (s : Fl) (b j : Nat) (d : Nat → Int) (q : Nat) : Fl :=
  { s with cell := fun i => if (b * s.P + j) * 68 + 4 * q ≤ i ∧ i < (b * s.P + j) * 68 + 4 * q + 4 then d (i - (b * s.P + j) * 68) else s.cell i,
           next := fun x => if x = b then j + 1 else s.next x }

/-- n chunks from chunk q on; whether all were written, and the flash behind it. -/
def Fl.write (s : Fl) (b j : Nat) (d : Nat → Int) (q : Nat) : Nat → Bool × Fl
  | 0 => (true, s)
  | n + 1 => if s.stepOk then Fl.write (s.step.chunk b j d q) b j d (q + 1) n else (false, s.step)

def Fl.setBad (s : Fl) (b : Nat) : Fl := { s with bad := fun x => if x = b then true else s.bad x }

def Fl.progOne (s : Fl) : Fl := { s with progs := s.progs + 1 }
def Fl.wrote (r : Bool × Fl) (e : Nat) (u : Fl) : Nat × Fl := if r.1 then (e, u) else (7, r.2)
/-- A program of page j of block b, begun. -/
def Fl.prog (s : Fl) (b j : Nat) (d : Nat → Int) : Nat × Fl :=
  if s.failB then Fl.wrote (s.progOne.failed.write b j d 0 4) 6 ((s.progOne.failed.write b j d 0 4).2.setBad b)
  else Fl.wrote (s.progOne.failed.write b j d 0 17) 0 (s.progOne.failed.write b j d 0 17).2

/-- Program of page j of block b, which is there, with as many bytes as a page has. -/
def Fl.program (s : Fl) (b j : Nat) (d : Nat → Int) : Nat × Fl :=
  if s.on = false then (7, s) else if s.bad b then (6, s) else if s.torn b || !(j == s.next b) then (8, s) else s.prog b j d

/-- All of a block's bytes. -/
def Fl.leave (s : Fl) (b : Nat) (tn : Bool) : Fl :=
  { s with cell := fun i => if b * (s.P * 68) ≤ i ∧ i < (b + 1) * (s.P * 68) then (if tn then 0 else 255) else s.cell i,
           torn := fun x => if x = b then tn else s.torn x, next := fun x => if x = b then 0 else s.next x }

/-- An erase of block b, begun. -/
def Fl.begin (s : Fl) (b : Nat) : Fl := { s with erases := s.erases + 1, wear := fun x => if x = b then s.wear x + 1 else s.wear x }
def Fl.era (s : Fl) (b : Nat) : Nat × Fl :=
  let t := s.begin b
  let u := t.failed
  if u.stepOk then
    let v := u.step.leave b true
    if t.failB then (6, v.setBad b)
    else if v.stepOk then (0, v.step.leave b false) else (7, v.step)
  else (7, u.step)
def Fl.erase (s : Fl) (b : Nat) : Nat × Fl :=
  if s.on = false then (7, s) else if s.bad b then (6, s) else s.era b

def Fl.turnOn (s : Fl) : Fl := { s with on := true, cut := -1 }
def Fl.setCut (s : Fl) (n : Int) : Fl := { s with cut := max n (-1) }
def Fl.setFail (s : Fl) (n : Int) : Fl := { s with fail := max n (-1) }
def Fl.readOne (s : Fl) : Fl := { s with reads := s.reads + 1 }

def Fl.mark (s : Fl) (b : Nat) : Int := (if s.bad b then 1 else 0) + (if s.torn b then 2 else 0)

/-- What an image tells. -/
def Fl.image (s : Fl) (i : Nat) : Int :=
  if i < s.B * s.P * 68 then s.cell i
  else if (i - s.B * s.P * 68) % 2 = 0 then s.mark ((i - s.B * s.P * 68) / 2) else (s.next ((i - s.B * s.P * 68) / 2) : Int)
def Fl.size (s : Fl) : Nat := s.B * s.P * 68 + 2 * s.B

/-- What is true of every flash. -/
structure Fl.Ok (s : Fl) (N : Nat) : Prop where
  b1 : 1 ≤ s.B
  b2 : s.B ≤ 64
  p1 : 1 ≤ s.P
  p2 : s.P ≤ 32
  cell : ∀ i, 0 ≤ s.cell i ∧ s.cell i ≤ 255
  next : ∀ b, s.next b ≤ s.P
  cut : -1 ≤ s.cut ∧ s.cut ≤ 9223372036854775807
  fail : -1 ≤ s.fail ∧ s.fail ≤ 9223372036854775807
  reads : s.reads ≤ N
  progs : s.progs ≤ N
  erases : s.erases ≤ N
  wear : ∀ b, s.wear b ≤ N

theorem Fl.Ok.mono {s : Fl} {N M : Nat} (h : s.Ok N) (hm : N ≤ M) : s.Ok M :=
  ⟨h.b1, h.b2, h.p1, h.p2, h.cell, h.next, h.cut, h.fail, Nat.le_trans h.reads hm, Nat.le_trans h.progs hm, Nat.le_trans h.erases hm, fun b => Nat.le_trans (h.wear b) hm⟩

theorem Fl.Ok.new {B P : Nat} (b1 : 1 ≤ B) (b2 : B ≤ 64) (p1 : 1 ≤ P) (p2 : P ≤ 32) (N : Nat) : (Fl.new B P).Ok N :=
  ⟨b1, b2, p1, p2, fun _ => by simp [Fl.new], fun _ => by simp [Fl.new], by simp [Fl.new], by simp [Fl.new], by simp [Fl.new], by simp [Fl.new], by simp [Fl.new], fun _ => by simp [Fl.new]⟩

theorem Fl.Ok.step {s : Fl} {N : Nat} (h : s.Ok N) : s.step.Ok N := by
  have hc := h.cut
  unfold Fl.step
  split
  · exact h
  · split
    · exact ⟨h.b1, h.b2, h.p1, h.p2, h.cell, h.next, by simp, h.fail, h.reads, h.progs, h.erases, h.wear⟩
    · exact ⟨h.b1, h.b2, h.p1, h.p2, h.cell, h.next, by simp; omega, h.fail, h.reads, h.progs, h.erases, h.wear⟩

theorem Fl.Ok.failed {s : Fl} {N : Nat} (h : s.Ok N) : s.failed.Ok N := by
  have hc := h.fail
  unfold Fl.failed
  split
  · exact h
  · exact ⟨h.b1, h.b2, h.p1, h.p2, h.cell, h.next, h.cut, by simp; omega, h.reads, h.progs, h.erases, h.wear⟩

@[simp] theorem Fl.step_P (s : Fl) : s.step.P = s.P := by unfold Fl.step; (repeat (first | rfl | split))
@[simp] theorem Fl.step_B (s : Fl) : s.step.B = s.B := by unfold Fl.step; (repeat (first | rfl | split))
@[simp] theorem Fl.step_cell (s : Fl) : s.step.cell = s.cell := by unfold Fl.step; (repeat (first | rfl | split))
@[simp] theorem Fl.step_bad (s : Fl) : s.step.bad = s.bad := by unfold Fl.step; (repeat (first | rfl | split))
@[simp] theorem Fl.step_torn (s : Fl) : s.step.torn = s.torn := by unfold Fl.step; (repeat (first | rfl | split))
@[simp] theorem Fl.step_next (s : Fl) : s.step.next = s.next := by unfold Fl.step; (repeat (first | rfl | split))
@[simp] theorem Fl.step_wear (s : Fl) : s.step.wear = s.wear := by unfold Fl.step; (repeat (first | rfl | split))
@[simp] theorem Fl.step_fail (s : Fl) : s.step.fail = s.fail := by unfold Fl.step; (repeat (first | rfl | split))
@[simp] theorem Fl.step_reads (s : Fl) : s.step.reads = s.reads := by unfold Fl.step; (repeat (first | rfl | split))
@[simp] theorem Fl.step_progs (s : Fl) : s.step.progs = s.progs := by unfold Fl.step; (repeat (first | rfl | split))
@[simp] theorem Fl.step_erases (s : Fl) : s.step.erases = s.erases := by unfold Fl.step; (repeat (first | rfl | split))
@[simp] theorem Fl.failed_P (s : Fl) : s.failed.P = s.P := by unfold Fl.failed; split <;> rfl
@[simp] theorem Fl.failed_B (s : Fl) : s.failed.B = s.B := by unfold Fl.failed; split <;> rfl
@[simp] theorem Fl.failed_cell (s : Fl) : s.failed.cell = s.cell := by unfold Fl.failed; split <;> rfl
@[simp] theorem Fl.failed_bad (s : Fl) : s.failed.bad = s.bad := by unfold Fl.failed; split <;> rfl
@[simp] theorem Fl.failed_torn (s : Fl) : s.failed.torn = s.torn := by unfold Fl.failed; split <;> rfl
@[simp] theorem Fl.failed_next (s : Fl) : s.failed.next = s.next := by unfold Fl.failed; split <;> rfl
@[simp] theorem Fl.failed_wear (s : Fl) : s.failed.wear = s.wear := by unfold Fl.failed; split <;> rfl
@[simp] theorem Fl.failed_cut (s : Fl) : s.failed.cut = s.cut := by unfold Fl.failed; split <;> rfl
@[simp] theorem Fl.failed_on (s : Fl) : s.failed.on = s.on := by unfold Fl.failed; split <;> rfl
@[simp] theorem Fl.failed_reads (s : Fl) : s.failed.reads = s.reads := by unfold Fl.failed; split <;> rfl
@[simp] theorem Fl.failed_progs (s : Fl) : s.failed.progs = s.progs := by unfold Fl.failed; split <;> rfl
@[simp] theorem Fl.failed_erases (s : Fl) : s.failed.erases = s.erases := by unfold Fl.failed; split <;> rfl

theorem Fl.step_on {s : Fl} (h : s.stepOk = true) (hon : s.on = true) : s.step.on = true := by
  unfold Fl.stepOk at h
  unfold Fl.step
  split
  · exact hon
  · split
    · simp_all
    · exact hon

theorem Fl.Ok.chunk {s : Fl} {N : Nat} (h : s.Ok N) {b j : Nat} (hj : j < s.P) {d : Nat → Int} (hd : ∀ i, 0 ≤ d i ∧ d i ≤ 255) (q : Nat) : (s.chunk b j d q).Ok N := by
  refine ⟨h.b1, h.b2, h.p1, h.p2, fun i => ?_, fun x => ?_, h.cut, h.fail, h.reads, h.progs, h.erases, h.wear⟩
  · simp only [Fl.chunk]
    split
    · exact hd _
    · exact h.cell _
  · simp only [Fl.chunk]
    split
    · exact hj
    · exact h.next _

@[simp] theorem Fl.chunk_P (s : Fl) (b j : Nat) (d : Nat → Int) (q : Nat) : (s.chunk b j d q).P = s.P := rfl
@[simp] theorem Fl.chunk_B (s : Fl) (b j : Nat) (d : Nat → Int) (q : Nat) : (s.chunk b j d q).B = s.B := rfl
@[simp] theorem Fl.chunk_on (s : Fl) (b j : Nat) (d : Nat → Int) (q : Nat) : (s.chunk b j d q).on = s.on := rfl

theorem Fl.Ok.write {b j : Nat} {d : Nat → Int} (hd : ∀ i, 0 ≤ d i ∧ d i ≤ 255) {N : Nat} : ∀ (n q : Nat) (s : Fl), s.Ok N → j < s.P → (s.write b j d q n).2.Ok N
  | 0, _, _, h, _ => h
  | n + 1, q, s, h, hj => by
    unfold Fl.write
    split
    · exact Fl.Ok.write hd n (q + 1) _ (h.step.chunk (by simpa using hj) hd q) (by simpa using hj)
    · exact h.step

theorem Fl.write_P {b j : Nat} {d : Nat → Int} : ∀ (n q : Nat) (s : Fl), (s.write b j d q n).2.P = s.P ∧ (s.write b j d q n).2.B = s.B
  | 0, _, _ => ⟨rfl, rfl⟩
  | n + 1, q, s => by
    unfold Fl.write
    split
    · have := Fl.write_P (b := b) (j := j) (d := d) n (q + 1) (s.step.chunk b j d q); simpa using this
    · simp

theorem Fl.Ok.setBad {s : Fl} {N : Nat} (h : s.Ok N) (b : Nat) : (s.setBad b).Ok N := ⟨h.b1, h.b2, h.p1, h.p2, h.cell, h.next, h.cut, h.fail, h.reads, h.progs, h.erases, h.wear⟩

theorem Fl.Ok.progOne {s : Fl} {N : Nat} (h : s.Ok N) : s.progOne.Ok (N + 1) :=
  ⟨h.b1, h.b2, h.p1, h.p2, h.cell, h.next, h.cut, h.fail, Nat.le_trans h.reads (by omega), by have := h.progs; show s.progs + 1 ≤ N + 1; omega, Nat.le_trans h.erases (by omega), fun b => Nat.le_trans (h.wear b) (by omega)⟩

theorem Fl.Ok.prog {s : Fl} {N : Nat} (h : s.Ok N) {b j : Nat} (hj : j < s.P) {d : Nat → Int} (hd : ∀ i, 0 ≤ d i ∧ d i ≤ 255) : (s.prog b j d).2.Ok (N + 1) := by
  have hw := fun n => Fl.Ok.write (b := b) hd n 0 _ h.progOne.failed (j := j) (by rw [Fl.failed_P]; exact hj)
  unfold Fl.prog Fl.wrote
  split
  · split
    · exact (hw 4).setBad b
    · exact hw 4
  · split
    · exact hw 17
    · exact hw 17

theorem Fl.prog_P (s : Fl) (b j : Nat) (d : Nat → Int) : (s.prog b j d).2.P = s.P ∧ (s.prog b j d).2.B = s.B := by
  have hw := fun n => Fl.write_P (b := b) (j := j) (d := d) n 0 s.progOne.failed
  simp only [Fl.failed_P, Fl.failed_B] at hw
  unfold Fl.prog Fl.wrote
  split
  · split
    · exact hw 4
    · exact hw 4
  · split
    · exact hw 17
    · exact hw 17

theorem Fl.Ok.program {s : Fl} {N : Nat} (h : s.Ok N) {b j : Nat} (hj : j < s.P) {d : Nat → Int} (hd : ∀ i, 0 ≤ d i ∧ d i ≤ 255) : (s.program b j d).2.Ok (N + 1) := by
  unfold Fl.program
  split
  · exact h.mono (by omega)
  · split
    · exact h.mono (by omega)
    · split
      · exact h.mono (by omega)
      · exact h.prog hj hd

theorem Fl.program_P (s : Fl) (b j : Nat) (d : Nat → Int) : (s.program b j d).2.P = s.P ∧ (s.program b j d).2.B = s.B := by
  unfold Fl.program
  split
  · exact ⟨rfl, rfl⟩
  · split
    · exact ⟨rfl, rfl⟩
    · split
      · exact ⟨rfl, rfl⟩
      · exact Fl.prog_P s b j d

theorem Fl.Ok.leave {s : Fl} {N : Nat} (h : s.Ok N) (b : Nat) (tn : Bool) : (s.leave b tn).Ok N := by
  refine ⟨h.b1, h.b2, h.p1, h.p2, fun i => ?_, fun x => ?_, h.cut, h.fail, h.reads, h.progs, h.erases, h.wear⟩
  · simp only [Fl.leave]
    split
    · split <;> omega
    · exact h.cell _
  · simp only [Fl.leave]
    split
    · omega
    · exact h.next _

theorem Fl.Ok.begin {s : Fl} {N : Nat} (h : s.Ok N) (b : Nat) : (s.begin b).Ok (N + 1) :=
  ⟨h.b1, h.b2, h.p1, h.p2, h.cell, h.next, h.cut, h.fail, Nat.le_trans h.reads (by omega), Nat.le_trans h.progs (by omega), by have := h.erases; show s.erases + 1 ≤ N + 1; omega, fun x => by
    have := h.wear x
    simp only [Fl.begin]
    split <;> omega⟩

theorem Fl.Ok.era {s : Fl} {N : Nat} (h : s.Ok N) (b : Nat) : (s.era b).2.Ok (N + 1) := by
  have h1 := (h.begin b).failed
  unfold Fl.era
  simp only
  split
  · split
    · exact (h1.step.leave b true).setBad b
    · split
      · exact (h1.step.leave b true).step.leave b false
      · exact (h1.step.leave b true).step
  · exact h1.step

theorem Fl.Ok.erase {s : Fl} {N : Nat} (h : s.Ok N) (b : Nat) : (s.erase b).2.Ok (N + 1) := by
  unfold Fl.erase
  split
  · exact h.mono (by omega)
  · split
    · exact h.mono (by omega)
    · exact h.era b

theorem Fl.erase_P (s : Fl) (b : Nat) : (s.erase b).2.P = s.P ∧ (s.erase b).2.B = s.B := by
  unfold Fl.erase
  split
  · exact ⟨rfl, rfl⟩
  · split
    · exact ⟨rfl, rfl⟩
    · unfold Fl.era
      simp only
      split
      · split
        · simp [Fl.setBad, Fl.leave, Fl.begin]
        · split <;> simp [Fl.leave, Fl.begin]
      · simp [Fl.begin]

theorem Fl.Ok.turnOn {s : Fl} {N : Nat} (h : s.Ok N) : s.turnOn.Ok N := ⟨h.b1, h.b2, h.p1, h.p2, h.cell, h.next, by simp [Fl.turnOn], h.fail, h.reads, h.progs, h.erases, h.wear⟩
theorem Fl.Ok.setCut {s : Fl} {N : Nat} (h : s.Ok N) {n : Int} (hn : n ≤ 9223372036854775807) : (s.setCut n).Ok N := ⟨h.b1, h.b2, h.p1, h.p2, h.cell, h.next, by simp only [Fl.setCut]; omega, h.fail, h.reads, h.progs, h.erases, h.wear⟩
theorem Fl.Ok.setFail {s : Fl} {N : Nat} (h : s.Ok N) {n : Int} (hn : n ≤ 9223372036854775807) : (s.setFail n).Ok N := ⟨h.b1, h.b2, h.p1, h.p2, h.cell, h.next, h.cut, by simp only [Fl.setFail]; omega, h.reads, h.progs, h.erases, h.wear⟩
theorem Fl.Ok.readOne {s : Fl} {N : Nat} (h : s.Ok N) : s.readOne.Ok (N + 1) :=
  ⟨h.b1, h.b2, h.p1, h.p2, h.cell, h.next, h.cut, h.fail, by have := h.reads; show s.reads + 1 ≤ N + 1; omega, Nat.le_trans h.progs (by omega), Nat.le_trans h.erases (by omega), fun b => Nat.le_trans (h.wear b) (by omega)⟩

theorem Fl.Ok.image {s : Fl} {N : Nat} (h : s.Ok N) (i : Nat) : 0 ≤ s.image i ∧ s.image i ≤ 255 := by
  unfold Fl.image
  split
  · exact h.cell i
  · split
    · unfold Fl.mark; split <;> split <;> omega
    · have := h.next ((i - s.B * s.P * 68) / 2); have := h.p2; omega

end Nd
end Go.Proofs.Ytjafjofonckaaaa
