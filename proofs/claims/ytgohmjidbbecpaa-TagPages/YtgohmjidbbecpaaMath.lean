/-
  The plain mathematics of the check sum: one step of the register is linear and loses nothing; rows of bytes; no condition. (Own text; it names no program.)
-/
import Derived.WalkKit
namespace Go.Proofs.Ytgohmjidbbecpaa
namespace Crc

def poly : BitVec 32 := 3988292384#32
/-- One bit's step of the register. -/
def step (c : BitVec 32) : BitVec 32 := if c.getLsbD 0 then (c >>> 1) ^^^ poly else c >>> 1
def steps : Nat → BitVec 32 → BitVec 32
  | 0, c => c
  | n + 1, c => step (steps n c)
/-- A byte, given as the integer that stands for it. -/
def byteOf (n : Int) : BitVec 32 := BitVec.ofInt 32 n
def eat (c : BitVec 32) (n : Int) : BitVec 32 := steps 8 (c ^^^ byteOf n)
def run (c : BitVec 32) (l : List Int) : BitVec 32 := l.foldl eat c
def more (s : BitVec 32) (l : List Int) : BitVec 32 := ~~~ (run (~~~ s) l)

theorem step_xor (a b : BitVec 32) : step (a ^^^ b) = step a ^^^ step b := by
  unfold step
  have e : (a ^^^ b) >>> 1 = (a >>> 1) ^^^ (b >>> 1) := BitVec.ushiftRight_xor_distrib a b 1
  rw [BitVec.getLsbD_xor, e]
  cases a.getLsbD 0 <;> cases b.getLsbD 0 <;> simp
  · rw [BitVec.xor_assoc]
  · rw [BitVec.xor_assoc, BitVec.xor_assoc, BitVec.xor_comm poly]
  · rw [BitVec.xor_assoc, ← BitVec.xor_assoc poly, BitVec.xor_comm poly, BitVec.xor_assoc (b >>> 1), BitVec.xor_self, BitVec.xor_zero]

theorem step_zero : step 0#32 = 0#32 := by decide

theorem steps_xor (n : Nat) (a b : BitVec 32) : steps n (a ^^^ b) = steps n a ^^^ steps n b := by
  induction n with
  | zero => rfl
  | succ n ih => simp only [steps, ih, step_xor]

theorem steps_zero (n : Nat) : steps n 0#32 = 0#32 := by
  induction n with
  | zero => rfl
  | succ n ih => simp only [steps, ih, step_zero]

theorem steps_add (m n : Nat) (c : BitVec 32) : steps (m + n) c = steps m (steps n c) := by
  induction m with
  | zero => simp [steps]
  | succ m ih => rw [Nat.succ_add]; simp only [steps, ih]

theorem step_eq_zero {c : BitVec 32} (h : step c = 0#32) : c = 0#32 := by
  unfold step at h
  have h0 : ∀ i, c.getLsbD (i + 1) = (c >>> 1).getLsbD i := by intro i; simp [BitVec.getLsbD_ushiftRight, Nat.add_comm]
  cases hc : c.getLsbD 0 with
  | true =>
    rw [hc] at h
    simp only [if_true] at h
    have h31 : ((c >>> 1) ^^^ poly).getLsbD 31 = false := by rw [h]; simp
    rw [BitVec.getLsbD_xor, ← h0] at h31
    have hp : poly.getLsbD 31 = true := by decide
    have hx : c.getLsbD (31 + 1) = false := BitVec.getLsbD_of_ge c 32 (by omega)
    rw [hp, hx] at h31
    simp at h31
  | false =>
    rw [hc] at h
    simp only [Bool.false_eq_true, if_false] at h
    apply BitVec.eq_of_getLsbD_eq
    intro i hi
    cases i with
    | zero => simpa using hc
    | succ i => rw [h0, h]; simp

theorem steps_eq_zero {n : Nat} {c : BitVec 32} (h : steps n c = 0#32) : c = 0#32 := by
  induction n with
  | zero => exact h
  | succ n ih => exact ih (step_eq_zero h)

theorem run_append (c : BitVec 32) (a b : List Int) : run c (a ++ b) = run (run c a) b := by simp [run]

theorem more_append (s : BitVec 32) (a b : List Int) : more s (a ++ b) = more (more s a) b := by
  simp [more, run_append]

/-- Linear: rows whose bytes are put together by xor. -/
theorem run_xor : ∀ (a b d : List Int) (x y : BitVec 32), a.length = b.length → a.length = d.length →
    (∀ i, i < a.length → byteOf (d.getD i 0) = byteOf (a.getD i 0) ^^^ byteOf (b.getD i 0)) → run (x ^^^ y) d = run x a ^^^ run y b := by
  intro a
  induction a with
  | nil =>
    intro b d x y hb hd _
    obtain rfl := List.eq_nil_of_length_eq_zero hb.symm
    obtain rfl := List.eq_nil_of_length_eq_zero hd.symm
    rfl
  | cons p a ih =>
    intro b d x y hb hd h
    match b, d, hb, hd with
    | q :: b, r :: d, hb, hd =>
      have h0 := h 0 (by simp)
      simp only [List.getD_cons_zero] at h0
      have e : eat (x ^^^ y) r = eat x p ^^^ eat y q := by
        unfold eat
        rw [h0, ← steps_xor]
        congr 1
        rw [BitVec.xor_assoc, BitVec.xor_assoc, ← BitVec.xor_assoc y, BitVec.xor_comm y, BitVec.xor_assoc (byteOf p)]
      show run (eat (x ^^^ y) r) d = run (eat x p) a ^^^ run (eat y q) b
      rw [e]
      refine ih b d _ _ (by simpa using hb) (by simpa using hd) fun i hi => ?_
      have := h (i + 1) (by simp; omega)
      simpa using this

theorem run_zeros : ∀ (l : List Int) (x : BitVec 32), (∀ n ∈ l, byteOf n = 0#32) → run x l = steps (8 * l.length) x := by
  intro l
  induction l with
  | nil => intro x _; rfl
  | cons n l ih =>
    intro x h
    show run (eat x n) l = _
    rw [ih _ fun m hm => h m (by simp [hm])]
    have e : 8 * (n :: l).length = 8 * l.length + 8 := by simp; omega
    rw [e, steps_add]
    simp [eat, h n (by simp)]

theorem not_eq_xor (x : BitVec 32) : ~~~ x = x ^^^ BitVec.allOnes 32 := BitVec.xor_allOnes.symm

theorem shr_step (c : BitVec 32) (h : c.getLsbD 0 = false) : step c = c >>> 1 := by unfold step; rw [h]; rfl

/-- A number whose lowest bits are none loses them by steps as by a shift. -/
theorem steps_shr : ∀ (n : Nat) (c : BitVec 32), (∀ i, i < n → c.getLsbD i = false) → steps n c = c >>> n := by
  intro n
  induction n with
  | zero => intro c _; simp [steps]
  | succ n ih =>
    intro c h
    show step (steps n c) = _
    rw [ih c fun i hi => h i (by omega), shr_step _ (by simp [h n (by omega)])]
    rw [BitVec.shiftRight_add]

/-- The document's own bit by bit: the register's lowest bit and the byte's. -/
def bit (c : BitVec 32) (b : Bool) : BitVec 32 := if (c.getLsbD 0 ^^ b) then (c >>> 1) ^^^ poly else c >>> 1
def bitsOf (c x : BitVec 32) : Nat → BitVec 32
  | 0 => c
  | k + 1 => bit (bitsOf c x k) (x.getLsbD k)

theorem step_bit (c x : BitVec 32) : step (c ^^^ x) = bit c (x.getLsbD 0) ^^^ (x >>> 1) := by
  unfold step bit
  have e : (c ^^^ x) >>> 1 = (c >>> 1) ^^^ (x >>> 1) := BitVec.ushiftRight_xor_distrib c x 1
  rw [BitVec.getLsbD_xor, e]
  cases (c.getLsbD 0 ^^ x.getLsbD 0)
  · simp
  · simp only [if_true]; rw [BitVec.xor_assoc, BitVec.xor_comm (x >>> 1), ← BitVec.xor_assoc]

theorem steps_bits (c x : BitVec 32) (k : Nat) : steps k (c ^^^ x) = bitsOf c x k ^^^ (x >>> k) := by
  induction k with
  | zero => simp [steps, bitsOf]
  | succ k ih =>
    show step (steps k (c ^^^ x)) = _
    rw [ih, step_bit]
    show bit (bitsOf c x k) ((x >>> k).getLsbD 0) ^^^ (x >>> k) >>> 1 = bit (bitsOf c x k) (x.getLsbD k) ^^^ x >>> (k + 1)
    rw [BitVec.shiftRight_add]
    simp

theorem eat_bits (c : BitVec 32) (n : Int) (h0 : 0 ≤ n) (h1 : n ≤ 255) : eat c n = bitsOf c (byteOf n) 8 := by
  unfold eat
  rw [steps_bits]
  have e : byteOf n >>> 8 = 0#32 := by
    apply BitVec.eq_of_toNat_eq
    simp only [byteOf, BitVec.toNat_ushiftRight, BitVec.toNat_ofInt, Nat.shiftRight_eq_div_pow]
    have : (n % ((2 ^ 32 : Nat) : Int)).toNat ≤ 255 := by omega
    simp; omega
  rw [e, BitVec.xor_zero]

end Crc
end Go.Proofs.Ytgohmjidbbecpaa
