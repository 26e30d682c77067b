/-
  Sizes as mathematics: what a Config comes to, whether it may be, its greatest capacity; their bounds and how they grow.
-/
import Derived.Test.YtoobjmhllfeffaaMath
namespace Go.Proofs.Ytoobjmhllfeffaa
namespace Tg
/-- A Config. -/
structure Cf where
  b : Int
  p : Int
  c : Int
  s : Int
  m : Int
  w : Int
  f : Bool
/-- How many bytes a number below 16384 has. -/
def lV (v : Int) : Int := if v < 128 then 1 else 2
def upI (a b : Int) : Int := (a + b - 1) / b
/-- Pages of so many bytes (at least one). -/
def pgI (n : Int) : Int := (n + 31) / 32
def rbI (c : Cf) : Int := 2 * lV c.c + lV (2 * (c.b * c.p) + 1)
def spI (c : Cf) : Int := pgI (lV c.m + c.m * rbI c)
def mxI (a b : Int) : Int := if b < a then a else b
def omI (c : Cf) : Int := 4 + c.s + mxI (upI c.c c.p) c.p
def obI (c : Cf) : Int := lV (2 * c.c + 1) + lV c.c + lV (2 * (c.b * c.p) + 3)
def rpI (c : Cf) : Int := pgI (lV (omI c) + omI c * obI c)
def lpI (c : Cf) : Int := 2 * rpI c + c.p + spI c
def ebI (c : Cf) : Int := upI (spI c + lpI c) c.p
def mbI (c : Cf) : Int := ebI c + upI (spI c) c.p + 3
def wnI (c : Cf) : Int := upI c.c c.w
def slI (c : Cf) : Int := upI c.c c.p + 8 + 4 * c.s
def mrI (c : Cf) : Int := c.b + 2 * c.p * (ebI c + 2 + c.s)
def rwI (c : Cf) (n : Int) : Int := upI n c.p + 3 + 2 * c.s
def rcI (c : Cf) (n : Int) : Int := 6 + rwI c n + 4 * upI (n + rwI c n * c.w) c.p
def cpI (c : Cf) (n f : Int) : Int := 4 * (n + rwI c n * c.w + 2 * c.p) + 2 * rcI c n * rpI c + 2 * spI c + 4 * (1 + f) * c.p
/-- Are the six numbers in their spans? -/
structure Span (c : Cf) : Prop where
  b1 : 8 ≤ c.b
  b2 : c.b ≤ 64
  p1 : 4 ≤ c.p
  p2 : c.p ≤ 32
  s1 : 0 ≤ c.s
  s2 : c.s ≤ 4
  c1 : 1 ≤ c.c
  c2 : c.c ≤ 512
  w1 : 1 ≤ c.w
  w2 : c.w ≤ c.p
  w3 : c.w ≤ c.c
  m1 : 1 ≤ c.m
  m2 : c.m ≤ 512
def spanB (c : Cf) : Bool := decide (8 ≤ c.b) && decide (c.b ≤ 64) && decide (4 ≤ c.p) && decide (c.p ≤ 32) && decide (0 ≤ c.s) && decide (c.s ≤ 4) && decide (1 ≤ c.c) && decide (c.c ≤ 512) && decide (1 ≤ c.w) && decide (c.w ≤ c.p) && decide (c.w ≤ c.c) && decide (1 ≤ c.m) && decide (c.m ≤ 512)
theorem span_iff {c : Cf} : spanB c = true ↔ Span c := by
  unfold spanB
  simp only [Bool.and_eq_true, decide_eq_true_iff]
  constructor
  · rintro ⟨⟨⟨⟨⟨⟨⟨⟨⟨⟨⟨⟨h1, h2⟩, h3⟩, h4⟩, h5⟩, h6⟩, h7⟩, h8⟩, h9⟩, h10⟩, h11⟩, h12⟩, h13⟩
    exact ⟨h1, h2, h3, h4, h5, h6, h7, h8, h9, h10, h11, h12, h13⟩
  · intro h
    exact ⟨⟨⟨⟨⟨⟨⟨⟨⟨⟨⟨⟨h.b1, h.b2⟩, h.p1⟩, h.p2⟩, h.s1⟩, h.s2⟩, h.c1⟩, h.c2⟩, h.w1⟩, h.w2⟩, h.w3⟩, h.m1⟩, h.m2⟩
/-- May a Config be? -/
def goodB (c : Cf) : Bool := spanB c && (decide (4 * wnI c + slI c ≤ c.m) && decide (3 * c.c ≤ (c.b - c.s - mbI c - 8) * c.p) && decide (mrI c < c.b * c.p))
theorem good_iff {c : Cf} : goodB c = true ↔ Span c ∧ 4 * wnI c + slI c ≤ c.m ∧ 3 * c.c ≤ (c.b - c.s - mbI c - 8) * c.p ∧ mrI c < c.b * c.p := by
  unfold goodB
  rw [Bool.and_eq_true, Bool.and_eq_true, Bool.and_eq_true, span_iff, decide_eq_true_iff, decide_eq_true_iff, decide_eq_true_iff, and_assoc]
/-- The same with another capacity. -/
def Cf.at (c : Cf) (n : Int) : Cf := { c with c := n }
/-- The greatest capacity up to k with which it may be, or 0. -/
def grK (c : Cf) : Nat → Int
  | 0 => 0
  | k + 1 => if goodB (c.at ((k + 1 : Nat) : Int)) = true then ((k + 1 : Nat) : Int) else grK c k
theorem grK_le (c : Cf) : ∀ k : Nat, 0 ≤ grK c k ∧ grK c k ≤ k
  | 0 => by simp [grK]
  | k + 1 => by
    have := grK_le c k
    rw [grK]
    split <;> omega
theorem grK_good (c : Cf) : ∀ k : Nat, grK c k = 0 ∨ goodB (c.at (grK c k)) = true
  | 0 => Or.inl rfl
  | k + 1 => by
    rw [grK]
    split
    · rename_i h; exact Or.inr h
    · exact grK_good c k
theorem grK_most (c : Cf) : ∀ k : Nat, ∀ n : Int, 1 ≤ n → n ≤ k → goodB (c.at n) = true → n ≤ grK c k
  | 0, n, h1, h2, _ => by omega
  | k + 1, n, h1, h2, h => by
    rw [grK]
    split
    · omega
    · rename_i hk
      by_cases e : n = ((k + 1 : Nat) : Int)
      · subst e; exact absurd h hk
      · exact grK_most c k n h1 (by omega) h
theorem grK_none (c : Cf) (k : Nat) (h : grK c k = 0) : ∀ n : Int, 1 ≤ n → n ≤ k → goodB (c.at n) = false := fun n h1 h2 => by
  cases hg : goodB (c.at n) with
  | false => rfl
  | true => have := grK_most c k n h1 h2 hg; omega
theorem lV_bd (v : Int) : 1 ≤ lV v ∧ lV v ≤ 2 := by unfold lV; split <;> omega
theorem lV_mono {a b : Int} (h : a ≤ b) : lV a ≤ lV b := by unfold lV; split <;> split <;> omega
theorem upI_bd {a b : Int} (hb : 1 ≤ b) (ha : 0 ≤ a) : 0 ≤ upI a b ∧ upI a b ≤ a ∧ (1 ≤ a → 1 ≤ upI a b) := by
  unfold upI
  have h1 : 0 ≤ (a + b - 1) / b := Int.ediv_nonneg (by omega) (by omega)
  refine ⟨h1, ?_, fun h => ?_⟩
  · by_cases h0 : a = 0
    · subst h0; rw [Int.ediv_eq_zero_of_lt (by omega) (by omega)]; omega
    · have : (a + b - 1) / b < a + 1 := by
        rw [Int.ediv_lt_iff_lt_mul (by omega)]
        have h2 : a * 1 ≤ a * b := Int.mul_le_mul_of_nonneg_left hb ha
        have h3 : (a + 1) * b = a * b + b := by rw [Int.add_mul, Int.one_mul]
        omega
      omega
  · rw [Int.le_ediv_iff_mul_le (by omega)]; omega
theorem upI_mono {a c b : Int} (hb : 1 ≤ b) (h : a ≤ c) : upI a b ≤ upI c b := by
  unfold upI
  exact Int.ediv_le_ediv (by omega) (by omega)
theorem pgI_mono {a b : Int} (h : a ≤ b) : pgI a ≤ pgI b := by unfold pgI; omega
theorem mxI_bd (a b : Int) : a ≤ mxI a b ∧ b ≤ mxI a b ∧ (mxI a b = a ∨ mxI a b = b) := by unfold mxI; split <;> omega
theorem rb_bd (c : Cf) : 3 ≤ rbI c ∧ rbI c ≤ 6 := by
  unfold rbI
  have := lV_bd c.c
  have := lV_bd (2 * (c.b * c.p) + 1)
  omega
theorem ob_bd (c : Cf) : 3 ≤ obI c ∧ obI c ≤ 6 := by
  unfold obI
  have := lV_bd (2 * c.c + 1)
  have := lV_bd c.c
  have := lV_bd (2 * (c.b * c.p) + 3)
  omega
theorem bp_bd {c : Cf} (h : Span c) : 32 ≤ c.b * c.p ∧ c.b * c.p ≤ 2048 := by
  obtain ⟨b1, b2, p1, p2, -⟩ := h
  have h1 : 8 * 4 ≤ c.b * c.p := Int.mul_le_mul b1 p1 (by omega) (by omega)
  have h2 : c.b * c.p ≤ 64 * 32 := Int.mul_le_mul b2 p2 (by omega) (by omega)
  omega
theorem mr_bd {c : Cf} (h : Span c) : 3 ≤ c.m * rbI c ∧ c.m * rbI c ≤ 3072 := by
  have hr := rb_bd c
  have := h.m1
  have := h.m2
  have h1 : 1 * 3 ≤ c.m * rbI c := Int.mul_le_mul (by omega) hr.1 (by omega) (by omega)
  have h2 : c.m * rbI c ≤ 512 * 6 := Int.mul_le_mul (by omega) hr.2 (by omega) (by omega)
  omega
theorem sp_bd {c : Cf} (h : Span c) : 1 ≤ spI c ∧ spI c ≤ 97 := by
  have h1 := mr_bd h
  have h2 := lV_bd c.m
  unfold spI pgI
  omega
theorem up_p_bd {c : Cf} (h : Span c) : 1 ≤ upI c.c c.p ∧ upI c.c c.p ≤ 128 := by
  have hp := h.p1
  have h1 := upI_bd (a := c.c) (b := c.p) (by omega) (by have := h.c1; omega)
  refine ⟨h1.2.2 h.c1, ?_⟩
  have h2 : upI c.c c.p < 129 := by
    unfold upI
    rw [Int.ediv_lt_iff_lt_mul (by omega)]
    have := h.c2
    omega
  omega
theorem om_bd {c : Cf} (h : Span c) : 8 ≤ omI c ∧ omI c ≤ 136 := by
  have h1 := up_p_bd h
  have h2 := mxI_bd (upI c.c c.p) c.p
  have := h.s1
  have := h.s2
  have := h.p1
  have := h.p2
  unfold omI
  omega
theorem oo_bd {c : Cf} (h : Span c) : 24 ≤ omI c * obI c ∧ omI c * obI c ≤ 816 := by
  have h1 := om_bd h
  have h2 := ob_bd c
  have h3 : 8 * 3 ≤ omI c * obI c := Int.mul_le_mul (by omega) h2.1 (by omega) (by omega)
  have h4 : omI c * obI c ≤ 136 * 6 := Int.mul_le_mul (by omega) h2.2 (by omega) (by omega)
  omega
theorem rp_bd {c : Cf} (h : Span c) : 1 ≤ rpI c ∧ rpI c ≤ 26 := by
  have h1 := oo_bd h
  have h2 := lV_bd (omI c)
  unfold rpI pgI
  omega
theorem lp_bd {c : Cf} (h : Span c) : 7 ≤ lpI c ∧ lpI c ≤ 181 := by
  have h1 := rp_bd h
  have h2 := sp_bd h
  have := h.p1
  have := h.p2
  unfold lpI
  omega
theorem eb_bd {c : Cf} (h : Span c) : 1 ≤ ebI c ∧ ebI c ≤ 278 := by
  have h1 := lp_bd h
  have h2 := sp_bd h
  have h3 := upI_bd (a := spI c + lpI c) (b := c.p) (by have := h.p1; omega) (by omega)
  unfold ebI
  omega
theorem us_bd {c : Cf} (h : Span c) : 1 ≤ upI (spI c) c.p ∧ upI (spI c) c.p ≤ 97 := by
  have h2 := sp_bd h
  have h3 := upI_bd (a := spI c) (b := c.p) (by have := h.p1; omega) (by omega)
  omega
theorem mb_bd {c : Cf} (h : Span c) : 5 ≤ mbI c ∧ mbI c ≤ 378 := by
  have h1 := eb_bd h
  have h2 := us_bd h
  unfold mbI
  omega
theorem wn_bd {c : Cf} (h : Span c) : 1 ≤ wnI c ∧ wnI c ≤ 512 := by
  have h3 := upI_bd (a := c.c) (b := c.w) h.w1 (by have := h.c1; omega)
  have := h.c1
  have := h.c2
  unfold wnI
  omega
theorem sl_bd {c : Cf} (h : Span c) : 9 ≤ slI c ∧ slI c ≤ 152 := by
  have h1 := up_p_bd h
  have := h.s1
  have := h.s2
  unfold slI
  omega
theorem pe_bd {c : Cf} (h : Span c) : 0 ≤ 2 * c.p * (ebI c + 2 + c.s) ∧ 2 * c.p * (ebI c + 2 + c.s) ≤ 20000 := by
  have h1 := eb_bd h
  have := h.p1
  have := h.p2
  have := h.s1
  have := h.s2
  have h3 : 0 ≤ 2 * c.p * (ebI c + 2 + c.s) := Int.mul_nonneg (by omega) (by omega)
  have h4 : 2 * c.p * (ebI c + 2 + c.s) ≤ 64 * 284 := Int.mul_le_mul (by omega) (by omega) (by omega) (by omega)
  omega
theorem mm_bd {c : Cf} (h : Span c) : -20000 ≤ (c.b - c.s - mbI c - 8) * c.p ∧ (c.b - c.s - mbI c - 8) * c.p ≤ 20000 := by
  have h1 := mb_bd h
  have := h.p1
  have := h.p2
  have := h.s1
  have := h.s2
  have := h.b1
  have := h.b2
  have e : (c.b - c.s - mbI c - 8) * c.p = (c.b - c.s - mbI c - 8 + 400) * c.p - 400 * c.p := by rw [← Int.sub_mul]; congr 1; omega
  have h3 : 0 ≤ (c.b - c.s - mbI c - 8 + 400) * c.p := Int.mul_nonneg (by omega) (by omega)
  have h4 : (c.b - c.s - mbI c - 8 + 400) * c.p ≤ 464 * 32 := Int.mul_le_mul (by omega) (by omega) (by omega) (by omega)
  omega
theorem rw_bd {c : Cf} (h : Span c) {n : Int} (h1 : 1 ≤ n) (h2 : n ≤ c.c) : 4 ≤ rwI c n ∧ rwI c n ≤ 139 := by
  have h3 := up_p_bd h
  have h4 := upI_mono (b := c.p) (by have := h.p1; omega) h2
  have h5 := (upI_bd (a := n) (b := c.p) (by have := h.p1; omega) (by omega)).2.2 h1
  have := h.s1
  have := h.s2
  unfold rwI
  omega
theorem rww_bd {c : Cf} (h : Span c) {n : Int} (h1 : 1 ≤ n) (h2 : n ≤ c.c) : 4 ≤ rwI c n * c.w ∧ rwI c n * c.w ≤ 4448 := by
  have h3 := rw_bd h h1 h2
  have hw := h.w1
  have hw2 : c.w ≤ 32 := Int.le_trans h.w2 h.p2
  have h4 : 4 * 1 ≤ rwI c n * c.w := Int.mul_le_mul h3.1 hw (by omega) (by omega)
  have h5 : rwI c n * c.w ≤ 139 * 32 := Int.mul_le_mul h3.2 hw2 (by omega) (by omega)
  omega
theorem un_bd {c : Cf} (h : Span c) {n : Int} (h1 : 1 ≤ n) (h2 : n ≤ c.c) : 1 ≤ upI (n + rwI c n * c.w) c.p ∧ upI (n + rwI c n * c.w) c.p ≤ 4960 := by
  have h3 := rww_bd h h1 h2
  have := h.c2
  have h5 := upI_bd (a := n + rwI c n * c.w) (b := c.p) (by have := h.p1; omega) (by omega)
  omega
theorem rc_bd {c : Cf} (h : Span c) {n : Int} (h1 : 1 ≤ n) (h2 : n ≤ c.c) : 14 ≤ rcI c n ∧ rcI c n ≤ 20000 := by
  have h3 := un_bd h h1 h2
  have h4 := rw_bd h h1 h2
  unfold rcI
  omega
theorem rcp_bd {c : Cf} (h : Span c) {n : Int} (h1 : 1 ≤ n) (h2 : n ≤ c.c) : 28 ≤ 2 * rcI c n * rpI c ∧ 2 * rcI c n * rpI c ≤ 1040000 := by
  have h3 := rc_bd h h1 h2
  have h4 := rp_bd h
  have h5 : 28 * 1 ≤ 2 * rcI c n * rpI c := Int.mul_le_mul (by omega) h4.1 (by omega) (by omega)
  have h6 : 2 * rcI c n * rpI c ≤ 40000 * 26 := Int.mul_le_mul (by omega) h4.2 (by omega) (by omega)
  omega
theorem fp_bd {c : Cf} (h : Span c) {f : Int} (h1 : 0 ≤ f) (h2 : f ≤ 1000) : 16 ≤ 4 * (1 + f) * c.p ∧ 4 * (1 + f) * c.p ≤ 128128 := by
  have := h.p1
  have := h.p2
  have h5 : 4 * 4 ≤ 4 * (1 + f) * c.p := Int.mul_le_mul (by omega) (by omega) (by omega) (by omega)
  have h6 : 4 * (1 + f) * c.p ≤ 4004 * 32 := Int.mul_le_mul (by omega) (by omega) (by omega) (by omega)
  omega
theorem cp_bd {c : Cf} (h : Span c) {n f : Int} (h1 : 1 ≤ n) (h2 : n ≤ c.c) (h3 : 0 ≤ f) (h4 : f ≤ 1000) : n < cpI c n f ∧ cpI c n f ≤ 2000000 := by
  have := rww_bd h h1 h2
  have := rcp_bd h h1 h2
  have := fp_bd h h3 h4
  have := sp_bd h
  have := h.p1
  have := h.p2
  have := h.c2
  unfold cpI
  omega
/-- More sectors: more programs. -/
theorem cp_more {c : Cf} (h : Span c) (n f : Int) : cpI c (n - 1) f < cpI c n f := by
  have hp := h.p1
  have hw := h.w1
  have r1 : rwI c (n - 1) ≤ rwI c n := by
    unfold rwI
    have := upI_mono (a := n - 1) (c := n) (b := c.p) (by omega) (by omega)
    omega
  have r2 : rwI c (n - 1) * c.w ≤ rwI c n * c.w := Int.mul_le_mul_of_nonneg_right r1 (by omega)
  have r3 : rcI c (n - 1) ≤ rcI c n := by
    unfold rcI
    have := upI_mono (a := n - 1 + rwI c (n - 1) * c.w) (c := n + rwI c n * c.w) (b := c.p) (by omega) (by omega)
    omega
  have hr := rp_bd h
  have r4 : 2 * rcI c (n - 1) * rpI c ≤ 2 * rcI c n * rpI c := Int.mul_le_mul_of_nonneg_right (by omega) (by omega)
  unfold cpI
  omega
/-- More failures: more programs. -/
theorem cp_fail {c : Cf} (h : Span c) (n f : Int) : cpI c n (f - 1) < cpI c n f := by
  have hp := h.p1
  have e : 4 * (1 + f) * c.p = 4 * (1 + (f - 1)) * c.p + 4 * c.p := by rw [← Int.add_mul]; congr 1; omega
  unfold cpI
  omega
/-- What a Config that may be has. -/
theorem good_less {c : Cf} (h : goodB c = true) : mrI c < c.b * c.p ∧ 3 * c.c ≤ c.b * c.p ∧ slI c < c.m := by
  obtain ⟨hs, h1, h2, h3⟩ := good_iff.1 h
  have hw := wn_bd hs
  have hm := mb_bd hs
  refine ⟨h3, Int.le_trans h2 ?_, by omega⟩
  exact Int.mul_le_mul_of_nonneg_right (by have := hs.s1; omega) (by have := hs.p1; omega)
/-- The same with one spare block more. -/
def Cf.sp (c : Cf) : Cf := { c with s := c.s + 1 }
theorem good_spare {c : Cf} (hs : Span c) (h : goodB c.sp = true) : goodB c = true := by
  obtain ⟨hs', h1, h2, h3⟩ := good_iff.1 h
  have hp := hs.p1
  have eO : omI c ≤ omI c.sp := by show 4 + c.s + mxI (upI c.c c.p) c.p ≤ 4 + (c.s + 1) + mxI (upI c.c c.p) c.p; omega
  have eB : obI c.sp = obI c := rfl
  have hob := ob_bd c
  have hom := om_bd hs
  have eR : rpI c ≤ rpI c.sp := by
    unfold rpI
    rw [eB]
    have h1 : omI c * obI c ≤ omI c.sp * obI c := Int.mul_le_mul_of_nonneg_right eO (by omega)
    have h2 := lV_mono eO
    exact pgI_mono (by omega)
  have eS : spI c.sp = spI c := rfl
  have eL : lpI c ≤ lpI c.sp := by unfold lpI; rw [eS]; show 2 * rpI c + c.p + spI c ≤ 2 * rpI c.sp + c.p + spI c; omega
  have eE : ebI c ≤ ebI c.sp := by
    unfold ebI
    rw [eS]
    exact upI_mono (b := c.p) (by omega) (by omega)
  have eM : mbI c ≤ mbI c.sp := by unfold mbI; rw [eS]; show ebI c + upI (spI c) c.p + 3 ≤ ebI c.sp + upI (spI c) c.p + 3; omega
  have eW : wnI c.sp = wnI c := rfl
  have eSl : slI c.sp = slI c + 4 := by show upI c.c c.p + 8 + 4 * (c.s + 1) = upI c.c c.p + 8 + 4 * c.s + 4; omega
  have eMr : mrI c ≤ mrI c.sp := by
    show c.b + 2 * c.p * (ebI c + 2 + c.s) ≤ c.b + 2 * c.p * (ebI c.sp + 2 + (c.s + 1))
    have : 2 * c.p * (ebI c + 2 + c.s) ≤ 2 * c.p * (ebI c.sp + 2 + (c.s + 1)) := Int.mul_le_mul_of_nonneg_left (by omega) (by omega)
    omega
  have h1' : 4 * wnI c.sp + slI c.sp ≤ c.m := h1
  have h2' : 3 * c.c ≤ (c.b - (c.s + 1) - mbI c.sp - 8) * c.p := h2
  have h3' : mrI c.sp < c.b * c.p := h3
  rw [good_iff]
  refine ⟨hs, by omega, Int.le_trans h2' ?_, by omega⟩
  exact Int.mul_le_mul_of_nonneg_right (by omega) (by omega)
/-- The same with more runs. -/
def Cf.mo (c : Cf) (k : Int) : Cf := { c with m := c.m + k }
theorem good_runs {c : Cf} {k : Int} (h : goodB c = true) (hk : 1 ≤ k) (hm : c.m + k ≤ 512) (e : spI (c.mo k) = spI c) : goodB (c.mo k) = true := by
  obtain ⟨hs, h1, h2, h3⟩ := good_iff.1 h
  have eR : rpI (c.mo k) = rpI c := rfl
  have eL : lpI (c.mo k) = lpI c := by unfold lpI; rw [e, eR]; rfl
  have eE : ebI (c.mo k) = ebI c := by unfold ebI; rw [e, eL]; rfl
  have eM : mbI (c.mo k) = mbI c := by unfold mbI; rw [e, eE]; rfl
  have eMr : mrI (c.mo k) = mrI c := by unfold mrI; rw [eE]; rfl
  have hs' : Span (c.mo k) := ⟨hs.b1, hs.b2, hs.p1, hs.p2, hs.s1, hs.s2, hs.c1, hs.c2, hs.w1, hs.w2, hs.w3, by show 1 ≤ c.m + k; have := hs.m1; omega, hm⟩
  rw [good_iff, eM, eMr]
  exact ⟨hs', by show 4 * wnI c + slI c ≤ c.m + k; omega, h2, h3⟩
end Tg
end Go.Proofs.Ytoobjmhllfeffaa
