/-
  Many runs make a rich window; holes and runs of a range together are all of it (mathematics).
-/
import Derived.Test.YtojkiambkgkecaaWj
namespace Go.Proofs.Ytojkiambkgkecaa
namespace Tg
/-- A sum of so many numbers. -/
def sumW (f : Nat → Int) : Nat → Int
  | 0 => 0
  | n + 1 => sumW f n + f n
theorem sumW_add (f g : Nat → Int) : ∀ n, sumW (fun i => f i + g i) n = sumW f n + sumW g n
  | 0 => rfl
  | n + 1 => by rw [sumW, sumW, sumW, sumW_add f g n]; omega
theorem sumW_le {f : Nat → Int} {c : Int} : ∀ n, (∀ i, i < n → f i ≤ c) → sumW f n ≤ (n : Int) * c
  | 0, _ => by simp [sumW]
  | n + 1, h => by
    have h1 := sumW_le n (fun i hi => h i (by omega))
    have h2 := h n (by omega)
    rw [sumW]
    have : ((n + 1 : Nat) : Int) * c = (n : Int) * c + c := by rw [Int.natCast_add, Int.add_mul]; simp
    omega
theorem sumW_pos {f : Nat → Int} : ∀ n, (∀ i, i < n → 0 ≤ f i) → 0 ≤ sumW f n
  | 0, _ => by simp [sumW]
  | n + 1, h => by
    have h1 := sumW_pos n (fun i hi => h i (by omega))
    have h2 := h n (by omega)
    rw [sumW]; omega
theorem sumW_one {f : Nat → Int} {j : Nat} : ∀ n, (∀ i, i < n → 0 ≤ f i) → j < n → 1 ≤ f j → 1 ≤ sumW f n
  | 0, _, h, _ => by omega
  | n + 1, h, hj, h1 => by
    rw [sumW]
    have h2 := h n (by omega)
    have h3 := sumW_pos n (fun i hi => h i (by omega))
    by_cases e : j = n
    · subst e; omega
    · have := sumW_one n (fun i hi => h i (by omega)) (by omega) h1
      omega
theorem mcnt_cons (W : Nat) (x : Rn) (l : List Rn) (w : Nat) : mcnt W (x :: l) w = (if inW W w x = true then 1 else 0) + mcnt W l w := by
  unfold mcnt
  rw [List.filter_cons]
  split
  · rw [List.length_cons]; omega
  · omega
/-- Each run has a window. -/
theorem sum_runs {C W : Nat} (h1 : 1 ≤ W) : ∀ l : List Rn, (∀ x ∈ l, 0 ≤ x.lba ∧ 1 ≤ x.len ∧ x.lba + x.len ≤ (C : Int)) → (l.length : Int) ≤ sumW (mcnt W l) (nWin C W)
  | [], _ => by
    have := sumW_pos (f := mcnt W []) (nWin C W) (fun i _ => (mcnt_le W [] i).1)
    simpa using this
  | x :: l, h => by
    have ih := sum_runs (C := C) h1 l (fun y hy => h y (by simp [hy]))
    obtain ⟨x1, x2, x3⟩ := h x (by simp)
    have e : sumW (mcnt W (x :: l)) (nWin C W) = sumW (fun w => if inW W w x = true then (1 : Int) else 0) (nWin C W) + sumW (mcnt W l) (nWin C W) := by
      rw [← sumW_add]
      congr 1
      funext w
      exact mcnt_cons W x l w
    have hw1 : x.lba.toNat / W * W ≤ x.lba.toNat := Nat.div_mul_le_self _ _
    have hw2 : x.lba.toNat < (x.lba.toNat / W + 1) * W := by
      have := Nat.lt_div_mul_add (a := x.lba.toNat) (b := W) (by omega)
      rw [Nat.add_mul, Nat.one_mul]; exact this
    have hin : inW W (x.lba.toNat / W) x = true := by
      unfold inW
      rw [Bool.and_eq_true, decide_eq_true_iff, decide_eq_true_iff]
      constructor <;> omega
    have hlt : x.lba.toNat / W < nWin C W := by
      unfold nWin
      rw [Nat.lt_iff_add_one_le, Nat.le_div_iff_mul_le (by omega), Nat.add_mul, Nat.one_mul]
      omega
    have hone := sumW_one (f := fun w => if inW W w x = true then (1 : Int) else 0) (j := x.lba.toNat / W) (nWin C W) (fun i _ => by split <;> omega) hlt (by rw [if_pos hin]; omega)
    rw [e, List.length_cons]
    omega
theorem man_get {C W : Nat} {l : List Rn} {w : Nat} (h : w < nWin C W) : (manL C W l).getD w 0 = mcnt W l w := by
  unfold manL
  rw [List.getD_eq_getElem?_getD, List.getElem?_map, List.getElem?_range h]
  rfl
/-- Many runs make a rich window. -/
theorem rich_le {C W : Nat} (h1 : 1 ≤ W) {l : List Rn} (h : ∀ x ∈ l, 0 ≤ x.lba ∧ 1 ≤ x.len ∧ x.lba + x.len ≤ (C : Int)) : (l.length : Int) ≤ (nWin C W : Int) * (manL C W l).getD (ric C W l) 0 := by
  refine Int.le_trans (sum_runs h1 l h) (sumW_le _ (fun w hw => ?_))
  have := bst_max (manL C W l) (nWin C W) w hw
  rw [man_get hw] at this
  exact this
theorem rich_more {C W : Nat} (h1 : 1 ≤ W) {l : List Rn} (h : ∀ x ∈ l, 0 ≤ x.lba ∧ 1 ≤ x.len ∧ x.lba + x.len ≤ (C : Int)) {c : Nat} (hc : c * nWin C W < l.length) : (c : Int) < (manL C W l).getD (ric C W l) 0 := by
  have := rich_le h1 h
  by_cases hr : (c : Int) < (manL C W l).getD (ric C W l) 0
  · exact hr
  · have h2 : (nWin C W : Int) * (manL C W l).getD (ric C W l) 0 ≤ (nWin C W : Int) * (c : Int) := Int.mul_le_mul_of_nonneg_left (by omega) (by omega)
    have h3 : (nWin C W : Int) * (c : Int) = ((c * nWin C W : Nat) : Int) := by rw [Int.natCast_mul, Int.mul_comm]
    omega
/-- How many of the first k sectors behind a lie in a range. -/
def ovK (lo hi a : Int) (k : Nat) : Int :=
  let t := if a + k < hi then a + k else hi
  let b := if a < lo then lo else a
  if b < t then t - b else 0
theorem ovK_zero (lo hi a : Int) : ovK lo hi a 0 = 0 := by
  unfold ovK
  simp only
  split <;> split <;> split <;> omega
theorem ovK_succ (lo hi a : Int) (k : Nat) : ovK lo hi a (k + 1) = ovK lo hi a k + (if lo ≤ a + k ∧ a + k < hi then 1 else 0) := by
  unfold ovK
  simp only
  have e : ((k + 1 : Nat) : Int) = (k : Int) + 1 := by omega
  rw [e]
  by_cases c1 : a < lo <;> by_cases c2 : a + k < hi <;> by_cases c3 : a + (k + 1) < hi <;> by_cases c4 : lo ≤ a + k <;> simp only [c1, c2, c3, c4, if_true, if_false, and_self, and_true, and_false] <;> (repeat' split) <;> omega
def ov (lo hi : Int) (x : Rn) : Int := ovK lo hi x.lba x.len.toNat
def ovS (lo hi : Int) : List Rn → Int
  | [] => 0
  | x :: l => ov lo hi x + ovS lo hi l
def lenS : List Rn → Int
  | [] => 0
  | x :: l => x.len + lenS l
theorem ovK_bd (lo hi a : Int) (k : Nat) (h : lo ≤ hi) : 0 ≤ ovK lo hi a k ∧ ovK lo hi a k ≤ hi - lo ∧ ovK lo hi a k ≤ k := by
  unfold ovK
  simp only
  split <;> split <;> split <;> omega
theorem ovS_app (lo hi : Int) : ∀ a b : List Rn, ovS lo hi (a ++ b) = ovS lo hi a + ovS lo hi b
  | [], b => by simp [ovS]
  | x :: a, b => by rw [List.cons_append, ovS, ovS, ovS_app lo hi a b]; omega
theorem lenS_app : ∀ a b : List Rn, lenS (a ++ b) = lenS a + lenS b
  | [], b => by simp [lenS]
  | x :: a, b => by rw [List.cons_append, lenS, lenS, lenS_app a b]; omega
theorem ovS_up {lo lo' hi : Int} : ∀ {m : List Rn}, (∀ x ∈ m, lo ≤ x.lba ∧ lo' ≤ x.lba) → ovS lo hi m = ovS lo' hi m
  | [], _ => rfl
  | x :: m, h => by
    obtain ⟨h1, h2⟩ := h x (by simp)
    rw [ovS, ovS, ovS_up (m := m) (fun y hy => h y (by simp [hy]))]
    have : ov lo hi x = ov lo' hi x := by
      unfold ov ovK
      simp only
      split <;> split <;> (try split) <;> (try split) <;> omega
    omega
theorem ov_zero {lo hi : Int} {x : Rn} (h : x.fin ≤ lo ∨ hi ≤ x.lba) : ov lo hi x = 0 := by
  unfold ov ovK
  unfold Rn.fin at h
  simp only
  split <;> split <;> split <;> omega
theorem ovS_zero {lo hi : Int} : ∀ {m : List Rn}, (∀ x ∈ m, hi ≤ x.lba ∧ 0 ≤ x.len) → ovS lo hi m = 0
  | [], _ => rfl
  | x :: m, h => by
    rw [ovS, ov_zero (Or.inr (h x (by simp)).1), ovS_zero (m := m) (fun y hy => h y (by simp [hy]))]
    rfl
theorem hol_yes (a b : Int) : hol ⟨a, b, -1⟩ = true := by simp [hol]
theorem hol_no {x : Rn} (h : 0 ≤ x.phys) : hol x = false := by simp [hol]; omega
theorem ov_in {lo hi : Int} {x : Rn} (h1 : lo < x.fin) (h2 : x.lba < hi) (h3 : 1 ≤ x.len) (h4 : lo < hi) : ov lo hi x = (if hi ≤ x.fin then hi else x.fin) - (if lo < x.lba then x.lba else lo) := by
  unfold ov ovK Rn.fin at *
  simp only
  have e : ((x.len.toNat : Nat) : Int) = x.len := by omega
  rw [e]
  split <;> split <;> split <;> (try split) <;> (try split) <;> omega
/-- Holes and runs of a range together are all of it. -/
theorem hole_sum (hi : Int) : ∀ (m : List Rn) (lo : Int), Form m → lo ≤ hi → lenS ((cutL hi lo m).filter hol) + ovS lo hi m = hi - lo
  | [], lo, _, h => by
    rw [cutL]
    split
    · simp [hol_yes, lenS, ovS]
    · simp [lenS, ovS]; omega
  | x :: m, lo, hf, h => by
    have hx := (Form.cons.1 hf).1
    have hm := (Form.cons.1 hf).2.2
    have hup := fun y hy => ((Form.cons.1 hf).2.1 y hy).1
    obtain ⟨x1, x2, x3⟩ := hx
    have hfin : x.fin = x.lba + x.len := rfl
    rw [cutL]
    by_cases c1 : hi ≤ lo
    · rw [if_pos c1]
      have e : hi = lo := by omega
      subst e
      have : ∀ y ∈ x :: m, ov hi hi y = 0 := fun y _ => by
        have := ovK_bd hi hi y.lba y.len.toNat (Int.le_refl _)
        unfold ov; omega
      have h0 : ∀ l : List Rn, (∀ y ∈ l, ov hi hi y = 0) → ovS hi hi l = 0 := by
        intro l
        induction l with
        | nil => intro _; rfl
        | cons y l ih => intro hl; rw [ovS, hl y (by simp), ih (fun z hz => hl z (by simp [hz]))]; rfl
      rw [h0 _ this]
      simp [lenS]
    · rw [if_neg c1]
      by_cases c2 : x.fin ≤ lo
      · rw [if_pos c2, ovS, ov_zero (Or.inl c2)]
        have := hole_sum hi m lo hm h
        omega
      · rw [if_neg c2]
        have hup2 : ∀ lo', lo' ≤ x.fin → ovS lo hi m = ovS lo' hi m := fun lo' h' => ovS_up (fun y hy => ⟨by have := hup y hy; omega, by have := hup y hy; omega⟩)
        by_cases c3 : lo < x.lba
        · rw [if_pos c3]
          by_cases c4 : hi ≤ x.lba
          · rw [if_pos c4, ovS, ov_zero (Or.inr c4), ovS_zero (fun y hy => ⟨by have := hup y hy; omega, hm.len hy⟩)]
            simp [hol_yes, lenS]
          · rw [if_neg c4, List.filter_cons, if_pos (hol_yes _ _), List.filter_cons, if_neg (by rw [hol_no (by simp only; omega)]; decide), lenS, ovS]
            have ho := ov_in (lo := lo) (hi := hi) (x := x) (by omega) (by omega) x2 (by omega)
            rw [if_pos c3] at ho
            have ih := hole_sum hi m (if hi ≤ x.fin then hi else x.fin) hm (by split <;> omega)
            rw [hup2 (if hi ≤ x.fin then hi else x.fin) (by split <;> omega), ho]
            simp only
            omega
        · rw [if_neg c3, List.filter_cons, if_neg (by rw [hol_no (by simp only; omega)]; decide), ovS]
          have ho := ov_in (lo := lo) (hi := hi) (x := x) (by omega) (by omega) x2 (by omega)
          rw [if_neg c3] at ho
          have ih := hole_sum hi m (if hi ≤ x.fin then hi else x.fin) hm (by split <;> omega)
          rw [hup2 (if hi ≤ x.fin then hi else x.fin) (by split <;> omega), ho]
          omega
end Tg
end Go.Proofs.Ytojkiambkgkecaa
