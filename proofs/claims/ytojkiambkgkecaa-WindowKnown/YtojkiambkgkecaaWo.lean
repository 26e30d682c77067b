/-
  Holes as gaps between runs; which windows a run lies in (mathematics).
-/
import Derived.Test.YtojkiambkgkecaaWn
namespace Go.Proofs.Ytojkiambkgkecaa
namespace Tg
/-- The gaps from a sector on, up to another. -/
def gapL (hi : Int) : Int → List Rn → List Rn
  | s, [] => if s < hi then [⟨s, hi - s, -1⟩] else []
  | s, x :: m => (if s < min x.lba hi then [⟨s, min x.lba hi - s, -1⟩] else []) ++ gapL hi (max s x.fin) m
theorem gapL_none {hi : Int} : ∀ {m : List Rn} {s : Int}, hi ≤ s → gapL hi s m = []
  | [], s, h => by rw [gapL, if_neg (by omega)]
  | x :: m, s, h => by rw [gapL, if_neg (by omega), gapL_none (by omega)]; rfl
theorem hol_gap (hi : Int) : ∀ (m : List Rn) (lo : Int), Form m → (cutL hi lo m).filter hol = gapL hi lo m
  | [], lo, _ => by
    rw [cutL, gapL]
    split
    · simp [hol_yes]
    · rfl
  | x :: m, lo, hf => by
    have hx := (Form.cons.1 hf).1
    have hm := (Form.cons.1 hf).2.2
    obtain ⟨x1, x2, x3⟩ := hx
    have hfin : x.fin = x.lba + x.len := rfl
    rw [cutL]
    by_cases c1 : hi ≤ lo
    · rw [if_pos c1, gapL_none c1]; rfl
    · rw [if_neg c1, gapL]
      by_cases c2 : x.fin ≤ lo
      · rw [if_pos c2, if_neg (show ¬ lo < min x.lba hi by omega), hol_gap hi m lo hm, show max lo x.fin = lo by omega]; rfl
      · rw [if_neg c2]
        by_cases c3 : lo < x.lba
        · rw [if_pos c3]
          by_cases c4 : hi ≤ x.lba
          · rw [if_pos c4, if_pos (show lo < min x.lba hi by omega), gapL_none (by omega), show min x.lba hi = hi by omega]
            simp [hol_yes]
          · rw [if_neg c4, if_pos (show lo < min x.lba hi by omega), show min x.lba hi = x.lba by omega, show max lo x.fin = x.fin by omega, List.filter_cons, if_pos (hol_yes _ _), List.filter_cons, if_neg (by rw [hol_no (by simp only; omega)]; decide), hol_gap hi m _ hm]
            by_cases c5 : hi ≤ x.fin
            · rw [if_pos c5, gapL_none (Int.le_refl _), gapL_none c5]; rfl
            · rw [if_neg c5]; rfl
        · rw [if_neg c3, if_neg (show ¬ lo < min x.lba hi by omega), List.filter_cons, if_neg (by rw [hol_no (by simp only; omega)]; decide), hol_gap hi m _ hm, show max lo x.fin = x.fin by omega]
          by_cases c5 : hi ≤ x.fin
          · rw [if_pos c5, gapL_none (Int.le_refl _), gapL_none c5]; rfl
          · rw [if_neg c5]; rfl
theorem holL_gap {l : List Rn} (h : Form l) (lba n : Int) : holL l lba n = gapL (lba + n) lba l := hol_gap _ l lba h
/-- Which windows a run lies in. -/
theorem inW_iff {W w : Nat} (h1 : 1 ≤ W) {x : Rn} (h0 : 0 ≤ x.lba) (hl : 1 ≤ x.len) : inW W w x = true ↔ x.lba.toNat / W ≤ w ∧ w ≤ (x.lba + x.len - 1).toNat / W := by
  unfold inW
  rw [Bool.and_eq_true, decide_eq_true_iff, decide_eq_true_iff]
  have e1 : x.lba < (((w + 1) * W : Nat) : Int) ↔ x.lba.toNat / W ≤ w := by
    rw [← Nat.lt_add_one_iff, Nat.div_lt_iff_lt_mul (by omega)]
    omega
  have e2 : ((w * W : Nat) : Int) < x.lba + x.len ↔ w ≤ (x.lba + x.len - 1).toNat / W := by
    rw [Nat.le_div_iff_mul_le (by omega)]
    omega
  rw [e1, e2]
/-- A run more: one more in each of its windows. -/
theorem mcnt_snoc (W : Nat) (l : List Rn) (x : Rn) (w : Nat) : mcnt W (l ++ [x]) w = mcnt W l w + (if inW W w x = true then 1 else 0) := by
  unfold mcnt
  rw [List.filter_append, List.length_append, List.filter_cons]
  split <;> simp
end Tg
end Go.Proofs.Ytojkiambkgkecaa
