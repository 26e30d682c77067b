/-
  One entry a sector, as mathematics: what a put range holds, that runs set and cleared are those of the entries; a range cut into the fewest pieces, that there is one such cut, and that the document's own is it.
-/
import Derived.Test.YtbdankhlbepjoaaRunsS
namespace Go.Proofs.Ytbdankhlbepjoaa
namespace Tg

/-- The entries with the first k of a range put (a page below 0: nowhere). -/
def putN (t : List Int) (lba : Nat) (phys : Int) : Nat → List Int
  | 0 => t
  | k + 1 => (putN t lba phys k).set (lba + k) (if phys < 0 then -1 else phys + k)
theorem putN_len (t : List Int) (lba : Nat) (phys : Int) : ∀ k, (putN t lba phys k).length = t.length
  | 0 => rfl
  | k + 1 => by rw [putN, List.length_set, putN_len t lba phys k]
theorem putN_get (t : List Int) (lba : Nat) (phys : Int) : ∀ k, lba + k ≤ t.length → ∀ j, (putN t lba phys k).getD j (-1) = if lba ≤ j ∧ j < lba + k then (if phys < 0 then -1 else phys + ((j : Int) - lba)) else t.getD j (-1)
  | 0, _, j => by rw [putN, if_neg (by omega)]
  | k + 1, h, j => by
    have ih := putN_get t lba phys k (by omega) j
    rw [putN, List.getD_eq_getElem?_getD, List.getElem?_set, putN_len]
    by_cases e : lba + k = j
    · subst e
      have e3 : ((lba + k : Nat) : Int) - lba = k := by omega
      rw [if_pos rfl, if_pos (show lba + k < t.length by omega), Option.getD_some, if_pos (show lba ≤ lba + k ∧ lba + k < lba + (k + 1) by omega), e3]
    · rw [if_neg e, ← List.getD_eq_getElem?_getD, ih]
      by_cases e2 : lba ≤ j ∧ j < lba + k
      · rw [if_pos e2, if_pos (show lba ≤ j ∧ j < lba + (k + 1) by omega)]
      · rw [if_neg e2, if_neg (show ¬ (lba ≤ j ∧ j < lba + (k + 1)) by omega)]
theorem putN_entry (t : List Int) (lba n : Nat) (phys : Int) (h : lba + n ≤ t.length) (s : Int) : entry (putN t lba phys n) s = if (lba : Int) ≤ s ∧ s < (lba : Int) + n then (if phys < 0 then none else some (phys + (s - lba))) else entry t s := by
  unfold entry
  rw [putN_len, putN_get t lba phys n h]
  by_cases e : (lba : Int) ≤ s ∧ s < (lba : Int) + n
  · rw [if_pos e]
    have e2 : lba ≤ s.toNat ∧ s.toNat < lba + n := by omega
    rw [if_pos e2]
    by_cases e3 : phys < 0
    · rw [if_pos e3, if_pos e3, if_neg (by omega)]
    · have e4 : ((s.toNat : Nat) : Int) = s := by omega
      rw [if_neg e3, if_neg e3, e4, if_pos (by omega)]
  · rw [if_neg e]
    by_cases e1 : 0 ≤ s
    · rw [if_neg (show ¬ (lba ≤ s.toNat ∧ s.toNat < lba + n) by omega)]
    · rw [if_neg (by omega), if_neg (by omega)]

/-- Are these runs those of these entries? -/
def Of (t : List Int) (m : List Rn) : Prop := Form m ∧ ∀ s, page m s = entry t s
theorem Of.runs {t : List Int} {m : List Rn} (h : Of t m) : m = refR t t.length := refR_one t h.1 h.2
theorem refR_of (t : List Int) : Of t (refR t t.length) := ⟨(refR_ok t t.length).form, fun s => by rw [(refR_ok t t.length).page]; rfl⟩
theorem Of.fin {t : List Int} {m : List Rn} (h : Of t m) {x : Rn} (hx : x ∈ m) : x.fin ≤ (t.length : Int) := by
  rw [h.runs] at hx
  exact (refR_ok t t.length).fin x hx
theorem Of.set {t : List Int} {m : List Rn} (h : Of t m) {lba n : Nat} {phys : Int} (hn : 1 ≤ n) (hp : 0 ≤ phys) (hr : lba + n ≤ t.length) : Of (putN t lba phys n) (setL ⟨(lba : Int), (n : Int), phys⟩ m) := by
  have ho : (⟨(lba : Int), (n : Int), phys⟩ : Rn).Ok := ⟨by simp only; omega, by simp only; omega, hp⟩
  refine ⟨setL_form ho h.1, fun s => ?_⟩
  rw [setL_page ho h.1, putN_entry t lba n phys hr, h.2 s, if_neg (show ¬ phys < 0 by omega)]
  rfl
theorem Of.clear {t : List Int} {m : List Rn} (h : Of t m) {lba n : Nat} {phys : Int} (hn : 1 ≤ n) (hp : phys < 0) (hr : lba + n ≤ t.length) : Of (putN t lba phys n) (clearL (lba : Int) ((lba : Int) + n) m) := by
  refine ⟨clearL_form (by omega) (by omega) h.1, fun s => ?_⟩
  rw [clearL_page (by omega), putN_entry t lba n phys hr, h.2 s, if_pos hp]
/-- No run goes on where it ends. -/
theorem Form.stop {m : List Rn} (h : Form m) {x : Rn} (hx : x ∈ m) : page m x.fin ≠ some (x.phys + x.len) := by
  intro e
  obtain ⟨z, hz, z1, z2, z3⟩ := page_mem e
  have hxo := (h.1 x hx).2.1
  induction m with
  | nil => cases hx
  | cons y m ih =>
    obtain ⟨hy, hr, hm⟩ := Form.cons.1 h
    rcases List.mem_cons.1 hx with rfl | hx'
    · rcases List.mem_cons.1 hz with rfl | hz
      · omega
      · have g := hr z hz
        exact g.2 ⟨by omega, by unfold Rn.fin at *; omega⟩
    · rcases List.mem_cons.1 hz with rfl | hz
      · have g := (hr x hx').1
        unfold Rn.fin at *
        omega
      · refine ih hm hx' ?_ hz
        rw [page] at e
        have g := (hr x hx').1
        rwa [if_neg (by unfold Rn.fin at *; omega)] at e

/-- Does a piece tell a sector (a page below 0: nowhere)? -/
def Fit (f : Int → Option Int) (x : Rn) (s : Int) : Prop := f s = if x.phys < 0 then none else some (x.phys + (s - x.lba))
/-- A range cut into the fewest pieces, in order. -/
def Cut (f : Int → Option Int) (hi : Int) : Int → List Rn → Prop
  | lo, [] => lo = hi
  | lo, x :: m => x.lba = lo ∧ 1 ≤ x.len ∧ -1 ≤ x.phys ∧ x.fin ≤ hi ∧ (∀ s, lo ≤ s → s < x.fin → Fit f x s) ∧ (x.fin = hi ∨ ¬ Fit f x x.fin) ∧ Cut f hi x.fin m
theorem Cut.len_le {f : Int → Option Int} {hi lo : Int} {x y : Rn} {a b : List Rn} (ha : Cut f hi lo (x :: a)) (hb : Cut f hi lo (y :: b)) (hp : x.phys = y.phys) : y.len ≤ x.len := by
  by_cases h : y.len ≤ x.len
  · exact h
  · obtain ⟨a1, a2, a3, a4, a5, a6, a7⟩ := ha
    obtain ⟨b1, b2, b3, b4, b5, b6, b7⟩ := hb
    have hlt : x.fin < y.fin := by unfold Rn.fin; omega
    rcases a6 with a6 | a6
    · omega
    · refine absurd ?_ a6
      have := b5 x.fin (by unfold Rn.fin; omega) hlt
      unfold Fit at *
      rw [hp, a1, ← b1]; exact this
/-- There is just one such cut. -/
theorem Cut.one {f : Int → Option Int} {hi : Int} : ∀ {lo : Int} {a b : List Rn}, Cut f hi lo a → Cut f hi lo b → a = b
  | _, [], [], _, _ => rfl
  | lo, [], y :: b, ha, hb => by
    obtain ⟨b1, b2, b3, b4, -⟩ := hb
    have : lo = hi := ha
    unfold Rn.fin at *; omega
  | lo, x :: a, [], ha, hb => by
    obtain ⟨b1, b2, b3, b4, -⟩ := ha
    have : lo = hi := hb
    unfold Rn.fin at *; omega
  | lo, x :: a, y :: b, ha, hb => by
    have ha' := ha
    have hb' := hb
    obtain ⟨a1, a2, a3, a4, a5, a6, a7⟩ := ha'
    obtain ⟨b1, b2, b3, b4, b5, b6, b7⟩ := hb'
    have hp : x.phys = y.phys := by
      have h1 := a5 lo (Int.le_refl _) (by unfold Rn.fin; omega)
      have h2 := b5 lo (Int.le_refl _) (by unfold Rn.fin; omega)
      unfold Fit at h1 h2
      rw [h1] at h2
      by_cases c1 : x.phys < 0
      · by_cases c2 : y.phys < 0
        · omega
        · rw [if_pos c1, if_neg c2] at h2; cases h2
      · by_cases c2 : y.phys < 0
        · rw [if_neg c1, if_pos c2] at h2; cases h2
        · rw [if_neg c1, if_neg c2] at h2
          injection h2 with h2
          omega
    have hn : x.len = y.len := by have := ha.len_le hb hp; have := hb.len_le ha hp.symm; omega
    have hxy : x = y := by cases x; cases y; simp only at *; subst hp hn; rw [a1, b1]
    subst hxy
    congr 1
    exact Cut.one a7 b7

/-- Pieces each of which ends where it must. -/
def Pre (f : Int → Option Int) : Int → Int → List Rn → Prop
  | lo, hi, [] => lo = hi
  | lo, hi, x :: m => x.lba = lo ∧ 1 ≤ x.len ∧ -1 ≤ x.phys ∧ (∀ s, lo ≤ s → s < x.fin → Fit f x s) ∧ ¬ Fit f x x.fin ∧ Pre f x.fin hi m
theorem Pre.le {f : Int → Option Int} : ∀ {lo hi : Int} {a : List Rn}, Pre f lo hi a → lo ≤ hi
  | _, _, [], h => Int.le_of_eq h
  | lo, hi, x :: a, ⟨h1, h2, _, _, _, h⟩ => by have := h.le; unfold Rn.fin at this; omega
theorem Pre.snoc {f : Int → Option Int} : ∀ {lo : Int} {a : List Rn} {x : Rn}, Pre f lo x.lba a → 1 ≤ x.len → -1 ≤ x.phys → (∀ s, x.lba ≤ s → s < x.fin → Fit f x s) → ¬ Fit f x x.fin → Pre f lo x.fin (a ++ [x])
  | _, [], _, h, h1, h2, h3, h4 => by
    have h : _ = _ := h
    exact ⟨h.symm, h1, h2, fun s hs => h3 s (by omega), h4, rfl⟩
  | _, _ :: _, _, ⟨g1, g2, g3, g4, g5, g6⟩, h1, h2, h3, h4 => ⟨g1, g2, g3, g4, g5, g6.snoc h1 h2 h3 h4⟩
theorem Pre.cut {f : Int → Option Int} {hi mid : Int} (hm : mid ≤ hi) {b : List Rn} (hb : Cut f hi mid b) : ∀ {lo : Int} {a : List Rn}, Pre f lo mid a → Cut f hi lo (a ++ b)
  | _, [], h => by
    have h : _ = _ := h
    subst h
    exact hb
  | _, _ :: _, ⟨g1, g2, g3, g4, g5, g6⟩ => ⟨g1, g2, g3, by have := g6.le; omega, g4, Or.inr g5, Pre.cut hm hb g6⟩

/-- The document's own cut of the first i sectors behind a sector. -/
def refP (t : List Int) (lba : Nat) : Nat → List Rn
  | 0 => []
  | i + 1 => if 0 < i ∧ (t.getD (lba + i) (-1) < 0 ∧ t.getD (lba + i - 1) (-1) < 0 ∨ 0 ≤ t.getD (lba + i) (-1) ∧ 0 ≤ t.getD (lba + i - 1) (-1) ∧ t.getD (lba + i - 1) (-1) + 1 = t.getD (lba + i) (-1)) then grow (refP t lba i) else refP t lba i ++ [⟨((lba + i : Nat) : Int), 1, if t.getD (lba + i) (-1) < 0 then -1 else t.getD (lba + i) (-1)⟩]
theorem entry_nat {t : List Int} {i : Nat} (h : i < t.length) : entry t (i : Int) = if t.getD i (-1) < 0 then none else some (t.getD i (-1)) := by
  unfold entry
  rw [Int.toNat_natCast]
  by_cases c : t.getD i (-1) < 0
  · rw [if_pos c, if_neg (by omega)]
  · rw [if_neg c, if_pos (by omega)]
theorem refP_ok (t : List Int) (lba : Nat) : ∀ i, lba + (i + 1) ≤ t.length → ∃ a x, refP t lba (i + 1) = a ++ [x] ∧ Pre (entry t) lba x.lba a ∧ x.fin = ((lba + (i + 1) : Nat) : Int) ∧ 1 ≤ x.len ∧ -1 ≤ x.phys ∧ ∀ s, x.lba ≤ s → s < x.fin → Fit (entry t) x s
  | 0, h => by
    refine ⟨[], _, by rw [refP, if_neg (by omega), refP], by show (lba : Int) = _; rfl, rfl, by simp, by simp only; split <;> omega, fun s h1 h2 => ?_⟩
    unfold Rn.fin at h2
    simp only at h1 h2
    have e : s = ((lba + 0 : Nat) : Int) := by omega
    subst e
    unfold Fit
    rw [entry_nat (by omega)]
    by_cases c : t.getD (lba + 0) (-1) < 0
    · simp only [if_pos c]; rfl
    · simp only [if_neg c]; simp
  | i + 1, h => by
    obtain ⟨a, x, e, hpre, hf, hl, hp, hfit⟩ := refP_ok t lba i (by omega)
    have hs : ∀ k : Nat, k < t.length → (Fit (entry t) x (k : Int) ↔ (t.getD k (-1) < 0 ∧ x.phys < 0 ∨ 0 ≤ t.getD k (-1) ∧ 0 ≤ x.phys ∧ x.phys + ((k : Int) - x.lba) = t.getD k (-1))) := by
      intro k hk
      unfold Fit
      rw [entry_nat hk]
      generalize t.getD k (-1) = v
      by_cases c1 : v < 0
      · by_cases c2 : x.phys < 0
        · rw [if_pos c1, if_pos c2]; exact ⟨fun _ => Or.inl ⟨c1, c2⟩, fun _ => rfl⟩
        · rw [if_pos c1, if_neg c2]; exact ⟨fun e => (by cases e), fun _ => by omega⟩
      · by_cases c2 : x.phys < 0
        · rw [if_neg c1, if_pos c2]; exact ⟨fun e => (by cases e), fun _ => by omega⟩
        · rw [if_neg c1, if_neg c2]; exact ⟨fun e => by injection e with e; omega, fun _ => by congr 1; omega⟩
    have hlast := (hs (lba + i) (by omega)).1 (hfit _ (by unfold Rn.fin at hf; omega) (by omega))
    have hnext := hs (lba + (i + 1)) (by omega)
    have hk : lba + (i + 1) - 1 = lba + i := by omega
    unfold Rn.fin at hf
    rw [refP, hk]
    split
    · next c =>
      have c := c.2
      have hfits : Fit (entry t) x ((lba + (i + 1) : Nat) : Int) := hnext.2 (by omega)
      rw [e, grow_snoc]
      refine ⟨a, _, rfl, hpre, by unfold Rn.fin; simp only; omega, by simp only; omega, hp, fun s h1 h2 => ?_⟩
      unfold Rn.fin at h2
      simp only at h1 h2
      show Fit (entry t) x s
      by_cases c3 : s < x.fin
      · exact hfit s h1 c3
      · have : s = ((lba + (i + 1) : Nat) : Int) := by unfold Rn.fin at c3; omega
        rw [this]; exact hfits
    · next c =>
      have hno : ¬ Fit (entry t) x x.fin := by
        rw [show x.fin = ((lba + (i + 1) : Nat) : Int) from hf, hnext]
        omega
      rw [e]
      refine ⟨a ++ [x], _, rfl, ?_, rfl, by simp, by simp only; split <;> omega, fun s h1 h2 => ?_⟩
      · show Pre (entry t) lba ((lba + (i + 1) : Nat) : Int) (a ++ [x])
        rw [← show x.fin = ((lba + (i + 1) : Nat) : Int) from hf]
        exact hpre.snoc hl hp hfit hno
      · unfold Rn.fin at h2
        simp only at h1 h2
        have e : s = ((lba + (i + 1) : Nat) : Int) := by omega
        subst e
        unfold Fit
        rw [entry_nat (by omega)]
        by_cases c : t.getD (lba + (i + 1)) (-1) < 0
        · simp only [if_pos c]; rfl
        · simp only [if_neg c]; simp
/-- The document's own cut is the one. -/
theorem refP_cut (t : List Int) (lba n : Nat) (h : lba + n ≤ t.length) : Cut (entry t) ((lba : Int) + n) lba (refP t lba n) := by
  cases n with
  | zero => show (lba : Int) = _; simp
  | succ i =>
    obtain ⟨a, x, e, hpre, hf, hl, hp, hfit⟩ := refP_ok t lba i h
    rw [e]
    refine hpre.cut (by unfold Rn.fin at hf; omega) ?_
    exact ⟨rfl, hl, hp, by omega, hfit, Or.inl (by omega), by show x.fin = _; omega⟩
theorem Of.cut {t : List Int} {m : List Rn} (h : Of t m) {lba n : Nat} (hr : lba + n ≤ t.length) {p : List Rn} (hc : Cut (page m) ((lba : Int) + n) lba p) : p = refP t lba n := by
  have e : page m = entry t := funext h.2
  rw [e] at hc
  exact hc.one (refP_cut t lba n hr)
end Tg
end Go.Proofs.Ytbdankhlbepjoaa
