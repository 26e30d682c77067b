/-
  What the landed calls of blocks ask and do: mathematics alone.
-/
import Derived.Test.YtkddonmddgfpnabBq
namespace Go.Proofs.Ytkddonmddgfpnab
namespace Tg
/-- May a run, by itself, be one of a map (the landed way of asking)? -/
def inL (x : Rn) : Bool := decide (0 ≤ x.lba) && (decide (1 ≤ x.len) && (decide (x.len ≤ 512 - x.lba) && decide (0 ≤ x.phys)))
theorem inL_iff {x : Rn} : inL x = true ↔ 0 ≤ x.lba ∧ 1 ≤ x.len ∧ x.len ≤ 512 - x.lba ∧ 0 ≤ x.phys := by
  unfold inL
  simp
/-- May a run stand behind another? -/
def foL (a x : Rn) : Bool := decide (a.lba + a.len < x.lba) || (x.lba == a.lba + a.len && x.phys - a.phys != a.len)
theorem foL_eq (a x : Rn) : foL a x = folB a x := by
  unfold foL folB
  by_cases c : x.lba - a.lba = a.len
  · rw [if_pos c, decide_eq_false (by omega), show (x.lba == a.lba + a.len) = true by simp; omega]
    simp
  · rw [if_neg c, show (x.lba == a.lba + a.len) = false by simp; omega]
    simp only [Bool.false_and, Bool.or_false]
    exact decide_eq_decide.2 (by omega)
def okL (p : Option Rn) (x : Rn) : Bool := inL x && (match p with | none => true | some a => foL a x)
def fmP : Option Rn → List Rn → Bool
  | _, [] => true
  | p, x :: l => okL p x && fmP (some x) l
/-- The landed formed. -/
def fmB (l : List Rn) : Bool := decide (l.length ≤ 512) && fmP none l
theorem fmP_iff : ∀ {l : List Rn} {p : Option Rn}, (∀ x ∈ l, x.phys ≤ 1073741824) → (fmP p l = true ↔ formP p l = true ∧ ∀ x ∈ l, x.fin ≤ 512)
  | [], p, _ => by cases p <;> simp [fmP, formP]
  | x :: l, p, h => by
    have ih := fmP_iff (l := l) (p := some x) (fun y hy => h y (by simp [hy]))
    have hx := h x (by simp)
    have hin : inL x = true ↔ inB x = true ∧ x.fin ≤ 512 := by
      rw [inL_iff, inB_iff]
      unfold Rn.fin
      omega
    have hok : okL p x = true ↔ okAt p x = true ∧ x.fin ≤ 512 := by
      unfold okL okAt
      rw [Bool.and_eq_true, Bool.and_eq_true, hin]
      cases p with
      | none => simp
      | some a => simp only [foL_eq]; constructor <;> (intro h; obtain ⟨h1, h2⟩ := h; simp_all)
    rw [formP_at, fmP, Bool.and_eq_true, Bool.and_eq_true, hok, ih]
    simp only [List.mem_cons, forall_eq_or_imp]
    constructor
    · rintro ⟨⟨a, b⟩, c, d⟩; exact ⟨⟨a, c⟩, b, d⟩
    · rintro ⟨⟨a, c⟩, b, d⟩; exact ⟨⟨a, b⟩, c, d⟩
theorem fmP_in : ∀ {l : List Rn} {p : Option Rn}, fmP p l = true → ∀ x ∈ l, inL x = true
  | [], _, _, x, hx => by cases hx
  | y :: l, p, h, x, hx => by
    rw [fmP, Bool.and_eq_true] at h
    rcases List.mem_cons.1 hx with rfl | hx
    · have := h.1
      unfold okL at this
      rw [Bool.and_eq_true] at this
      exact this.1
    · exact fmP_in h.2 x hx
theorem fmB_in {l : List Rn} (h : fmB l = true) : ∀ x ∈ l, inL x = true := by
  unfold fmB at h
  rw [Bool.and_eq_true] at h
  exact fmP_in h.2
theorem fmB_len {l : List Rn} (h : fmB l = true) : l.length ≤ 512 := by
  unfold fmB at h
  rw [Bool.and_eq_true, decide_eq_true_iff] at h
  exact h.1
theorem fm_fit {l : List Rn} (h : ∀ x ∈ l, x.phys ≤ 1073741824) : fmB l = fit13 l := by
  rw [Bool.eq_iff_iff]
  unfold fmB fit13
  rw [Bool.and_eq_true, Bool.and_eq_true, Bool.and_eq_true, fmP_iff h]
  constructor
  · rintro ⟨a, b, c⟩; exact ⟨a, b, endB_of c⟩
  · rintro ⟨a, b, c⟩; exact ⟨a, b, ends_fin (formP_form b).1 c⟩
theorem fit_phys {l : List Rn} (h : fit13 l = true) : ∀ x ∈ l, x.phys ≤ 1073741824 := fun _ hx => ((Ft13.of h).bd hx).2.2.2.2
/-- What Valid asks, in the landed order. -/
theorem vOk_iff {l : List Rn} {n pages : Int} : vOk l n pages = true ↔ (1 ≤ n ∧ n ≤ 64) ∧ (1 ≤ pages ∧ pages ≤ 32) ∧ fmB l = true ∧ inP (n * pages) l = true := by
  unfold vOk
  rw [Bool.and_eq_true, Bool.and_eq_true, Bool.and_eq_true, decide_eq_true_iff, decide_eq_true_iff]
  constructor
  · rintro ⟨a, b, c, d⟩
    exact ⟨c, a, by rw [fm_fit (fit_phys b)]; exact b, d⟩
  · rintro ⟨c, a, b, d⟩
    have hnp : n * pages ≤ 64 * 32 := Int.mul_le_mul c.2 a.2 (by omega) (by omega)
    refine ⟨a, ?_, c, d⟩
    rw [← fm_fit (fun x hx => ?_)]
    · exact b
    · have h1 := inP_iff.1 d x hx
      have h2 := inL_iff.1 (fmB_in b x hx)
      omega
theorem sOk_iff {l : List Rn} {pages : Int} : sOk l pages = true ↔ (1 ≤ pages ∧ pages ≤ 32) ∧ fmB l = true ∧ ∀ x ∈ l, x.phys ≤ 1048576 := by
  unfold sOk
  rw [Bool.and_eq_true, Bool.and_eq_true, decide_eq_true_iff, List.all_eq_true]
  simp only [decide_eq_true_iff]
  constructor
  · rintro ⟨a, b, c⟩; exact ⟨a, by rw [fm_fit (fit_phys b)]; exact b, c⟩
  · rintro ⟨a, b, c⟩; exact ⟨a, by rw [← fm_fit (fun x hx => by have := c x hx; omega)]; exact b, c⟩
/-- The first part of a run. -/
theorem partK_one {pages lba phys : Int} (hp : 0 < pages) (h0 : 0 ≤ phys) : ∀ k : Nat, 1 ≤ k → (k : Int) ≤ pages - phys % pages → partK pages lba phys k = [⟨lba, (k : Int), phys⟩]
  | 0, h, _ => by omega
  | 1, _, _ => by rw [partK_succ, if_pos (Or.inl rfl)]; simp [partK]
  | k + 2, _, h => by
    have h1 := Int.emod_nonneg phys (b := pages) (by omega)
    have hm : (phys + ((k + 1 : Nat) : Int)) % pages ≠ 0 := by
      rw [← Int.emod_add_emod, Int.emod_eq_of_lt (by omega) (by omega)]
      omega
    rw [partK_succ, if_neg (by omega), partK_one hp h0 (k + 1) (by omega) (by omega)]
    rw [show [(⟨lba, ((k + 1 : Nat) : Int), phys⟩ : Rn)] = [] ++ [⟨lba, ((k + 1 : Nat) : Int), phys⟩] from rfl, grow_snoc]
    simp only [List.nil_append]
    congr 2
theorem partK_more {pages lba phys : Int} (hp : 0 < pages) (h0 : 0 ≤ phys) {c : Nat} (hc : (c : Int) = pages - phys % pages) : ∀ j : Nat, partK pages lba phys (c + j) = ⟨lba, (c : Int), phys⟩ :: partK pages (lba + (c : Int)) (phys + (c : Int)) j
  | 0 => by
    have h1 := Int.emod_lt_of_pos phys hp
    rw [Nat.add_zero, partK_one hp h0 c (by omega) (by omega)]
    rfl
  | j + 1 => by
    have h1 := Int.emod_lt_of_pos phys hp
    have ih := partK_more hp h0 hc (lba := lba) j
    rw [show c + (j + 1) = (c + j) + 1 from rfl, partK_succ, partK_succ, ih]
    have e1 : phys + ((c + j : Nat) : Int) = phys + (c : Int) + (j : Int) := by omega
    have e2 : lba + ((c + j : Nat) : Int) = lba + (c : Int) + (j : Int) := by omega
    have hz : (phys + (c : Int)) % pages = 0 := by
      rw [hc, ← Int.emod_add_emod, show phys % pages + (pages - phys % pages) = pages by omega]
      exact Int.emod_self
    rw [e1, e2]
    by_cases hj : j = 0
    · subst hj
      rw [if_pos (Or.inr (by simpa using hz)), if_pos (Or.inl rfl)]
      rfl
    · by_cases hm : (phys + (c : Int) + (j : Int)) % pages = 0
      · rw [if_pos (Or.inr hm), if_pos (Or.inr hm)]
        rfl
      · rw [if_neg (by omega), if_neg (by omega)]
        obtain ⟨m, y, e, -⟩ := partK_last pages (lba + (c : Int)) (phys + (c : Int)) j (by omega)
        rw [e, grow_snoc, show (⟨lba, (c : Int), phys⟩ : Rn) :: (m ++ [y]) = (⟨lba, (c : Int), phys⟩ :: m) ++ [y] from rfl, grow_snoc]
        rfl
theorem parts_nil {pages : Int} {x : Rn} (h : x.len ≤ 0) : parts pages x = [] := by
  unfold parts
  rw [show x.len.toNat = 0 by omega]
  rfl
/-- One part is cut off. -/
theorem parts_cons {pages : Int} (hp : 0 < pages) {x : Rn} (h0 : 0 ≤ x.phys) (h : 1 ≤ x.len) {n : Int} (hn : n = min x.len (pages - x.phys % pages)) : parts pages x = ⟨x.lba, n, x.phys⟩ :: parts pages ⟨x.lba + n, x.len - n, x.phys + n⟩ := by
  have h1 := Int.emod_lt_of_pos x.phys hp
  have h2 := Int.emod_nonneg x.phys (b := pages) (by omega)
  by_cases c : x.len ≤ pages - x.phys % pages
  · rw [Int.min_eq_left c] at hn
    subst hn
    rw [parts_nil (x := ⟨x.lba + x.len, x.len - x.len, x.phys + x.len⟩) (by simp only; omega)]
    unfold parts
    rw [partK_one hp h0 _ (by omega) (by omega), show ((x.len.toNat : Nat) : Int) = x.len by omega]
  · rw [Int.min_eq_right (by omega)] at hn
    unfold parts
    obtain ⟨c, hc⟩ : ∃ c : Nat, (c : Int) = pages - x.phys % pages := ⟨(pages - x.phys % pages).toNat, by omega⟩
    rw [show x.len.toNat = c + (x.len - n).toNat by omega, partK_more hp h0 hc, show (c : Int) = n by omega]
/-- The parts of runs all but the last of which have been cut, and of the last one so much as is left. -/
theorem spl_take {pages : Int} {l : List Rn} {i : Nat} {x : Rn} (h : l[i]? = some x) : splL pages (l.take (i + 1)) = splL pages (l.take i) ++ parts pages x := by
  rw [take_next h, splL_snoc]
/-- What a block's number comes to, part by part. -/
theorem sumB_take {pages b : Int} {l : List Rn} {i : Nat} {y : Rn} (h : l[i]? = some y) : sumB pages b (l.take (i + 1)) = sumB pages b (l.take i) + (if y.phys / pages = b then y.len else 0) := by
  rw [take_next h, sumB_app, sumB_one]
def sumV (pages : Int) (l : List Rn) (n : Nat) : List Int := (List.range n).map (fun b : Nat => sumB pages (b : Int) l)
theorem sumV_len (pages : Int) (l : List Rn) (n : Nat) : (sumV pages l n).length = n := by simp [sumV]
theorem sumV_at {pages : Int} {l : List Rn} {n b : Nat} (h : b < n) : (sumV pages l n)[b]? = some (sumB pages (b : Int) l) := by simp [sumV, h]
theorem sumV_nil (pages : Int) (n : Nat) : sumV pages [] n = List.replicate n 0 := by
  apply List.ext_getElem?
  intro i
  by_cases h : i < n
  · rw [sumV_at h]; simp [sumB, h]
  · rw [List.getElem?_eq_none (by rw [sumV_len]; omega), List.getElem?_eq_none (by simp; omega)]
theorem sumV_end {pages : Int} (hp : 0 < pages) (l : List Rn) (n : Nat) : sumV pages (splL pages l) n = valL pages l n := by
  unfold sumV valL
  simp only [sumB_spl hp]
theorem sumV_set {pages : Int} {l : List Rn} {i n b : Nat} {y : Rn} (h : l[i]? = some y) (hb : y.phys / pages = (b : Int)) (hbn : b < n) : sumV pages (l.take (i + 1)) n = (sumV pages (l.take i) n).set b (sumB pages (b : Int) (l.take i) + y.len) := by
  apply List.ext_getElem?
  intro j
  by_cases hj : j < n
  · rw [sumV_at hj, List.getElem?_set, sumB_take h]
    by_cases e : b = j
    · subst e; rw [if_pos rfl, if_pos hb, if_pos (by rw [sumV_len]; exact hbn)]
    · rw [if_neg e, if_neg (by omega), sumV_at hj, Int.add_zero]
  · rw [List.getElem?_eq_none (by rw [sumV_len]; omega), List.getElem?_eq_none (by rw [List.length_set, sumV_len]; omega)]
theorem sumB_nn {pages b : Int} : ∀ {l : List Rn}, (∀ y ∈ l, 1 ≤ y.len ∧ y.len ≤ 512) → 0 ≤ sumB pages b l ∧ sumB pages b l ≤ 512 * (l.length : Int)
  | [], _ => by simp [sumB]
  | x :: l, h => by
    have ih := sumB_nn (pages := pages) (b := b) (l := l) (fun y hy => h y (by simp [hy]))
    have hx := h x (by simp)
    rw [show x :: l = [x] ++ l from rfl, sumB_app, sumB_one]
    simp only [List.length_append, List.length_singleton]
    split <;> omega
end Tg
end Go.Proofs.Ytkddonmddgfpnab
