/-
  A block's parts set to another block's pages: how many pages of each block are then mapped: mathematics alone.
-/
import Derived.Test.YtkddonmddgfpnabBq
namespace Go.Proofs.Ytkddonmddgfpnab
namespace Tg
/-- Does a page lie in a block? -/
def inBk (pages b : Int) : Option Int → Int
  | none => 0
  | some q => if q / pages = b then 1 else 0
/-- How many of the first n sectors a map has in a block. -/
def secN (pages b : Int) (f : Int → Option Int) : Nat → Int
  | 0 => 0
  | n + 1 => secN pages b f n + inBk pages b (f (n : Int))
theorem secN_succ (pages b : Int) (f : Int → Option Int) (n : Nat) : secN pages b f (n + 1) = secN pages b f n + inBk pages b (f (n : Int)) := rfl
theorem secN_congr {pages b : Int} {f g : Int → Option Int} (h : ∀ s, f s = g s) : ∀ n, secN pages b f n = secN pages b g n
  | 0 => rfl
  | n + 1 => by rw [secN_succ, secN_succ, secN_congr h n, h]
theorem secN_none {pages b : Int} {f : Int → Option Int} (h : ∀ s, f s = none) : ∀ n, secN pages b f n = 0
  | 0 => rfl
  | n + 1 => by rw [secN_succ, secN_none h n, h]; rfl
theorem secN_cons {pages b : Int} {x : Rn} {l : List Rn} (hf : Form (x :: l)) : ∀ n : Nat, secN pages b (page (x :: l)) n = secN pages b (page l) n + cntK pages x.phys b (min (n : Int) x.fin - x.lba).toNat
  | 0 => by
    have h1 := (Form.cons.1 hf).1
    unfold Rn.Ok at h1
    have : (min ((0 : Nat) : Int) x.fin - x.lba).toNat = 0 := by omega
    rw [this]
    rfl
  | n + 1 => by
    have h1 := (Form.cons.1 hf).1
    unfold Rn.Ok at h1
    rw [secN_succ, secN_succ, secN_cons hf n]
    have hpg : page (x :: l) (n : Int) = if x.lba ≤ (n : Int) ∧ (n : Int) < x.fin then some (x.phys + ((n : Int) - x.lba)) else page l (n : Int) := rfl
    rw [hpg]
    by_cases c : x.lba ≤ (n : Int) ∧ (n : Int) < x.fin
    · rw [if_pos c, hf.page_low c.2]
      obtain ⟨k, hk⟩ : ∃ k : Nat, (n : Int) - x.lba = (k : Int) := ⟨((n : Int) - x.lba).toNat, by omega⟩
      have e1 : (min (n : Int) x.fin - x.lba).toNat = k := by omega
      have e2 : (min ((n + 1 : Nat) : Int) x.fin - x.lba).toNat = k + 1 := by omega
      rw [e1, e2, cntK_succ, hk]
      unfold inBk
      simp only
      omega
    · rw [if_neg c]
      have e1 : (min ((n + 1 : Nat) : Int) x.fin - x.lba).toNat = (min (n : Int) x.fin - x.lba).toNat := by omega
      rw [e1]
      omega
theorem cnt_sec {pages b : Int} {n : Nat} : ∀ {l : List Rn}, Form l → (∀ x ∈ l, x.fin ≤ (n : Int)) → cnt pages b l = secN pages b (page l) n
  | [], _, _ => (secN_none (fun _ => rfl) n).symm
  | x :: l, hf, hn => by
    have h1 := (Form.cons.1 hf).1
    unfold Rn.Ok at h1
    rw [secN_cons hf n, ← cnt_sec (Form.cons.1 hf).2.2 (fun y hy => hn y (by simp [hy]))]
    have h2 := hn x (by simp)
    have e : (min (n : Int) x.fin - x.lba).toNat = x.len.toNat := by unfold Rn.fin at *; omega
    rw [e]
    simp only [cnt]
    omega
/-- Sectors that go from one block to another. -/
theorem secN_move {pages b bo bn lo : Int} {len : Nat} {f g : Int → Option Int} (h0 : 0 ≤ lo) (hout : ∀ s, ¬ (lo ≤ s ∧ s < lo + (len : Int)) → g s = f s)
    (hf : ∀ s, lo ≤ s → s < lo + (len : Int) → ∃ q, f s = some q ∧ q / pages = bo) (hg : ∀ s, lo ≤ s → s < lo + (len : Int) → ∃ q, g s = some q ∧ q / pages = bn) :
    ∀ n : Nat, secN pages b g n = secN pages b f n + (if bn = b then ((min (n : Int) (lo + (len : Int)) - lo).toNat : Int) else 0) - (if bo = b then ((min (n : Int) (lo + (len : Int)) - lo).toNat : Int) else 0)
  | 0 => by
    have : (min ((0 : Nat) : Int) (lo + (len : Int)) - lo).toNat = 0 := by omega
    rw [this]
    simp [secN]
  | n + 1 => by
    rw [secN_succ, secN_succ, secN_move h0 hout hf hg n]
    by_cases c : lo ≤ (n : Int) ∧ (n : Int) < lo + (len : Int)
    · obtain ⟨q, e1, e2⟩ := hf n c.1 c.2
      obtain ⟨r, e3, e4⟩ := hg n c.1 c.2
      rw [e1, e3]
      unfold inBk
      simp only
      rw [e2, e4]
      have e5 : ((min ((n + 1 : Nat) : Int) (lo + (len : Int)) - lo).toNat : Int) = ((min (n : Int) (lo + (len : Int)) - lo).toNat : Int) + 1 := by omega
      rw [e5]
      split <;> split <;> omega
    · rw [hout _ c]
      have e5 : ((min ((n + 1 : Nat) : Int) (lo + (len : Int)) - lo).toNat : Int) = ((min (n : Int) (lo + (len : Int)) - lo).toNat : Int) := by omega
      rw [e5]
      omega
/-- Changes put over entries one after the other. -/
def setT (l : List Rn) (t : List Int) : List Int := l.foldl (fun t x => putN t x.lba.toNat x.phys x.len.toNat) t
theorem setT_snoc (l : List Rn) (x : Rn) (t : List Int) : setT (l ++ [x]) t = putN (setT l t) x.lba.toNat x.phys x.len.toNat := by unfold setT; rw [List.foldl_append]; rfl
theorem setT_len : ∀ (l : List Rn) (t : List Int), (setT l t).length = t.length
  | [], _ => rfl
  | x :: l, t => by
    show (setT l (putN t x.lba.toNat x.phys x.len.toNat)).length = _
    rw [setT_len l, putN_len]
/-- What one of them does. -/
theorem put_entry {t : List Int} (ht : t.length = 512) {x : Rn} (h : 0 ≤ x.lba ∧ 1 ≤ x.len ∧ x.lba + x.len ≤ 512 ∧ 0 ≤ x.phys) (s : Int) : entry (putN t x.lba.toNat x.phys x.len.toNat) s = if x.lba ≤ s ∧ s < x.fin then some (x.phys + (s - x.lba)) else entry t s := by
  rw [putN_entry t _ _ _ (by omega) s]
  have e1 : ((x.lba.toNat : Nat) : Int) = x.lba := by omega
  have e2 : ((x.len.toNat : Nat) : Int) = x.len := by omega
  rw [e1, e2, if_neg (show ¬ x.phys < 0 by omega)]
  rfl
/-- Runs in their form put over nothing are the map that they tell. -/
theorem set_runs {l : List Rn} (hF : Ft13 l) (n : Nat) : ∀ s, entry (setT (l.take n) blank) s = page (l.take n) s := by
  have key : ∀ {m : List Rn} {t : List Int}, t.length = 512 → Form m → (∀ x ∈ m, x.fin ≤ 512) → ∀ s, entry (setT m t) s = (page m s).or (entry t s) := by
    intro m
    induction m with
    | nil => intro t _ _ _ s; simp [setT, page]
    | cons x m ih =>
      intro t ht hf hb s
      obtain ⟨hx, -, hm⟩ := Form.cons.1 hf
      have hx1 := hb x (by simp)
      unfold Rn.Ok at hx
      unfold Rn.fin at hx1
      show entry (setT m (putN t x.lba.toNat x.phys x.len.toNat)) s = _
      rw [ih (by rw [putN_len]; exact ht) hm (fun y hy => hb y (by simp [hy])) s, put_entry ht (by omega) s, page]
      by_cases c : x.lba ≤ s ∧ s < x.fin
      · rw [if_pos c, if_pos c, hf.page_low c.2]; rfl
      · rw [if_neg c, if_neg c]
  intro s
  have hft : Form (l.take n) := by
    have : Form (l.take n ++ l.drop n) := by rw [List.take_append_drop]; exact hF.form
    exact (Form.app.1 this).1
  rw [key blank_len hft (fun x hx => hF.fin x (List.mem_of_mem_take hx)) s, blank_entry]
  simp
/-- A block's parts, set to pages one behind the other. -/
def mkOps (A : Int) : List Rn → List Rn
  | [] => []
  | y :: l => ⟨y.lba, y.len, A⟩ :: mkOps (A + y.len) l
theorem mkOps_snoc : ∀ (A : Int) (l : List Rn) (y : Rn), mkOps A (l ++ [y]) = mkOps A l ++ [⟨y.lba, y.len, A + sumLen l⟩]
  | A, [], y => by simp [mkOps, sumLen]
  | A, x :: l, y => by
    simp only [List.cons_append, mkOps, sumLen, mkOps_snoc (A + x.len) l y]
    rw [show A + x.len + sumLen l = A + (x.len + sumLen l) by omega]
theorem mkOps_len : ∀ (A : Int) (l : List Rn), (mkOps A l).length = l.length
  | _, [] => rfl
  | A, x :: l => by simp [mkOps, mkOps_len (A + x.len) l]
/-- What is so behind i of them. -/
structure Moved (pages fr tt : Int) (l M : List Rn) (i : Nat) (t : List Int) : Prop where
  len : t.length = 512
  out : ∀ s, (∀ y ∈ M.take i, ¬ (y.lba ≤ s ∧ s < y.fin)) → entry t s = page l s
  sec : ∀ b, secN pages b (entry t) 512 = secN pages b (page l) 512 + (if tt = b then sumLen (M.take i) else 0) - (if fr = b then sumLen (M.take i) else 0)
  bd : ∀ s q, entry t s = some q → 0 ≤ q ∧ q < 64 * pages
theorem sumLen_app : ∀ l m : List Rn, sumLen (l ++ m) = sumLen l + sumLen m
  | [], m => by simp [sumLen]
  | x :: l, m => by simp only [List.cons_append, sumLen, sumLen_app l m]; omega
theorem sumLen_nn : ∀ {l : List Rn}, (∀ y ∈ l, 0 ≤ y.len) → 0 ≤ sumLen l
  | [], _ => by simp [sumLen]
  | x :: l, h => by
    have h1 := h x (by simp)
    have h2 := sumLen_nn (l := l) (fun y hy => h y (by simp [hy]))
    simp only [sumLen]
    omega
theorem div_mid {a b c p q : Int} (hp : 0 < p) (h1 : a / p = q) (h2 : c / p = q) (h3 : a ≤ b) (h4 : b ≤ c) : b / p = q := by
  have e1 := Int.ediv_le_ediv hp h3
  have e2 := Int.ediv_le_ediv hp h4
  omega
theorem div_in {p q r : Int} (hp : 0 < p) (h0 : 0 ≤ r) (h1 : r < p) : (q * p + r) / p = q := by
  rw [Int.add_comm, Int.add_mul_ediv_right _ _ (by omega), Int.ediv_eq_zero_of_lt h0 h1]
  omega
theorem moved_zero {pages fr tt : Int} {l M : List Rn} {t : List Int} (ht : t.length = 512) (h : ∀ s, entry t s = page l s) (hb : ∀ s q, page l s = some q → 0 ≤ q ∧ q < 64 * pages) : Moved pages fr tt l M 0 t := by
  refine ⟨ht, fun s _ => h s, fun b => ?_, fun s q e => hb s q (by rw [← h]; exact e)⟩
  rw [secN_congr h, List.take_zero]
  simp [sumLen]
theorem moved_next {pages fr tt : Int} (hp : 1 ≤ pages ∧ pages ≤ 32) (ht : 0 ≤ tt ∧ tt ≤ 63) {l : List Rn} (hF : Ft13 l) {i : Nat} {y : Rn} {t : List Int} (hy : (movL pages fr l)[i]? = some y) (hs : sumLen (movL pages fr l) ≤ pages) (h : Moved pages fr tt l (movL pages fr l) i t) :
    Moved pages fr tt l (movL pages fr l) (i + 1) (putN t y.lba.toNat (tt * pages + sumLen ((movL pages fr l).take i)) y.len.toNat) ∧ 0 ≤ tt * pages + sumLen ((movL pages fr l).take i) ∧ tt * pages + sumLen ((movL pages fr l).take i) ≤ 2048 := by
  have hp0 : 0 < pages := by omega
  have hym := List.mem_of_getElem? hy
  obtain ⟨hys, hyb⟩ := mov_mem.1 hym
  have hin := splL_in hF hys
  obtain ⟨x0, -, -, -, hbl, -⟩ := spl_mem hp0 hys
  rw [hyb] at hbl
  have hnx : (movL pages fr l).take (i + 1) = (movL pages fr l).take i ++ [y] := take_next hy
  have hnn : ∀ z ∈ movL pages fr l, 0 ≤ z.len := fun z hz => by have := splL_in hF (mov_mem.1 hz).1; omega
  have hS0 := sumLen_nn (l := (movL pages fr l).take i) (fun z hz => hnn z (List.mem_of_mem_take hz))
  have hS1 : sumLen ((movL pages fr l).take i) + y.len ≤ sumLen (movL pages fr l) := by
    have e : sumLen (movL pages fr l) = sumLen ((movL pages fr l).take (i + 1)) + sumLen ((movL pages fr l).drop (i + 1)) := by rw [← sumLen_app, List.take_append_drop]
    have := sumLen_nn (l := (movL pages fr l).drop (i + 1)) (fun z hz => hnn z (List.mem_of_mem_drop hz))
    rw [hnx, sumLen_snoc] at e
    omega
  have hA : 0 ≤ tt * pages ∧ tt * pages + pages ≤ 64 * pages := by
    have q1 : 0 ≤ tt * pages := Int.mul_nonneg ht.1 (by omega)
    have q2 : tt * pages ≤ 63 * pages := Int.mul_le_mul_of_nonneg_right ht.2 (by omega)
    omega
  have hsrt := mov_srt hp0 hF.form fr
  have hbef : ∀ z ∈ (movL pages fr l).take i, z.lba + z.len ≤ y.lba := fun z hz => by
    obtain ⟨j, hj⟩ := List.getElem?_of_mem hz
    have hjl := (List.getElem?_eq_some_iff.1 hj).1
    rw [List.length_take] at hjl
    rw [List.getElem?_take_of_lt (by omega)] at hj
    have hpw := List.pairwise_iff_getElem.1 hsrt j i (List.getElem?_eq_some_iff.1 hj).1 (List.getElem?_eq_some_iff.1 hy).1 (by omega)
    rwa [(List.getElem?_eq_some_iff.1 hj).2, (List.getElem?_eq_some_iff.1 hy).2] at hpw
  generalize hSd : sumLen ((movL pages fr l).take i) = SS at *
  have hpe : ∀ s, entry (putN t y.lba.toNat (tt * pages + SS) y.len.toNat) s = if y.lba ≤ s ∧ s < y.lba + y.len then some (tt * pages + SS + (s - y.lba)) else entry t s := fun s => by
    have := put_entry h.len (x := ⟨y.lba, y.len, tt * pages + SS⟩) (by simp only; omega) s
    by_cases c : y.lba ≤ s ∧ s < y.lba + y.len
    · rw [if_pos c]
      exact this.trans (if_pos c)
    · rw [if_neg c]
      exact this.trans (if_neg c)
  refine ⟨⟨by rw [putN_len]; exact h.len, fun s hs2 => ?_, fun b => ?_, fun s q e => ?_⟩, by omega, by omega⟩
  · rw [hpe s, if_neg (fun c => hs2 y (by rw [hnx]; simp) (by unfold Rn.fin; exact c))]
    exact h.out s (fun z hz => hs2 z (by rw [hnx]; simp [hz]))
  · have hlen : ((y.len.toNat : Nat) : Int) = y.len := by omega
    have hmv := secN_move (pages := pages) (b := b) (bo := fr) (bn := tt) (lo := y.lba) (len := y.len.toNat) (f := entry t) (g := entry (putN t y.lba.toNat (tt * pages + SS) y.len.toNat)) (by omega)
      (fun s c => by rw [hpe s, if_neg (by rw [hlen] at c; exact c)])
      (fun s c1 c2 => by
        rw [hlen] at c2
        rw [h.out s (fun z hz c => by have := hbef z hz; unfold Rn.fin at c; omega), spl_page hp0 hF hys c1 c2]
        exact ⟨_, rfl, div_mid hp0 hyb hbl (by omega) (by omega)⟩)
      (fun s c1 c2 => by
        rw [hlen] at c2
        rw [hpe s, if_pos ⟨c1, c2⟩]
        refine ⟨_, rfl, ?_⟩
        rw [show tt * pages + SS + (s - y.lba) = tt * pages + (SS + (s - y.lba)) by omega]
        exact div_in hp0 (by omega) (by omega)) 512
    rw [hmv, h.sec b, hnx, sumLen_snoc, hSd]
    have e1 : ((min ((512 : Nat) : Int) (y.lba + ((y.len.toNat : Nat) : Int)) - y.lba).toNat : Int) = y.len := by omega
    rw [e1]
    split <;> split <;> omega
  · rw [hpe s] at e
    by_cases c : y.lba ≤ s ∧ s < y.lba + y.len
    · rw [if_pos c] at e
      injection e with e
      omega
    · rw [if_neg c] at e
      exact h.bd s q e
/-- Entries whose pages are few make runs that may be. -/
theorem ref_fit {pages : Int} (hp : 1 ≤ pages ∧ pages ≤ 32) {t : List Int} (ht : t.length = 512) (hb : ∀ s q, entry t s = some q → 0 ≤ q ∧ q < 64 * pages) : Ft13 (refR t 512) ∧ fit13 (refR t 512) = true ∧ inP (64 * pages) (refR t 512) = true := by
  have ho : Of t (refR t 512) := by have := refR_of t; rwa [ht] at this
  have hx : ∀ x ∈ refR t 512, 0 ≤ x.lba ∧ 1 ≤ x.len ∧ 0 ≤ x.phys ∧ x.fin ≤ 512 ∧ x.phys + x.len ≤ 64 * pages := fun x hx => by
    have h1 := ho.1.1 x hx
    unfold Rn.Ok at h1
    have h2 := ho.fin hx
    rw [ht] at h2
    have h3 := ho.1.page_of hx (s := x.lba + x.len - 1) (by omega) (by unfold Rn.fin; omega)
    have h4 := hb (x.lba + x.len - 1) _ (by rw [← ho.2]; exact h3)
    refine ⟨h1.1, h1.2.1, h1.2.2, h2, ?_⟩
    omega
  have hin : ∀ x ∈ refR t 512, inB x = true := fun x h => by
    have := hx x h
    unfold Rn.fin at this
    exact inB_iff.2 (by omega)
  have hlen := refR_len t 512
  refine ⟨⟨hlen, ho.1, hin, fun x h => (hx x h).2.2.2.1⟩, ?_, inP_iff.2 (fun x h => (hx x h).2.2.2.2)⟩
  unfold fit13
  rw [decide_eq_true hlen, form_true ho.1 hin (fun a e => by cases e), endB_of (fun x h => (hx x h).2.2.2.1)]
  rfl
/-- What is mapped in the end. -/
theorem moved_end {pages fr tt : Int} (hp : 1 ≤ pages ∧ pages ≤ 32) (hft : fr ≠ tt) {l : List Rn} (hF : Ft13 l) {t : List Int} (h : Moved pages fr tt l (movL pages fr l) (movL pages fr l).length t) (h0 : cnt pages tt l = 0) (b : Int) :
    cnt pages b (refR t 512) = if b = fr then 0 else if b = tt then cnt pages fr l else cnt pages b l := by
  have ho : Of t (refR t 512) := by have := refR_of t; rwa [h.len] at this
  have e1 : cnt pages b (refR t 512) = secN pages b (entry t) 512 := by
    rw [cnt_sec (n := 512) ho.1 (fun x hx => by have := ho.fin hx; rw [h.len] at this; exact this)]
    exact secN_congr ho.2 512
  have e2 : ∀ c, cnt pages c l = secN pages c (page l) 512 := fun c => cnt_sec (n := 512) hF.form (fun x hx => hF.fin x hx)
  have e3 := mov_sum (pages := pages) (by omega) fr l
  rw [e1, h.sec b, List.take_length, e3]
  rw [← e2]
  by_cases c1 : b = fr
  · subst c1
    rw [if_pos (rfl : b = b), if_neg (show ¬ tt = b from fun e => hft e.symm), if_pos (rfl : b = b)]
    omega
  · rw [if_neg c1, if_neg (show ¬ fr = b from fun e => c1 e.symm)]
    by_cases c2 : b = tt
    · subst c2
      rw [if_pos (rfl : b = b), if_pos (rfl : b = b)]
      omega
    · rw [if_neg c2, if_neg (show ¬ tt = b from fun e => c2 e.symm)]
      omega
end Tg
end Go.Proofs.Ytkddonmddgfpnab
