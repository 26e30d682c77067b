/-
  What parts of runs are: within their blocks, all pages, in order; folded they are the runs: mathematics alone.
-/
import Derived.Test.YtkddonmddgfpnabBx
namespace Go.Proofs.Ytkddonmddgfpnab
namespace Tg
theorem div_same {x p : Int} (hp : 0 < p) (h : x % p ≠ 0) : (x - 1) / p = x / p := by
  have h1 := Int.emod_add_mul_ediv x p
  have h2 := Int.emod_nonneg x (show p ≠ 0 by omega)
  have h3 := Int.emod_lt_of_pos x hp
  have e : x - 1 = (x % p - 1) + p * (x / p) := by omega
  rw [e, Int.add_mul_ediv_left _ _ (by omega), Int.ediv_eq_zero_of_lt (by omega) (by omega)]
  omega
/-- How many pages of a block parts have that begin in it. -/
def sumB (pages b : Int) : List Rn → Int
  | [] => 0
  | y :: l => (if y.phys / pages = b then y.len else 0) + sumB pages b l
theorem sumB_app (pages b : Int) : ∀ l m : List Rn, sumB pages b (l ++ m) = sumB pages b l + sumB pages b m
  | [], m => by simp [sumB]
  | x :: l, m => by simp only [List.cons_append, sumB, sumB_app pages b l m]; omega
theorem sumB_one (pages b : Int) (y : Rn) : sumB pages b [y] = if y.phys / pages = b then y.len else 0 := by simp [sumB]
structure PK (pages lba phys : Int) (k : Nat) (L : List Rn) : Prop where
  all : ∀ y ∈ L, y.phys - y.lba = phys - lba ∧ 1 ≤ y.len ∧ (y.phys + y.len - 1) / pages = y.phys / pages ∧ lba ≤ y.lba ∧ y.lba + y.len ≤ lba + (k : Int)
  cov : ∀ s, lba ≤ s → s < lba + (k : Int) → ∃ y ∈ L, y.lba ≤ s ∧ s < y.lba + y.len
  sum : ∀ b, sumB pages b L = cntK pages phys b k
  last : 0 < k → ∃ m y, L = m ++ [y] ∧ y.lba + y.len = lba + (k : Int) ∧ y.phys / pages = (phys + (k : Int) - 1) / pages
  srt : L.Pairwise (fun a b => a.lba + a.len ≤ b.lba)
theorem partK_ok {pages lba phys : Int} (hp : 0 < pages) : ∀ k : Nat, PK pages lba phys k (partK pages lba phys k)
  | 0 => by
    refine ⟨fun y hy => by simp [partK] at hy, fun s h1 h2 => by simp at h2; omega, fun b => rfl, fun h => by omega, List.Pairwise.nil⟩
  | k + 1 => by
    have ih := partK_ok hp (pages := pages) (lba := lba) (phys := phys) k
    rw [partK_succ]
    by_cases hc : k = 0 ∨ (phys + (k : Int)) % pages = 0
    · rw [if_pos hc]
      refine ⟨fun y hy => ?_, fun s h1 h2 => ?_, fun b => ?_, fun _ => ⟨_, _, rfl, ?_, ?_⟩, ?_⟩
      · rcases List.mem_append.1 hy with hy | hy
        · have := ih.all y hy
          refine ⟨this.1, this.2.1, this.2.2.1, this.2.2.2.1, ?_⟩
          have := this.2.2.2.2
          omega
        · simp at hy
          subst hy
          simp only
          refine ⟨by omega, by omega, ?_, by omega, by omega⟩
          congr 1
          omega
      · by_cases e : s < lba + (k : Int)
        · obtain ⟨y, hy, h3⟩ := ih.cov s h1 e
          exact ⟨y, by simp [hy], h3⟩
        · exact ⟨_, List.mem_append.2 (Or.inr (List.mem_singleton.2 rfl)), by simp only; omega, by simp only; omega⟩
      · rw [sumB_app, ih.sum, sumB_one, cntK_succ]
      · simp only; omega
      · simp only
        congr 1
        omega
      · refine List.pairwise_append.2 ⟨ih.srt, List.pairwise_singleton _ _, fun a ha b hb => ?_⟩
        obtain rfl := List.mem_singleton.1 hb
        have := (ih.all a ha).2.2.2.2
        simp only
        omega
    · rw [if_neg hc]
      have hk : 0 < k := by omega
      have hr : (phys + (k : Int)) % pages ≠ 0 := fun e => hc (Or.inr e)
      have hds := div_same hp hr
      obtain ⟨m, z, e, z1, z2⟩ := ih.last hk
      have hz := ih.all z (by rw [e]; simp)
      have hzp : z.phys + z.len = phys + (k : Int) := by have := hz.1; omega
      rw [e] at ih ⊢
      rw [grow_snoc]
      refine ⟨fun y hy => ?_, fun s h1 h2 => ?_, fun b => ?_, fun _ => ⟨_, _, rfl, ?_, ?_⟩, ?_⟩
      · rcases List.mem_append.1 hy with hy | hy
        · have := ih.all y (by simp [hy])
          refine ⟨this.1, this.2.1, this.2.2.1, this.2.2.2.1, ?_⟩
          have := this.2.2.2.2
          omega
        · simp at hy
          subst hy
          simp only
          refine ⟨hz.1, by omega, ?_, hz.2.2.2.1, by omega⟩
          rw [show z.phys + (z.len + 1) - 1 = phys + (k : Int) by omega, z2, hds]
      · by_cases e2 : s < lba + (k : Int)
        · obtain ⟨y, hy, h3⟩ := ih.cov s h1 e2
          rcases List.mem_append.1 hy with hy | hy
          · exact ⟨y, by simp [hy], h3⟩
          · simp at hy
            subst hy
            exact ⟨_, List.mem_append.2 (Or.inr (List.mem_singleton.2 rfl)), h3.1, by simp only; omega⟩
        · refine ⟨_, List.mem_append.2 (Or.inr (List.mem_singleton.2 rfl)), ?_, ?_⟩
          · simp only
            have := hz.2.1
            omega
          · simp only; omega
      · have := ih.sum b
        rw [sumB_app, sumB_one] at this
        rw [sumB_app, sumB_one, cntK_succ]
        simp only
        rw [← hds, ← z2]
        split at this
        · next h => rw [if_pos h] ; omega
        · next h => rw [if_neg h]; omega
      · simp only; omega
      · simp only
        rw [z2, hds]
        congr 1
        omega
      · have h1 := List.pairwise_append.1 ih.srt
        refine List.pairwise_append.2 ⟨h1.1, List.pairwise_singleton _ _, fun a ha b hb => ?_⟩
        obtain rfl := List.mem_singleton.1 hb
        exact h1.2.2 a ha z (by simp)
theorem sumB_spl {pages : Int} (hp : 0 < pages) (b : Int) : ∀ l : List Rn, sumB pages b (splL pages l) = cnt pages b l
  | [] => rfl
  | x :: l => by
    rw [show splL pages (x :: l) = parts pages x ++ splL pages l from rfl, sumB_app, sumB_spl hp b l]
    unfold parts
    rw [(partK_ok hp _).sum b]
    rfl
/-- The parts' pages together. -/
def sumLen : List Rn → Int
  | [] => 0
  | y :: l => y.len + sumLen l
theorem sumLen_snoc : ∀ (l : List Rn) (y : Rn), sumLen (l ++ [y]) = sumLen l + y.len
  | [], y => by simp [sumLen]
  | x :: l, y => by simp only [List.cons_append, sumLen, sumLen_snoc l y]; omega
theorem sumLen_filter (pages b : Int) : ∀ l : List Rn, sumLen (l.filter (fun x => decide (x.phys / pages = b))) = sumB pages b l
  | [] => rfl
  | y :: l => by
    rw [List.filter_cons]
    by_cases h : y.phys / pages = b
    · rw [if_pos (decide_eq_true h), sumLen, sumLen_filter pages b l, sumB, if_pos h]
    · rw [if_neg (by simp [h]), sumLen_filter pages b l, sumB, if_neg h]; omega
theorem mov_sum {pages : Int} (hp : 0 < pages) (b : Int) (l : List Rn) : sumLen (movL pages b l) = cnt pages b l := by
  unfold movL
  rw [sumLen_filter, sumB_spl hp]
theorem spl_mem {pages : Int} (hp : 0 < pages) {l : List Rn} {y : Rn} (h : y ∈ splL pages l) : ∃ x ∈ l, y.phys - y.lba = x.phys - x.lba ∧ 1 ≤ y.len ∧ (y.phys + y.len - 1) / pages = y.phys / pages ∧ x.lba ≤ y.lba ∧ y.lba + y.len ≤ x.lba + (x.len.toNat : Int) := by
  obtain ⟨x, hx, hy⟩ := List.mem_flatMap.1 h
  exact ⟨x, hx, (partK_ok hp _).all y hy⟩
theorem spl_srt {pages : Int} (hp : 0 < pages) : ∀ {l : List Rn}, Form l → (splL pages l).Pairwise (fun a b => a.lba + a.len ≤ b.lba)
  | [], _ => List.Pairwise.nil
  | x :: l, hf => by
    obtain ⟨h1, h2, h3⟩ := Form.cons.1 hf
    rw [show splL pages (x :: l) = parts pages x ++ splL pages l from rfl]
    refine List.pairwise_append.2 ⟨(partK_ok hp _).srt, spl_srt hp h3, fun a ha b hb => ?_⟩
    have q1 := ((partK_ok hp _).all a ha).2.2.2.2
    obtain ⟨z, hz, -, -, -, q2, -⟩ := spl_mem hp hb
    have q3 := (h2 z hz).1
    unfold Rn.fin at q3
    unfold Rn.Ok at h1
    omega
theorem mov_srt {pages : Int} (hp : 0 < pages) {l : List Rn} (hf : Form l) (b : Int) : (movL pages b l).Pairwise (fun x y => x.lba + x.len ≤ y.lba) := (spl_srt hp hf).filter _
theorem mov_mem {pages b : Int} {l : List Rn} {y : Rn} : y ∈ movL pages b l ↔ y ∈ splL pages l ∧ y.phys / pages = b := by
  unfold movL
  rw [List.mem_filter, decide_eq_true_iff]
theorem spl_page {pages : Int} (hp : 0 < pages) {l : List Rn} (hF : Ft13 l) {y : Rn} (h : y ∈ splL pages l) {s : Int} (h1 : y.lba ≤ s) (h2 : s < y.lba + y.len) : page l s = some (y.phys + (s - y.lba)) := by
  obtain ⟨x, hx, q1, q2, q3, q4, q5⟩ := spl_mem hp h
  have hb := hF.bd hx
  rw [hF.form.page_of hx (s := s) (by omega) (by unfold Rn.fin; omega)]
  congr 1
  omega
theorem spl_cov {pages : Int} (hp : 0 < pages) {l : List Rn} (hF : Ft13 l) {s q : Int} (h : page l s = some q) : ∃ y ∈ splL pages l, y.lba ≤ s ∧ s < y.lba + y.len := by
  obtain ⟨x, hx, h1, h2, -⟩ := page_mem h
  have hb := hF.bd hx
  unfold Rn.fin at h2
  obtain ⟨y, hy, h3⟩ := (partK_ok hp (lba := x.lba) (phys := x.phys) x.len.toNat).cov s h1 (by omega)
  exact ⟨y, List.mem_flatMap.2 ⟨x, hx, hy⟩, h3⟩
/-- Pieces that agree with a map, over entries. -/
theorem fold_entry {f : Int → Option Int} : ∀ {L : List Rn} {t : List Int}, t.length = 512 → (∀ y ∈ L, ¬ Skip y ∧ y.fin ≤ 512 ∧ ∀ s, y.lba ≤ s → s < y.fin → f s = some (y.phys + (s - y.lba))) → ∀ s, entry (foldT L t) s = if ∃ y ∈ L, y.lba ≤ s ∧ s < y.fin then f s else entry t s
  | [], t, _, _, s => by simp [foldT_nil]
  | x :: L, t, ht, h, s => by
    obtain ⟨h1, h2, h3⟩ := h x (by simp)
    rw [foldT_cons, fold_entry (f := f) (by rw [fold1_len]; exact ht) (fun y hy => h y (by simp [hy])) s, fold1_entry ht h1 s]
    by_cases c : ∃ y ∈ L, y.lba ≤ s ∧ s < y.fin
    · rw [if_pos c, if_pos (by obtain ⟨y, hy, hc⟩ := c; exact ⟨y, by simp [hy], hc⟩)]
    · rw [if_neg c]
      by_cases c2 : x.lba ≤ s ∧ s < x.fin
      · rw [if_pos ⟨c2.1, c2.2, by omega⟩, if_pos ⟨x, by simp, c2⟩, h3 s c2.1 c2.2]
      · rw [if_neg (fun hh => c2 ⟨hh.1, hh.2.1⟩), if_neg]
        rintro ⟨y, hy, hc⟩
        rcases List.mem_cons.1 hy with rfl | hy
        · exact c2 hc
        · exact c ⟨y, hy, hc⟩
/-- The first n blocks' parts. -/
def albL (pages : Int) (l : List Rn) (n : Nat) : List Rn := (List.range n).flatMap (fun b : Nat => movL pages (b : Int) l)
theorem albL_succ (pages : Int) (l : List Rn) (n : Nat) : albL pages l (n + 1) = albL pages l n ++ movL pages (n : Int) l := by
  unfold albL
  rw [List.range_succ, List.flatMap_append]
  simp
theorem albL_mem {pages : Int} {l : List Rn} {n : Nat} {y : Rn} : y ∈ albL pages l n ↔ y ∈ splL pages l ∧ ∃ b : Nat, b < n ∧ y.phys / pages = (b : Int) := by
  unfold albL
  rw [List.mem_flatMap]
  constructor
  · rintro ⟨b, hb, hy⟩
    rw [List.mem_range] at hb
    obtain ⟨h1, h2⟩ := mov_mem.1 hy
    exact ⟨h1, b, hb, h2⟩
  · rintro ⟨h1, b, hb, h2⟩
    exact ⟨b, List.mem_range.2 hb, mov_mem.2 ⟨h1, h2⟩⟩
theorem fold_all {pages : Int} (hp : 1 ≤ pages ∧ pages ≤ 32) {l : List Rn} (hF : Ft13 l) (hin : inP (64 * pages) l = true) : foldR (albL pages l 64) = l := by
  have hp0 : 0 < pages := by omega
  have hsp : ∀ y ∈ splL pages l, y.phys + y.len ≤ 64 * pages ∧ 0 ≤ y.phys ∧ 0 ≤ y.lba ∧ 1 ≤ y.len ∧ y.lba + y.len ≤ 512 := fun y hy => by
    obtain ⟨x, hx, q1, q2, q3, q4, q5⟩ := spl_mem hp0 hy
    have hb := hF.bd hx
    have hi := inP_iff.1 hin x hx
    omega
  refine Form.one (foldR_form _) hF.form (fun s => ?_)
  rw [(foldR_of _).2 s, fold_entry (f := page l) blank_len (fun y hy => ?_) s, blank_entry]
  · by_cases c : ∃ y ∈ albL pages l 64, y.lba ≤ s ∧ s < y.fin
    · rw [if_pos c]
    · rw [if_neg c]
      cases hq : page l s with
      | none => rfl
      | some q =>
        obtain ⟨y, hy, h1, h2⟩ := spl_cov hp0 hF hq
        have hb := hsp y hy
        have hd0 : 0 ≤ y.phys / pages := Int.ediv_nonneg (by omega) (by omega)
        have hd1 : y.phys / pages < 64 := Int.ediv_lt_of_lt_mul (by omega) (by omega)
        exact absurd ⟨y, albL_mem.2 ⟨hy, (y.phys / pages).toNat, by omega, by omega⟩, h1, by unfold Rn.fin; exact h2⟩ c
  · have hy' := (albL_mem.1 hy).1
    have hb := hsp y hy'
    refine ⟨by unfold Skip; omega, by unfold Rn.fin; omega, fun s h1 h2 => spl_page hp0 hF hy' h1 (by unfold Rn.fin at h2; exact h2)⟩
theorem endB_of {l : List Rn} (h : ∀ x ∈ l, x.fin ≤ 512) : endB l = true := by
  unfold endB
  cases hl : l.getLast? with
  | none => rfl
  | some x => exact decide_eq_true (h x (List.mem_of_getLast? hl))
theorem fold_fit (p : List Rn) : Ft13 (foldR p) := ⟨foldR_len p, foldR_form p, fun _ hx => foldR_in hx, fun _ hx => foldR_fin hx⟩
theorem fold_fit13 (p : List Rn) : fit13 (foldR p) = true := by
  unfold fit13
  rw [decide_eq_true (foldR_len p), foldR_formP, endB_of (fun _ hx => foldR_fin hx)]
  rfl
theorem albL_len {pages : Int} {l : List Rn} : ∀ n : Nat, (albL pages l n).length ≤ n * (splL pages l).length
  | 0 => by simp [albL]
  | n + 1 => by
    rw [albL_succ, List.length_append]
    have h1 := albL_len (pages := pages) (l := l) n
    have h2 := movL_len (pages := pages) (b := (n : Int)) (l := l)
    rw [Nat.succ_mul]
    omega
end Tg
end Go.Proofs.Ytkddonmddgfpnab
