/-
  When what pages have of a three is whole, as it is found out page by page.
-/
import Derived.Test.YtginnojbmpnleaaLr
namespace Go.Proofs.Ytginnojbmpnleaa
namespace Tg
/-- Have two pages the same three? -/
def sameP (q p : Pg) : Prop := q.kind = p.kind ∧ q.ep = p.ep ∧ q.gr = p.gr
theorem ah_same {q p : Pg} : (ahB q p = false ∧ ahB p q = false) ↔ sameP q p := by
  unfold ahB sameP
  constructor
  · rintro ⟨h1, h2⟩
    split at h1
    · next e1 =>
      rw [if_pos e1.symm] at h2
      split at h1
      · next e2 =>
        rw [if_pos e2.symm] at h2
        simp at h1 h2
        omega
      · next e2 =>
        rw [if_neg (fun e => e2 e.symm)] at h2
        simp at h1 h2
        omega
    · next e1 =>
      rw [if_neg (fun e => e1 e.symm)] at h2
      simp at h1 h2
      omega
  · rintro ⟨h1, h2, h3⟩
    rw [if_pos h2, if_pos h1, if_pos h2.symm, if_pos h1.symm]
    simp
    omega
theorem whole_page {l : List Pg} {s : St} {q : Pg} (hw : Whole l s) (hq : q ∈ l) (hk : sameK q s) : ∃ i, i < npg s.bytes.length ∧ q.lba = (s.bytes.length : Int) ∧ q.tot = (npg s.bytes.length : Int) ∧ q.ix = (i : Int) ∧ q.pay = payOf s.bytes i := by
  have h1 := (hw.2 (strip q)).2 ⟨q, hq, hk, rfl⟩
  obtain ⟨i, hi, e⟩ := mem_cutL.1 h1
  have e1 := congrArg Pg.lba e
  have e2 := congrArg Pg.tot e
  have e3 := congrArg Pg.ix e
  have e4 := congrArg Pg.pay e
  simp only [pgS, strip] at e1 e2 e3 e4
  exact ⟨i, hi, e1.symm, e2.symm, e3.symm, e4.symm⟩
/-- Nothing of that three is whole. -/
def NoW (l : List Pg) (p : Pg) : Prop := ∀ s, sameK p s → ¬ Whole l s
theorem sameK_of {q p : Pg} {s : St} (h : sameP q p) (hk : sameK p s) : sameK q s := ⟨h.1.trans hk.1, h.2.1.trans hk.2.1, h.2.2.trans hk.2.2⟩
theorem no_lba {l : List Pg} {p : Pg} (hp : p ∈ l) (h : 65536 < p.lba) : NoW l p := fun s hk hw => by
  obtain ⟨i, h1, h2, -⟩ := whole_page hw hp hk
  have := hw.1.len
  omega
theorem no_tot {l : List Pg} {p : Pg} (hp : p ∈ l) (h : p.tot ≠ npI p.lba) : NoW l p := fun s hk hw => by
  obtain ⟨i, h1, h2, h3, -⟩ := whole_page hw hp hk
  apply h
  rw [h2, h3, npI_nat hw.1.len]
theorem no_q {l : List Pg} {p q : Pg} (hp : p ∈ l) (hq : q ∈ l) (hs : sameP q p) (h : q.lba ≠ p.lba ∨ q.tot ≠ p.tot ∨ p.tot ≤ q.ix) : NoW l p := fun s hk hw => by
  obtain ⟨i, h1, h2, h3, h4, -⟩ := whole_page hw hp hk
  obtain ⟨j, g1, g2, g3, g4, -⟩ := whole_page hw hq (sameK_of hs hk)
  omega
theorem no_pay {l : List Pg} {p q q' : Pg} (hq : q ∈ l) (hs : sameP q p) (hq' : q' ∈ l) (hs' : sameP q' p) (hi : q.ix = q'.ix) {j : Nat} (h : q.pay.getD j 0 ≠ q'.pay.getD j 0) : NoW l p := fun s hk hw => by
  obtain ⟨i, h1, h2, h3, h4, h5⟩ := whole_page hw hq (sameK_of hs hk)
  obtain ⟨i', g1, g2, g3, g4, g5⟩ := whole_page hw hq' (sameK_of hs' hk)
  obtain rfl : i = i' := by omega
  rw [h5, g5] at h
  exact h rfl
theorem no_ix {l : List Pg} {p : Pg} (hp : p ∈ l) {k : Nat} (hk1 : (k : Int) < p.tot) (h : ∀ q ∈ l, sameP q p → q.ix ≠ (k : Int)) : NoW l p := fun s hk hw => by
  obtain ⟨i, h1, h2, h3, h4, -⟩ := whole_page hw hp hk
  obtain ⟨q, hq, hks, e⟩ := (hw.2 (pgS s k)).1 (mem_cutL.2 ⟨k, by omega, rfl⟩)
  have e1 := congrArg Pg.ix e
  simp only [pgS, strip] at e1
  exact h q hq ⟨hks.1.trans hk.1.symm, hks.2.1.trans hk.2.1.symm, hks.2.2.trans hk.2.2.symm⟩ e1
theorem no_tail {l : List Pg} {p q : Pg} (hp : p ∈ l) (hq : q ∈ l) (hs : sameP q p) {k j : Nat} (hk1 : q.ix = (k : Int)) (hj : j < 32) (hl : p.lba ≤ ((32 * k + j : Nat) : Int)) (h : q.pay.getD j 0 ≠ 0) : NoW l p := fun s hk hw => by
  obtain ⟨i, h1, h2, h3, h4, h5⟩ := whole_page hw hq (sameK_of hs hk)
  obtain ⟨i', g1, g2, -⟩ := whole_page hw hp hk
  obtain rfl : i = k := by omega
  apply h
  rw [h5, payOf_get _ _ hj]
  have : s.bytes.length ≤ 32 * i + j := by omega
  simp [List.getD, this]
/-- What has been seen of the three: which indexes there are, and their bytes. -/
structure Seen (l : List Pg) (p : Pg) (n : Nat) (hv : Nat → Bool) (bf : Nat → Int) : Prop where
  fits : ∀ q ∈ l, sameP q p → q.lba = p.lba ∧ q.tot = p.tot ∧ q.ix < p.tot
  has : ∀ q ∈ l, sameP q p → ∀ k : Nat, q.ix = (k : Int) → hv k = true ∧ ∀ j, j < 32 → bf (32 * k + j) = q.pay.getD j 0
  back : ∀ k, k < n → hv k = true → ∃ q ∈ l, sameP q p ∧ q.ix = (k : Int)
  byte : ∀ x, 0 ≤ bf x ∧ bf x ≤ 255
theorem Seen.start (p : Pg) (n : Nat) : Seen [] p n (fun _ => false) (fun _ => 0) :=
  ⟨fun q hq => by simp at hq, fun q hq => by simp at hq, (fun k _ h => by simp at h), fun x => by simp⟩
theorem Seen.skip {l : List Pg} {p q : Pg} {n : Nat} {hv : Nat → Bool} {bf : Nat → Int} (h : Seen l p n hv bf) (hq : ¬ sameP q p) : Seen (l ++ [q]) p n hv bf := by
  have key : ∀ x ∈ l ++ [q], sameP x p → x ∈ l := fun x hx hs => by
    rcases List.mem_append.1 hx with h1 | h1
    · exact h1
    · simp at h1; subst h1; exact absurd hs hq
  refine ⟨fun x hx hs => h.fits x (key x hx hs) hs, fun x hx hs => h.has x (key x hx hs) hs, fun k hk hh => ?_, h.byte⟩
  obtain ⟨x, hx, h1⟩ := h.back k hk hh
  exact ⟨x, by simp [hx], h1⟩
/-- The bytes with those of one page laid as far as j. -/
def layB (bf : Nat → Int) (q : Pg) (k j : Nat) (x : Nat) : Int := if 32 * k ≤ x ∧ x < 32 * k + j then q.pay.getD (x - 32 * k) 0 else bf x
theorem Seen.take {l : List Pg} {p q : Pg} {n : Nat} {hv : Nat → Bool} {bf : Nat → Int} (h : Seen l p n hv bf) (hs : sameP q p) (hok : q.Ok) {k : Nat} (hk : q.ix = (k : Int)) (h1 : q.lba = p.lba) (h2 : q.tot = p.tot) (h3 : q.ix < p.tot) (hsame : hv k = true → ∀ j, j < 32 → bf (32 * k + j) = q.pay.getD j 0) :
    Seen (l ++ [q]) p n (fun x => if x = k then true else hv x) (layB bf q k 32) := by
  have hown : ∀ j, j < 32 → layB bf q k 32 (32 * k + j) = q.pay.getD j 0 := fun j hj => by
    unfold layB
    rw [if_pos (by omega), show 32 * k + j - 32 * k = j by omega]
  refine ⟨fun x hx hxs => ?_, fun x hx hxs k' hk' => ?_, fun k' hk' hh => ?_, fun x => ?_⟩
  · rcases List.mem_append.1 hx with h4 | h4
    · exact h.fits x h4 hxs
    · simp at h4; subst h4; exact ⟨h1, h2, h3⟩
  · rcases List.mem_append.1 hx with h4 | h4
    · obtain ⟨g1, g2⟩ := h.has x h4 hxs k' hk'
      refine ⟨by show (if k' = k then true else hv k') = true; split; rfl; exact g1, fun j hj => ?_⟩
      by_cases e : k' = k
      · subst e
        rw [hown j hj, ← g2 j hj, hsame g1 j hj]
      · unfold layB
        rw [if_neg (by omega)]
        exact g2 j hj
    · simp at h4; subst h4
      obtain rfl : k' = k := by omega
      exact ⟨by simp, hown⟩
  · by_cases e : k' = k
    · subst e
      exact ⟨q, by simp, hs, hk⟩
    · simp only [if_neg e] at hh
      obtain ⟨x, hx, h4⟩ := h.back k' hk' hh
      exact ⟨x, by simp [hx], h4⟩
  · unfold layB
    split
    · exact getD_bd hok.pay _
    · exact h.byte x
/-- All is there: the stream. -/
theorem Seen.whole {l : List Pg} {p : Pg} {n L : Nat} {hv : Nat → Bool} {bf : Nat → Int} (h : Seen l p n hv bf) (hpo : p.Ok) (hok : ∀ q ∈ l, q.Ok) (hK : p.kind = 2 ∨ p.kind = 3) (hL : p.lba = (L : Int)) (hL2 : L ≤ 65536) (hn : p.tot = (n : Int)) (hnp : npg L = n) (hall : ∀ k, k < n → hv k = true) (hz : ∀ x, L ≤ x → x < 32 * n → bf x = 0) :
    Whole l ⟨p.kind, p.ep, p.gr, (List.range L).map bf⟩ := by
  have hlen : ((List.range L).map bf).length = L := by simp
  have hget : ∀ x, ((List.range L).map bf).getD x 0 = if x < L then bf x else 0 := fun x => by
    by_cases c : x < L
    · rw [if_pos c]; simp [List.getD, c]
    · rw [if_neg c]; simp [List.getD, c]
  have hpay : ∀ q ∈ l, sameP q p → ∀ k : Nat, k < n → q.ix = (k : Int) → q.pay = payOf ((List.range L).map bf) k := fun q hq hs k hk e => by
    obtain ⟨g1, g2⟩ := h.has q hq hs k e
    refine list_ext (by rw [(hok q hq).len, payOf_len]) (fun j hj => ?_)
    rw [(hok q hq).len] at hj
    rw [payOf_get _ _ hj, hget, ← g2 j hj]
    by_cases c : 32 * k + j < L
    · rw [if_pos c]
    · rw [if_neg c, hz _ (by omega) (by omega)]
  refine ⟨⟨hK, by rw [hlen]; exact hL2, fun x hx => ?_, hpo.ep, hpo.gr⟩, fun q => ?_⟩
  · simp at hx
    obtain ⟨y, -, rfl⟩ := hx
    exact h.byte y
  · rw [mem_cutL, hlen, hnp]
    constructor
    · rintro ⟨k, hk, rfl⟩
      obtain ⟨q, hq, hs, e⟩ := h.back k hk (hall k hk)
      obtain ⟨f1, f2, f3⟩ := h.fits q hq hs
      refine ⟨q, hq, hs, ?_⟩
      unfold strip pgS
      rw [hlen, hnp]
      have hp := hpay q hq hs k hk e
      obtain ⟨s1, s2, s3⟩ := hs
      cases q
      simp only at *
      simp only [Pg.mk.injEq]
      exact ⟨s1, by omega, trivial, s2, s3, e, by omega, hp⟩
    · rintro ⟨q, hq, hs, rfl⟩
      have hs' : sameP q p := hs
      obtain ⟨f1, f2, f3⟩ := h.fits q hq hs'
      obtain ⟨k, hk⟩ := Int.eq_ofNat_of_zero_le (hok q hq).ix.1
      have hkn : k < n := by omega
      have hp := hpay q hq hs' k hkn hk
      refine ⟨k, hkn, ?_⟩
      unfold strip pgS
      rw [hlen, hnp]
      obtain ⟨s1, s2, s3⟩ := hs'
      cases q
      simp only at *
      simp only [Pg.mk.injEq]
      exact ⟨s1.symm, by omega, trivial, s2.symm, s3.symm, hk.symm, by omega, hp.symm⟩
end Tg
end Go.Proofs.Ytginnojbmpnleaa
