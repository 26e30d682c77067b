/-
  The model's own runes are those of the bytes.
-/
import Derived.Test.YtgilagmgepogbaaDoorQm
import Derived.Laws.RangeAny
namespace Go.Proofs.YtgilagmgepogbaaDoor
namespace Qm
open Go

/-- A string's bytes. -/
def bs (s : ByteArray) : List Nat := s.data.toList.map (·.toNat)
theorem bs_len (s : ByteArray) : (bs s).length = s.size := by unfold bs; rw [List.length_map, Array.length_toList]; rfl
theorem bs_get {s : ByteArray} {i : Nat} (h : i < s.size) : (s.get! i).toNat = (bs s).getD i 0 := by
  have h1 : s.get! i = s[i]'h := by simp [ByteArray.get!, getElem!_pos, h]; rfl
  have h2 : i < s.data.size := h
  rw [h1]
  simp only [bs, List.getD, List.getElem?_map, Array.getElem?_toList]
  rw [Array.getElem?_eq_getElem h2]
  rfl
theorem bs_byte (s : ByteArray) : ∀ x ∈ bs s, x < 256 := by
  intro x hx
  simp [bs] at hx
  obtain ⟨b, _, rfl⟩ := hx
  exact b.toNat_lt

/-- The model's step, over what it looks at. -/
def dec (n c d e f : Nat) : Nat × Nat :=
  if c < 128 then (c, 1)
  else if c / 32 = 6 ∧ 1 < n ∧ d / 64 = 2 then (if 128 ≤ c % 32 * 64 + d % 64 then (c % 32 * 64 + d % 64, 2) else (65533, 1))
  else if c / 16 = 14 ∧ (1 < n ∧ d / 64 = 2) ∧ 2 < n ∧ e / 64 = 2 then (if 2048 ≤ c % 16 * 4096 + d % 64 * 64 + e % 64 ∧ valid (c % 16 * 4096 + d % 64 * 64 + e % 64) then (c % 16 * 4096 + d % 64 * 64 + e % 64, 3) else (65533, 1))
  else if c / 8 = 30 ∧ (1 < n ∧ d / 64 = 2) ∧ (2 < n ∧ e / 64 = 2) ∧ 3 < n ∧ f / 64 = 2 then (if 65536 ≤ c % 8 * 262144 + d % 64 * 4096 + e % 64 * 64 + f % 64 ∧ valid (c % 8 * 262144 + d % 64 * 4096 + e % 64 * 64 + f % 64) then (c % 8 * 262144 + d % 64 * 4096 + e % 64 * 64 + f % 64, 4) else (65533, 1))
  else (65533, 1)
def fixed (p : Nat × Nat) : Nat × Nat := if p.2 = 0 then (65533, 1) else p
theorem dec_rune {l : List Nat} (h : l ≠ []) (hb : ∀ x ∈ l, x < 256) : dec l.length (l.getD 0 0) (l.getD 1 0) (l.getD 2 0) (l.getD 3 0) = fixed (rune l) := by
  have key : ∀ c d e f n : Nat, c < 256 → d < 256 → e < 256 → f < 256 → 1 ≤ n → dec n c d e f = fixed (if c < 128 then (c, 1) else if 194 ≤ c ∧ c < 224 ∧ 1 < n ∧ isC d then (64 * (c - 192) + (d - 128), 2) else if 224 ≤ c ∧ c < 240 ∧ 2 < n ∧ isC d ∧ isC e ∧ ok3 (v3 c d e) then (v3 c d e, 3)
      else if 240 ≤ c ∧ c < 245 ∧ 3 < n ∧ isC d ∧ isC e ∧ isC f ∧ ok4 (v4 c d e f) then (v4 c d e f, 4) else (0, 0)) := by
    intro c d e f n hc hd he hf hn
    unfold dec
    by_cases h1 : c < 128
    · rw [if_pos h1, if_pos h1]; rfl
    rw [if_neg h1, if_neg h1]
    by_cases h2 : 194 ≤ c ∧ c < 224 ∧ 1 < n ∧ isC d
    · rw [if_pos h2]
      unfold isC at h2
      rw [if_pos (by omega), if_pos (by omega)]
      rw [show c % 32 * 64 + d % 64 = 64 * (c - 192) + (d - 128) by omega]; rfl
    rw [if_neg h2]
    by_cases h2' : c / 32 = 6 ∧ 1 < n ∧ d / 64 = 2
    · rw [if_pos h2', if_neg (by unfold isC at h2; omega), if_neg (by unfold isC at *; omega), if_neg (by unfold isC at *; omega)]; rfl
    rw [if_neg h2']
    by_cases h3 : 224 ≤ c ∧ c < 240 ∧ 2 < n ∧ isC d ∧ isC e ∧ ok3 (v3 c d e)
    · rw [if_pos h3]
      obtain ⟨a1, a2, a3, a4, a5, a6⟩ := h3
      unfold isC at a4 a5
      have ev : c % 16 * 4096 + d % 64 * 64 + e % 64 = v3 c d e := by unfold v3; omega
      have eb : v3 c d e < 65536 := by unfold v3; omega
      rw [if_pos (by omega), ev]
      unfold ok3 at a6
      rw [if_pos (by unfold valid; omega)]; rfl
    rw [if_neg h3]
    by_cases h3' : c / 16 = 14 ∧ (1 < n ∧ d / 64 = 2) ∧ 2 < n ∧ e / 64 = 2
    · have ev : c % 16 * 4096 + d % 64 * 64 + e % 64 = v3 c d e := by unfold v3; omega
      rw [if_pos h3', ev, if_neg, if_neg (by unfold isC at *; omega)]
      · rfl
      · intro hh
        apply h3
        refine ⟨by omega, by omega, by omega, by unfold isC; omega, by unfold isC; omega, ?_⟩
        have := hh.2
        unfold valid at this
        unfold ok3
        omega
    rw [if_neg h3']
    by_cases h4 : 240 ≤ c ∧ c < 245 ∧ 3 < n ∧ isC d ∧ isC e ∧ isC f ∧ ok4 (v4 c d e f)
    · rw [if_pos h4]
      obtain ⟨a1, a2, a3, a4, a5, a6, a7⟩ := h4
      unfold isC at a4 a5 a6
      have ev : c % 8 * 262144 + d % 64 * 4096 + e % 64 * 64 + f % 64 = v4 c d e f := by unfold v4; omega
      rw [if_pos (by omega), ev]
      unfold ok4 at a7
      rw [if_pos (by unfold valid; omega)]; rfl
    rw [if_neg h4]
    by_cases h4' : c / 8 = 30 ∧ (1 < n ∧ d / 64 = 2) ∧ (2 < n ∧ e / 64 = 2) ∧ 3 < n ∧ f / 64 = 2
    · have ev : c % 8 * 262144 + d % 64 * 4096 + e % 64 * 64 + f % 64 = v4 c d e f := by unfold v4; omega
      rw [if_pos h4', ev, if_neg]
      · rfl
      · intro hh
        apply h4
        have h5 : c < 245 := by
          have := hh.2
          unfold valid v4 at this
          omega
        refine ⟨by omega, h5, by omega, by unfold isC; omega, by unfold isC; omega, by unfold isC; omega, ?_⟩
        have := hh.2
        unfold valid at this
        unfold ok4
        omega
    rw [if_neg h4']; rfl
  match l, h with
  | [c], _ =>
    have hc := hb c (by simp)
    rw [show ([c] : List Nat).getD 0 0 = c from rfl, show ([c] : List Nat).getD 1 0 = 0 from rfl, show ([c] : List Nat).getD 2 0 = 0 from rfl, show ([c] : List Nat).getD 3 0 = 0 from rfl, key c 0 0 0 _ hc (by omega) (by omega) (by omega) (by simp)]
    congr 1
    simp only [rune, List.length_cons, List.length_nil]
    by_cases h1 : c < 128
    · rw [if_pos h1, if_pos h1]
    · rw [if_neg h1, if_neg h1, if_neg (by omega), if_neg (by omega), if_neg (by omega)]
  | [c, d], _ =>
    have hc := hb c (by simp)
    have hd := hb d (by simp)
    rw [show ([c, d] : List Nat).getD 0 0 = c from rfl, show ([c, d] : List Nat).getD 1 0 = d from rfl, show ([c, d] : List Nat).getD 2 0 = 0 from rfl, show ([c, d] : List Nat).getD 3 0 = 0 from rfl, key c d 0 0 _ hc hd (by omega) (by omega) (by simp)]
    congr 1
    simp only [rune, List.length_cons, List.length_nil]
    by_cases h1 : c < 128
    · rw [if_pos h1, if_pos h1]
    rw [if_neg h1, if_neg h1]
    by_cases h2 : 194 ≤ c ∧ c < 224 ∧ isC d
    · rw [if_pos h2, if_pos ⟨h2.1, h2.2.1, by omega, h2.2.2⟩]
    · rw [if_neg h2, if_neg (fun hh => h2 ⟨hh.1, hh.2.1, hh.2.2.2⟩), if_neg (by omega), if_neg (by omega)]
  | [c, d, e], _ =>
    have hc := hb c (by simp)
    have hd := hb d (by simp)
    have he := hb e (by simp)
    rw [show ([c, d, e] : List Nat).getD 0 0 = c from rfl, show ([c, d, e] : List Nat).getD 1 0 = d from rfl, show ([c, d, e] : List Nat).getD 2 0 = e from rfl, show ([c, d, e] : List Nat).getD 3 0 = 0 from rfl, key c d e 0 _ hc hd he (by omega) (by simp)]
    congr 1
    simp only [rune, List.length_cons, List.length_nil]
    by_cases h1 : c < 128
    · rw [if_pos h1, if_pos h1]
    rw [if_neg h1, if_neg h1]
    by_cases h2 : 194 ≤ c ∧ c < 224 ∧ isC d
    · rw [if_pos h2, if_pos ⟨h2.1, h2.2.1, by omega, h2.2.2⟩]
    rw [if_neg h2, if_neg (fun hh => h2 ⟨hh.1, hh.2.1, hh.2.2.2⟩)]
    by_cases h3 : 224 ≤ c ∧ c < 240 ∧ isC d ∧ isC e ∧ ok3 (v3 c d e)
    · rw [if_pos h3, if_pos ⟨h3.1, h3.2.1, by omega, h3.2.2⟩]
    · rw [if_neg h3, if_neg (fun hh => h3 ⟨hh.1, hh.2.1, hh.2.2.2⟩), if_neg (by omega)]
  | c :: d :: e :: f :: r, _ =>
    have hc := hb c (by simp)
    have hd := hb d (by simp)
    have he := hb e (by simp)
    have hf := hb f (by simp)
    have hn : 3 < (c :: d :: e :: f :: r).length := by simp
    rw [show (c :: d :: e :: f :: r).getD 0 0 = c from rfl, show (c :: d :: e :: f :: r).getD 1 0 = d from rfl, show (c :: d :: e :: f :: r).getD 2 0 = e from rfl, show (c :: d :: e :: f :: r).getD 3 0 = f from rfl, key c d e f _ hc hd he hf (by omega)]
    congr 1
    generalize (c :: d :: e :: f :: r).length = n at *
    simp only [rune]
    by_cases h1 : c < 128
    · rw [if_pos h1, if_pos h1]
    rw [if_neg h1, if_neg h1]
    by_cases h2 : 194 ≤ c ∧ c < 224 ∧ isC d
    · rw [if_pos h2, if_pos ⟨h2.1, h2.2.1, by omega, h2.2.2⟩]
    rw [if_neg h2, if_neg (fun hh => h2 ⟨hh.1, hh.2.1, hh.2.2.2⟩)]
    by_cases h3 : 224 ≤ c ∧ c < 240 ∧ isC d ∧ isC e ∧ ok3 (v3 c d e)
    · rw [if_pos h3, if_pos ⟨h3.1, h3.2.1, by omega, h3.2.2⟩]
    rw [if_neg h3, if_neg (fun hh => h3 ⟨hh.1, hh.2.1, hh.2.2.2⟩)]
    by_cases h4 : 240 ≤ c ∧ c < 245 ∧ isC d ∧ isC e ∧ isC f ∧ ok4 (v4 c d e f)
    · rw [if_pos h4, if_pos ⟨h4.1, h4.2.1, hn, h4.2.2⟩]
    · rw [if_neg h4, if_neg (fun hh => h4 ⟨hh.1, hh.2.1, hh.2.2.2⟩)]

theorem drop_getD (l : List Nat) (i k : Nat) : (l.drop i).getD k 0 = l.getD (i + k) 0 := by simp [List.getD]
theorem valid_eq (v : Nat) : Utf8.valid (v : Int) = decide (valid v) := by
  by_cases h : valid v
  · rw [decide_eq_true h]
    unfold valid at h
    unfold Utf8.valid
    rw [Bool.or_eq_true, Bool.and_eq_true, Bool.and_eq_true, decide_eq_true_eq, decide_eq_true_eq, decide_eq_true_eq, decide_eq_true_eq]
    omega
  · rw [decide_eq_false h]
    unfold valid at h
    rw [Bool.eq_false_iff]
    unfold Utf8.valid
    intro hh
    rw [Bool.or_eq_true, Bool.and_eq_true, Bool.and_eq_true, decide_eq_true_eq, decide_eq_true_eq, decide_eq_true_eq, decide_eq_true_eq] at hh
    omega
/-- The model's own step at a place of a string. -/
theorem decode_eq (s : ByteArray) (i : Nat) (h : i < s.size) : Utf8.decode s i = fixed (rune ((bs s).drop i)) := by
  have hl : ((bs s).drop i).length = s.size - i := by rw [List.length_drop, bs_len]
  have hne : (bs s).drop i ≠ [] := fun e => by rw [e] at hl; simp at hl; omega
  rw [← dec_rune hne (fun x hx => bs_byte s x (List.mem_of_mem_drop hx)), hl]
  simp only [drop_getD]
  have e0 : (s.get! (i + 0)).toNat = (bs s).getD (i + 0) 0 := bs_get (by omega)
  have hk : ∀ k, i + k < s.size → (s.get! (i + k)).toNat = (bs s).getD (i + k) 0 := fun k h => bs_get h
  unfold Utf8.decode dec
  simp only [e0, valid_eq]
  generalize (bs s).getD (i + 0) 0 = c
  by_cases h1 : i + 1 < s.size
  · rw [hk 1 h1]
    by_cases h2 : i + 2 < s.size
    · rw [hk 2 h2]
      by_cases h3 : i + 3 < s.size
      · rw [hk 3 h3]
        generalize (bs s).getD (i + 1) 0 = d
        generalize (bs s).getD (i + 2) 0 = e
        generalize (bs s).getD (i + 3) 0 = f
        have q1 : 1 < s.size - i := by omega
        have q2 : 2 < s.size - i := by omega
        have q3 : 3 < s.size - i := by omega
        simp [h1, h2, h3, q1, q2, q3, Utf8.runeError, and_assoc]
      · have q1 : 1 < s.size - i := by omega
        have q2 : 2 < s.size - i := by omega
        have q3 : ¬ 3 < s.size - i := by omega
        generalize (bs s).getD (i + 1) 0 = d
        generalize (bs s).getD (i + 2) 0 = e
        simp [h1, h2, h3, q1, q2, q3, Utf8.runeError, and_assoc]
    · have h3 : ¬ i + 3 < s.size := by omega
      have q1 : 1 < s.size - i := by omega
      have q2 : ¬ 2 < s.size - i := by omega
      have q3 : ¬ 3 < s.size - i := by omega
      generalize (bs s).getD (i + 1) 0 = d
      simp [h1, h2, h3, q1, q2, q3, Utf8.runeError]
  · have h2 : ¬ i + 2 < s.size := by omega
    have h3 : ¬ i + 3 < s.size := by omega
    have q1 : ¬ 1 < s.size - i := by omega
    have q2 : ¬ 2 < s.size - i := by omega
    have q3 : ¬ 3 < s.size - i := by omega
    simp [h1, h2, h3, q1, q2, q3, Utf8.runeError]
end Qm
end Go.Proofs.YtgilagmgepogbaaDoor
