/-
  The document's own Rune (stage 5's).
-/
import Derived.Test.YtjgnajopomadpaaGreatOb
import Derived.Laws.RangeAny
import Derived.WalkKit
import Derived.ProofKit
import Derived.OpenShut
import Derived.ShutString
import Derived.ChangeOld
import Derived.Below
import Derived.Deep.OwnRows
import Derived.Laws.IdiomCopy
import Derived.Lib.SlBytesConst
import Derived.Lib.ConvBytes
import Derived.Laws.BytesArg
import Derived.SizedLaws
import Derived.ArgAppend
namespace Go.Proofs.YtjgnajopomadpaaGreat
open Go.ChangeShapes Go.WideShapes Go.ChangeAt Go.RowKit
namespace Go
end Go
namespace Qm
end Qm
namespace Qm
def isC (d : Nat) : Prop := 128 ≤ d ∧ d ≤ 191
instance (d : Nat) : Decidable (isC d) := by unfold isC; infer_instance
def v3 (c d e : Nat) : Nat := 4096 * (c - 224) + 64 * (d - 128) + (e - 128)
def v4 (c d e f : Nat) : Nat := 262144 * (c - 240) + 4096 * (d - 128) + 64 * (e - 128) + (f - 128)
def ok3 (v : Nat) : Prop := 2048 ≤ v ∧ ¬ (55296 ≤ v ∧ v < 57344)
instance (v : Nat) : Decidable (ok3 v) := by unfold ok3; infer_instance
def ok4 (v : Nat) : Prop := 65536 ≤ v ∧ v ≤ 1114111
instance (v : Nat) : Decidable (ok4 v) := by unfold ok4; infer_instance
def rune : List Nat → Nat × Nat
  | [] => (0, 0)
  | [c] => if c < 128 then (c, 1) else (0, 0)
  | [c, d] => if c < 128 then (c, 1) else if 194 ≤ c ∧ c < 224 ∧ isC d then (64 * (c - 192) + (d - 128), 2) else (0, 0)
  | [c, d, e] => if c < 128 then (c, 1) else if 194 ≤ c ∧ c < 224 ∧ isC d then (64 * (c - 192) + (d - 128), 2) else if 224 ≤ c ∧ c < 240 ∧ isC d ∧ isC e ∧ ok3 (v3 c d e) then (v3 c d e, 3) else (0, 0)
  | c :: d :: e :: f :: _ => if c < 128 then (c, 1) else if 194 ≤ c ∧ c < 224 ∧ isC d then (64 * (c - 192) + (d - 128), 2) else if 224 ≤ c ∧ c < 240 ∧ isC d ∧ isC e ∧ ok3 (v3 c d e) then (v3 c d e, 3)
      else if 240 ≤ c ∧ c < 245 ∧ isC d ∧ isC e ∧ isC f ∧ ok4 (v4 c d e f) then (v4 c d e f, 4) else (0, 0)
def enc (v : Nat) : List Nat :=
  if v < 128 then [v] else if v < 2048 then [192 + v / 64, 128 + v % 64] else if v < 65536 then [224 + v / 4096, 128 + v / 64 % 64, 128 + v % 64]
  else [240 + v / 262144, 128 + v / 4096 % 64, 128 + v / 64 % 64, 128 + v % 64]
def valid (v : Nat) : Prop := v < 55296 ∨ (57344 ≤ v ∧ v ≤ 1114111)
instance (v : Nat) : Decidable (valid v) := by unfold valid; infer_instance
theorem rune1 {c : Nat} {r : List Nat} (h : c < 128) : rune (c :: r) = (c, 1) := by
  match r with
  | [] => simp [rune, h]
  | [d] => simp [rune, h]
  | [d, e] => simp [rune, h]
  | d :: e :: f :: _ => simp [rune, h]
theorem rune2 {c d : Nat} {r : List Nat} (h : 194 ≤ c ∧ c < 224 ∧ isC d) : rune (c :: d :: r) = (64 * (c - 192) + (d - 128), 2) := by
  have h0 : ¬ c < 128 := by omega
  match r with
  | [] => simp only [rune]; rw [if_neg h0, if_pos h]
  | [e] => simp only [rune]; rw [if_neg h0, if_pos h]
  | e :: f :: _ => simp only [rune]; rw [if_neg h0, if_pos h]
theorem rune3 {c d e : Nat} {r : List Nat} (h : 224 ≤ c ∧ c < 240 ∧ isC d ∧ isC e ∧ ok3 (v3 c d e)) : rune (c :: d :: e :: r) = (v3 c d e, 3) := by
  have h0 : ¬ c < 128 := by omega
  have h1 : ¬ (194 ≤ c ∧ c < 224 ∧ isC d) := by omega
  match r with
  | [] => simp only [rune]; rw [if_neg h0, if_neg h1, if_pos h]
  | f :: _ => simp only [rune]; rw [if_neg h0, if_neg h1, if_pos h]
theorem rune4 {c d e f : Nat} {r : List Nat} (h : 240 ≤ c ∧ c < 245 ∧ isC d ∧ isC e ∧ isC f ∧ ok4 (v4 c d e f)) : rune (c :: d :: e :: f :: r) = (v4 c d e f, 4) := by
  have h0 : ¬ c < 128 := by omega
  have h1 : ¬ (194 ≤ c ∧ c < 224 ∧ isC d) := by omega
  have h2 : ¬ (224 ≤ c ∧ c < 240 ∧ isC d ∧ isC e ∧ ok3 (v3 c d e)) := by omega
  simp only [rune]; rw [if_neg h0, if_neg h1, if_neg h2, if_pos h]
theorem rune_cases (l : List Nat) : ((rune l).2 = 0 ∧ (rune l).1 = 0) ∨ (∃ c r, l = c :: r ∧ c < 128 ∧ rune l = (c, 1)) ∨
    (∃ c d r, l = c :: d :: r ∧ (194 ≤ c ∧ c < 224 ∧ isC d) ∧ rune l = (64 * (c - 192) + (d - 128), 2)) ∨
    (∃ c d e r, l = c :: d :: e :: r ∧ (224 ≤ c ∧ c < 240 ∧ isC d ∧ isC e ∧ ok3 (v3 c d e)) ∧ rune l = (v3 c d e, 3)) ∨
    (∃ c d e f r, l = c :: d :: e :: f :: r ∧ (240 ≤ c ∧ c < 245 ∧ isC d ∧ isC e ∧ isC f ∧ ok4 (v4 c d e f)) ∧ rune l = (v4 c d e f, 4)) := by
  match l with
  | [] => left; simp [rune]
  | [c] =>
    by_cases h : c < 128
    · exact Or.inr (Or.inl ⟨c, [], rfl, h, rune1 h⟩)
    · left; simp [rune, h]
  | [c, d] =>
    by_cases h : c < 128
    · exact Or.inr (Or.inl ⟨c, _, rfl, h, rune1 h⟩)
    · by_cases h2 : 194 ≤ c ∧ c < 224 ∧ isC d
      · exact Or.inr (Or.inr (Or.inl ⟨c, d, _, rfl, h2, rune2 h2⟩))
      · left; simp only [rune]; rw [if_neg h, if_neg h2]; exact ⟨rfl, rfl⟩
  | [c, d, e] =>
    by_cases h : c < 128
    · exact Or.inr (Or.inl ⟨c, _, rfl, h, rune1 h⟩)
    · by_cases h2 : 194 ≤ c ∧ c < 224 ∧ isC d
      · exact Or.inr (Or.inr (Or.inl ⟨c, d, _, rfl, h2, rune2 h2⟩))
      · by_cases h3 : 224 ≤ c ∧ c < 240 ∧ isC d ∧ isC e ∧ ok3 (v3 c d e)
        · exact Or.inr (Or.inr (Or.inr (Or.inl ⟨c, d, e, _, rfl, h3, rune3 h3⟩)))
        · left; simp only [rune]; rw [if_neg h, if_neg h2, if_neg h3]; exact ⟨rfl, rfl⟩
  | c :: d :: e :: f :: r =>
    by_cases h : c < 128
    · exact Or.inr (Or.inl ⟨c, _, rfl, h, rune1 h⟩)
    · by_cases h2 : 194 ≤ c ∧ c < 224 ∧ isC d
      · exact Or.inr (Or.inr (Or.inl ⟨c, d, _, rfl, h2, rune2 h2⟩))
      · by_cases h3 : 224 ≤ c ∧ c < 240 ∧ isC d ∧ isC e ∧ ok3 (v3 c d e)
        · exact Or.inr (Or.inr (Or.inr (Or.inl ⟨c, d, e, _, rfl, h3, rune3 h3⟩)))
        · by_cases h4 : 240 ≤ c ∧ c < 245 ∧ isC d ∧ isC e ∧ isC f ∧ ok4 (v4 c d e f)
          · exact Or.inr (Or.inr (Or.inr (Or.inr ⟨c, d, e, f, r, rfl, h4, rune4 h4⟩)))
          · left; simp only [rune]; rw [if_neg h, if_neg h2, if_neg h3, if_neg h4]; exact ⟨rfl, rfl⟩
theorem rune_enc {v : Nat} (h : valid v) (r : List Nat) : rune (enc v ++ r) = (v, (enc v).length) := by
  unfold valid at h
  unfold enc
  by_cases h1 : v < 128
  · rw [if_pos h1]; exact rune1 h1
  · rw [if_neg h1]
    by_cases h2 : v < 2048
    · rw [if_pos h2]
      show rune (_ :: _ :: r) = _
      rw [rune2 (by unfold isC; omega)]
      simp; omega
    · rw [if_neg h2]
      by_cases h3 : v < 65536
      · rw [if_pos h3]
        show rune (_ :: _ :: _ :: r) = _
        have e : v3 (224 + v / 4096) (128 + v / 64 % 64) (128 + v % 64) = v := by unfold v3; omega
        rw [rune3 (by rw [e]; unfold isC ok3; omega), e]; rfl
      · rw [if_neg h3]
        show rune (_ :: _ :: _ :: _ :: r) = _
        have e : v4 (240 + v / 262144) (128 + v / 4096 % 64) (128 + v / 64 % 64) (128 + v % 64) = v := by unfold v4; omega
        rw [rune4 (by rw [e]; unfold isC ok4; omega), e]; rfl
theorem enc_rune {l : List Nat} (h : (rune l).2 ≠ 0) : valid (rune l).1 ∧ ∃ r, l = enc (rune l).1 ++ r ∧ (rune l).2 = (enc (rune l).1).length := by
  rcases rune_cases l with ⟨h0, _⟩ | ⟨c, r, rfl, hc, e⟩ | ⟨c, d, r, rfl, hc, e⟩ | ⟨c, d, e', r, rfl, hc, e⟩ | ⟨c, d, e', f, r, rfl, hc, e⟩
  · exact absurd h0 h
  · rw [e]
    refine ⟨by unfold valid; show c < 55296 ∨ _; omega, r, ?_⟩
    have : enc c = [c] := by unfold enc; rw [if_pos hc]
    show c :: r = enc c ++ r ∧ 1 = (enc c).length
    rw [this]; exact ⟨rfl, rfl⟩
  · rw [e]
    unfold isC at hc
    refine ⟨by unfold valid; show 64 * (c - 192) + (d - 128) < 55296 ∨ _; omega, r, ?_⟩
    have : enc (64 * (c - 192) + (d - 128)) = [c, d] := by
      unfold enc
      rw [if_neg (by omega), if_pos (by omega)]
      simp only [List.cons.injEq, and_true]
      omega
    show c :: d :: r = enc (64 * (c - 192) + (d - 128)) ++ r ∧ 2 = (enc (64 * (c - 192) + (d - 128))).length
    rw [this]; exact ⟨rfl, rfl⟩
  · rw [e]
    obtain ⟨h1, h2, h3, h4, h5⟩ := hc
    unfold isC at h3 h4
    have hb : v3 c d e' < 65536 := by unfold v3; omega
    unfold ok3 at h5
    refine ⟨by unfold valid; show v3 c d e' < 55296 ∨ _; omega, r, ?_⟩
    have : enc (v3 c d e') = [c, d, e'] := by
      unfold enc
      rw [if_neg (by omega), if_neg (by omega), if_pos hb]
      unfold v3
      simp only [List.cons.injEq, and_true]
      omega
    show c :: d :: e' :: r = enc (v3 c d e') ++ r ∧ 3 = (enc (v3 c d e')).length
    rw [this]; exact ⟨rfl, rfl⟩
  · rw [e]
    obtain ⟨h1, h2, h3, h4, h5, h6⟩ := hc
    unfold isC at h3 h4 h5
    unfold ok4 at h6
    refine ⟨by unfold valid; show v4 c d e' f < 55296 ∨ _; omega, r, ?_⟩
    have : enc (v4 c d e' f) = [c, d, e', f] := by
      unfold enc
      rw [if_neg (by omega), if_neg (by omega), if_neg (by omega)]
      unfold v4
      simp only [List.cons.injEq, and_true]
      omega
    show c :: d :: e' :: f :: r = enc (v4 c d e' f) ++ r ∧ 4 = (enc (v4 c d e' f)).length
    rw [this]; exact ⟨rfl, rfl⟩
theorem enc_len (v : Nat) : 1 ≤ (enc v).length ∧ (enc v).length ≤ 4 := by
  unfold enc
  by_cases h1 : v < 128
  · simp [h1]
  · by_cases h2 : v < 2048
    · simp [h1, h2]
    · by_cases h3 : v < 65536
      · simp [h1, h2, h3]
      · simp [h1, h2, h3]
theorem rune_front {l r : List Nat} (h : (rune l).2 ≠ 0) : rune (l ++ r) = rune l := by
  obtain ⟨hv, q, e, hl⟩ := enc_rune h
  have h1 := rune_enc hv (q ++ r)
  rw [← List.append_assoc, ← e] at h1
  rw [h1, ← hl]
theorem rune_take {l : List Nat} {k : Nat} (h : (rune l).2 ≠ 0) (hk : (rune l).2 ≤ k) : rune (l.take k) = rune l := by
  obtain ⟨hv, q, e, hl⟩ := enc_rune h
  have h1 : l.take k = enc (rune l).1 ++ q.take (k - (enc (rune l).1).length) := by
    conv => lhs; rw [e]
    rw [List.take_append, List.take_of_length_le (by omega)]
  rw [h1, rune_enc hv, ← hl]
theorem rune_none_take {l : List Nat} {k : Nat} (h : (rune l).2 = 0) : (rune (l.take k)).2 = 0 := by
  refine Classical.byContradiction fun h1 => ?_
  have := rune_front (r := l.drop k) h1
  rw [List.take_append_drop] at this
  rw [this] at h
  exact h1 h
theorem rune_len {l : List Nat} : (rune l).2 ≤ l.length := by
  by_cases h : (rune l).2 = 0
  · omega
  · obtain ⟨_, q, e, hl⟩ := enc_rune h
    have := congrArg List.length e
    rw [List.length_append] at this
    omega
theorem rune_four {l : List Nat} : (rune l).2 ≤ 4 := by
  by_cases h : (rune l).2 = 0
  · omega
  · obtain ⟨_, q, e, hl⟩ := enc_rune h
    have := enc_len (rune l).1
    omega
open Go in
def bs (s : ByteArray) : List Nat := s.data.toList.map (·.toNat)
open Go in
theorem bs_len (s : ByteArray) : (bs s).length = s.size := by unfold bs; rw [List.length_map, Array.length_toList]; rfl
open Go in
theorem bs_get {s : ByteArray} {i : Nat} (h : i < s.size) : (s.get! i).toNat = (bs s).getD i 0 := by
  have h1 : s.get! i = s[i]'h := by simp [ByteArray.get!, getElem!_pos, h]; rfl
  have h2 : i < s.data.size := h
  rw [h1]
  simp only [bs, List.getD, List.getElem?_map, Array.getElem?_toList]
  rw [Array.getElem?_eq_getElem h2]
  rfl
open Go in
theorem bs_byte (s : ByteArray) : ∀ x ∈ bs s, x < 256 := by
  intro x hx
  simp [bs] at hx
  obtain ⟨b, _, rfl⟩ := hx
  exact b.toNat_lt
end Qm
namespace Tg
open Qm in
theorem bs_at {s : ByteArray} {k : Nat} (h : k < s.size) : (s[k]'h).toNat = (bs s).getD k 0 := by
  have h1 : s.get! k = s[k]'h := by simp [ByteArray.get!, getElem!_pos, h]; rfl
  rw [← h1]; exact bs_get h
open Qm in
theorem bs_lt (s : ByteArray) (k : Nat) : (bs s).getD k 0 < 256 := by
  by_cases h : k < (bs s).length
  · have : (bs s).getD k 0 = (bs s)[k] := by simp [List.getD, h]
    rw [this]; exact bs_byte s _ (List.getElem_mem h)
  · have : (bs s).getD k 0 = 0 := by simp [List.getD, h]
    omega
open Qm in
theorem rune_zero {l : List Nat} (h1 : ¬ (1 ≤ l.length ∧ l.getD 0 0 < 128)) (h2 : ¬ (2 ≤ l.length ∧ 194 ≤ l.getD 0 0 ∧ l.getD 0 0 < 224 ∧ isC (l.getD 1 0)))
    (h3 : ¬ (3 ≤ l.length ∧ 224 ≤ l.getD 0 0 ∧ l.getD 0 0 < 240 ∧ isC (l.getD 1 0) ∧ isC (l.getD 2 0) ∧ ok3 (v3 (l.getD 0 0) (l.getD 1 0) (l.getD 2 0))))
    (h4 : ¬ (4 ≤ l.length ∧ 240 ≤ l.getD 0 0 ∧ l.getD 0 0 < 245 ∧ isC (l.getD 1 0) ∧ isC (l.getD 2 0) ∧ isC (l.getD 3 0) ∧ ok4 (v4 (l.getD 0 0) (l.getD 1 0) (l.getD 2 0) (l.getD 3 0)))) : rune l = (0, 0) := by
  rcases rune_cases l with ⟨a, b⟩ | ⟨c, r, rfl, hc, e⟩ | ⟨c, d, r, rfl, hc, e⟩ | ⟨c, d, e', r, rfl, hc, e⟩ | ⟨c, d, e', f, r, rfl, hc, e⟩
  · exact Prod.ext b a
  · exact absurd ⟨by simp, hc⟩ h1
  · exact absurd ⟨by simp, hc⟩ h2
  · exact absurd ⟨by simp, hc⟩ h3
  · exact absurd ⟨by simp, hc⟩ h4
open Qm in
theorem rune_is1 {l : List Nat} (h : 1 ≤ l.length ∧ l.getD 0 0 < 128) : rune l = (l.getD 0 0, 1) := by
  match l, h with
  | c :: r, h => exact rune1 h.2
open Qm in
theorem rune_is2 {l : List Nat} (h : 2 ≤ l.length ∧ 194 ≤ l.getD 0 0 ∧ l.getD 0 0 < 224 ∧ isC (l.getD 1 0)) : rune l = (64 * (l.getD 0 0 - 192) + (l.getD 1 0 - 128), 2) := by
  match l, h with
  | [c], h => simp at h
  | c :: d :: r, h => exact rune2 h.2
open Qm in
theorem rune_is3 {l : List Nat} (h : 3 ≤ l.length ∧ 224 ≤ l.getD 0 0 ∧ l.getD 0 0 < 240 ∧ isC (l.getD 1 0) ∧ isC (l.getD 2 0) ∧ ok3 (v3 (l.getD 0 0) (l.getD 1 0) (l.getD 2 0))) : rune l = (v3 (l.getD 0 0) (l.getD 1 0) (l.getD 2 0), 3) := by
  match l, h with
  | [c], h => simp at h
  | [c, d], h => simp at h
  | c :: d :: e :: r, h => exact rune3 h.2
open Qm in
theorem rune_is4 {l : List Nat} (h : 4 ≤ l.length ∧ 240 ≤ l.getD 0 0 ∧ l.getD 0 0 < 245 ∧ isC (l.getD 1 0) ∧ isC (l.getD 2 0) ∧ isC (l.getD 3 0) ∧ ok4 (v4 (l.getD 0 0) (l.getD 1 0) (l.getD 2 0) (l.getD 3 0))) : rune l = (v4 (l.getD 0 0) (l.getD 1 0) (l.getD 2 0) (l.getD 3 0), 4) := by
  match l, h with
  | [c], h => simp at h
  | [c, d], h => simp at h
  | [c, d, e], h => simp at h
  | c :: d :: e :: f :: r, h => exact rune4 h.2
open Qm in
def acc (l : List Nat) (v0 : Nat) : Nat → Nat
  | 0 => v0
  | k + 1 => if k = 0 then v0 else 64 * acc l v0 k + (l.getD k 0 - 128)
open Qm in
theorem acc_v3 (l : List Nat) : acc l (l.getD 0 0 - 224) 3 = v3 (l.getD 0 0) (l.getD 1 0) (l.getD 2 0) := by
  show 64 * (64 * (l.getD 0 0 - 224) + (l.getD 1 0 - 128)) + (l.getD 2 0 - 128) = _
  unfold v3
  omega
open Qm in
theorem acc_v4 (l : List Nat) : acc l (l.getD 0 0 - 240) 4 = v4 (l.getD 0 0) (l.getD 1 0) (l.getD 2 0) (l.getD 3 0) := by
  show 64 * (64 * (64 * (l.getD 0 0 - 240) + (l.getD 1 0 - 128)) + (l.getD 2 0 - 128)) + (l.getD 3 0 - 128) = _
  unfold v4
  omega
open Qm in
theorem acc_bd {l : List Nat} {v0 : Nat} (h0 : v0 ≤ 31) (hl : ∀ k, l.getD k 0 < 256) : ∀ k, k ≤ 4 → acc l v0 k ≤ 100 * 130 ^ k
  | 0, _ => by show v0 ≤ _; omega
  | k + 1, hk => by
    have ih := acc_bd h0 hl k (by omega)
    have := hl k
    have hp : 1 ≤ 130 ^ k := Nat.pow_pos (by omega)
    unfold acc
    rw [Nat.pow_succ]
    split <;> omega
open Qm in
set_option maxRecDepth 100000 in
set_option maxHeartbeats 2000000 in
theorem rrune_2 {s : ByteArray} (hs : s.size ≤ 9223372036854775807) (hc1 : 194 ≤ (bs s).getD 0 0) (hc2 : (bs s).getD 0 0 < 224) (hn : 1 ≤ s.size) (w : World) :
    Calls Tryz.prog 39 #[.string s] w fun e w' => e = .returned (.tuple #[.int .i64 (rune (bs s)).1, .int .i64 (rune (bs s)).2]) ∧ w' = w := by
  have hp : 0 < s.size := hn
  have a0 : (s[0]'hp).toNat = (bs s).getD 0 0 := bs_at hp
  have hlen := bs_len s
  have hb := bs_lt s
  have HL : RowKit.Hid ((bs s).length = s.size) := hlen
  have HI : RowKit.Hid (∀ k (h : k < s.size), (s[k]'h).toNat = (bs s).getD k 0) := fun k h => bs_at h
  have h0' : ((s.size : Int) == 0) = false := by rw [beq_eq_false_iff_ne]; omega
  have HB : RowKit.Hid (∀ k, (bs s).getD k 0 < 256) := hb
  have HZ : RowKit.Hid (¬ (2 ≤ s.size ∧ (∀ j, 1 ≤ j → j < 2 → isC ((bs s).getD j 0)) ∧ True) → rune (bs s) = (0, 0)) := fun h => rune_zero (by omega) (fun q => h ⟨by omega, fun j j1 j2 => (show j = 1 by omega) ▸ q.2.2.2, trivial⟩) (by omega) (by omega)
  have HY : RowKit.Hid (2 ≤ s.size → (∀ j, 1 ≤ j → j < 2 → isC ((bs s).getD j 0)) → True → rune (bs s) = (acc (bs s) ((bs s).getD 0 0 - 192) 2, 2)) := fun h1 h2 h3 => by
    have q1 := h2 1 (by omega) (by omega)
    rw [rune_is2 ⟨by omega, hc1, hc2, q1⟩]; rfl
  clear hlen hb
  generalize hl : bs s = l at *
  clear hl
  obtain ⟨c, hc⟩ : ∃ c, l.getD 0 0 = c := ⟨_, rfl⟩
  rw [hc] at a0 hc1 hc2 HY
  try rw [hc] at HZ
  clear hc
  have hw : IntKind.i64.wrap (c : Int) = c := by rw [IntKind.wrap_i64]; omega
  have g1 : ¬ (c : Int) < 128 := by omega
  have g2 : (194 : Int) ≤ c := by omega
  have g3 : (c : Int) < 224 := by omega
  by_cases hsz : (s.size : Int) < 2
  · have hz := HZ.out (fun h => by omega)
    rw [hz]
    go_enter Tryz.func39, Tryz.ntmps39
    go_wp2
    go_ret2
    exact ⟨rfl, rfl⟩
  have hsub : IntKind.i64.wrap ((c : Int) - 192) = ((c - 192 : Nat) : Int) := by rw [IntKind.wrap_i64]; omega
  go_enter Tryz.func39, Tryz.ntmps39
  go_wp2
  go_loop [6, 7] (fun v i => ∃ k : Nat, 1 ≤ k ∧ k ≤ 2 ∧ i = .int .i64 k ∧ v = .int .i64 (acc l (c - 192) k) ∧ ∀ j, 1 ≤ j → j < k → isC (l.getD j 0)) (fun _ i => 2 - (intOf i).toNat)
  case atStart => exact ⟨1, by omega, by omega, rfl, by go_num, fun j h1 h2 => by omega⟩
  case round =>
    obtain ⟨k, hk1, hk, rfl, rfl, hall⟩ := hrel
    have HA : RowKit.Hid (∀ j, 1 ≤ j → j < k → isC (l.getD j 0)) := hall
    clear hall
    by_cases hkn : k < 2
    · have hks : k < s.size := by omega
      have ak := HI.out k hks
      have hdb := HB.out k
      obtain ⟨d, hd⟩ : ∃ d, l.getD k 0 = d := ⟨_, rfl⟩
      rw [hd] at ak hdb
      have hdw : IntKind.i64.wrap (d : Int) = d := by rw [IntKind.wrap_i64]; omega
      have hab := acc_bd (l := l) (v0 := c - 192) (by omega) HB.out k (by omega)
      have hk5 : k < 5 := by omega
      have hpow : 130 ^ k ≤ 130 ^ 4 := Nat.pow_le_pow_right (by omega) (by omega)
      have hab2 : acc l (c - 192) k ≤ 28561000000 := by
        have : (130 : Nat) ^ 4 = 285610000 := by decide
        omega
      have hkn' : (k : Int) < 2 := by omega
      have hks' : (k : Int) < s.size := by omega
      have HD : RowKit.Hid (l.getD k 0 = d) := hd
      clear hab hpow hd
      by_cases hC : 128 ≤ d ∧ d ≤ 191
      · have i1 : ¬ (d : Int) < 128 := by omega
        have i2 : ¬ (191 : Int) < d := by omega
        have HS : RowKit.Hid (acc l (c - 192) (k + 1) = 64 * acc l (c - 192) k + (d - 128)) := by
          show acc l (c - 192) (k + 1) = _
          rw [acc, if_neg (by omega), HD.out]
        generalize acc l (c - 192) k = v at *
        go_wp2_with fail
        go_round
        case rel =>
          refine ⟨k + 1, by omega, by omega, by go_num, ?_, fun j j1 j2 => ?_⟩
          · rw [HS.out]; go_num
          · by_cases e : j = k
            · subst e; rw [HD.out]; exact hC
            · exact HA.out j j1 (by omega)
        case measure => simp [intOf]; omega
      · have hz := HZ.out (fun h => hC (by have := h.2.1 k hk1 hkn; rw [HD.out] at this; exact this))
        have HZ2 : RowKit.Hid (rune l = (0, 0)) := hz
        clear hz
        by_cases i1 : (d : Int) < 128
        · go_wp2_with fail
          go_ret2
          exact ⟨by rw [HZ2.out]; rfl, rfl⟩
        · have i2 : (191 : Int) < d := by omega
          go_wp2_with fail
          go_ret2
          exact ⟨by rw [HZ2.out]; rfl, rfl⟩
    · obtain rfl : k = 2 := by omega
      have HR : RowKit.Hid (rune l = (acc l (c - 192) 2, 2)) := HY.out (by omega) HA.out trivial
      generalize acc l (c - 192) 2 = v at *
      go_wp2_with fail
      go_ret2
      exact ⟨by rw [HR.out]; rfl, rfl⟩
open Qm in
set_option maxRecDepth 100000 in
set_option maxHeartbeats 2000000 in
theorem rrune_3 {s : ByteArray} (hs : s.size ≤ 9223372036854775807) (hc1 : 224 ≤ (bs s).getD 0 0) (hc2 : (bs s).getD 0 0 < 240) (hn : 1 ≤ s.size) (w : World) :
    Calls Tryz.prog 39 #[.string s] w fun e w' => e = .returned (.tuple #[.int .i64 (rune (bs s)).1, .int .i64 (rune (bs s)).2]) ∧ w' = w := by
  have hp : 0 < s.size := hn
  have a0 : (s[0]'hp).toNat = (bs s).getD 0 0 := bs_at hp
  have hlen := bs_len s
  have hb := bs_lt s
  have HL : RowKit.Hid ((bs s).length = s.size) := hlen
  have HI : RowKit.Hid (∀ k (h : k < s.size), (s[k]'h).toNat = (bs s).getD k 0) := fun k h => bs_at h
  have h0' : ((s.size : Int) == 0) = false := by rw [beq_eq_false_iff_ne]; omega
  have HB : RowKit.Hid (∀ k, (bs s).getD k 0 < 256) := hb
  have HZ : RowKit.Hid (¬ (3 ≤ s.size ∧ (∀ j, 1 ≤ j → j < 3 → isC ((bs s).getD j 0)) ∧ ok3 (acc (bs s) ((bs s).getD 0 0 - 224) 3)) → rune (bs s) = (0, 0)) := fun h => rune_zero (by omega) (by omega) (fun q => h ⟨by omega, fun j j1 j2 => (show j = 1 ∨ j = 2 by omega).elim (fun e => e ▸ q.2.2.2.1) (fun e => e ▸ q.2.2.2.2.1), acc_v3 (bs s) ▸ q.2.2.2.2.2⟩) (by omega)
  have HY : RowKit.Hid (3 ≤ s.size → (∀ j, 1 ≤ j → j < 3 → isC ((bs s).getD j 0)) → ok3 (acc (bs s) ((bs s).getD 0 0 - 224) 3) → rune (bs s) = (acc (bs s) ((bs s).getD 0 0 - 224) 3, 3)) := fun h1 h2 h3 => by
    have q1 := h2 1 (by omega) (by omega)
    have q2 := h2 2 (by omega) (by omega)
    rw [acc_v3] at h3 ⊢
    exact rune_is3 ⟨by omega, hc1, hc2, q1, q2, h3⟩
  clear hlen hb
  generalize hl : bs s = l at *
  clear hl
  obtain ⟨c, hc⟩ : ∃ c, l.getD 0 0 = c := ⟨_, rfl⟩
  rw [hc] at a0 hc1 hc2 HY
  try rw [hc] at HZ
  clear hc
  have hw : IntKind.i64.wrap (c : Int) = c := by rw [IntKind.wrap_i64]; omega
  have g1 : ¬ (c : Int) < 128 := by omega
  have g2 : ¬ (c : Int) < 224 := by omega
  have g4 : (194 : Int) ≤ c := by omega
  have g3 : (c : Int) < 240 := by omega
  by_cases hsz : (s.size : Int) < 3
  · have hz := HZ.out (fun h => by omega)
    rw [hz]
    go_enter Tryz.func39, Tryz.ntmps39
    go_wp2
    go_ret2
    exact ⟨rfl, rfl⟩
  have hsub : IntKind.i64.wrap ((c : Int) - 224) = ((c - 224 : Nat) : Int) := by rw [IntKind.wrap_i64]; omega
  go_enter Tryz.func39, Tryz.ntmps39
  go_wp2
  go_loop [6, 7] (fun v i => ∃ k : Nat, 1 ≤ k ∧ k ≤ 3 ∧ i = .int .i64 k ∧ v = .int .i64 (acc l (c - 224) k) ∧ ∀ j, 1 ≤ j → j < k → isC (l.getD j 0)) (fun _ i => 3 - (intOf i).toNat)
  case atStart => exact ⟨1, by omega, by omega, rfl, by go_num, fun j h1 h2 => by omega⟩
  case round =>
    obtain ⟨k, hk1, hk, rfl, rfl, hall⟩ := hrel
    have HA : RowKit.Hid (∀ j, 1 ≤ j → j < k → isC (l.getD j 0)) := hall
    clear hall
    by_cases hkn : k < 3
    · have hks : k < s.size := by omega
      have ak := HI.out k hks
      have hdb := HB.out k
      obtain ⟨d, hd⟩ : ∃ d, l.getD k 0 = d := ⟨_, rfl⟩
      rw [hd] at ak hdb
      have hdw : IntKind.i64.wrap (d : Int) = d := by rw [IntKind.wrap_i64]; omega
      have hab := acc_bd (l := l) (v0 := c - 224) (by omega) HB.out k (by omega)
      have hk5 : k < 5 := by omega
      have hpow : 130 ^ k ≤ 130 ^ 4 := Nat.pow_le_pow_right (by omega) (by omega)
      have hab2 : acc l (c - 224) k ≤ 28561000000 := by
        have : (130 : Nat) ^ 4 = 285610000 := by decide
        omega
      have hkn' : (k : Int) < 3 := by omega
      have hks' : (k : Int) < s.size := by omega
      have HD : RowKit.Hid (l.getD k 0 = d) := hd
      clear hab hpow hd
      by_cases hC : 128 ≤ d ∧ d ≤ 191
      · have i1 : ¬ (d : Int) < 128 := by omega
        have i2 : ¬ (191 : Int) < d := by omega
        have HS : RowKit.Hid (acc l (c - 224) (k + 1) = 64 * acc l (c - 224) k + (d - 128)) := by
          show acc l (c - 224) (k + 1) = _
          rw [acc, if_neg (by omega), HD.out]
        generalize acc l (c - 224) k = v at *
        go_wp2_with fail
        go_round
        case rel =>
          refine ⟨k + 1, by omega, by omega, by go_num, ?_, fun j j1 j2 => ?_⟩
          · rw [HS.out]; go_num
          · by_cases e : j = k
            · subst e; rw [HD.out]; exact hC
            · exact HA.out j j1 (by omega)
        case measure => simp [intOf]; omega
      · have hz := HZ.out (fun h => hC (by have := h.2.1 k hk1 hkn; rw [HD.out] at this; exact this))
        have HZ2 : RowKit.Hid (rune l = (0, 0)) := hz
        clear hz
        by_cases i1 : (d : Int) < 128
        · go_wp2_with fail
          go_ret2
          exact ⟨by rw [HZ2.out]; rfl, rfl⟩
        · have i2 : (191 : Int) < d := by omega
          go_wp2_with fail
          go_ret2
          exact ⟨by rw [HZ2.out]; rfl, rfl⟩
    · obtain rfl : k = 3 := by omega
      have hz := fun h : ¬ ok3 (acc l (c - 224) 3) => HZ.out (fun q => h q.2.2)
      have hy := fun h : ok3 (acc l (c - 224) 3) => HY.out (by omega) HA.out h
      have HZ2 : RowKit.Hid (¬ ok3 (acc l (c - 224) 3) → rune l = (0, 0)) := hz
      have HY2 : RowKit.Hid (ok3 (acc l (c - 224) 3) → rune l = (acc l (c - 224) 3, 3)) := hy
      clear hz hy HY HZ
      generalize acc l (c - 224) 3 = v at *
      by_cases v1 : (v : Int) < 2048
      · have hr := HZ2.out (by unfold ok3; omega)
        have HR : RowKit.Hid (rune l = (0, 0)) := hr
        clear hr
        go_wp2_with fail
        go_ret2
        exact ⟨by rw [HR.out]; rfl, rfl⟩
      by_cases v2 : (55296 : Int) ≤ v
      · by_cases v3 : (v : Int) < 57344
        · have hr := HZ2.out (by unfold ok3; omega)
          have HR : RowKit.Hid (rune l = (0, 0)) := hr
          clear hr
          go_wp2_with fail
          go_ret2
          exact ⟨by rw [HR.out]; rfl, rfl⟩
        · have hr := HY2.out (by unfold ok3; omega)
          have HR : RowKit.Hid (rune l = (v, 3)) := hr
          clear hr
          go_wp2_with fail
          go_ret2
          exact ⟨by rw [HR.out]; rfl, rfl⟩
      · have hr := HY2.out (by unfold ok3; omega)
        have HR : RowKit.Hid (rune l = (v, 3)) := hr
        clear hr
        go_wp2_with fail
        go_ret2
        exact ⟨by rw [HR.out]; rfl, rfl⟩
open Qm in
set_option maxRecDepth 100000 in
set_option maxHeartbeats 2000000 in
theorem rrune_4 {s : ByteArray} (hs : s.size ≤ 9223372036854775807) (hc1 : 240 ≤ (bs s).getD 0 0) (hc2 : (bs s).getD 0 0 < 245) (hn : 1 ≤ s.size) (w : World) :
    Calls Tryz.prog 39 #[.string s] w fun e w' => e = .returned (.tuple #[.int .i64 (rune (bs s)).1, .int .i64 (rune (bs s)).2]) ∧ w' = w := by
  have hp : 0 < s.size := hn
  have a0 : (s[0]'hp).toNat = (bs s).getD 0 0 := bs_at hp
  have hlen := bs_len s
  have hb := bs_lt s
  have HL : RowKit.Hid ((bs s).length = s.size) := hlen
  have HI : RowKit.Hid (∀ k (h : k < s.size), (s[k]'h).toNat = (bs s).getD k 0) := fun k h => bs_at h
  have h0' : ((s.size : Int) == 0) = false := by rw [beq_eq_false_iff_ne]; omega
  have HB : RowKit.Hid (∀ k, (bs s).getD k 0 < 256) := hb
  have HZ : RowKit.Hid (¬ (4 ≤ s.size ∧ (∀ j, 1 ≤ j → j < 4 → isC ((bs s).getD j 0)) ∧ ok4 (acc (bs s) ((bs s).getD 0 0 - 240) 4)) → rune (bs s) = (0, 0)) := fun h => rune_zero (by omega) (by omega) (by omega) (fun q => h ⟨by omega, fun j j1 j2 => (show j = 1 ∨ j = 2 ∨ j = 3 by omega).elim (fun e => e ▸ q.2.2.2.1) (fun h => h.elim (fun e => e ▸ q.2.2.2.2.1) (fun e => e ▸ q.2.2.2.2.2.1)), acc_v4 (bs s) ▸ q.2.2.2.2.2.2⟩)
  have HY : RowKit.Hid (4 ≤ s.size → (∀ j, 1 ≤ j → j < 4 → isC ((bs s).getD j 0)) → ok4 (acc (bs s) ((bs s).getD 0 0 - 240) 4) → rune (bs s) = (acc (bs s) ((bs s).getD 0 0 - 240) 4, 4)) := fun h1 h2 h3 => by
    have q1 := h2 1 (by omega) (by omega)
    have q2 := h2 2 (by omega) (by omega)
    have q3 := h2 3 (by omega) (by omega)
    rw [acc_v4] at h3 ⊢
    exact rune_is4 ⟨by omega, hc1, hc2, q1, q2, q3, h3⟩
  clear hlen hb
  generalize hl : bs s = l at *
  clear hl
  obtain ⟨c, hc⟩ : ∃ c, l.getD 0 0 = c := ⟨_, rfl⟩
  rw [hc] at a0 hc1 hc2 HY
  try rw [hc] at HZ
  clear hc
  have hw : IntKind.i64.wrap (c : Int) = c := by rw [IntKind.wrap_i64]; omega
  have g1 : ¬ (c : Int) < 128 := by omega
  have g2 : ¬ (c : Int) < 224 := by omega
  have g4 : ¬ (c : Int) < 240 := by omega
  have g5 : (194 : Int) ≤ c := by omega
  have g3 : (c : Int) < 245 := by omega
  by_cases hsz : (s.size : Int) < 4
  · have hz := HZ.out (fun h => by omega)
    rw [hz]
    go_enter Tryz.func39, Tryz.ntmps39
    go_wp2
    go_ret2
    exact ⟨rfl, rfl⟩
  have hsub : IntKind.i64.wrap ((c : Int) - 240) = ((c - 240 : Nat) : Int) := by rw [IntKind.wrap_i64]; omega
  go_enter Tryz.func39, Tryz.ntmps39
  go_wp2
  go_loop [6, 7] (fun v i => ∃ k : Nat, 1 ≤ k ∧ k ≤ 4 ∧ i = .int .i64 k ∧ v = .int .i64 (acc l (c - 240) k) ∧ ∀ j, 1 ≤ j → j < k → isC (l.getD j 0)) (fun _ i => 4 - (intOf i).toNat)
  case atStart => exact ⟨1, by omega, by omega, rfl, by go_num, fun j h1 h2 => by omega⟩
  case round =>
    obtain ⟨k, hk1, hk, rfl, rfl, hall⟩ := hrel
    have HA : RowKit.Hid (∀ j, 1 ≤ j → j < k → isC (l.getD j 0)) := hall
    clear hall
    by_cases hkn : k < 4
    · have hks : k < s.size := by omega
      have ak := HI.out k hks
      have hdb := HB.out k
      obtain ⟨d, hd⟩ : ∃ d, l.getD k 0 = d := ⟨_, rfl⟩
      rw [hd] at ak hdb
      have hdw : IntKind.i64.wrap (d : Int) = d := by rw [IntKind.wrap_i64]; omega
      have hab := acc_bd (l := l) (v0 := c - 240) (by omega) HB.out k (by omega)
      have hk5 : k < 5 := by omega
      have hpow : 130 ^ k ≤ 130 ^ 4 := Nat.pow_le_pow_right (by omega) (by omega)
      have hab2 : acc l (c - 240) k ≤ 28561000000 := by
        have : (130 : Nat) ^ 4 = 285610000 := by decide
        omega
      have hkn' : (k : Int) < 4 := by omega
      have hks' : (k : Int) < s.size := by omega
      have HD : RowKit.Hid (l.getD k 0 = d) := hd
      clear hab hpow hd
      by_cases hC : 128 ≤ d ∧ d ≤ 191
      · have i1 : ¬ (d : Int) < 128 := by omega
        have i2 : ¬ (191 : Int) < d := by omega
        have HS : RowKit.Hid (acc l (c - 240) (k + 1) = 64 * acc l (c - 240) k + (d - 128)) := by
          show acc l (c - 240) (k + 1) = _
          rw [acc, if_neg (by omega), HD.out]
        generalize acc l (c - 240) k = v at *
        go_wp2_with fail
        go_round
        case rel =>
          refine ⟨k + 1, by omega, by omega, by go_num, ?_, fun j j1 j2 => ?_⟩
          · rw [HS.out]; go_num
          · by_cases e : j = k
            · subst e; rw [HD.out]; exact hC
            · exact HA.out j j1 (by omega)
        case measure => simp [intOf]; omega
      · have hz := HZ.out (fun h => hC (by have := h.2.1 k hk1 hkn; rw [HD.out] at this; exact this))
        have HZ2 : RowKit.Hid (rune l = (0, 0)) := hz
        clear hz
        by_cases i1 : (d : Int) < 128
        · go_wp2_with fail
          go_ret2
          exact ⟨by rw [HZ2.out]; rfl, rfl⟩
        · have i2 : (191 : Int) < d := by omega
          go_wp2_with fail
          go_ret2
          exact ⟨by rw [HZ2.out]; rfl, rfl⟩
    · obtain rfl : k = 4 := by omega
      have hz := fun h : ¬ ok4 (acc l (c - 240) 4) => HZ.out (fun q => h q.2.2)
      have hy := fun h : ok4 (acc l (c - 240) 4) => HY.out (by omega) HA.out h
      have HZ2 : RowKit.Hid (¬ ok4 (acc l (c - 240) 4) → rune l = (0, 0)) := hz
      have HY2 : RowKit.Hid (ok4 (acc l (c - 240) 4) → rune l = (acc l (c - 240) 4, 4)) := hy
      clear hz hy HY HZ
      generalize acc l (c - 240) 4 = v at *
      by_cases v1 : (v : Int) < 65536
      · have hr := HZ2.out (by unfold ok4; omega)
        have HR : RowKit.Hid (rune l = (0, 0)) := hr
        clear hr
        go_wp2_with fail
        go_ret2
        exact ⟨by rw [HR.out]; rfl, rfl⟩
      by_cases v2 : (1114111 : Int) < v
      · have hr := HZ2.out (by unfold ok4; omega)
        have HR : RowKit.Hid (rune l = (0, 0)) := hr
        clear hr
        go_wp2_with fail
        go_ret2
        exact ⟨by rw [HR.out]; rfl, rfl⟩
      · have hr := HY2.out (by unfold ok4; omega)
        have HR : RowKit.Hid (rune l = (v, 4)) := hr
        clear hr
        go_wp2_with fail
        go_ret2
        exact ⟨by rw [HR.out]; rfl, rfl⟩
open Qm in
set_option maxRecDepth 100000 in
theorem rrune_any (s : ByteArray) (hs : s.size ≤ 9223372036854775807) (w : World) : Calls Tryz.prog 39 #[.string s] w fun e w' => e = .returned (.tuple #[.int .i64 (rune (bs s)).1, .int .i64 (rune (bs s)).2]) ∧ w' = w := by
  have hlen := bs_len s
  by_cases h0 : s.size = 0
  · have hb : bs s = [] := List.eq_nil_of_length_eq_zero (by omega)
    rw [hb]
    clear hb hlen
    go_enter Tryz.func39, Tryz.ntmps39
    go_wp2
    go_ret2
    exact ⟨rfl, rfl⟩
  have hp : 0 < s.size := by omega
  by_cases h2 : 194 ≤ (bs s).getD 0 0 ∧ (bs s).getD 0 0 < 224
  · exact rrune_2 hs h2.1 h2.2 hp w
  by_cases h3 : 224 ≤ (bs s).getD 0 0 ∧ (bs s).getD 0 0 < 240
  · exact rrune_3 hs h3.1 h3.2 hp w
  by_cases h4 : 240 ≤ (bs s).getD 0 0 ∧ (bs s).getD 0 0 < 245
  · exact rrune_4 hs h4.1 h4.2 hp w
  have a0 : (s[0]'hp).toNat = (bs s).getD 0 0 := bs_at hp
  have hb := bs_lt s 0
  have h0' : ((s.size : Int) == 0) = false := by rw [beq_eq_false_iff_ne]; omega
  by_cases h1 : (bs s).getD 0 0 < 128
  · have hr := rune_is1 (l := bs s) ⟨by omega, h1⟩
    rw [hr]
    obtain ⟨c, hc⟩ : ∃ c, (bs s).getD 0 0 = c := ⟨_, rfl⟩
    rw [hc] at a0 hb h1 ⊢
    have hw : IntKind.i64.wrap (c : Int) = c := by rw [IntKind.wrap_i64]; omega
    have g1 : (c : Int) < 128 := by omega
    clear hc h2 h3 h4 hr
    go_enter Tryz.func39, Tryz.ntmps39
    go_wp2
    go_ret2
    exact ⟨rfl, rfl⟩
  · have hr := rune_zero (l := bs s) (by omega) (by omega) (by omega) (by omega)
    rw [hr]
    obtain ⟨c, hc⟩ : ∃ c, (bs s).getD 0 0 = c := ⟨_, rfl⟩
    rw [hc] at a0 hb h1 h2 h3 h4
    have hw : IntKind.i64.wrap (c : Int) = c := by rw [IntKind.wrap_i64]; omega
    have g1 : ¬ (c : Int) < 128 := by omega
    clear hc hr
    by_cases g2 : (194 : Int) ≤ c
    · have g3 : ¬ (c : Int) < 224 := by omega
      have g4 : ¬ (c : Int) < 240 := by omega
      have g5 : ¬ (c : Int) < 245 := by omega
      have g6 : (224 : Int) ≤ c := by omega
      have g7 : (240 : Int) ≤ c := by omega
      clear h2 h3 h4
      go_enter Tryz.func39, Tryz.ntmps39
      go_wp2
      go_ret2
      exact ⟨rfl, rfl⟩
    · have g6 : ¬ (224 : Int) ≤ c := by omega
      have g7 : ¬ (240 : Int) ≤ c := by omega
      clear h2 h3 h4
      go_enter Tryz.func39, Tryz.ntmps39
      go_wp2
      go_ret2
      exact ⟨rfl, rfl⟩
open Qm in
theorem bs_drop (s : ByteArray) (n : Nat) : bs (s.extract n s.size) = (bs s).drop n := by
  unfold bs
  rw [ByteArray.data_extract, Array.toList_extract, ← List.map_drop]
  congr 1
  simp only [List.extract_eq_take_drop]
  rw [List.take_of_length_le]
  rw [List.length_drop, Array.length_toList]
  exact Nat.le_refl _
end Tg
end Go.Proofs.YtjgnajopomadpaaGreat
