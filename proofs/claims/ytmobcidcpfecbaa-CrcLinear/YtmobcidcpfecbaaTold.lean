/-
  A change within four bytes, one behind the other, changes the sum unless it changes nothing: over rows of bytes from 0 to 255; no other condition.
-/
import Derived.Test.YtmobcidcpfecbaaJoin
namespace Go.Proofs.Ytmobcidcpfecbaa
open Go.ChangeShapes Go.WideShapes Go.ChangeAt Go.RowKit
namespace Crc

/-- The k-th byte of the change. -/
def chb (c : BitVec 32) (k : Nat) : Int := val c / 2 ^ (8 * k) % 256
/-- The row behind the first k bytes' change. -/
def chg (l : List Int) (p : Nat) (c : BitVec 32) : Nat → List Int
  | 0 => l
  | k + 1 => (chg l p c k).set (p + k) (bits .xor .u8 ((chg l p c k).getD (p + k) 0) (chb c k))

theorem chb_bd (c : BitVec 32) (k : Nat) : 0 ≤ chb c k ∧ chb c k ≤ 255 := by unfold chb; omega

theorem xor8_bd (x y : Int) : 0 ≤ bits .xor .u8 x y ∧ bits .xor .u8 x y ≤ 255 := bounds_u8 (wf_bits _ _ _ _)

theorem byteOf_wide {n : Int} (h : 0 ≤ n ∧ n ≤ 255) : byteOf n = (BitVec.ofInt 8 n).setWidth 32 := by
  apply BitVec.eq_of_toNat_eq
  simp only [byteOf, BitVec.toNat_ofInt, BitVec.toNat_setWidth]
  omega

theorem byteOf_xor {x y : Int} (hx : 0 ≤ x ∧ x ≤ 255) (hy : 0 ≤ y ∧ y ≤ 255) : byteOf (bits .xor .u8 x y) = byteOf x ^^^ byteOf y := by
  rw [byteOf_wide (xor8_bd x y), byteOf_wide hx, byteOf_wide hy, ← BitVec.setWidth_xor]
  congr 1
  have e : bits .xor .u8 x y = ((BitVec.ofInt 8 x ^^^ BitVec.ofInt 8 y).toNat : Int) := by
    show IntKind.u8.wrap ((BitVec.ofInt 8 x ^^^ BitVec.ofInt 8 y).toNat : Int) = _
    rw [IntKind.wrap_u8]
    have := (BitVec.ofInt 8 x ^^^ BitVec.ofInt 8 y).isLt
    omega
  rw [e, BitVec.ofInt_natCast, BitVec.ofNat_toNat, BitVec.setWidth_eq]

theorem byteOf_chb (c : BitVec 32) (k : Nat) : byteOf (chb c k) = (c >>> (8 * k)) &&& 255#32 := by
  apply BitVec.eq_of_toNat_eq
  have hv := byteOf_val (chb_bd c k)
  rw [val] at hv
  have e : ((c >>> (8 * k) &&& 255#32).toNat : Int) = chb c k := by
    rw [BitVec.toNat_and, BitVec.toNat_ushiftRight, Nat.shiftRight_eq_div_pow]
    have e1 : (255#32).toNat = 2 ^ 8 - 1 := rfl
    rw [e1, Nat.and_two_pow_sub_one_eq_mod, chb, val]
    simp
  omega

theorem eight (x : BitVec 32) : steps 8 x = steps 8 (x &&& 255#32) ^^^ (x >>> 8) := by
  have h255 : ∀ i, i < 32 → (255#32).getLsbD i = decide (i < 8) := by decide
  have e : x = (x &&& 255#32) ^^^ (x &&& ~~~ 255#32) := by
    apply BitVec.eq_of_getLsbD_eq
    intro i hi
    simp only [BitVec.getLsbD_xor, BitVec.getLsbD_and, BitVec.getLsbD_not, hi, decide_true, Bool.true_and]
    cases x.getLsbD i <;> cases (255#32).getLsbD i <;> rfl
  have hs : steps 8 (x &&& ~~~ 255#32) = x >>> 8 := by
    rw [steps_shr 8 _ (fun i hi => by rw [BitVec.getLsbD_and, BitVec.getLsbD_not, h255 i (by omega)]; simp [hi])]
    apply BitVec.eq_of_getLsbD_eq
    intro i hi
    simp only [BitVec.getLsbD_ushiftRight, BitVec.getLsbD_and, BitVec.getLsbD_not]
    by_cases h : 8 + i < 32
    · rw [h255 (8 + i) h]; simp [h]
    · rw [BitVec.getLsbD_of_ge x (8 + i) (by omega)]; simp
  conv => lhs; rw [e]
  rw [steps_xor, hs]

def chbs (c : BitVec 32) : Nat → List Int
  | 0 => []
  | k + 1 => chbs c k ++ [chb c k]

theorem chbs_length (c : BitVec 32) (k : Nat) : (chbs c k).length = k := by induction k with
  | zero => rfl
  | succ k ih => simp [chbs, ih]

theorem chbs_getD (c : BitVec 32) (k : Nat) : ∀ i, i < k → (chbs c k).getD i 0 = chb c i := by
  induction k with
  | zero => intro i hi; omega
  | succ k ih =>
    intro i hi
    by_cases h : i < k
    · rw [chbs, getD_append_left _ _ _ (by rw [chbs_length]; exact h), ih i h]
    · obtain rfl : i = k := by omega
      have := getD_append_right (chbs c i) [chb c i] 0
      rw [chbs_length, Nat.add_zero] at this
      rw [chbs, this]; rfl

theorem run_chbs (c : BitVec 32) (k : Nat) : steps (8 * k) c = run 0#32 (chbs c k) ^^^ (c >>> (8 * k)) := by
  induction k with
  | zero => simp [steps, chbs, run]
  | succ k ih =>
    have e : 8 * (k + 1) = 8 + 8 * k := by omega
    rw [e, steps_add, ih, steps_xor, eight (c >>> (8 * k)), chbs, run_append]
    show steps 8 _ ^^^ _ = steps 8 (run 0#32 (chbs c k) ^^^ byteOf (chb c k)) ^^^ _
    rw [byteOf_chb, steps_xor, BitVec.xor_assoc, ← BitVec.shiftRight_add, Nat.add_comm (8 * k) 8]

theorem run_four (c : BitVec 32) : run 0#32 (chbs c 4) = steps 32 c := by
  have h := run_chbs c 4
  have e : c >>> (8 * 4) = 0#32 := by
    apply BitVec.eq_of_getLsbD_eq
    intro i hi
    simp only [BitVec.getLsbD_ushiftRight]
    rw [BitVec.getLsbD_of_ge c _ (by omega)]; simp
  rw [e, BitVec.xor_zero] at h
  exact h.symm

theorem chg_length (l : List Int) (p : Nat) (c : BitVec 32) (k : Nat) : (chg l p c k).length = l.length := by
  induction k with
  | zero => rfl
  | succ k ih => simp [chg, ih]

theorem chg_getD (l : List Int) (p : Nat) (c : BitVec 32) (k : Nat) (h : p + k ≤ l.length) :
    ∀ i, (chg l p c k).getD i 0 = if p ≤ i ∧ i < p + k then bits .xor .u8 (l.getD i 0) (chb c (i - p)) else l.getD i 0 := by
  induction k with
  | zero => intro i; rw [if_neg (by omega)]; rfl
  | succ k ih =>
    have ih := ih (by omega)
    intro i
    have hs : (chg l p c (k + 1)).getD i 0 = if i = p + k then bits .xor .u8 ((chg l p c k).getD (p + k) 0) (chb c k) else (chg l p c k).getD i 0 := by
      have hlen : p + k < (chg l p c k).length := by rw [chg_length]; omega
      simp only [chg, List.getD, List.getElem?_set]
      by_cases e : i = p + k
      · subst e; simp [hlen]
      · simp [Ne.symm e, e]
    rw [hs]
    by_cases e : i = p + k
    · subst e
      rw [if_pos rfl, ih, if_neg (by omega), if_pos (by omega)]
      congr 2
      omega
    · rw [if_neg e, ih]
      by_cases g : p ≤ i ∧ i < p + k
      · rw [if_pos g, if_pos (by omega)]
      · rw [if_neg g, if_neg (by omega)]

theorem zeros_getD (n i : Nat) : (List.replicate n (0 : Int)).getD i 0 = 0 := by
  by_cases h : i < n <;> simp [List.getD, h]

/-- The document's promise on changes. -/
theorem told (l : List Int) (p : Nat) (c : BitVec 32) (hb : ∀ n ∈ l, 0 ≤ n ∧ n ≤ 255) (h : p + 4 ≤ l.length) : more 0#32 (chg l p c 4) = more 0#32 l ↔ c = 0#32 := by
  have hD : run (~~~ 0#32 ^^^ 0#32) (chg l p c 4) = run (~~~ 0#32) l ^^^ run 0#32 (List.replicate p 0 ++ (chbs c 4 ++ List.replicate (l.length - p - 4) 0)) := by
    refine run_xor l _ _ _ _ (by simp [chbs_length]; omega) (chg_length l p c 4).symm fun i hi => ?_
    rw [chg_getD l p c 4 h i]
    by_cases h1 : i < p
    · rw [if_neg (by omega), getD_append_left _ _ _ (by simpa using h1), zeros_getD]
      simp [byteOf]
    · have e1 : i = (List.replicate p (0 : Int)).length + (i - p) := by simp; omega
      have e0 : (List.replicate p (0 : Int) ++ (chbs c 4 ++ List.replicate (l.length - p - 4) (0 : Int))).getD i 0 = (chbs c 4 ++ List.replicate (l.length - p - 4) (0 : Int)).getD (i - p) 0 := by
        conv => lhs; rw [e1]
        exact getD_append_right _ _ _
      rw [e0]
      by_cases h2 : i < p + 4
      · rw [if_pos (by omega), getD_append_left _ _ _ (by rw [chbs_length]; omega), chbs_getD c 4 (i - p) (by omega)]
        exact byteOf_xor (getD_bound hb i) (chb_bd c _)
      · have e2 : i - p = (chbs c 4).length + (i - p - 4) := by rw [chbs_length]; omega
        rw [if_neg (by omega), e2, getD_append_right, zeros_getD]
        simp [byteOf]
  rw [BitVec.xor_zero] at hD
  have hz : ∀ n : Nat, ∀ m ∈ List.replicate n (0 : Int), byteOf m = 0#32 := by
    intro n m hm
    rw [List.eq_of_mem_replicate hm]; rfl
  rw [run_append, run_append, run_zeros (List.replicate p 0) _ (hz _), steps_zero, run_four, run_zeros _ _ (hz _)] at hD
  have hn : ∀ a b : BitVec 32, ~~~ a = ~~~ b ↔ a = b := fun a b => ⟨fun e => by have := congrArg (~~~ ·) e; simpa using this, fun e => by rw [e]⟩
  rw [more, more, hn, hD]
  constructor
  · intro e
    have : steps (8 * (List.replicate (l.length - p - 4) (0 : Int)).length) (steps 32 c) = 0#32 := by
      have e' := congrArg (run (~~~ 0#32) l ^^^ ·) e
      simp only [← BitVec.xor_assoc, BitVec.xor_self, BitVec.zero_xor] at e'
      exact e'
    exact steps_eq_zero (steps_eq_zero this)
  · rintro rfl
    rw [steps_zero, steps_zero, BitVec.xor_zero]

end Crc
end Go.Proofs.Ytmobcidcpfecbaa
