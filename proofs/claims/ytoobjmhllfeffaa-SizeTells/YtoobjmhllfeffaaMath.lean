/-
  Numbers of variable length as mathematics: a number's bytes, the number that bytes begin with, ints folded into numbers; each reads back what the other laid. No condition but the bounds that each law names.
-/
namespace Go.Proofs.Ytoobjmhllfeffaa
namespace Vi

/-- A number's bytes. -/
def vb (v : Int) : List Int := if h : 128 ≤ v then (v % 128 + 128) :: vb (v / 128) else [v]
termination_by v.toNat
decreasing_by omega

theorem vb_big {v : Int} (h : 128 ≤ v) : vb v = (v % 128 + 128) :: vb (v / 128) := by rw [vb, dif_pos h]
theorem vb_small {v : Int} (h : ¬ 128 ≤ v) : vb v = [v] := by rw [vb, dif_neg h]

theorem vb_ind {P : Int → Prop} (small : ∀ v, ¬ 128 ≤ v → P v) (big : ∀ v, 128 ≤ v → P (v / 128) → P v) (v : Int) : P v := by
  by_cases h : 128 ≤ v
  · exact big v h (vb_ind small big (v / 128))
  · exact small v h
termination_by v.toNat
decreasing_by omega

theorem vb_bd (v : Int) : 0 ≤ v → ∀ n ∈ vb v, 0 ≤ n ∧ n ≤ 255 := by
  refine vb_ind (P := fun v => 0 ≤ v → ∀ n ∈ vb v, 0 ≤ n ∧ n ≤ 255) ?_ ?_ v
  · intro v h hv n hn
    rw [vb_small h] at hn
    simp at hn; omega
  · intro v h ih hv n hn
    rw [vb_big h] at hn
    rcases List.mem_cons.1 hn with rfl | hn
    · omega
    · exact ih (by omega) n hn

theorem vb_pos (v : Int) : 1 ≤ (vb v).length := by
  by_cases h : 128 ≤ v
  · rw [vb_big h]; simp
  · rw [vb_small h]; simp

theorem vb_len : ∀ (n : Nat) (v : Int), v < 128 ^ (n + 1) → (vb v).length ≤ n + 1
  | 0, v, h => by rw [vb_small (by simpa using h)]; simp
  | n + 1, v, h => by
    by_cases hb : 128 ≤ v
    · rw [vb_big hb]
      have := vb_len n (v / 128) (by
        rw [Int.pow_succ] at h
        generalize (128 : Int) ^ (n + 1) = p at *
        omega)
      simp; omega
    · rw [vb_small hb]; simp
theorem vb_ten {v : Int} (h : v ≤ 18446744073709551615) : (vb v).length ≤ 10 := by
  have e : (128 : Int) ^ (9 + 1) = 1180591620717411303424 := by decide
  exact vb_len 9 v (by omega)

theorem vb_mono (a : Int) : ∀ b, a ≤ b → (vb a).length ≤ (vb b).length := by
  refine vb_ind (P := fun a => ∀ b, a ≤ b → (vb a).length ≤ (vb b).length) ?_ ?_ a
  · intro a h b _
    rw [vb_small h]; exact vb_pos b
  · intro a h ih b hab
    rw [vb_big h, vb_big (by omega : 128 ≤ b)]
    have := ih (b / 128) (by omega)
    simpa using this

/-- The number that bytes begin with, and how many bytes it has; i bytes were read, they say s. -/
def vg (i : Nat) (s : Int) : List Int → Option (Int × Nat)
  | [] => none
  | x :: r => if i = 9 ∧ 1 < x then none else if 128 ≤ x then vg (i + 1) (s + x % 128 * 128 ^ i) r else if x = 0 ∧ 0 < i then none else some (s + x % 128 * 128 ^ i, i + 1)

theorem pow_pos' (i : Nat) : (0 : Int) < 128 ^ i := Int.pow_pos (by decide)
theorem nine : (128 : Int) ^ 9 = 9223372036854775808 := by decide

theorem vg_vb (v : Int) : ∀ (i : Nat) (s : Int) (r : List Int), 0 ≤ v → v * 128 ^ i ≤ 18446744073709551615 → 0 < v ∨ i = 0 → vg i s (vb v ++ r) = some (s + v * 128 ^ i, i + (vb v).length) := by
  refine vb_ind (P := fun v => ∀ (i : Nat) (s : Int) (r : List Int), 0 ≤ v → v * 128 ^ i ≤ 18446744073709551615 → 0 < v ∨ i = 0 → vg i s (vb v ++ r) = some (s + v * 128 ^ i, i + (vb v).length)) ?_ ?_ v
  · intro v h i s r hv hm hz
    rw [vb_small h]
    simp only [List.cons_append, List.nil_append, vg]
    rw [if_neg, if_neg h, if_neg (by omega), Int.emod_eq_of_lt hv (by omega)]
    · simp
    · rintro ⟨rfl, h1⟩
      rw [nine] at hm
      omega
  · intro v h ih i s r hv hm hz
    rw [vb_big h]
    simp only [List.cons_append, vg]
    have hp := pow_pos' i
    rw [if_neg, if_pos (by omega), ih (i + 1) _ r (by omega) ?_ (by omega), Int.pow_succ]
    · have e1 : (v % 128 + 128) % 128 = v % 128 := by omega
      rw [e1]
      simp only [Option.some.injEq, Prod.mk.injEq, List.length_cons]
      refine ⟨?_, by omega⟩
      have e2 : v * 128 ^ i = (v % 128) * 128 ^ i + v / 128 * (128 ^ i * 128) := by
        rw [Int.mul_comm (128 ^ i) 128, ← Int.mul_assoc, ← Int.add_mul]
        congr 1
        omega
      omega
    · rw [Int.pow_succ, Int.mul_comm (128 ^ i) 128, ← Int.mul_assoc]
      refine Int.le_trans (Int.mul_le_mul_of_nonneg_right (by omega) (by omega)) hm
    · rintro ⟨rfl, h1⟩
      rw [nine] at hm
      omega

/-- What is read is put as it was. -/
theorem vb_vg : ∀ (l : List Int) (i : Nat) (s : Int) (v : Int) (n : Nat), (∀ x ∈ l, 0 ≤ x ∧ x ≤ 255) → i ≤ 9 → 0 ≤ s → s < 128 ^ i → vg i s l = some (v, n) →
    ∃ u r, 0 ≤ u ∧ (0 < u ∨ i = 0) ∧ v = s + u * 128 ^ i ∧ n = i + (vb u).length ∧ l = vb u ++ r ∧ v ≤ 18446744073709551615
  | [], _, _, _, _, _, _, _, _, h => by simp [vg] at h
  | x :: l, i, s, v, n, hl, hi, h0, hs, h => by
    have hx := hl x (by simp)
    have hp := pow_pos' i
    simp only [vg] at h
    by_cases c1 : i = 9 ∧ 1 < x
    · rw [if_pos c1] at h; cases h
    · rw [if_neg c1] at h
      by_cases c2 : 128 ≤ x
      · rw [if_pos c2] at h
        have hi9 : i + 1 ≤ 9 := by omega
        have e1 : x % 128 = x - 128 := by omega
        rw [e1] at h
        have hm : (x - 128) * 128 ^ i ≤ 127 * 128 ^ i := Int.mul_le_mul_of_nonneg_right (by omega) (by omega)
        have hm0 : 0 ≤ (x - 128) * 128 ^ i := Int.mul_nonneg (by omega) (by omega)
        obtain ⟨u, r, u0, u1, u2, u3, u4, u5⟩ := vb_vg l (i + 1) _ v n (fun y hy => hl y (by simp [hy])) hi9 (by omega) (by rw [Int.pow_succ]; omega) h
        have hu : 128 ≤ x - 128 + 128 * u := by omega
        refine ⟨x - 128 + 128 * u, r, by omega, by omega, ?_, ?_, ?_, u5⟩
        · rw [u2, Int.pow_succ, Int.add_mul, Int.mul_comm (128 ^ i) 128, ← Int.mul_assoc, Int.mul_comm u 128, Int.add_assoc]
        · rw [vb_big hu, show (x - 128 + 128 * u) / 128 = u by omega, u3]; simp; omega
        · rw [vb_big hu, show (x - 128 + 128 * u) / 128 = u by omega, show (x - 128 + 128 * u) % 128 + 128 = x by omega, u4]; simp
      · rw [if_neg c2] at h
        by_cases c3 : x = 0 ∧ 0 < i
        · rw [if_pos c3] at h; cases h
        · rw [if_neg c3] at h
          simp only [Option.some.injEq, Prod.mk.injEq] at h
          obtain ⟨rfl, rfl⟩ := h
          have e1 : x % 128 = x := by omega
          rw [e1]
          refine ⟨x, l, hx.1, by omega, rfl, by rw [vb_small c2]; rfl, by rw [vb_small c2]; rfl, ?_⟩
          by_cases e9 : i = 9
          · subst e9
            have : x ≤ 1 := by omega
            rw [nine] at *
            omega
          · have hle : (128 : Int) ^ i ≤ 128 ^ 8 := by
              have : (128 : Nat) ^ i ≤ 128 ^ 8 := Nat.pow_le_pow_right (by omega) (by omega)
              exact_mod_cast this
            have h8 : (128 : Int) ^ 8 = 72057594037927936 := by decide
            have : x * 128 ^ i ≤ 127 * 128 ^ i := Int.mul_le_mul_of_nonneg_right (by omega) (by omega)
            omega

/-- The number that bytes begin with (0: none), how many bytes it has, and the error's number. -/
def gv (l : List Int) : Int := ((vg 0 0 l).getD (0, 0)).1
def gn (l : List Int) : Int := ((vg 0 0 l).getD (0, 0)).2
def ge (l : List Int) : Int := if (vg 0 0 l).isSome then 0 else 11

theorem get_put {v : Int} (h : 0 ≤ v ∧ v ≤ 18446744073709551615) (r : List Int) : vg 0 0 (vb v ++ r) = some (v, (vb v).length) := by
  rw [vg_vb v 0 0 r h.1 (by simpa using h.2) (Or.inr rfl)]; simp

theorem put_get {l : List Int} (hl : ∀ x ∈ l, 0 ≤ x ∧ x ≤ 255) {v : Int} {n : Nat} (h : vg 0 0 l = some (v, n)) : 0 ≤ v ∧ v ≤ 18446744073709551615 ∧ n ≤ l.length ∧ l.take n = vb v := by
  obtain ⟨u, r, u0, _, u2, u3, u4, u5⟩ := vb_vg l 0 0 v n hl (by omega) (by omega) (by simp) h
  have e : v = u := by simpa using u2
  subst e
  have e3 : n = (vb v).length := by omega
  subst e3
  refine ⟨u0, u5, by rw [u4]; simp, by rw [u4]; simp⟩

/-- Unlike numbers have unlike bytes, none of which begins with the other's. -/
theorem apart {a b : Int} (ha : 0 ≤ a ∧ a ≤ 18446744073709551615) (hb : 0 ≤ b ∧ b ≤ 18446744073709551615) (hne : a ≠ b) : ∃ i, i < (vb a).length ∧ i < (vb b).length ∧ (vb a).getD i 0 ≠ (vb b).getD i 0 := by
  have main : ∀ x y : Int, (0 ≤ x ∧ x ≤ 18446744073709551615) → (0 ≤ y ∧ y ≤ 18446744073709551615) → (vb x).length ≤ (vb y).length → (∀ i, i < (vb x).length → (vb x).getD i 0 = (vb y).getD i 0) → x = y := by
    intro x y hx hy hl he
    have e : vb y = vb x ++ (vb y).drop (vb x).length := by
      have h1 : (vb y).take (vb x).length = vb x := by
        apply List.ext_getElem
        · simp; omega
        · intro i h1 h2
          have := he i h2
          simp [List.getD, h2, show i < (vb y).length by omega] at this
          simp [this]
      conv => lhs; rw [← List.take_append_drop (vb x).length (vb y), h1]
    have g1 := get_put hy []
    rw [List.append_nil, e, get_put hx] at g1
    simp only [Option.some.injEq, Prod.mk.injEq] at g1
    exact g1.1
  refine Classical.byContradiction fun hno => ?_
  have hall : ∀ i, i < (vb a).length → i < (vb b).length → (vb a).getD i 0 = (vb b).getD i 0 := fun i h1 h2 => Classical.byContradiction fun h => hno ⟨i, h1, h2, h⟩
  rcases Nat.le_total (vb a).length (vb b).length with h | h
  · exact hne (main a b ha hb h fun i hi => hall i hi (by omega))
  · exact hne (main b a hb ha h fun i hi => (hall i (by omega) hi).symm).symm

/-- An int's number, and back. -/
def fold (v : Int) : Int := if v < 0 then -2 * v - 1 else 2 * v
def unfold (u : Int) : Int := if u % 2 = 1 then -(u / 2) - 1 else u / 2
theorem fold_bd {v : Int} (h : -9223372036854775808 ≤ v ∧ v ≤ 9223372036854775807) : 0 ≤ fold v ∧ fold v ≤ 18446744073709551615 := by unfold fold; split <;> omega
theorem unfold_fold (v : Int) : unfold (fold v) = v := by unfold fold unfold; split <;> split <;> omega
theorem fold_unfold {u : Int} (h : 0 ≤ u) : fold (unfold u) = u := by unfold fold unfold; split <;> split <;> omega
theorem unfold_bd {u : Int} (h : 0 ≤ u ∧ u ≤ 18446744073709551615) : -9223372036854775808 ≤ unfold u ∧ unfold u ≤ 9223372036854775807 := by unfold unfold; split <;> omega
end Vi
end Go.Proofs.Ytoobjmhllfeffaa
