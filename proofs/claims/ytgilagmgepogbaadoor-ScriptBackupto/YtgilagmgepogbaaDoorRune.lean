/-
  The document's own runes over any memory: Rune, for strings of any bytes.
-/
import Derived.Test.YtgilagmgepogbaaDoorRows
import Derived.Test.YtgilagmgepogbaaDoorQmod
import Derived.WalkKit
import Derived.ProofKit
import Derived.OpenShut
import Derived.ShutString
import Derived.ChangeOld
import Derived.Below
namespace Go.Proofs.YtgilagmgepogbaaDoor
open Go.ChangeShapes Go.WideShapes Go.ChangeAt Go.RowKit
namespace Tg
open Qm

theorem bs_at {s : ByteArray} {k : Nat} (h : k < s.size) : (s[k]'h).toNat = (bs s).getD k 0 := by
  have h1 : s.get! k = s[k]'h := by simp [ByteArray.get!, getElem!_pos, h]; rfl
  rw [← h1]; exact bs_get h
theorem bs_lt (s : ByteArray) (k : Nat) : (bs s).getD k 0 < 256 := by
  by_cases h : k < (bs s).length
  · have : (bs s).getD k 0 = (bs s)[k] := by simp [List.getD, h]
    rw [this]; exact bs_byte s _ (List.getElem_mem h)
  · have : (bs s).getD k 0 = 0 := by simp [List.getD, h]
    omega
theorem rune_zero {l : List Nat} (h1 : ¬ (1 ≤ l.length ∧ l.getD 0 0 < 128)) (h2 : ¬ (2 ≤ l.length ∧ 194 ≤ l.getD 0 0 ∧ l.getD 0 0 < 224 ∧ isC (l.getD 1 0)))
    (h3 : ¬ (3 ≤ l.length ∧ 224 ≤ l.getD 0 0 ∧ l.getD 0 0 < 240 ∧ isC (l.getD 1 0) ∧ isC (l.getD 2 0) ∧ ok3 (v3 (l.getD 0 0) (l.getD 1 0) (l.getD 2 0))))
    (h4 : ¬ (4 ≤ l.length ∧ 240 ≤ l.getD 0 0 ∧ l.getD 0 0 < 245 ∧ isC (l.getD 1 0) ∧ isC (l.getD 2 0) ∧ isC (l.getD 3 0) ∧ ok4 (v4 (l.getD 0 0) (l.getD 1 0) (l.getD 2 0) (l.getD 3 0)))) : rune l = (0, 0) := by
  rcases rune_cases l with ⟨a, b⟩ | ⟨c, r, rfl, hc, e⟩ | ⟨c, d, r, rfl, hc, e⟩ | ⟨c, d, e', r, rfl, hc, e⟩ | ⟨c, d, e', f, r, rfl, hc, e⟩
  · exact Prod.ext b a
  · exact absurd ⟨by simp, hc⟩ h1
  · exact absurd ⟨by simp, hc⟩ h2
  · exact absurd ⟨by simp, hc⟩ h3
  · exact absurd ⟨by simp, hc⟩ h4
theorem rune_is1 {l : List Nat} (h : 1 ≤ l.length ∧ l.getD 0 0 < 128) : rune l = (l.getD 0 0, 1) := by
  match l, h with
  | c :: r, h => exact rune1 h.2
theorem rune_is2 {l : List Nat} (h : 2 ≤ l.length ∧ 194 ≤ l.getD 0 0 ∧ l.getD 0 0 < 224 ∧ isC (l.getD 1 0)) : rune l = (64 * (l.getD 0 0 - 192) + (l.getD 1 0 - 128), 2) := by
  match l, h with
  | [c], h => simp at h
  | c :: d :: r, h => exact rune2 h.2
theorem rune_is3 {l : List Nat} (h : 3 ≤ l.length ∧ 224 ≤ l.getD 0 0 ∧ l.getD 0 0 < 240 ∧ isC (l.getD 1 0) ∧ isC (l.getD 2 0) ∧ ok3 (v3 (l.getD 0 0) (l.getD 1 0) (l.getD 2 0))) : rune l = (v3 (l.getD 0 0) (l.getD 1 0) (l.getD 2 0), 3) := by
  match l, h with
  | [c], h => simp at h
  | [c, d], h => simp at h
  | c :: d :: e :: r, h => exact rune3 h.2
theorem rune_is4 {l : List Nat} (h : 4 ≤ l.length ∧ 240 ≤ l.getD 0 0 ∧ l.getD 0 0 < 245 ∧ isC (l.getD 1 0) ∧ isC (l.getD 2 0) ∧ isC (l.getD 3 0) ∧ ok4 (v4 (l.getD 0 0) (l.getD 1 0) (l.getD 2 0) (l.getD 3 0))) : rune l = (v4 (l.getD 0 0) (l.getD 1 0) (l.getD 2 0) (l.getD 3 0), 4) := by
  match l, h with
  | [c], h => simp at h
  | [c, d], h => simp at h
  | [c, d, e], h => simp at h
  | c :: d :: e :: f :: r, h => exact rune4 h.2

/-- The number that the first k bytes say. -/
def acc (l : List Nat) (v0 : Nat) : Nat → Nat
  | 0 => v0
  | k + 1 => if k = 0 then v0 else 64 * acc l v0 k + (l.getD k 0 - 128)
theorem acc_v3 (l : List Nat) : acc l (l.getD 0 0 - 224) 3 = v3 (l.getD 0 0) (l.getD 1 0) (l.getD 2 0) := by
  show 64 * (64 * (l.getD 0 0 - 224) + (l.getD 1 0 - 128)) + (l.getD 2 0 - 128) = _
  unfold v3
  omega
theorem acc_v4 (l : List Nat) : acc l (l.getD 0 0 - 240) 4 = v4 (l.getD 0 0) (l.getD 1 0) (l.getD 2 0) (l.getD 3 0) := by
  show 64 * (64 * (64 * (l.getD 0 0 - 240) + (l.getD 1 0 - 128)) + (l.getD 2 0 - 128)) + (l.getD 3 0 - 128) = _
  unfold v4
  omega
theorem acc_bd {l : List Nat} {v0 : Nat} (h0 : v0 ≤ 31) (hl : ∀ k, l.getD k 0 < 256) : ∀ k, k ≤ 4 → acc l v0 k ≤ 100 * 130 ^ k
  | 0, _ => by show v0 ≤ _; omega
  | k + 1, hk => by
    have ih := acc_bd h0 hl k (by omega)
    have := hl k
    have hp : 1 ≤ 130 ^ k := Nat.pow_pos (by omega)
    unfold acc
    rw [Nat.pow_succ]
    split <;> omega

set_option maxRecDepth 100000 in
set_option maxHeartbeats 2000000 in
theorem rrune_2 {s : ByteArray} (hs : s.size ≤ 9223372036854775807) (hc1 : 194 ≤ (bs s).getD 0 0) (hc2 : (bs s).getD 0 0 < 224) (hn : 1 ≤ s.size) (w : World) :
    Calls Tryd.prog 45 #[.string s] w fun e w' => e = .returned (.tuple #[.int .i64 (rune (bs s)).1, .int .i64 (rune (bs s)).2]) ∧ w' = w := by
  have hp : 0 < s.size := hn
  have a0 : (s[0]'hp).toNat = (bs s).getD 0 0 := bs_at hp
  have hlen := bs_len s
  have hb := bs_lt s
  have HL : Hid ((bs s).length = s.size) := hlen
  have HI : Hid (∀ k (h : k < s.size), (s[k]'h).toNat = (bs s).getD k 0) := fun k h => bs_at h
  have h0' : ((s.size : Int) == 0) = false := by rw [beq_eq_false_iff_ne]; omega
  have HB : Hid (∀ k, (bs s).getD k 0 < 256) := hb
  have HZ : Hid (¬ (2 ≤ s.size ∧ (∀ j, 1 ≤ j → j < 2 → isC ((bs s).getD j 0)) ∧ True) → rune (bs s) = (0, 0)) := fun h => rune_zero (by omega) (fun q => h ⟨by omega, fun j j1 j2 => (show j = 1 by omega) ▸ q.2.2.2, trivial⟩) (by omega) (by omega)
  have HY : Hid (2 ≤ s.size → (∀ j, 1 ≤ j → j < 2 → isC ((bs s).getD j 0)) → True → rune (bs s) = (acc (bs s) ((bs s).getD 0 0 - 192) 2, 2)) := fun h1 h2 h3 => by
    have q1 := h2 1 (by omega) (by omega)
    rw [rune_is2 ⟨by omega, hc1, hc2, q1⟩]; rfl
  clear hlen hb
  generalize hl : bs s = l at *
  clear hl
  obtain ⟨c, hc⟩ : ∃ c, l.getD 0 0 = c := ⟨_, rfl⟩
  rw [hc] at a0 hc1 hc2 HY
  try rw [hc] at HZ
  clear hc
  have hw : IntKind.i64.wrap (c : Int) = c := by rw [IntKind.wrap_i64]; omega
  have g1 : ¬ (c : Int) < 128 := by omega
  have g2 : (194 : Int) ≤ c := by omega
  have g3 : (c : Int) < 224 := by omega
  by_cases hsz : (s.size : Int) < 2
  · have hz := HZ.out (fun h => by omega)
    rw [hz]
    go_enter Tryd.func45, Tryd.ntmps45
    go_wp2
    go_ret2
    exact ⟨rfl, rfl⟩
  have hsub : IntKind.i64.wrap ((c : Int) - 192) = ((c - 192 : Nat) : Int) := by rw [IntKind.wrap_i64]; omega
  go_enter Tryd.func45, Tryd.ntmps45
  go_wp2
  go_loop [6, 7] (fun v i => ∃ k : Nat, 1 ≤ k ∧ k ≤ 2 ∧ i = .int .i64 k ∧ v = .int .i64 (acc l (c - 192) k) ∧ ∀ j, 1 ≤ j → j < k → isC (l.getD j 0)) (fun _ i => 2 - (intOf i).toNat)
  case atStart => exact ⟨1, by omega, by omega, rfl, by go_num, fun j h1 h2 => by omega⟩
  case round =>
    obtain ⟨k, hk1, hk, rfl, rfl, hall⟩ := hrel
    have HA : Hid (∀ j, 1 ≤ j → j < k → isC (l.getD j 0)) := hall
    clear hall
    by_cases hkn : k < 2
    · have hks : k < s.size := by omega
      have ak := HI.out k hks
      have hdb := HB.out k
      obtain ⟨d, hd⟩ : ∃ d, l.getD k 0 = d := ⟨_, rfl⟩
      rw [hd] at ak hdb
      have hdw : IntKind.i64.wrap (d : Int) = d := by rw [IntKind.wrap_i64]; omega
      have hab := acc_bd (l := l) (v0 := c - 192) (by omega) HB.out k (by omega)
      have hk5 : k < 5 := by omega
      have hpow : 130 ^ k ≤ 130 ^ 4 := Nat.pow_le_pow_right (by omega) (by omega)
      have hab2 : acc l (c - 192) k ≤ 28561000000 := by
        have : (130 : Nat) ^ 4 = 285610000 := by decide
        omega
      have hkn' : (k : Int) < 2 := by omega
      have hks' : (k : Int) < s.size := by omega
      have HD : Hid (l.getD k 0 = d) := hd
      clear hab hpow hd
      by_cases hC : 128 ≤ d ∧ d ≤ 191
      · have i1 : ¬ (d : Int) < 128 := by omega
        have i2 : ¬ (191 : Int) < d := by omega
        have HS : Hid (acc l (c - 192) (k + 1) = 64 * acc l (c - 192) k + (d - 128)) := by
          show acc l (c - 192) (k + 1) = _
          rw [acc, if_neg (by omega), HD.out]
        generalize acc l (c - 192) k = v at *
        go_wp2_with fail
        go_round
        case rel =>
          refine ⟨k + 1, by omega, by omega, by go_num, ?_, fun j j1 j2 => ?_⟩
          · rw [HS.out]; go_num
          · by_cases e : j = k
            · subst e; rw [HD.out]; exact hC
            · exact HA.out j j1 (by omega)
        case measure => simp [intOf]; omega
      · have hz := HZ.out (fun h => hC (by have := h.2.1 k hk1 hkn; rw [HD.out] at this; exact this))
        have HZ2 : Hid (rune l = (0, 0)) := hz
        clear hz
        by_cases i1 : (d : Int) < 128
        · go_wp2_with fail
          go_ret2
          exact ⟨by rw [HZ2.out]; rfl, rfl⟩
        · have i2 : (191 : Int) < d := by omega
          go_wp2_with fail
          go_ret2
          exact ⟨by rw [HZ2.out]; rfl, rfl⟩
    · obtain rfl : k = 2 := by omega
      have HR : Hid (rune l = (acc l (c - 192) 2, 2)) := HY.out (by omega) HA.out trivial
      generalize acc l (c - 192) 2 = v at *
      go_wp2_with fail
      go_ret2
      exact ⟨by rw [HR.out]; rfl, rfl⟩

set_option maxRecDepth 100000 in
set_option maxHeartbeats 2000000 in
theorem rrune_3 {s : ByteArray} (hs : s.size ≤ 9223372036854775807) (hc1 : 224 ≤ (bs s).getD 0 0) (hc2 : (bs s).getD 0 0 < 240) (hn : 1 ≤ s.size) (w : World) :
    Calls Tryd.prog 45 #[.string s] w fun e w' => e = .returned (.tuple #[.int .i64 (rune (bs s)).1, .int .i64 (rune (bs s)).2]) ∧ w' = w := by
  have hp : 0 < s.size := hn
  have a0 : (s[0]'hp).toNat = (bs s).getD 0 0 := bs_at hp
  have hlen := bs_len s
  have hb := bs_lt s
  have HL : Hid ((bs s).length = s.size) := hlen
  have HI : Hid (∀ k (h : k < s.size), (s[k]'h).toNat = (bs s).getD k 0) := fun k h => bs_at h
  have h0' : ((s.size : Int) == 0) = false := by rw [beq_eq_false_iff_ne]; omega
  have HB : Hid (∀ k, (bs s).getD k 0 < 256) := hb
  have HZ : Hid (¬ (3 ≤ s.size ∧ (∀ j, 1 ≤ j → j < 3 → isC ((bs s).getD j 0)) ∧ ok3 (acc (bs s) ((bs s).getD 0 0 - 224) 3)) → rune (bs s) = (0, 0)) := fun h => rune_zero (by omega) (by omega) (fun q => h ⟨by omega, fun j j1 j2 => (show j = 1 ∨ j = 2 by omega).elim (fun e => e ▸ q.2.2.2.1) (fun e => e ▸ q.2.2.2.2.1), acc_v3 (bs s) ▸ q.2.2.2.2.2⟩) (by omega)
  have HY : Hid (3 ≤ s.size → (∀ j, 1 ≤ j → j < 3 → isC ((bs s).getD j 0)) → ok3 (acc (bs s) ((bs s).getD 0 0 - 224) 3) → rune (bs s) = (acc (bs s) ((bs s).getD 0 0 - 224) 3, 3)) := fun h1 h2 h3 => by
    have q1 := h2 1 (by omega) (by omega)
    have q2 := h2 2 (by omega) (by omega)
    rw [acc_v3] at h3 ⊢
    exact rune_is3 ⟨by omega, hc1, hc2, q1, q2, h3⟩
  clear hlen hb
  generalize hl : bs s = l at *
  clear hl
  obtain ⟨c, hc⟩ : ∃ c, l.getD 0 0 = c := ⟨_, rfl⟩
  rw [hc] at a0 hc1 hc2 HY
  try rw [hc] at HZ
  clear hc
  have hw : IntKind.i64.wrap (c : Int) = c := by rw [IntKind.wrap_i64]; omega
  have g1 : ¬ (c : Int) < 128 := by omega
  have g2 : ¬ (c : Int) < 224 := by omega
  have g4 : (194 : Int) ≤ c := by omega
  have g3 : (c : Int) < 240 := by omega
  by_cases hsz : (s.size : Int) < 3
  · have hz := HZ.out (fun h => by omega)
    rw [hz]
    go_enter Tryd.func45, Tryd.ntmps45
    go_wp2
    go_ret2
    exact ⟨rfl, rfl⟩
  have hsub : IntKind.i64.wrap ((c : Int) - 224) = ((c - 224 : Nat) : Int) := by rw [IntKind.wrap_i64]; omega
  go_enter Tryd.func45, Tryd.ntmps45
  go_wp2
  go_loop [6, 7] (fun v i => ∃ k : Nat, 1 ≤ k ∧ k ≤ 3 ∧ i = .int .i64 k ∧ v = .int .i64 (acc l (c - 224) k) ∧ ∀ j, 1 ≤ j → j < k → isC (l.getD j 0)) (fun _ i => 3 - (intOf i).toNat)
  case atStart => exact ⟨1, by omega, by omega, rfl, by go_num, fun j h1 h2 => by omega⟩
  case round =>
    obtain ⟨k, hk1, hk, rfl, rfl, hall⟩ := hrel
    have HA : Hid (∀ j, 1 ≤ j → j < k → isC (l.getD j 0)) := hall
    clear hall
    by_cases hkn : k < 3
    · have hks : k < s.size := by omega
      have ak := HI.out k hks
      have hdb := HB.out k
      obtain ⟨d, hd⟩ : ∃ d, l.getD k 0 = d := ⟨_, rfl⟩
      rw [hd] at ak hdb
      have hdw : IntKind.i64.wrap (d : Int) = d := by rw [IntKind.wrap_i64]; omega
      have hab := acc_bd (l := l) (v0 := c - 224) (by omega) HB.out k (by omega)
      have hk5 : k < 5 := by omega
      have hpow : 130 ^ k ≤ 130 ^ 4 := Nat.pow_le_pow_right (by omega) (by omega)
      have hab2 : acc l (c - 224) k ≤ 28561000000 := by
        have : (130 : Nat) ^ 4 = 285610000 := by decide
        omega
      have hkn' : (k : Int) < 3 := by omega
      have hks' : (k : Int) < s.size := by omega
      have HD : Hid (l.getD k 0 = d) := hd
      clear hab hpow hd
      by_cases hC : 128 ≤ d ∧ d ≤ 191
      · have i1 : ¬ (d : Int) < 128 := by omega
        have i2 : ¬ (191 : Int) < d := by omega
        have HS : Hid (acc l (c - 224) (k + 1) = 64 * acc l (c - 224) k + (d - 128)) := by
          show acc l (c - 224) (k + 1) = _
          rw [acc, if_neg (by omega), HD.out]
        generalize acc l (c - 224) k = v at *
        go_wp2_with fail
        go_round
        case rel =>
          refine ⟨k + 1, by omega, by omega, by go_num, ?_, fun j j1 j2 => ?_⟩
          · rw [HS.out]; go_num
          · by_cases e : j = k
            · subst e; rw [HD.out]; exact hC
            · exact HA.out j j1 (by omega)
        case measure => simp [intOf]; omega
      · have hz := HZ.out (fun h => hC (by have := h.2.1 k hk1 hkn; rw [HD.out] at this; exact this))
        have HZ2 : Hid (rune l = (0, 0)) := hz
        clear hz
        by_cases i1 : (d : Int) < 128
        · go_wp2_with fail
          go_ret2
          exact ⟨by rw [HZ2.out]; rfl, rfl⟩
        · have i2 : (191 : Int) < d := by omega
          go_wp2_with fail
          go_ret2
          exact ⟨by rw [HZ2.out]; rfl, rfl⟩
    · obtain rfl : k = 3 := by omega
      have hz := fun h : ¬ ok3 (acc l (c - 224) 3) => HZ.out (fun q => h q.2.2)
      have hy := fun h : ok3 (acc l (c - 224) 3) => HY.out (by omega) HA.out h
      have HZ2 : Hid (¬ ok3 (acc l (c - 224) 3) → rune l = (0, 0)) := hz
      have HY2 : Hid (ok3 (acc l (c - 224) 3) → rune l = (acc l (c - 224) 3, 3)) := hy
      clear hz hy HY HZ
      generalize acc l (c - 224) 3 = v at *
      by_cases v1 : (v : Int) < 2048
      · have hr := HZ2.out (by unfold ok3; omega)
        have HR : Hid (rune l = (0, 0)) := hr
        clear hr
        go_wp2_with fail
        go_ret2
        exact ⟨by rw [HR.out]; rfl, rfl⟩
      by_cases v2 : (55296 : Int) ≤ v
      · by_cases v3 : (v : Int) < 57344
        · have hr := HZ2.out (by unfold ok3; omega)
          have HR : Hid (rune l = (0, 0)) := hr
          clear hr
          go_wp2_with fail
          go_ret2
          exact ⟨by rw [HR.out]; rfl, rfl⟩
        · have hr := HY2.out (by unfold ok3; omega)
          have HR : Hid (rune l = (v, 3)) := hr
          clear hr
          go_wp2_with fail
          go_ret2
          exact ⟨by rw [HR.out]; rfl, rfl⟩
      · have hr := HY2.out (by unfold ok3; omega)
        have HR : Hid (rune l = (v, 3)) := hr
        clear hr
        go_wp2_with fail
        go_ret2
        exact ⟨by rw [HR.out]; rfl, rfl⟩

set_option maxRecDepth 100000 in
set_option maxHeartbeats 2000000 in
theorem rrune_4 {s : ByteArray} (hs : s.size ≤ 9223372036854775807) (hc1 : 240 ≤ (bs s).getD 0 0) (hc2 : (bs s).getD 0 0 < 245) (hn : 1 ≤ s.size) (w : World) :
    Calls Tryd.prog 45 #[.string s] w fun e w' => e = .returned (.tuple #[.int .i64 (rune (bs s)).1, .int .i64 (rune (bs s)).2]) ∧ w' = w := by
  have hp : 0 < s.size := hn
  have a0 : (s[0]'hp).toNat = (bs s).getD 0 0 := bs_at hp
  have hlen := bs_len s
  have hb := bs_lt s
  have HL : Hid ((bs s).length = s.size) := hlen
  have HI : Hid (∀ k (h : k < s.size), (s[k]'h).toNat = (bs s).getD k 0) := fun k h => bs_at h
  have h0' : ((s.size : Int) == 0) = false := by rw [beq_eq_false_iff_ne]; omega
  have HB : Hid (∀ k, (bs s).getD k 0 < 256) := hb
  have HZ : Hid (¬ (4 ≤ s.size ∧ (∀ j, 1 ≤ j → j < 4 → isC ((bs s).getD j 0)) ∧ ok4 (acc (bs s) ((bs s).getD 0 0 - 240) 4)) → rune (bs s) = (0, 0)) := fun h => rune_zero (by omega) (by omega) (by omega) (fun q => h ⟨by omega, fun j j1 j2 => (show j = 1 ∨ j = 2 ∨ j = 3 by omega).elim (fun e => e ▸ q.2.2.2.1) (fun h => h.elim (fun e => e ▸ q.2.2.2.2.1) (fun e => e ▸ q.2.2.2.2.2.1)), acc_v4 (bs s) ▸ q.2.2.2.2.2.2⟩)
  have HY : Hid (4 ≤ s.size → (∀ j, 1 ≤ j → j < 4 → isC ((bs s).getD j 0)) → ok4 (acc (bs s) ((bs s).getD 0 0 - 240) 4) → rune (bs s) = (acc (bs s) ((bs s).getD 0 0 - 240) 4, 4)) := fun h1 h2 h3 => by
    have q1 := h2 1 (by omega) (by omega)
    have q2 := h2 2 (by omega) (by omega)
    have q3 := h2 3 (by omega) (by omega)
    rw [acc_v4] at h3 ⊢
    exact rune_is4 ⟨by omega, hc1, hc2, q1, q2, q3, h3⟩
  clear hlen hb
  generalize hl : bs s = l at *
  clear hl
  obtain ⟨c, hc⟩ : ∃ c, l.getD 0 0 = c := ⟨_, rfl⟩
  rw [hc] at a0 hc1 hc2 HY
  try rw [hc] at HZ
  clear hc
  have hw : IntKind.i64.wrap (c : Int) = c := by rw [IntKind.wrap_i64]; omega
  have g1 : ¬ (c : Int) < 128 := by omega
  have g2 : ¬ (c : Int) < 224 := by omega
  have g4 : ¬ (c : Int) < 240 := by omega
  have g5 : (194 : Int) ≤ c := by omega
  have g3 : (c : Int) < 245 := by omega
  by_cases hsz : (s.size : Int) < 4
  · have hz := HZ.out (fun h => by omega)
    rw [hz]
    go_enter Tryd.func45, Tryd.ntmps45
    go_wp2
    go_ret2
    exact ⟨rfl, rfl⟩
  have hsub : IntKind.i64.wrap ((c : Int) - 240) = ((c - 240 : Nat) : Int) := by rw [IntKind.wrap_i64]; omega
  go_enter Tryd.func45, Tryd.ntmps45
  go_wp2
  go_loop [6, 7] (fun v i => ∃ k : Nat, 1 ≤ k ∧ k ≤ 4 ∧ i = .int .i64 k ∧ v = .int .i64 (acc l (c - 240) k) ∧ ∀ j, 1 ≤ j → j < k → isC (l.getD j 0)) (fun _ i => 4 - (intOf i).toNat)
  case atStart => exact ⟨1, by omega, by omega, rfl, by go_num, fun j h1 h2 => by omega⟩
  case round =>
    obtain ⟨k, hk1, hk, rfl, rfl, hall⟩ := hrel
    have HA : Hid (∀ j, 1 ≤ j → j < k → isC (l.getD j 0)) := hall
    clear hall
    by_cases hkn : k < 4
    · have hks : k < s.size := by omega
      have ak := HI.out k hks
      have hdb := HB.out k
      obtain ⟨d, hd⟩ : ∃ d, l.getD k 0 = d := ⟨_, rfl⟩
      rw [hd] at ak hdb
      have hdw : IntKind.i64.wrap (d : Int) = d := by rw [IntKind.wrap_i64]; omega
      have hab := acc_bd (l := l) (v0 := c - 240) (by omega) HB.out k (by omega)
      have hk5 : k < 5 := by omega
      have hpow : 130 ^ k ≤ 130 ^ 4 := Nat.pow_le_pow_right (by omega) (by omega)
      have hab2 : acc l (c - 240) k ≤ 28561000000 := by
        have : (130 : Nat) ^ 4 = 285610000 := by decide
        omega
      have hkn' : (k : Int) < 4 := by omega
      have hks' : (k : Int) < s.size := by omega
      have HD : Hid (l.getD k 0 = d) := hd
      clear hab hpow hd
      by_cases hC : 128 ≤ d ∧ d ≤ 191
      · have i1 : ¬ (d : Int) < 128 := by omega
        have i2 : ¬ (191 : Int) < d := by omega
        have HS : Hid (acc l (c - 240) (k + 1) = 64 * acc l (c - 240) k + (d - 128)) := by
          show acc l (c - 240) (k + 1) = _
          rw [acc, if_neg (by omega), HD.out]
        generalize acc l (c - 240) k = v at *
        go_wp2_with fail
        go_round
        case rel =>
          refine ⟨k + 1, by omega, by omega, by go_num, ?_, fun j j1 j2 => ?_⟩
          · rw [HS.out]; go_num
          · by_cases e : j = k
            · subst e; rw [HD.out]; exact hC
            · exact HA.out j j1 (by omega)
        case measure => simp [intOf]; omega
      · have hz := HZ.out (fun h => hC (by have := h.2.1 k hk1 hkn; rw [HD.out] at this; exact this))
        have HZ2 : Hid (rune l = (0, 0)) := hz
        clear hz
        by_cases i1 : (d : Int) < 128
        · go_wp2_with fail
          go_ret2
          exact ⟨by rw [HZ2.out]; rfl, rfl⟩
        · have i2 : (191 : Int) < d := by omega
          go_wp2_with fail
          go_ret2
          exact ⟨by rw [HZ2.out]; rfl, rfl⟩
    · obtain rfl : k = 4 := by omega
      have hz := fun h : ¬ ok4 (acc l (c - 240) 4) => HZ.out (fun q => h q.2.2)
      have hy := fun h : ok4 (acc l (c - 240) 4) => HY.out (by omega) HA.out h
      have HZ2 : Hid (¬ ok4 (acc l (c - 240) 4) → rune l = (0, 0)) := hz
      have HY2 : Hid (ok4 (acc l (c - 240) 4) → rune l = (acc l (c - 240) 4, 4)) := hy
      clear hz hy HY HZ
      generalize acc l (c - 240) 4 = v at *
      by_cases v1 : (v : Int) < 65536
      · have hr := HZ2.out (by unfold ok4; omega)
        have HR : Hid (rune l = (0, 0)) := hr
        clear hr
        go_wp2_with fail
        go_ret2
        exact ⟨by rw [HR.out]; rfl, rfl⟩
      by_cases v2 : (1114111 : Int) < v
      · have hr := HZ2.out (by unfold ok4; omega)
        have HR : Hid (rune l = (0, 0)) := hr
        clear hr
        go_wp2_with fail
        go_ret2
        exact ⟨by rw [HR.out]; rfl, rfl⟩
      · have hr := HY2.out (by unfold ok4; omega)
        have HR : Hid (rune l = (v, 4)) := hr
        clear hr
        go_wp2_with fail
        go_ret2
        exact ⟨by rw [HR.out]; rfl, rfl⟩
end Tg
end Go.Proofs.YtgilagmgepogbaaDoor
