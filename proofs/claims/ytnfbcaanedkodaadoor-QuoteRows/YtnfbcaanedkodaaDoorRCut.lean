/-
  The document's own cut over any memory.
-/
import Derived.Test.YtnfbcaanedkodaaDoorRunes
namespace Go.Proofs.YtnfbcaanedkodaaDoor
open Go.ChangeShapes Go.WideShapes Go.ChangeAt Go.RowKit
namespace Tg
open Qm

/-- The cut at any number. -/
def cutI (l : List Nat) (m : Int) : Nat := if m < 0 then 0 else cutL l m.toNat
theorem cutI_nil (m : Int) : cutI [] m = 0 := by unfold cutI; split; rfl; exact cutL_nil _
theorem cutI_short {l : List Nat} {m : Int} (h : m < ((piece l).2 : Int)) : cutI l m = 0 := by
  unfold cutI
  split
  · rfl
  · exact cutL_short (by omega)
theorem cutI_step {l : List Nat} {m : Int} (e : l ≠ []) (h : ¬ m < ((piece l).2 : Int)) : cutI l m = (piece l).2 + cutI (l.drop (piece l).2) (m - (piece l).2) := by
  unfold cutI
  rw [if_neg (by omega), if_neg (by omega), cutL_step e (by omega)]
  congr 2
  omega

set_option maxRecDepth 100000 in
theorem rcut_any (s : ByteArray) (m : Int) (hs : s.size ≤ 9223372036854775807) (hm : -9223372036854775808 ≤ m ∧ m ≤ 9223372036854775807) (w : World) : Calls Tryd.prog 17 #[.string s, .int .i64 m] w fun e w' => e = .returned (.string (s.extract 0 (cutI (bs s) m))) ∧ w' = w := by
  have hsz : (s.size : Int) ≤ 9223372036854775807 := by omega
  go_enter Tryd.func17, Tryd.ntmps17
  go_wp2
  go_loop [5] (fun a => ∃ k : Nat, k ≤ s.size ∧ a = .int .i64 k ∧ ((k : Int) ≤ m ∨ k = 0) ∧ k + cutI ((bs s).drop k) (m - k) = cutI (bs s) m) (fun a => s.size - (intOf a).toNat)
  case atStart => exact ⟨0, by omega, rfl, Or.inr rfl, by simp⟩
  case round =>
    obtain ⟨k, hk, rfl, hkm, hcut⟩ := hrel
    by_cases hlt : k < s.size
    · have hru := rrune_any (s.extract k s.size) (by simp; omega) w
      rw [bs_drop] at hru
      have hne : (bs s).drop k ≠ [] := fun e => by
        have h1 := congrArg List.length e
        rw [List.length_drop, bs_len, List.length_nil] at h1
        omega
      have hp := piece_pos hne
      rw [List.length_drop, bs_len] at hp
      have hsub : IntKind.i64.wrap (m - k) = m - k := by rw [IntKind.wrap_i64]; omega
      have hlt' : (k : Int) < s.size := by omega
      have hk' : (k : Int) ≤ s.size := by omega
      obtain ⟨n, hn⟩ : ∃ n, (piece ((bs s).drop k)).2 = n := ⟨_, rfl⟩
      have hrn : (rune ((bs s).drop k)).2 = 0 ∧ n = 1 ∨ ((rune ((bs s).drop k)).2 = n ∧ n ≠ 0) := by
        unfold piece at hn
        by_cases h0 : (rune ((bs s).drop k)).2 = 0
        · rw [if_pos h0] at hn; exact Or.inl ⟨h0, hn.symm⟩
        · rw [if_neg h0] at hn; exact Or.inr ⟨hn, by rw [← hn]; exact h0⟩
      have HN : Hid ((piece ((bs s).drop k)).2 = n) := hn
      rw [hn] at hp
      have hadd : IntKind.i64.wrap ((k : Int) + n) = (k : Int) + n := by rw [IntKind.wrap_i64]; omega
      have HC : Hid (k + cutI ((bs s).drop k) (m - k) = cutI (bs s) m) := hcut
      have HS : Hid (m - k < n → cutI (bs s) m = k) := fun h => by
        have := HC.out
        rw [cutI_short (by rw [HN.out]; exact h)] at this
        omega
      have HT : Hid (¬ m - k < n → (k + n) + cutI ((bs s).drop (k + n)) (m - (k + n : Nat)) = cutI (bs s) m) := fun h => by
        have h1 := HC.out
        rw [cutI_step hne (by rw [HN.out]; exact h), HN.out, List.drop_drop] at h1
        rw [show m - ((k + n : Nat) : Int) = m - k - n by omega]
        omega
      clear hn hcut hne
      generalize (rune ((bs s).drop k)).1 = v at hru
      rcases hrn with ⟨h0, rfl⟩ | ⟨h0, hn0⟩
      · rw [h0] at hru
        clear h0
        by_cases hbr : m - k < (1 : Nat)
        · have hbr' : m - k < 1 := by omega
          have HE := HS.out hbr
          have HE2 : Hid (cutI (bs s) m = k) := HE
          clear HE hbr
          go_wp2_with fail
          refine hru.mono ?_
          rintro e w' ⟨rfl, rfl⟩
          go_wp2_with fail
          go_ret
          exact ⟨by rw [HE2.out]; rfl, rfl⟩
        · have hbr' : ¬ m - k < 1 := by omega
          have HE := HT.out hbr
          have HE2 : Hid ((k + 1) + cutI ((bs s).drop (k + 1)) (m - (k + 1 : Nat)) = cutI (bs s) m) := HE
          clear HE hbr
          go_wp2_with fail
          refine hru.mono ?_
          rintro e w' ⟨rfl, rfl⟩
          go_wp2_with fail
          go_round
          case rel => exact ⟨k + 1, by omega, by go_num, Or.inl (by omega), HE2.out⟩
          case measure => simp [intOf]; omega
      · rw [h0] at hru
        have hz' : ((n : Int) == 0) = false := by rw [beq_eq_false_iff_ne]; omega
        clear h0
        by_cases hbr : m - k < n
        · have HE := HS.out hbr
          have HE2 : Hid (cutI (bs s) m = k) := HE
          clear HE
          go_wp2_with fail
          refine hru.mono ?_
          rintro e w' ⟨rfl, rfl⟩
          go_wp2_with fail
          go_ret
          exact ⟨by rw [HE2.out]; rfl, rfl⟩
        · have HE := HT.out hbr
          have HE2 : Hid ((k + n) + cutI ((bs s).drop (k + n)) (m - (k + n : Nat)) = cutI (bs s) m) := HE
          clear HE
          go_wp2_with fail
          refine hru.mono ?_
          rintro e w' ⟨rfl, rfl⟩
          go_wp2_with fail
          go_round
          case rel => exact ⟨k + n, by omega, by go_num, Or.inl (by omega), HE2.out⟩
          case measure => simp [intOf]; omega
    · obtain rfl : k = s.size := by omega
      have hd : (bs s).drop s.size = [] := List.drop_eq_nil_of_le (by rw [bs_len]; exact Nat.le_refl _)
      rw [hd, cutI_nil] at hcut
      have HE : Hid (cutI (bs s) m = s.size) := by show _ = _; omega
      clear hcut hd
      go_wp2_with fail
      go_ret
      exact ⟨by rw [HE.out, show s.extract 0 s.size = s by simp]; rfl, rfl⟩
end Tg
end Go.Proofs.YtnfbcaanedkodaaDoor
