/-
  The document's own runes over any memory: Rune at any string, Runes.
-/
import Derived.Test.YtgilagmgepogbaaDoorRune
namespace Go.Proofs.YtgilagmgepogbaaDoor
open Go.ChangeShapes Go.WideShapes Go.ChangeAt Go.RowKit
namespace Tg
open Qm
theorem rrune_any (s : ByteArray) (hs : s.size ≤ 9223372036854775807) (w : World) : Calls Tryd.prog 45 #[.string s] w fun e w' => e = .returned (.tuple #[.int .i64 (rune (bs s)).1, .int .i64 (rune (bs s)).2]) ∧ w' = w := by
  have hlen := bs_len s
  by_cases h0 : s.size = 0
  · have hb : bs s = [] := List.eq_nil_of_length_eq_zero (by omega)
    rw [hb]
    clear hb hlen
    go_enter Tryd.func45, Tryd.ntmps45
    go_wp2
    go_ret2
    exact ⟨rfl, rfl⟩
  have hp : 0 < s.size := by omega
  by_cases h2 : 194 ≤ (bs s).getD 0 0 ∧ (bs s).getD 0 0 < 224
  · exact rrune_2 hs h2.1 h2.2 hp w
  by_cases h3 : 224 ≤ (bs s).getD 0 0 ∧ (bs s).getD 0 0 < 240
  · exact rrune_3 hs h3.1 h3.2 hp w
  by_cases h4 : 240 ≤ (bs s).getD 0 0 ∧ (bs s).getD 0 0 < 245
  · exact rrune_4 hs h4.1 h4.2 hp w
  have a0 : (s[0]'hp).toNat = (bs s).getD 0 0 := bs_at hp
  have hb := bs_lt s 0
  have h0' : ((s.size : Int) == 0) = false := by rw [beq_eq_false_iff_ne]; omega
  by_cases h1 : (bs s).getD 0 0 < 128
  · have hr := rune_is1 (l := bs s) ⟨by omega, h1⟩
    rw [hr]
    obtain ⟨c, hc⟩ : ∃ c, (bs s).getD 0 0 = c := ⟨_, rfl⟩
    rw [hc] at a0 hb h1 ⊢
    have hw : IntKind.i64.wrap (c : Int) = c := by rw [IntKind.wrap_i64]; omega
    have g1 : (c : Int) < 128 := by omega
    clear hc h2 h3 h4 hr
    go_enter Tryd.func45, Tryd.ntmps45
    go_wp2
    go_ret2
    exact ⟨rfl, rfl⟩
  · have hr := rune_zero (l := bs s) (by omega) (by omega) (by omega) (by omega)
    rw [hr]
    obtain ⟨c, hc⟩ : ∃ c, (bs s).getD 0 0 = c := ⟨_, rfl⟩
    rw [hc] at a0 hb h1 h2 h3 h4
    have hw : IntKind.i64.wrap (c : Int) = c := by rw [IntKind.wrap_i64]; omega
    have g1 : ¬ (c : Int) < 128 := by omega
    clear hc hr
    by_cases g2 : (194 : Int) ≤ c
    · have g3 : ¬ (c : Int) < 224 := by omega
      have g4 : ¬ (c : Int) < 240 := by omega
      have g5 : ¬ (c : Int) < 245 := by omega
      have g6 : (224 : Int) ≤ c := by omega
      have g7 : (240 : Int) ≤ c := by omega
      clear h2 h3 h4
      go_enter Tryd.func45, Tryd.ntmps45
      go_wp2
      go_ret2
      exact ⟨rfl, rfl⟩
    · have g6 : ¬ (224 : Int) ≤ c := by omega
      have g7 : ¬ (240 : Int) ≤ c := by omega
      clear h2 h3 h4
      go_enter Tryd.func45, Tryd.ntmps45
      go_wp2
      go_ret2
      exact ⟨rfl, rfl⟩

theorem bs_drop (s : ByteArray) (n : Nat) : bs (s.extract n s.size) = (bs s).drop n := by
  unfold bs
  rw [ByteArray.data_extract, Array.toList_extract, ← List.map_drop]
  congr 1
  simp only [List.extract_eq_take_drop]
  rw [List.take_of_length_le]
  rw [List.length_drop, Array.length_toList]
  exact Nat.le_refl _

end Tg
end Go.Proofs.YtgilagmgepogbaaDoor
