/-
  The document's own runes over any memory: Rune at any string, Runes.
-/
import Derived.Test.YtnfbcaanedkodaaDoorRune
namespace Go.Proofs.YtnfbcaanedkodaaDoor
open Go.ChangeShapes Go.WideShapes Go.ChangeAt Go.RowKit
namespace Tg
open Qm
theorem rrune_any (s : ByteArray) (hs : s.size ≤ 9223372036854775807) (w : World) : Calls Tryd.prog 25 #[.string s] w fun e w' => e = .returned (.tuple #[.int .i64 (rune (bs s)).1, .int .i64 (rune (bs s)).2]) ∧ w' = w := by
  have hlen := bs_len s
  by_cases h0 : s.size = 0
  · have hb : bs s = [] := List.eq_nil_of_length_eq_zero (by omega)
    rw [hb]
    clear hb hlen
    go_enter Tryd.func25, Tryd.ntmps25
    go_wp2
    go_ret2
    exact ⟨rfl, rfl⟩
  have hp : 0 < s.size := by omega
  by_cases h2 : 194 ≤ (bs s).getD 0 0 ∧ (bs s).getD 0 0 < 224
  · exact rrune_2 hs h2.1 h2.2 hp w
  by_cases h3 : 224 ≤ (bs s).getD 0 0 ∧ (bs s).getD 0 0 < 240
  · exact rrune_3 hs h3.1 h3.2 hp w
  by_cases h4 : 240 ≤ (bs s).getD 0 0 ∧ (bs s).getD 0 0 < 245
  · exact rrune_4 hs h4.1 h4.2 hp w
  have a0 : (s[0]'hp).toNat = (bs s).getD 0 0 := bs_at hp
  have hb := bs_lt s 0
  have h0' : ((s.size : Int) == 0) = false := by rw [beq_eq_false_iff_ne]; omega
  by_cases h1 : (bs s).getD 0 0 < 128
  · have hr := rune_is1 (l := bs s) ⟨by omega, h1⟩
    rw [hr]
    obtain ⟨c, hc⟩ : ∃ c, (bs s).getD 0 0 = c := ⟨_, rfl⟩
    rw [hc] at a0 hb h1 ⊢
    have hw : IntKind.i64.wrap (c : Int) = c := by rw [IntKind.wrap_i64]; omega
    have g1 : (c : Int) < 128 := by omega
    clear hc h2 h3 h4 hr
    go_enter Tryd.func25, Tryd.ntmps25
    go_wp2
    go_ret2
    exact ⟨rfl, rfl⟩
  · have hr := rune_zero (l := bs s) (by omega) (by omega) (by omega) (by omega)
    rw [hr]
    obtain ⟨c, hc⟩ : ∃ c, (bs s).getD 0 0 = c := ⟨_, rfl⟩
    rw [hc] at a0 hb h1 h2 h3 h4
    have hw : IntKind.i64.wrap (c : Int) = c := by rw [IntKind.wrap_i64]; omega
    have g1 : ¬ (c : Int) < 128 := by omega
    clear hc hr
    by_cases g2 : (194 : Int) ≤ c
    · have g3 : ¬ (c : Int) < 224 := by omega
      have g4 : ¬ (c : Int) < 240 := by omega
      have g5 : ¬ (c : Int) < 245 := by omega
      have g6 : (224 : Int) ≤ c := by omega
      have g7 : (240 : Int) ≤ c := by omega
      clear h2 h3 h4
      go_enter Tryd.func25, Tryd.ntmps25
      go_wp2
      go_ret2
      exact ⟨rfl, rfl⟩
    · have g6 : ¬ (224 : Int) ≤ c := by omega
      have g7 : ¬ (240 : Int) ≤ c := by omega
      clear h2 h3 h4
      go_enter Tryd.func25, Tryd.ntmps25
      go_wp2
      go_ret2
      exact ⟨rfl, rfl⟩

theorem bs_drop (s : ByteArray) (n : Nat) : bs (s.extract n s.size) = (bs s).drop n := by
  unfold bs
  rw [ByteArray.data_extract, Array.toList_extract, ← List.map_drop]
  congr 1
  simp only [List.extract_eq_take_drop]
  rw [List.take_of_length_le]
  rw [List.length_drop, Array.length_toList]
  exact Nat.le_refl _

set_option maxRecDepth 100000 in
theorem rrunes_any (s : ByteArray) (hs : s.size ≤ 9223372036854775807) (w : World) : Calls Tryd.prog 14 #[.string s] w fun e w' => e = .returned (.tuple #[.int .i64 (runes (bs s)).1, .int .i64 (runes (bs s)).2]) ∧ w' = w := by
  have hrl : ∀ l : List Nat, (runes l).1 + (runes l).2 ≤ l.length := fun l => by
    refine list_ind (P := fun l => (runes l).1 + (runes l).2 ≤ l.length) (by rw [runes_nil]; simp) (fun l hne ih => ?_) l
    have hp := piece_pos hne
    rw [runes, dif_neg hne]
    rw [List.length_drop] at ih
    split <;> simp <;> omega
  have HR0 := hrl (bs s)
  rw [bs_len] at HR0
  have HR : Hid ((runes (bs s)).1 + (runes (bs s)).2 ≤ s.size) := HR0
  clear hrl HR0
  go_enter Tryd.func14, Tryd.ntmps14
  go_wp2
  go_loop [0, 4, 5] (fun x a b => ∃ (t : ByteArray) (p q : Nat), t.size ≤ s.size ∧ x = .string t ∧ a = .int .i64 p ∧ b = .int .i64 q ∧ p + (runes (bs t)).1 = (runes (bs s)).1 ∧ q + (runes (bs t)).2 = (runes (bs s)).2) (fun x _ _ => match x with | .string t => t.size | _ => 0)
  case atStart => exact ⟨s, 0, 0, by omega, rfl, rfl, rfl, by omega, by omega⟩
  case round =>
    obtain ⟨t, p, q, ht, rfl, rfl, rfl, h1, h2⟩ := hrel
    by_cases h0 : t.size = 0
    · have hb : bs t = [] := List.eq_nil_of_length_eq_zero (by rw [bs_len]; exact h0)
      rw [hb, runes_nil] at h1 h2
      have HE : Hid (p = (runes (bs s)).1 ∧ q = (runes (bs s)).2) := ⟨h1, h2⟩
      clear hb h1 h2
      go_wp2_with fail
      go_ret2
      exact ⟨by rw [← HE.out.1, ← HE.out.2]; rfl, rfl⟩
    · have hp0 : (0 : Int) < t.size := by omega
      have hne : bs t ≠ [] := fun e => h0 (by have := bs_len t; rw [e] at this; simpa using this.symm)
      have hru := rrune_any t (by omega) w
      have hlen := rune_len (l := bs t)
      rw [bs_len] at hlen
      by_cases hz : (rune (bs t)).2 = 0
      · have e1 := runes_bad hne hz
        rw [← bs_drop] at e1
        rw [e1] at h1 h2
        have HE : Hid (p + (runes (bs (t.extract 1 t.size))).1 = (runes (bs s)).1 ∧ q + ((runes (bs (t.extract 1 t.size))).2 + 1) = (runes (bs s)).2) := ⟨h1, h2⟩
        have hq : IntKind.i64.wrap ((q : Int) + 1) = (q : Int) + 1 := by have := HR.out; rw [IntKind.wrap_i64]; omega
        rw [hz] at hru
        clear e1 h1 h2 hlen hz hne
        generalize (rune (bs t)).1 = v at hru
        have i1 : (1 : Int) ≤ t.size := by omega
        go_wp2_with fail
        refine hru.mono ?_
        rintro e w' ⟨rfl, rfl⟩
        go_wp2_with fail
        go_round
        case rel => exact ⟨t.extract 1 t.size, p, q + 1, by simp; omega, rfl, rfl, by go_num, HE.out.1, by have := HE.out.2; omega⟩
        case measure => simp; omega
      · have e1 := runes_good hz
        rw [← bs_drop] at e1
        rw [e1] at h1 h2
        obtain ⟨n, hn⟩ : ∃ n, (rune (bs t)).2 = n := ⟨_, rfl⟩
        rw [hn] at h1 h2 hz hru hlen
        have HE : Hid (p + ((runes (bs (t.extract n t.size))).1 + 1) = (runes (bs s)).1 ∧ q + (runes (bs (t.extract n t.size))).2 = (runes (bs s)).2) := ⟨h1, h2⟩
        have hq : IntKind.i64.wrap ((p : Int) + 1) = (p : Int) + 1 := by have := HR.out; rw [IntKind.wrap_i64]; omega
        have hz' : ((n : Int) == 0) = false := by rw [beq_eq_false_iff_ne]; omega
        clear e1 h1 h2 hn hne
        generalize (rune (bs t)).1 = v at hru
        have i1 : (n : Int) ≤ t.size := by omega
        go_wp2_with fail
        refine hru.mono ?_
        rintro e w' ⟨rfl, rfl⟩
        go_wp2_with fail
        go_round
        case rel => exact ⟨t.extract n t.size, p + 1, q, by simp; omega, rfl, by go_num, rfl, by have := HE.out.1; omega, HE.out.2⟩
        case measure => simp; omega
end Tg
end Go.Proofs.YtnfbcaanedkodaaDoor
