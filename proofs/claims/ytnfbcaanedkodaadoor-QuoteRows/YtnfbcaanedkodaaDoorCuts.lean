/-
  The laws QuoteRunes and QuoteCuts over any memory in which the library's error lies.
-/
import Derived.Test.YtnfbcaanedkodaaDoorLaid
namespace Go.Proofs.YtnfbcaanedkodaaDoor
open Go.ChangeShapes Go.WideShapes Go.ChangeAt Go.RowKit
namespace Tg
open Qm

set_option maxHeartbeats 2000000 in
set_option maxRecDepth 100000 in
theorem runes_law (s : ByteArray) (n : Int) (hs : s.size ≤ 140737488355328) (hn : -9223372036854775808 ≤ n ∧ n ≤ 9223372036854775807) (w : World) (hG : Gl w) :
    Calls Tryd.prog 6 #[.string s, .int .i64 n] w fun e w' => e = .returned (.bool true) ∧ Keep (fun _ => False) w w' := by
  have ha := awake_any w hG
  have h1 := fun W => pruns_any s (by omega) W
  have h2 := fun W => rrunes_any s (by omega) W
  have h3 := fun W => cut_any s n hs W
  have h4 := fun W => rcut_any s n (by omega) hn W
  generalize (runes (bs s)).1 = a at *
  generalize (runes (bs s)).2 = b at *
  generalize s.extract 0 (cutI (bs s) n) = c at *
  go_enter Tryd.func6, Tryd.ntmps6
  go_wp2_with fail
  refine ha.mono ?_
  rintro e w0 ⟨rfl, k0⟩
  clear ha
  go_wp2_with fail
  refine (h1 _).mono ?_
  rintro e w1 ⟨rfl, k1⟩
  go_wp2_with fail
  refine (h2 _).mono ?_
  rintro e w2 ⟨rfl, rfl⟩
  go_wp2_with fail
  refine (h3 _).mono ?_
  rintro e w3 ⟨rfl, k3⟩
  go_wp2_with fail
  refine (h4 _).mono ?_
  rintro e w4 ⟨rfl, rfl⟩
  go_wp2_with fail
  go_ret
  exact ⟨rfl, k0.trans (k1.trans k3)⟩

theorem cutI_again (l : List Nat) (m : Int) : cutI (l.take (cutI l m)) m = cutI l m := by
  unfold cutI
  by_cases h : m < 0
  · rw [if_pos h, if_pos h]
  · rw [if_neg h, if_neg h]; exact cutL_again l _
theorem cutI_runes (l : List Nat) (m : Int) : (runes (l.take (cutI l m))).1 + (runes (l.drop (cutI l m))).1 = (runes l).1 ∧ (runes (l.take (cutI l m))).2 + (runes (l.drop (cutI l m))).2 = (runes l).2 := by
  unfold cutI
  by_cases h : m < 0
  · rw [if_pos h, List.take_zero, List.drop_zero, runes_nil]; simp
  · rw [if_neg h]; exact cutL_runes l _
theorem runes_le (l : List Nat) : (runes l).1 + (runes l).2 ≤ l.length := by
  refine list_ind (P := fun l => (runes l).1 + (runes l).2 ≤ l.length) (by rw [runes_nil]; simp) (fun l hne ih => ?_) l
  have hp := piece_pos hne
  rw [runes, dif_neg hne]
  rw [List.length_drop] at ih
  split <;> simp <;> omega

set_option maxHeartbeats 600000 in
set_option maxRecDepth 100000 in
theorem cuts_law (s : ByteArray) (n : Int) (hs : s.size ≤ 140737488355328) (hn : -9223372036854775808 ≤ n ∧ n ≤ 9223372036854775807) (w : World) (hG : Gl w) :
    Calls Tryd.prog 7 #[.string s, .int .i64 n] w fun e w' => e = .returned (.bool true) ∧ Keep (fun _ => False) w w' := by
  have ha := awake_any w hG
  have hkl := cutI_le (bs s) n
  rw [bs_len] at hkl
  have h3 := fun W => cut_any s n hs W
  have hcs : (s.extract 0 (cutI (bs s) n)).size = cutI (bs s) n := by simp; omega
  have hbc := bs_take s (cutI (bs s) n)
  have h5 := fun W => cut_any (s.extract 0 (cutI (bs s) n)) n (by rw [hcs]; omega) W
  rw [hbc, cutI_again] at h5
  have hself : (s.extract 0 (cutI (bs s) n)).extract 0 (cutI (bs s) n) = s.extract 0 (cutI (bs s) n) := by
    conv => lhs; arg 3; rw [← hcs]
    exact extract_all _
  rw [hself] at h5
  have h1 := fun W => pruns_any (s.extract 0 (cutI (bs s) n)) (by rw [hcs]; omega) W
  have h2 := fun W => pruns_any (s.extract (cutI (bs s) n) s.size) (by simp; omega) W
  have h4 := fun W => pruns_any s (by omega) W
  rw [hbc] at h1
  rw [bs_drop] at h2
  obtain ⟨r1, r2⟩ := cutI_runes (bs s) n
  have r3 := runes_le (bs s)
  rw [bs_len] at r3
  have hA : n < 0 → cutI (bs s) n = 0 := fun h => by unfold cutI; rw [if_pos h]
  have hB : 0 ≤ n → (cutI (bs s) n : Int) ≤ n ∧ (n < s.size → n ≤ (cutI (bs s) n : Int) + 3) := fun h => by
    unfold cutI
    rw [if_neg (by omega)]
    have hb := cutL_bd (bs s) n.toNat
    rw [bs_len] at hb
    refine ⟨by omega, fun h' => ?_⟩
    have := hb.2.2.2 (by omega)
    omega
  have hC : (s.size : Int) ≤ n → cutI (bs s) n = s.size := fun h => by rw [cutI_all (by rw [bs_len]; exact h), bs_len]
  generalize (runes ((bs s).take (cutI (bs s) n))).1 = a at *
  generalize (runes ((bs s).take (cutI (bs s) n))).2 = b at *
  generalize (runes ((bs s).drop (cutI (bs s) n))).1 = x at *
  generalize (runes ((bs s).drop (cutI (bs s) n))).2 = y at *
  generalize (runes (bs s)).1 = p at *
  generalize (runes (bs s)).2 = q at *
  generalize cutI (bs s) n = k at *
  have a1 : IntKind.i64.wrap ((a : Int) + x) = (p : Int) := by rw [IntKind.wrap_i64]; omega
  have a2 : IntKind.i64.wrap ((b : Int) + y) = (q : Int) := by rw [IntKind.wrap_i64]; omega
  clear r1 r2 r3 hbc hself
  rcases (by omega : n < 0 ∨ (0 ≤ n ∧ n < s.size) ∨ (s.size : Int) ≤ n) with hc | hc | hc
  · obtain rfl := hA hc
    have hce : s.extract 0 0 = ⟨#[]⟩ := by apply ByteArray.ext; rw [ByteArray.data_extract]; simp
    rw [hce] at h1 h3 h5
    rw [extract_all] at h2
    have i1 : ¬ (0 : Int) ≤ n := by omega
    have i2 : ¬ (s.size : Int) ≤ n := by omega
    have i3 : ((0 : Nat) : Int) ≤ s.size := by omega
    clear hA hB hC hcs
    go_enter Tryd.func7, Tryd.ntmps7
    go_wp2_with fail
    refine ha.mono ?_
    rintro e w0 ⟨rfl, k0⟩
    clear ha
    go_wp2_with fail
    refine (h3 _).mono ?_
    rintro e w1 ⟨rfl, k1⟩
    go_wp2_with fail
    refine (h1 _).mono ?_
    rintro e w2 ⟨rfl, k2⟩
    go_wp2_with fail
    refine (h2 _).mono ?_
    rintro e w3 ⟨rfl, k3⟩
    go_wp2_with fail
    refine (h4 _).mono ?_
    rintro e w4 ⟨rfl, k4⟩
    go_wp2_with fail
    refine (h5 _).mono ?_
    rintro e w5 ⟨rfl, k5⟩
    go_wp2_with fail
    go_ret
    exact ⟨rfl, k0.trans (k1.trans (k2.trans (k3.trans (k4.trans k5))))⟩
  · obtain ⟨hB1, hB2⟩ := hB hc.1
    have hB3 := hB2 hc.2
    have i1 : ¬ n < 0 := by omega
    have i2 : (0 : Int) ≤ n := hc.1
    have i3 : n < s.size := hc.2
    have i4 : ¬ (s.size : Int) ≤ n := by omega
    have i5 : ¬ n < (k : Int) := by omega
    have i6 : (k : Int) ≤ s.size := by omega
    have i7 : ¬ (s.size : Int) < k := by omega
    have i8 : IntKind.i64.wrap (n - 3) = n - 3 := by rw [IntKind.wrap_i64]; omega
    have i9 : ¬ (k : Int) < n - 3 := by omega
    obtain ⟨c, hce⟩ : ∃ c, s.extract 0 k = c := ⟨_, rfl⟩
    rw [hce] at h1 h3 h5 hcs
    clear hA hB hC hc hB1 hB2 hB3
    go_enter Tryd.func7, Tryd.ntmps7
    go_wp2_with fail
    refine ha.mono ?_
    rintro e w0 ⟨rfl, k0⟩
    clear ha
    go_wp2_with fail
    refine (h3 _).mono ?_
    rintro e w1 ⟨rfl, k1⟩
    go_wp2_with fail
    refine (h1 _).mono ?_
    rintro e w2 ⟨rfl, k2⟩
    go_wp2_with fail
    refine (h2 _).mono ?_
    rintro e w3 ⟨rfl, k3⟩
    go_wp2_with fail
    refine (h4 _).mono ?_
    rintro e w4 ⟨rfl, k4⟩
    go_wp2_with fail
    refine (h5 _).mono ?_
    rintro e w5 ⟨rfl, k5⟩
    go_wp2_with fail
    go_ret
    exact ⟨rfl, k0.trans (k1.trans (k2.trans (k3.trans (k4.trans k5))))⟩
  · have hkk := hC hc
    subst hkk
    have i1 : ¬ n < 0 := by omega
    have i2 : (0 : Int) ≤ n := by omega
    have i3 : ¬ n < s.size := by omega
    have i5 : ¬ n < (s.size : Int) := by omega
    rw [extract_all] at h1 h3 h5
    have hem : s.extract s.size s.size = ByteArray.empty := by
      apply ByteArray.ext
      rw [ByteArray.data_extract]
      simp
    rw [hem] at h2
    clear hA hB hC hcs hem
    go_enter Tryd.func7, Tryd.ntmps7
    go_wp2_with fail
    refine ha.mono ?_
    rintro e w0 ⟨rfl, k0⟩
    clear ha
    go_wp2_with fail
    refine (h3 _).mono ?_
    rintro e w1 ⟨rfl, k1⟩
    go_wp2_with fail
    refine (h1 _).mono ?_
    rintro e w2 ⟨rfl, k2⟩
    go_wp2_with fail
    refine (h2 _).mono ?_
    rintro e w3 ⟨rfl, k3⟩
    go_wp2_with fail
    refine (h4 _).mono ?_
    rintro e w4 ⟨rfl, k4⟩
    go_wp2_with fail
    refine (h5 _).mono ?_
    rintro e w5 ⟨rfl, k5⟩
    go_wp2_with fail
    go_ret
    exact ⟨rfl, k0.trans (k1.trans (k2.trans (k3.trans (k4.trans k5))))⟩
end Tg
end Go.Proofs.YtnfbcaanedkodaaDoor
