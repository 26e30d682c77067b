/-
  Get and GetInt of package vint over any memory: they read the number that the bytes begin with, or none; the memory is as it was.
-/
import Derived.Test.YtknnaoloebknjaaWalks
namespace Go.Proofs.Ytknnaoloebknjaa
open Go.ChangeShapes Go.WideShapes Go.ChangeAt Go.RowKit
namespace Tg
open Vi

theorem pow7 (k : Nat) : (2 : Int) ^ (7 * k) = 128 ^ k := by rw [Int.pow_mul]; rfl

theorem bor64 (a b : Nat) (ha : a < 18446744073709551616) (hb : b < 18446744073709551616) : bits .or .u64 (a : Int) (b : Int) = ((a ||| b : Nat) : Int) := by
  show IntKind.u64.wrap ((BitVec.ofInt 64 (a : Int) ||| BitVec.ofInt 64 (b : Int)).toNat : Int) = _
  have h1 : (a ||| b) < 2 ^ 64 := Nat.or_lt_two_pow ha hb
  rw [IntKind.wrap_u64, BitVec.toNat_or, BitVec.ofInt_natCast, BitVec.ofInt_natCast, BitVec.toNat_ofNat, BitVec.toNat_ofNat, Nat.mod_eq_of_lt ha, Nat.mod_eq_of_lt hb]
  omega

theorem digit_bd {x : Int} {k : Nat} (hx : 0 ≤ x ∧ x ≤ 127) (hk : k ≤ 9) (h9 : k = 9 → x ≤ 1) : 0 ≤ x * 128 ^ k ∧ x * 128 ^ k + 128 ^ k ≤ 18446744073709551616 := by
  have hp := pow_pos' k
  refine ⟨Int.mul_nonneg hx.1 (by omega), ?_⟩
  by_cases e : k = 9
  · have := h9 e
    rw [e, nine]; omega
  · have hle : (128 : Int) ^ k ≤ 128 ^ 8 := by
      have : (128 : Nat) ^ k ≤ 128 ^ 8 := Nat.pow_le_pow_right (by omega) (by omega)
      exact_mod_cast this
    have h8 : (128 : Int) ^ 8 = 72057594037927936 := by decide
    have : x * 128 ^ k ≤ 127 * 128 ^ k := Int.mul_le_mul_of_nonneg_right (by omega) (by omega)
    omega

theorem or_digit {s x : Int} {k : Nat} (h0 : 0 ≤ s) (h1 : s < 128 ^ k) (hx : 0 ≤ x ∧ x ≤ 127) (hk : k ≤ 9) (h9 : k = 9 → x ≤ 1) : bits .or .u64 s (IntKind.u64.wrap (x * 2 ^ (7 * k))) = s + x * 128 ^ k := by
  have hd := digit_bd hx hk h9
  have hp := pow_pos' k
  rw [IntKind.wrap_u64, pow7, Int.emod_eq_of_lt hd.1 (by omega)]
  obtain ⟨a, rfl⟩ := Int.eq_ofNat_of_zero_le h0
  obtain ⟨b, rfl⟩ := Int.eq_ofNat_of_zero_le hx.1
  have e : ((b : Int) * 128 ^ k) = ((2 ^ (7 * k) * b : Nat) : Int) := by
    rw [← pow7]; push_cast; rw [Int.mul_comm]
  have ha : a < 2 ^ (7 * k) := by
    rw [← pow7] at h1
    exact_mod_cast h1
  rw [e] at hd ⊢
  rw [bor64 a _ (by omega) (by omega), Nat.or_comm, ← Nat.two_pow_add_eq_or_of_lt ha]
  push_cast; omega

theorem drop_at {l : List Int} {k : Nat} (h : k < l.length) : l.drop k = l.getD k 0 :: l.drop (k + 1) := by
  rw [List.drop_eq_getElem_cons h]; simp [List.getD, h]

theorem gv_none {l : List Int} (h : vg 0 0 l = none) : gv l = 0 ∧ gn l = 0 ∧ ge l = 11 := by simp [gv, gn, ge, h]
theorem gv_some {l : List Int} {v : Int} {n : Nat} (h : vg 0 0 l = some (v, n)) : gv l = v ∧ gn l = n ∧ ge l = 0 := by simp [gv, gn, ge, h]

theorem get_any {w : World} {a : Option Addr} {len cap : Nat} {l : List Int} (hr : Row w a len cap l) :
    Calls Try.prog 9 #[.slice a len cap] w fun e w' => e = .returned (.tuple #[.int .u64 (gv l), .int .i64 (gn l), .int .i64 (ge l)]) ∧ w' = w := by
  obtain ⟨h1, h2, h3, h4, h5⟩ := hr
  have hlen : (len : Int) ≤ 9223372036854775807 := by omega
  go_enter Try.func9, Try.ntmps9
  go_wp2
  go_loop [5, 10] (fun c i => ∃ (k : Nat) (s : Int), k ≤ len ∧ k ≤ 9 ∧ i = .int .i64 k ∧ c = .int .u64 s ∧ 0 ≤ s ∧ s < 128 ^ k ∧ vg 0 0 l = vg k s (l.drop k)) (fun _ i => len - (intOf i).toNat)
  case atStart => exact ⟨0, 0, by omega, by omega, rfl, rfl, by omega, by simp, by simp⟩
  case round =>
    obtain ⟨k, s, hk, hk9, rfl, rfl, s0, s1, hg⟩ := hrel
    by_cases hlt : k < len
    · rcases h5 with h0 | ⟨b, o, rfl, hc⟩
      · omega
      have hck := hc k hlt
      rw [drop_at (by omega)] at hg
      have hb := getD_bound h4 k
      generalize l.getD k 0 = x at hck hg hb
      have HS : Hid (s < 128 ^ k) := s1
      clear hc s1 h1 h4
      simp only [vg] at hg
      by_cases c1 : k = 9 ∧ 1 < x
      · rw [if_pos c1] at hg
        obtain ⟨rfl, c1⟩ := c1
        have HE : Hid (gv l = 0 ∧ gn l = 0 ∧ ge l = 11) := gv_none hg
        clear hg
        go_wp2_with fail
        go_ret3
        exact ⟨by rw [HE.out.1, HE.out.2.1, HE.out.2.2]; rfl, rfl⟩
      · rw [if_neg c1] at hg
        have h9 : k = 9 → x % 128 ≤ 1 := fun e => by omega
        have HO : Hid (bits .or .u64 s (IntKind.u64.wrap (x % 128 * 2 ^ (7 * k))) = s + x % 128 * 128 ^ k) := or_digit s0 HS.out (by omega) hk9 h9
        have HD := digit_bd (x := x % 128) (k := k) (by omega) hk9 h9
        have HP : Hid (0 ≤ x % 128 * 128 ^ k ∧ x % 128 * 128 ^ k + 128 ^ k ≤ 18446744073709551616) := HD
        have HC : Hid (¬ (k = 9 ∧ 1 < x)) := c1
        clear h9 HD
        by_cases c2 : 128 ≤ x
        · rw [if_pos c2] at hg
          have hk8 : (k : Int) < 9 := by omega
          have HG : Hid (vg 0 0 l = vg (k + 1) (s + x % 128 * 128 ^ k) (l.drop (k + 1))) := hg
          clear hg c1
          have hk9' : ¬ (k : Int) = 9 := by omega
          go_wp2_with fail
          go_round
          case rel =>
            refine ⟨k + 1, s + x % 128 * 128 ^ k, by omega, by omega, by go_num, by rw [← HO.out], ?_, ?_, HG.out⟩
            · have := HP.out; omega
            · have hs := HS.out
              have hm : x % 128 * 128 ^ k ≤ 127 * 128 ^ k := Int.mul_le_mul_of_nonneg_right (by omega) (by have := pow_pos' k; omega)
              rw [Int.pow_succ]; omega
          case measure => simp [intOf]; omega
        · rw [if_neg c2] at hg
          by_cases c3 : x = 0 ∧ 0 < k
          · rw [if_pos c3] at hg
            obtain ⟨rfl, c3⟩ := c3
            have HE : Hid (gv l = 0 ∧ gn l = 0 ∧ ge l = 11) := gv_none hg
            clear hg c1
            by_cases hk9' : k = 9
            · subst hk9'
              go_wp2_with fail
              go_ret3
              exact ⟨by rw [HE.out.1, HE.out.2.1, HE.out.2.2]; rfl, rfl⟩
            · have hk9'' : ¬ (k : Int) = 9 := by omega
              have hkp : (0 : Int) < k := by omega
              go_wp2_with fail
              go_ret3
              exact ⟨by rw [HE.out.1, HE.out.2.1, HE.out.2.2]; rfl, rfl⟩
          · rw [if_neg c3] at hg
            have HE : Hid (gv l = s + x % 128 * 128 ^ k ∧ gn l = ((k + 1 : Nat) : Int) ∧ ge l = 0) := gv_some hg
            clear hg c1
            by_cases hk9' : k = 9
            · subst hk9'
              obtain rfl : x = 1 := by have := HC.out; omega
              have HO2 : Hid (bits .or .u64 s 9223372036854775808 = s + 1 % 128 * 128 ^ 9) := HO.out
              go_wp2_with fail
              go_ret3
              exact ⟨by rw [HE.out.1, HE.out.2.1, HE.out.2.2, ← HO2.out]; rfl, rfl⟩
            · have hk9'' : ¬ (k : Int) = 9 := by omega
              by_cases hx0 : x = 0
              · obtain rfl : k = 0 := by omega
                subst hx0
                obtain rfl : s = 0 := by have := HS.out; simp at this; omega
                rw [Nat.add_zero] at hck
                go_wp2_with fail
                go_ret3
                exact ⟨by rw [HE.out.1, HE.out.2.1, HE.out.2.2]; rfl, rfl⟩
              · go_wp2_with fail
                go_ret3
                exact ⟨by rw [HE.out.1, HE.out.2.1, HE.out.2.2, ← HO.out]; rfl, rfl⟩
    · obtain rfl : k = len := by omega
      rw [List.drop_eq_nil_of_le (by omega)] at hg
      have HE : Hid (gv l = 0 ∧ gn l = 0 ∧ ge l = 11) := gv_none (by rw [hg]; rfl)
      clear hg
      go_wp2_with fail
      go_ret3
      exact ⟨by rw [HE.out.1, HE.out.2.1, HE.out.2.2]; rfl, rfl⟩

/-- The int that bytes begin with (0: none). -/
def gi (l : List Int) : Int := if (vg 0 0 l).isSome then Vi.unfold (gv l) else 0
theorem gi_none {l : List Int} (h : vg 0 0 l = none) : gi l = 0 := by simp [gi, h]
theorem gi_some {l : List Int} {v : Int} {n : Nat} (h : vg 0 0 l = some (v, n)) : gi l = Vi.unfold v := by simp [gi, h, gv]

theorem getint_any {w : World} {a : Option Addr} {len cap : Nat} {l : List Int} (hr : Row w a len cap l) :
    Calls Try.prog 14 #[.slice a len cap] w fun e w' => e = .returned (.tuple #[.int .i64 (gi l), .int .i64 (gn l), .int .i64 (ge l)]) ∧ w' = w := by
  have hg := get_any hr
  cases h : vg 0 0 l with
  | none =>
    obtain ⟨e1, e2, e3⟩ := gv_none h
    rw [gi_none h, e2, e3]
    rw [e1, e2, e3] at hg
    clear h e1 e2 e3
    go_enter Try.func14, Try.ntmps14
    go_wp2_with fail
    refine hg.mono ?_
    rintro e w' ⟨rfl, rfl⟩
    go_wp2_with fail
    go_ret3
    exact ⟨rfl, rfl⟩
  | some p =>
    obtain ⟨v, n⟩ := p
    obtain ⟨e1, e2, e3⟩ := gv_some h
    obtain ⟨b1, b2, b3, b4⟩ := put_get hr.2.2.2.1 h
    have hu := unfold_any ⟨b1, b2⟩ w
    rw [gi_some h, e2, e3]
    rw [e1, e2, e3] at hg
    clear h e1 e2 e3 b3 b4
    go_enter Try.func14, Try.ntmps14
    go_wp2_with fail
    refine hg.mono ?_
    rintro e w' ⟨rfl, rfl⟩
    go_wp2_with fail
    refine hu.mono ?_
    rintro e w' ⟨rfl, rfl⟩
    go_wp2_with fail
    go_ret3
    exact ⟨rfl, rfl⟩
end Tg
end Go.Proofs.Ytknnaoloebknjaa
