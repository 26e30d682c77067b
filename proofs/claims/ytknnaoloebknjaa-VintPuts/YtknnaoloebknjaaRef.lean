/-
  The document's own numbers over any memory: Put, Of, Int and Get, for numbers of 64 bits and rows of bytes.
-/
import Derived.Test.YtknnaoloebknjaaGet
namespace Go.Proofs.Ytknnaoloebknjaa
open Go.ChangeShapes Go.WideShapes Go.ChangeAt Go.RowKit
namespace Tg
open Vi

theorem rof_any {v : Int} (hv : -9223372036854775808 ≤ v ∧ v ≤ 9223372036854775807) (w : World) : Calls Try.prog 13 #[.int .i64 v] w fun e w' => e = .returned (.int .u64 (fold v)) ∧ w' = w := by
  unfold fold
  by_cases hneg : v < 0
  · rw [if_pos hneg]
    have hneg' : ¬ 0 ≤ v := by omega
    have h2 : -2 * v - 1 = 2 * (-(v + 1)) + 1 := by omega
    rw [h2]
    have h0 : -9223372036854775807 ≤ v + 1 ∧ v + 1 ≤ 0 := by omega
    clear h2
    have e1 : IntKind.i64.wrap (v + 1) = v + 1 := by rw [IntKind.wrap_i64]; omega
    have e2 : IntKind.i64.wrap (-(v + 1)) = -(v + 1) := by rw [IntKind.wrap_i64]; omega
    have e3 : IntKind.u64.wrap (-(v + 1)) = -(v + 1) := by rw [IntKind.wrap_u64]; omega
    have e4 : IntKind.u64.wrap (2 * -(v + 1)) = 2 * -(v + 1) := by rw [IntKind.wrap_u64]; omega
    have e5 : IntKind.u64.wrap (2 * -(v + 1) + 1) = 2 * -(v + 1) + 1 := by rw [IntKind.wrap_u64]; omega
    go_enter Try.func13, Try.ntmps13
    go_wp2
    go_ret
    exact ⟨rfl, rfl⟩
  · rw [if_neg hneg]
    have hpos : 0 ≤ v := by omega
    go_enter Try.func13, Try.ntmps13
    go_wp2
    go_ret
    exact ⟨rfl, rfl⟩

theorem rint_any {u : Int} (hu : 0 ≤ u ∧ u ≤ 18446744073709551615) (w : World) : Calls Try.prog 17 #[.int .u64 u] w fun e w' => e = .returned (.int .i64 (Vi.unfold u)) ∧ w' = w := by
  unfold Vi.unfold
  by_cases hodd : u % 2 = 1
  · rw [if_pos hodd]
    go_enter Try.func17, Try.ntmps17
    go_wp2
    go_ret
    exact ⟨rfl, rfl⟩
  · rw [if_neg hodd]
    have hodd' : u % 2 = 0 := by omega
    go_enter Try.func17, Try.ntmps17
    go_wp2
    go_ret
    exact ⟨rfl, rfl⟩

theorem Gr.lit (w : World) {x : Int} (hx : 0 ≤ x ∧ x ≤ 255) : Gr w (w.alloc (.cells #[.int .u8 x] 5)) w.heap.size 1 [x] := by
  refine ⟨row_new w [x] (0, 0) w.heap.size 1 rfl (by simp) (by omega) (by simpa using hx), fun i hi => ?_, Nat.le_refl _, (Keep.refl _ _).alloc _⟩
  obtain rfl : i = 0 := by omega
  exact ⟨by rw [World.cell?_alloc_mark]; rfl, World.frozen?_alloc_new w _ 5 0⟩

theorem rput_any (v : Int) : ∀ (w : World), (0 ≤ v ∧ v ≤ 18446744073709551615) → Calls Try.prog 12 #[.int .u64 v] w fun e w' => ∃ g cap, e = .returned (.slice (some ⟨g, 0, none⟩) (vb v).length cap) ∧ Gr w w' g cap (vb v) := by
  refine vb_ind (P := fun v => ∀ (w : World), (0 ≤ v ∧ v ≤ 18446744073709551615) → Calls Try.prog 12 #[.int .u64 v] w fun e w' => ∃ g cap, e = .returned (.slice (some ⟨g, 0, none⟩) (vb v).length cap) ∧ Gr w w' g cap (vb v)) ?_ ?_ v
  · intro v hs w hv
    rw [vb_small hs]
    have hq : v % 256 = v := by omega
    have hlt : v < 128 := by omega
    have hL := Gr.lit w (x := v) (by omega)
    go_enter Try.func12, Try.ntmps12
    go_wp2
    go_ret
    exact ⟨_, _, rfl, hL⟩
  · intro v hb ih w hv
    have hge : ¬ v < 128 := by omega
    have hL := Gr.lit w (x := v % 128 + 128) (by omega)
    have hi := ih (w.alloc (.cells #[.int .u8 (v % 128 + 128)] 5)) (by omega)
    have hq : v % 128 % 256 = v % 128 := by omega
    have hw8 : IntKind.u8.wrap (v % 128 + 128) = v % 128 + 128 := by rw [IntKind.wrap_u8]; omega
    rw [vb_big hb]
    have hten := vb_ten (v := v / 128) (by omega)
    clear ih
    go_enter Try.func12, Try.ntmps12
    go_wp2_with fail
    refine hi.mono ?_
    rintro e w2 ⟨g, cap, rfl, hG⟩
    obtain ⟨g3, cap3, w3, hrun, hG3⟩ := (hL.more hG.keep).app rfl hG.row (by simp; omega)
    clear hi
    simp only [List.length_cons, List.length_nil, Nat.zero_add] at hrun
    go_wp2_with (at_builtin; refine wpList_append_run rfl (.tmp 12) (.tmp 15) 27 rfl (by rfl) (by rfl) hrun ?_)
    go_ret
    exact ⟨g3, cap3, congrArg (fun n => Ending.returned (.slice (some ⟨g3, 0, none⟩) n cap3)) (Nat.add_comm 1 _), hG3⟩

theorem add_digit {s x : Int} {k : Nat} (h0 : 0 ≤ s) (h1 : s < 128 ^ k) (hx : 0 ≤ x ∧ x ≤ 127) (hk : k ≤ 9) (h9 : k = 9 → x ≤ 1) : IntKind.u64.wrap (s + IntKind.u64.wrap (x * 2 ^ (7 * k))) = s + x * 128 ^ k := by
  have hd := digit_bd hx hk h9
  have hp := pow_pos' k
  rw [IntKind.wrap_u64, IntKind.wrap_u64, pow7, Int.emod_eq_of_lt hd.1 (by omega), Int.emod_eq_of_lt (by omega) (by omega)]

theorem rget_any {w : World} {a : Option Addr} {len cap : Nat} {l : List Int} (hr : Row w a len cap l) :
    Calls Try.prog 16 #[.slice a len cap] w fun e w' => (∃ (x m : Int), e = .returned (.tuple #[.int .u64 x, .int .i64 m, .bool (vg 0 0 l).isSome]) ∧ ((vg 0 0 l).isSome = true → x = gv l ∧ m = gn l)) ∧ w' = w := by
  obtain ⟨h1, h2, h3, h4, h5⟩ := hr
  have hlen : (len : Int) ≤ 9223372036854775807 := by omega
  go_enter Try.func16, Try.ntmps16
  go_wp2
  go_loop [5, 6] (fun c i => ∃ (k : Nat) (s : Int), k ≤ len ∧ k ≤ 10 ∧ i = .int .i64 k ∧ ((k = 10 ∧ vg 0 0 l = none ∧ ∃ s', c = .int .u64 s') ∨ (k ≤ 9 ∧ c = .int .u64 s ∧ 0 ≤ s ∧ s < 128 ^ k ∧ vg 0 0 l = vg k s (l.drop k)))) (fun _ i => len - (intOf i).toNat)
  case atStart => exact ⟨0, 0, by omega, by omega, rfl, Or.inr ⟨by omega, rfl, by omega, by simp, by simp⟩⟩
  case round =>
    obtain ⟨k, s, hk, hk10, rfl, hcase⟩ := hrel
    rcases hcase with ⟨rfl, hg, s', rfl⟩ | ⟨hk9, rfl, s0, s1, hg⟩
    · have HG : Hid (vg 0 0 l = none) := hg
      clear hg
      by_cases hlt : (10 : Int) < len
      · go_wp2_with fail
        go_ret3
        exact ⟨⟨0, 0, by rw [HG.out]; rfl, fun e => by rw [HG.out] at e; cases e⟩, rfl⟩
      · have hlt' : decide ((10 : Int) < len) = false := by simpa using hlt
        go_wp2_with fail
        go_ret3
        exact ⟨⟨0, 0, by rw [HG.out]; rfl, fun e => by rw [HG.out] at e; cases e⟩, rfl⟩
    have hk10' : (k : Int) < 10 := by omega
    by_cases hlt : k < len
    · rcases h5 with h0 | ⟨b, o, rfl, hc⟩
      · omega
      have hck := hc k hlt
      rw [drop_at (by omega)] at hg
      have hb := getD_bound h4 k
      generalize l.getD k 0 = x at hck hg hb
      have HS : Hid (s < 128 ^ k) := s1
      clear hc s1 h1 h4
      simp only [vg] at hg
      have hlt' : (k : Int) < len := by omega
      by_cases c0 : k = 9 ∧ 1 < x % 128
      · rw [if_pos (by omega)] at hg
        have HG : Hid (vg 0 0 l = none) := hg
        clear hg
        obtain ⟨rfl, c0⟩ := c0
        go_wp2_with fail
        go_ret3
        exact ⟨⟨0, 0, by rw [HG.out]; rfl, fun e => by rw [HG.out] at e; cases e⟩, rfl⟩
      have h9 : k = 9 → x % 128 ≤ 1 := fun e => by omega
      have HO : Hid (IntKind.u64.wrap (s + IntKind.u64.wrap (x % 128 * 2 ^ (7 * k))) = s + x % 128 * 128 ^ k) := add_digit s0 HS.out (by omega) hk9 h9
      have HP : Hid (0 ≤ x % 128 * 128 ^ k ∧ x % 128 * 128 ^ k + 128 ^ k ≤ 18446744073709551616) := digit_bd (x := x % 128) (k := k) (by omega) hk9 h9
      have HC : Hid (¬ (k = 9 ∧ 1 < x % 128)) := c0
      clear h9
      by_cases c1 : k = 9 ∧ 1 < x
      · rw [if_pos c1] at hg
        have HG : Hid (vg 0 0 l = none) := hg
        clear hg
        obtain ⟨rfl, c1⟩ := c1
        have c2 : 128 ≤ x := by have := HC.out; omega
        have c3 : x % 128 ≤ 1 := by have := HC.out; omega
        clear c0
        go_wp2_with fail
        go_round
        case rel => exact ⟨10, 0, by omega, by omega, rfl, Or.inl ⟨rfl, HG.out, _, rfl⟩⟩
        case measure => simp [intOf]; omega
      · rw [if_neg c1] at hg
        clear c0
        by_cases c2 : 128 ≤ x
        · rw [if_pos c2] at hg
          have hk9' : ¬ (k : Int) = 9 := by omega
          have HG : Hid (vg 0 0 l = vg (k + 1) (s + x % 128 * 128 ^ k) (l.drop (k + 1))) := hg
          clear hg c1
          go_wp2_with fail
          go_round
          case rel =>
            refine ⟨k + 1, s + x % 128 * 128 ^ k, by omega, by omega, by go_num, Or.inr ⟨by omega, by rw [← HO.out], ?_, ?_, HG.out⟩⟩
            · have := HP.out; omega
            · have hs := HS.out
              have hm : x % 128 * 128 ^ k ≤ 127 * 128 ^ k := Int.mul_le_mul_of_nonneg_right (by omega) (by have := pow_pos' k; omega)
              rw [Int.pow_succ]; omega
          case measure => simp [intOf]; omega
        · rw [if_neg c2] at hg
          by_cases c3 : x = 0 ∧ 0 < k
          · rw [if_pos c3] at hg
            obtain ⟨rfl, c3⟩ := c3
            have HG : Hid (vg 0 0 l = none) := hg
            clear hg c1
            by_cases hk9' : k = 9
            · subst hk9'
              go_wp2_with fail
              go_ret3
              exact ⟨⟨_, _, by rw [HG.out]; rfl, fun e => by rw [HG.out] at e; cases e⟩, rfl⟩
            · have hk9'' : ¬ (k : Int) = 9 := by omega
              have hkp : ¬ (k : Int) = 0 := by omega
              have hkb : ((k : Int) == 0) = false := by simpa using hkp
              go_wp2_with fail
              go_ret3
              exact ⟨⟨_, _, by rw [HG.out]; rfl, fun e => by rw [HG.out] at e; cases e⟩, rfl⟩
          · rw [if_neg c3] at hg
            have HE : Hid (gv l = s + x % 128 * 128 ^ k ∧ gn l = ((k + 1 : Nat) : Int) ∧ ge l = 0) := gv_some hg
            have HG : Hid ((vg 0 0 l).isSome = true) := by show (vg 0 0 l).isSome = true; rw [hg]; rfl
            clear hg c1
            by_cases hk9' : k = 9
            · subst hk9'
              obtain rfl : x = 1 := by have := HC.out; omega
              go_wp2_with fail
              go_ret3
              exact ⟨⟨_, _, by rw [HG.out]; rfl, fun _ => ⟨by rw [HE.out.1, ← HO.out]; rfl, by rw [HE.out.2.1]; rfl⟩⟩, rfl⟩
            · have hk9'' : ¬ (k : Int) = 9 := by omega
              by_cases hx0 : x = 0
              · obtain rfl : k = 0 := by omega
                subst hx0
                obtain rfl : s = 0 := by have := HS.out; simp at this; omega
                rw [Nat.add_zero] at hck
                go_wp2_with fail
                go_ret3
                exact ⟨⟨_, _, by rw [HG.out]; rfl, fun _ => ⟨by rw [HE.out.1]; rfl, by rw [HE.out.2.1]; rfl⟩⟩, rfl⟩
              · have hxp : 0 < x := by omega
                go_wp2_with fail
                go_ret3
                exact ⟨⟨_, _, by rw [HG.out]; rfl, fun _ => ⟨by rw [HE.out.1, ← HO.out], by rw [HE.out.2.1]; rfl⟩⟩, rfl⟩
    · obtain rfl : k = len := by omega
      rw [List.drop_eq_nil_of_le (by omega)] at hg
      have HG : Hid (vg 0 0 l = none) := hg
      clear hg
      go_wp2_with fail
      go_ret3
      exact ⟨⟨0, 0, by rw [HG.out]; rfl, fun e => by rw [HG.out] at e; cases e⟩, rfl⟩
end Tg
end Go.Proofs.Ytknnaoloebknjaa
