/-
  The statement of rows of numbers, walked: for any row of numbers it returns true, and whatever was in memory is as it was.
-/
import Derived.Test.YtknnaoloebknjaaAwake
import Derived.Test.YtknnaoloebknjaaOpen
namespace Go.Proofs.Ytknnaoloebknjaa
open Go.ChangeShapes Go.WideShapes Go.ChangeAt Go.RowKit
namespace Tg
open Vi

/-- The bytes of the number at place k, and of the first k. -/
def one (l : List Int) (k : Nat) : List Int := if k % 2 = 0 then vb (l.getD k 0) else vb (fold (IntKind.i64.wrap (l.getD k 0)))
def encs (l : List Int) : Nat → List Int
  | 0 => []
  | k + 1 => encs l k ++ one l k
theorem encs_more (l : List Int) (k : Nat) : ∀ m, k ≤ m → ∃ r, encs l m = encs l k ++ r
  | 0, h => ⟨[], by obtain rfl : k = 0 := by omega
                    simp⟩
  | m + 1, h => by
    by_cases e : k = m + 1
    · subst e; exact ⟨[], by simp⟩
    · obtain ⟨r, hr⟩ := encs_more l k m (by omega)
      exact ⟨r ++ one l m, by rw [encs, hr, List.append_assoc]⟩
theorem encs_next {l r : List Int} {k m : Nat} (h : encs l k ++ r = encs l m) (hk : k < m) : ∃ r', r = one l k ++ r' ∧ encs l (k + 1) ++ r' = encs l m := by
  obtain ⟨r', hr'⟩ := encs_more l (k + 1) m hk
  refine ⟨r', ?_, hr'.symm⟩
  rw [hr', encs, List.append_assoc] at h
  exact List.append_cancel_left h
theorem nums_bd {l : List Int} (h : ∀ n ∈ l, 0 ≤ n ∧ n ≤ 18446744073709551615) (k : Nat) : 0 ≤ l.getD k 0 ∧ l.getD k 0 ≤ 18446744073709551615 := by
  by_cases hk : k < l.length
  · have : l.getD k 0 = l[k] := by simp [List.getD, hk]
    rw [this]; exact h _ (List.getElem_mem hk)
  · have : l.getD k 0 = 0 := by simp [List.getD, hk]
    omega
theorem wrap_bd (v : Int) : -9223372036854775808 ≤ IntKind.i64.wrap v ∧ IntKind.i64.wrap v ≤ 9223372036854775807 := by rw [IntKind.wrap_i64]; omega

theorem one_len {l : List Int} (h : ∀ n ∈ l, 0 ≤ n ∧ n ≤ 18446744073709551615) (k : Nat) : (one l k).length ≤ 10 := by
  unfold one
  split
  · exact vb_ten (nums_bd h k).2
  · exact vb_ten (fold_bd (wrap_bd _)).2
theorem encs_len {l : List Int} (h : ∀ n ∈ l, 0 ≤ n ∧ n ≤ 18446744073709551615) : ∀ k, (encs l k).length ≤ 10 * k
  | 0 => by simp [encs]
  | k + 1 => by
    have := encs_len h k
    have := one_len h k
    rw [encs, List.length_append]; omega

theorem Row.rest {w : World} {b o len cap k : Nat} {l : List Int} (h : Row w (some ⟨b, o, none⟩) len cap l) (hk : k ≤ len) : Row w (some ⟨b, o + k, none⟩) (len - k) (cap - k) (l.drop k) := by
  obtain ⟨h1, h2, h3, h4, h5⟩ := h
  refine ⟨by rw [List.length_drop, h1], by omega, by omega, fun n hn => h4 n (List.mem_of_mem_drop hn), ?_⟩
  by_cases e : len = k
  · left; omega
  · right
    rcases h5 with h0 | ⟨b', o', e', hc⟩
    · omega
    · simp only [Option.some.injEq, Addr.mk.injEq, and_true] at e'
      obtain ⟨rfl, rfl⟩ := e'
      refine ⟨_, _, rfl, fun i hi => ?_⟩
      rw [Nat.add_assoc, hc (k + i) (by omega)]
      simp [List.getD]

set_option maxRecDepth 100000 in
set_option maxHeartbeats 2000000 in
theorem rows_walk (w : World) {a : Option Addr} {len cap : Nat} {l : List Int} (hr : Nums w a len cap l) :
    Calls Try.prog 7 #[.slice a len cap] w fun e w' => e = .returned (.bool true) ∧ Keep (fun _ => False) w w' := by
  go_enter Try.func7, Try.ntmps7
  go_wp2_with fail
  refine (awake_any _).mono ?_
  rintro e w1 ⟨rfl, hk1⟩
  have hr1 := hr.keep hk1 (fun _ _ _ e => e)
  by_cases hbig : (1000 : Int) < len
  · go_wp2_with fail
    go_ret
    exact ⟨rfl, hk1⟩
  have hl4 := hr.2.2.2.1
  have hcap := hr.2.1
  have hcm := hr.2.2.1
  go_wp2_with fail
  go_loopw [3, 4] (fun b i wr => ∃ (k : Nat) (a' : Option Addr) (n c : Nat), k ≤ len ∧ i = .int .i64 k ∧ b = .slice a' n c ∧ Row wr a' n c (encs l k) ∧ Keep (fun _ => False) w1 wr) (fun _ i _ => len - (intOf i).toNat)
  case atStart => exact ⟨0, none, 0, 0, by omega, rfl, rfl, row_nil w1, Keep.refl _ _⟩
  case round =>
    obtain ⟨k, a', n, c, hk, rfl, rfl, hrow, hkr⟩ := hrel
    by_cases hlt : k < len
    · obtain ⟨-, -, -, -, h5⟩ := hr1.keep hkr (fun _ _ _ e => e)
      rcases h5 with h0 | ⟨b, o, rfl, hc⟩
      · omega
      have hck := hc k hlt
      have hn := encs_len hl4 k
      have hnn : (encs l k).length = n := hrow.1
      have HE : Hid (encs l (k + 1) = encs l k ++ one l k) := rfl
      have hlt' : (k : Int) < len := by omega
      have hv := nums_bd hl4 k
      by_cases hpar : k % 2 = 0
      · have HO : Hid (one l k = vb (l.getD k 0)) := by show one l k = _; unfold one; rw [if_pos hpar]
        have hp := put_any hrow hv (by omega)
        have hpar' : (k : Int) % 2 = 0 := by omega
        clear hpar hc hnn hn
        generalize l.getD k 0 = v at *
        go_wp2_with fail
        refine hp.mono ?_
        rintro e w2 ⟨g, c2, rfl, hG⟩
        go_wp2_with fail
        refine ⟨⟨k + 1, _, _, _, by omega, by go_num, rfl, ?_, hkr.trans hG.keep⟩, by simp [intOf]; omega⟩
        rw [HE.out, HO.out]
        exact hG.at (by rw [List.length_append, hrow.1])
      · have HO : Hid (one l k = vb (fold (IntKind.i64.wrap (l.getD k 0)))) := by show one l k = _; unfold one; rw [if_neg hpar]
        have hp := putint_any hrow (wrap_bd (l.getD k 0)) (by omega)
        have hpar' : (k : Int) % 2 = 1 := by omega
        clear hpar hc hnn hn
        generalize l.getD k 0 = v at *
        obtain ⟨z, hz0⟩ : ∃ z, IntKind.i64.wrap v = z := ⟨_, rfl⟩
        simp only [hz0] at hp HO
        go_wp2_with fail
        refine hp.mono ?_
        rintro e w2 ⟨g, c2, rfl, hG⟩
        go_wp2_with fail
        refine ⟨⟨k + 1, _, _, _, by omega, by go_num, rfl, ?_, hkr.trans hG.keep⟩, by simp [intOf]; omega⟩
        rw [HE.out, HO.out]
        exact hG.at (by rw [List.length_append, hrow.1])
    · obtain rfl : k = len := by omega
      have hr2 := hr1.keep hkr (fun _ _ _ e => e)
      have hK := hk1.trans hkr
      go_wp2_with fail
      go_loop [3, 5] (fun b i => ∃ (j : Nat) (a' : Option Addr) (n c : Nat) (r : List Int), j ≤ k ∧ i = .int .i64 j ∧ b = .slice a' n c ∧ Row wr a' n c r ∧ encs l j ++ r = encs l k) (fun _ i => k - (intOf i).toNat)
      case atStart => exact ⟨0, a', n, c, encs l k, by omega, rfl, rfl, hrow, by simp [encs]⟩
      case round =>
        obtain ⟨j, a', n, c, r, hj, rfl, rfl, hrj, her⟩ := hrel
        clear hrow
        by_cases hlt : j < k
        · obtain ⟨-, -, -, -, h5⟩ := hr2
          rcases h5 with h0 | ⟨b, o, rfl, hc⟩
          · omega
          have hck := hc j hlt
          obtain ⟨r', rfl, hnext⟩ := encs_next her hlt
          have HN : Hid (encs l (j + 1) ++ r' = encs l k) := hnext
          have hlt' : (j : Int) < k := by omega
          have hv := nums_bd hl4 j
          by_cases hpar : j % 2 = 0
          · have ho : one l j = vb (l.getD j 0) := by unfold one; rw [if_pos hpar]
            rw [ho] at hrj
            have hg := get_any hrj
            obtain ⟨e1, e2, e3⟩ := gv_some (get_put hv r')
            rw [e1, e2, e3] at hg
            have hpar' : (j : Int) % 2 = 0 := by omega
            have hpos := vb_pos (l.getD j 0)
            have hlen := hrj.1
            rw [List.length_append] at hlen
            have hcj := hrj.2.1
            rcases hrj.2.2.2.2 with h0 | ⟨b', o', rfl, _⟩
            · omega
            have hrest := Row.rest (k := (vb (l.getD j 0)).length) hrj (by omega)
            rw [List.drop_left] at hrest
            clear hpar hc ho e1 e2 e3 hnext her hrj
            generalize l.getD j 0 = v at *
            obtain ⟨N1, hN1⟩ : ∃ n, (vb v).length = n := ⟨_, rfl⟩
            simp only [hN1] at hg hpos hlen hrest
            have d1 : (1 : Int) ≤ N1 := by omega
            have d2 : (N1 : Int) ≤ n := by omega
            have d3 : (n : Int) ≤ c := by omega
            clear hN1
            by_cases hcN : c = N1
            · obtain rfl : n = N1 := by omega
              subst hcN
              have hr0 : r' = [] := List.eq_nil_of_length_eq_zero (by omega)
              go_wp2_with fail
              refine hg.mono ?_
              rintro e w2 ⟨rfl, rfl⟩
              go_wp2_with fail
              go_round
              case rel => exact ⟨j + 1, _, _, _, r', by omega, by go_num, rfl, by rw [hr0]; exact ⟨rfl, by omega, by omega, by simp, Or.inl rfl⟩, HN.out⟩
              case measure => simp [intOf]; omega
            · go_wp2_with fail
              refine hg.mono ?_
              rintro e w2 ⟨rfl, rfl⟩
              go_wp2_with fail
              go_round
              case rel => exact ⟨j + 1, _, _, _, r', by omega, by go_num, rfl, hrest, HN.out⟩
              case measure => simp [intOf]; omega
          · have ho : one l j = vb (fold (IntKind.i64.wrap (l.getD j 0))) := by unfold one; rw [if_neg hpar]
            rw [ho] at hrj
            have hg := getint_any hrj
            obtain ⟨e1, e2, e3⟩ := gv_some (get_put (fold_bd (wrap_bd (l.getD j 0))) r')
            rw [gi_some (get_put (fold_bd (wrap_bd (l.getD j 0))) r'), unfold_fold, e2, e3] at hg
            have hpar' : (j : Int) % 2 = 1 := by omega
            have hpos := vb_pos (fold (IntKind.i64.wrap (l.getD j 0)))
            have hlen := hrj.1
            rw [List.length_append] at hlen
            have hcj := hrj.2.1
            rcases hrj.2.2.2.2 with h0 | ⟨b', o', rfl, _⟩
            · omega
            have hrest := Row.rest (k := (vb (fold (IntKind.i64.wrap (l.getD j 0)))).length) hrj (by omega)
            rw [List.drop_left] at hrest
            clear hpar hc ho e1 e2 e3 hnext her hrj
            generalize l.getD j 0 = v at *
            obtain ⟨z, hz0⟩ : ∃ z, IntKind.i64.wrap v = z := ⟨_, rfl⟩
            simp only [hz0] at hg hpos hlen hrest
            obtain ⟨N1, hN1⟩ : ∃ n, (vb (fold z)).length = n := ⟨_, rfl⟩
            simp only [hN1] at hg hpos hlen hrest
            have d1 : (1 : Int) ≤ N1 := by omega
            have d2 : (N1 : Int) ≤ n := by omega
            have d3 : (n : Int) ≤ c := by omega
            clear hN1
            by_cases hcN : c = N1
            · obtain rfl : n = N1 := by omega
              subst hcN
              have hr0 : r' = [] := List.eq_nil_of_length_eq_zero (by omega)
              go_wp2_with fail
              refine hg.mono ?_
              rintro e w2 ⟨rfl, rfl⟩
              go_wp2_with fail
              go_round
              case rel => exact ⟨j + 1, _, _, _, r', by omega, by go_num, rfl, by rw [hr0]; exact ⟨rfl, by omega, by omega, by simp, Or.inl rfl⟩, HN.out⟩
              case measure => simp [intOf]; omega
            · go_wp2_with fail
              refine hg.mono ?_
              rintro e w2 ⟨rfl, rfl⟩
              go_wp2_with fail
              go_round
              case rel => exact ⟨j + 1, _, _, _, r', by omega, by go_num, rfl, hrest, HN.out⟩
              case measure => simp [intOf]; omega
        · obtain rfl : j = k := by omega
          have hr0 : r = [] := by
            have := congrArg List.length her
            rw [List.length_append] at this
            exact List.eq_nil_of_length_eq_zero (by omega)
          subst hr0
          obtain rfl : n = 0 := hrj.1.symm
          go_wp2_with fail
          go_ret
          exact ⟨rfl, hK⟩
end Tg
end Go.Proofs.Ytknnaoloebknjaa
