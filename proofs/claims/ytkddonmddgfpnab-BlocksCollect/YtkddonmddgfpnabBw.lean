/-
  BlocksVictim, given what the program's own calls answer.
-/
import Derived.Test.YtkddonmddgfpnabBk
namespace Go.Proofs.Ytkddonmddgfpnab
open Go.ChangeShapes Go.WideShapes Go.ChangeAt Go.RowKit
namespace Tg
/-- May one of the first i be taken? -/
def smB (b : List Bool) (i : Nat) : Bool := (b.take i).any (fun x => x)
theorem smB_next {b : List Bool} {i : Nat} {x : Bool} (h : b[i]? = some x) : smB b (i + 1) = (smB b i || x) := by
  unfold smB
  rw [List.take_add_one, h, List.any_append]
  simp
theorem smB_iff {b : List Bool} {i : Nat} : smB b i = true ↔ ∃ j, j < i ∧ b[j]? = some true := by
  unfold smB
  rw [List.any_eq_true]
  constructor
  · rintro ⟨x, hx, rfl⟩
    obtain ⟨j, hj⟩ := List.getElem?_of_mem hx
    have hl := (List.getElem?_eq_some_iff.1 hj).1
    rw [List.length_take] at hl
    exact ⟨j, by omega, by rw [List.getElem?_take_of_lt (by omega)] at hj; exact hj⟩
  · rintro ⟨j, hj, h⟩
    exact ⟨true, List.mem_of_getElem? (i := j) (by rw [List.getElem?_take_of_lt hj]; exact h), rfl⟩
theorem get_bool {l : List Bool} {i : Nat} (h : i < l.length) : ∃ v, l[i]? = some v := ⟨_, List.getElem?_eq_getElem h⟩
theorem getD_of {l : List Int} {i : Nat} {x : Int} (h : l[i]? = some x) : l.getD i 0 = x := by rw [List.getD_eq_getElem?_getD, h]; rfl
set_option maxRecDepth 100000 in
set_option maxHeartbeats 2000000 in
theorem victim_walk (HA : AwOk) (HC : VictimOk) {w : World} {a1 a2 : Option Addr} {c1 c2 : Nat} {v : List Int} {b : List Bool} (hI : Iz w a1 c1 v) (hB : Bz w a2 c2 b) :
    Calls Try.prog 5 #[.slice a1 v.length c1, .slice a2 b.length c2] w fun e w' => e = .returned (.bool true) ∧ Keep (fun _ => False) w w' := by
  have hc1 := hI.1
  have hc2 := hI.2.1
  have hc3 := hB.1
  have hc4 := hB.2.1
  have hvc := fun {w'} (k : Keep (fun _ => False) w w') => HC (hI.more k) (hB.more k)
  obtain ⟨nv, hnv⟩ : ∃ n, n = v.length := ⟨_, rfl⟩
  obtain ⟨nb, hnb⟩ : ∃ n, n = b.length := ⟨_, rfl⟩
  have hnv' : Hid (nv = v.length) := hnv
  have hnb' : Hid (nb = b.length) := hnb
  rw [← hnv] at hc1 ⊢
  rw [← hnb] at hc3 ⊢
  simp only [← hnv, ← hnb] at hvc
  clear hnv hnb
  go_enter Try.func5, Try.ntmps5
  go_wp2_with fail
  refine (HA _).mono ?_
  rintro e w0 ⟨rfl, k0⟩
  go_wp2_with fail
  refine (hvc k0).mono ?_
  rintro e w1 ⟨r, ok, rfl, hvs, k1⟩
  have K1 := k0.trans k1
  have hvs' : Hid (VicS v b r ok) := hvs
  clear hvs hvc
  go_wp2_with fail
  go_loopw [7, 8] (fun sv v' wx => ∃ i : Nat, i ≤ nv ∧ i ≤ nb ∧ v' = .int .i64 (i : Int) ∧ sv = .bool (smB b i) ∧ Keep (fun _ => False) w wx) (fun _ v' _ => nv - (intOf v').toNat)
  case atStart => exact ⟨0, by omega, by omega, rfl, by simp [smB], K1⟩
  case round =>
    clear K1 k0 k1
    obtain ⟨i, hi1, hi2, rfl, rfl, KK⟩ := hrel
    by_cases hlt : i < nv
    · have di : (i : Int) < (nv : Int) := by omega
      by_cases hlt2 : i < nb
      · have dj : (i : Int) < (nb : Int) := by omega
        have dw := wrapI (x := (i : Int) + 1) (by omega) (by omega)
        obtain ⟨x, hx⟩ := get_bool (l := b) (i := i) (by rw [← show nb = _ from hnb']; exact hlt2)
        obtain ⟨y, hy⟩ := get_int (l := v) (i := i) (by rw [← show nv = _ from hnv']; exact hlt)
        obtain ⟨g2, o2, rfl, cx⟩ := (hB.more KK).at hx
        obtain ⟨g1, o1, rfl, cy⟩ := (hI.more KK).at hy
        have hsn : Hid (smB b (i + 1) = (smB b i || x)) := smB_next hx
        have hlt' : Hid (i < nv) := hlt
        have hlt2' : Hid (i + 1 ≤ nb) := hlt2
        have hyd := getD_of hy
        have hvi : Hid (x = true → ok = true ∧ ∃ j : Nat, r = (j : Int) ∧ j < nv ∧ ∃ z, v[j]? = some z ∧ (z < y ∨ (z = y ∧ j ≤ i))) := fun ex => by
          have hv := show VicS v b r ok from hvs'
          subst ex
          cases hok : ok with
          | false => exact absurd hx ((hv.no hok).2 i (by rw [← show nv = _ from hnv']; exact hlt))
          | true =>
            obtain ⟨j, h1, h2, h3, h4⟩ := hv.yes hok
            obtain ⟨z, hz⟩ := get_int h2
            have h5 := h4 i (by rw [← show nv = _ from hnv']; exact hlt) hx
            rw [getD_of hz, hyd] at h5
            exact ⟨rfl, j, h1, by rw [show nv = _ from hnv']; exact h2, z, hz, h5⟩
        clear hx hy hyd hlt hlt2
        cases x with
        | false =>
          have hs2 : Hid (smB b (i + 1) = smB b i) := by show _ = _; rw [show smB b (i + 1) = _ from hsn, Bool.or_false]
          clear hvi hsn
          generalize smB b i = S at hs2
          cases S with
          | false =>
            go_wp2_with fail
            go_quiet (fail)
            go_wp2_with fail
            go_roundw
            case rel => exact ⟨i + 1, hlt', hlt2', by go_num, by rw [show smB b (i + 1) = _ from hs2], KK.drewN _⟩
            case measure => have : i < nv := hlt'; simp [intOf]; omega
          | true =>
            go_wp2_with fail
            go_quiet (fail)
            go_wp2_with fail
            go_roundw
            case rel => exact ⟨i + 1, hlt', hlt2', by go_num, by rw [show smB b (i + 1) = _ from hs2], KK.drewN _⟩
            case measure => have : i < nv := hlt'; simp [intOf]; omega
        | true =>
          have hs2 : Hid (smB b (i + 1) = true) := by show _ = _; rw [show smB b (i + 1) = _ from hsn, Bool.or_true]
          obtain ⟨rfl, j, rfl, hj, z, hz, hzy⟩ := (show true = true → _ from hvi) rfl
          obtain ⟨g1', o1', e, cz⟩ := (hI.more KK).at hz
          injection e with e
          injection e with e1 e2
          subst e1 e2
          have d1 : ¬ (j : Int) < 0 := by omega
          have d2 : ¬ (nv : Int) ≤ (j : Int) := by omega
          have dj2 : (j : Int) < (nv : Int) := by omega
          have d3 : ¬ y < z := by omega
          have q1 : decide ((j : Int) < 0) = false := decide_eq_false d1
          have q2 : decide ((nv : Int) ≤ (j : Int)) = false := decide_eq_false d2
          have q3 : decide (y < z) = false := decide_eq_false d3
          have q5 : decide (nv ≤ j) = false := decide_eq_false (by omega)
          clear hvi hsn hz
          generalize smB b i = S
          by_cases he : y = z
          · have d4 : ¬ (i : Int) < (j : Int) := by omega
            have q4 : decide ((i : Int) < (j : Int)) = false := decide_eq_false d4
            have q6 : decide (i < j) = false := decide_eq_false (by omega)
            have q7 : (y == z) = true := by rw [beq_iff_eq]; exact he
            subst he
            clear hzy
            cases S with
            | false =>
              go_wp2_with fail
              go_quiet (fail)
              go_wp2_with fail
              go_roundw
              case rel => exact ⟨i + 1, hlt', hlt2', by go_num, by rw [show smB b (i + 1) = _ from hs2], KK.drewN _⟩
              case measure => have : i < nv := hlt'; simp [intOf]; omega
            | true =>
              go_wp2_with fail
              go_quiet (fail)
              go_wp2_with fail
              go_roundw
              case rel => exact ⟨i + 1, hlt', hlt2', by go_num, by rw [show smB b (i + 1) = _ from hs2], KK.drewN _⟩
              case measure => have : i < nv := hlt'; simp [intOf]; omega
          · have q7 : (y == z) = false := by rw [beq_eq_false_iff_ne]; exact he
            clear he hzy
            cases S with
            | false =>
              go_wp2_with fail
              go_quiet (fail)
              go_wp2_with fail
              go_roundw
              case rel => exact ⟨i + 1, hlt', hlt2', by go_num, by rw [show smB b (i + 1) = _ from hs2], KK.drewN _⟩
              case measure => have : i < nv := hlt'; simp [intOf]; omega
            | true =>
              go_wp2_with fail
              go_quiet (fail)
              go_wp2_with fail
              go_roundw
              case rel => exact ⟨i + 1, hlt', hlt2', by go_num, by rw [show smB b (i + 1) = _ from hs2], KK.drewN _⟩
              case measure => have : i < nv := hlt'; simp [intOf]; omega
      · have hend : ok = smB b i := by
          have hv := show VicS v b r ok from hvs'
          have hnv := show nv = v.length from hnv'
          have hnb := show nb = b.length from hnb'
          cases hok : ok with
          | true =>
            obtain ⟨j, h1, h2, h3, h4⟩ := hv.yes hok
            have h5 := (List.getElem?_eq_some_iff.1 h3).1
            exact (smB_iff.2 ⟨j, by omega, h3⟩).symm
          | false =>
            cases hs : smB b i with
            | false => rfl
            | true =>
              obtain ⟨j, hj, h3⟩ := smB_iff.1 hs
              exact absurd h3 ((hv.no hok).2 j (by omega))
        rw [← hend]
        clear hend
        have dj' : ¬ (i : Int) < (nb : Int) := by omega
        clear hlt hlt2
        cases ok with
        | true =>
          obtain ⟨j, rfl, h2, h3, -⟩ := (show VicS v b r true from hvs').yes rfl
          have h5 := (List.getElem?_eq_some_iff.1 h3).1
          rw [← show nb = b.length from hnb'] at h5
          obtain ⟨g2, o2, rfl, cj⟩ := (hB.more KK).at h3
          have dj : (j : Int) < (nb : Int) := by omega
          clear h2 h3 hvs'
          go_wp2_with fail
          go_ret
          exact ⟨rfl, KK⟩
        | false =>
          obtain ⟨rfl, -⟩ := (show VicS v b r false from hvs').no rfl
          clear hvs'
          go_wp2_with fail
          go_ret
          exact ⟨rfl, KK⟩
    · have hend : ok = smB b i := by
        have hv := show VicS v b r ok from hvs'
        have hnv := show nv = v.length from hnv'
        have hnb := show nb = b.length from hnb'
        cases hok : ok with
        | true =>
          obtain ⟨j, h1, h2, h3, h4⟩ := hv.yes hok
          have h5 := (List.getElem?_eq_some_iff.1 h3).1
          exact (smB_iff.2 ⟨j, by omega, h3⟩).symm
        | false =>
          cases hs : smB b i with
          | false => rfl
          | true =>
            obtain ⟨j, hj, h3⟩ := smB_iff.1 hs
            exact absurd h3 ((hv.no hok).2 j (by omega))
      rw [← hend]
      clear hend
      have di : ¬ (i : Int) < (nv : Int) := by omega
      clear hlt
      cases ok with
      | true =>
        obtain ⟨j, rfl, h2, h3, -⟩ := (show VicS v b r true from hvs').yes rfl
        have h5 := (List.getElem?_eq_some_iff.1 h3).1
        rw [← show nb = b.length from hnb'] at h5
        obtain ⟨g2, o2, rfl, cj⟩ := (hB.more KK).at h3
        have dj : (j : Int) < (nb : Int) := by omega
        clear h2 h3 hvs'
        go_wp2_with fail
        go_ret
        exact ⟨rfl, KK⟩
      | false =>
        obtain ⟨rfl, -⟩ := (show VicS v b r false from hvs').no rfl
        clear hvs'
        go_wp2_with fail
        go_ret
        exact ⟨rfl, KK⟩
end Tg
end Go.Proofs.Ytkddonmddgfpnab
