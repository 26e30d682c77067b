/-
  The landed Victim, walked.
-/
import Derived.Test.YtkddonmddgfpnabBn
namespace Go.Proofs.Ytkddonmddgfpnab
open Go.ChangeShapes Go.WideShapes Go.ChangeAt Go.RowKit
namespace Tg
/-- What Victim answers (a letter to the walk). -/
def VicQ (v : List Int) (b : List Bool) (w : World) (e : Ending) (w' : World) : Prop := ∃ r ok, e = .returned (.tuple #[.int .i64 r, .bool ok]) ∧ VicS v b r ok ∧ Keep (fun _ => False) w w'
set_option maxRecDepth 100000 in
set_option maxHeartbeats 4000000 in
theorem victim_ok : VictimOk := fun {w a1 a2 c1 c2 v b} hI hB => by
  show Calls Try.prog 12 #[.slice a1 v.length c1, .slice a2 b.length c2] w (VicQ v b w)
  have hv1 := hI.1
  have hv2 := hI.2.1
  have hb1 := hB.1
  have hb2 := hB.2.1
  obtain ⟨nv, hnv⟩ : ∃ n, n = v.length := ⟨_, rfl⟩
  obtain ⟨nb, hnb⟩ : ∃ n, n = b.length := ⟨_, rfl⟩
  have hnv' : Hid (nv = v.length) := hnv
  have hnb' : Hid (nb = b.length) := hnb
  rw [← hnv] at hv1 ⊢
  rw [← hnb] at hb1 ⊢
  clear hnv hnb
  by_cases hlen : (nb : Int) < (nv : Int)
  · have hK : nb ≤ nv := by omega
    go_enter Try.func12, Try.ntmps12
    go_wp2_with fail
    go_loopw [6, 7, 14] (fun rv ov iv wx => ∃ (i : Nat) (r : Int) (ok : Bool), i ≤ nv ∧ i ≤ nb ∧ iv = .int .i64 (i : Int) ∧ rv = .int .i64 r ∧ ov = .bool ok ∧ VicI v b i r ok ∧ Keep (fun _ => False) w wx) (fun _ _ iv _ => nv - (intOf iv).toNat)
    case atStart => exact ⟨0, 0, false, by omega, by omega, rfl, rfl, rfl, vic_zero v b, Keep.refl _ _⟩
    case round =>
      obtain ⟨i, r, ok, hi, hi2, rfl, rfl, rfl, hV, KK⟩ := hrel
      by_cases hlt : i < nb
      · have di : (i : Int) < (nb : Int) := by omega
        have hvl : i < v.length := by rw [← show nv = v.length from hnv']; omega
        have di1 : (i : Int) < (nv : Int) := by omega
        have di2 : (i : Int) < (nb : Int) := by omega
        have dw := wrapI (x := (i : Int) + 1) (by omega) (by omega)
        have hlt' : Hid (i + 1 ≤ nv) := by show _ ≤ _; omega
        have hlt2' : Hid (i + 1 ≤ nb) := by show _ ≤ _; omega
        obtain ⟨x, hx⟩ : ∃ x, v[i]? = some x := ⟨_, List.getElem?_eq_getElem hvl⟩
        obtain ⟨y, hy⟩ : ∃ y, b[i]? = some y := ⟨_, List.getElem?_eq_getElem (by rw [← show nb = b.length from hnb']; omega)⟩
        obtain ⟨g1, o1, rfl, cx⟩ := (hI.more KK).at hx
        obtain ⟨g2, o2, rfl, cy⟩ := (hB.more KK).at hy
        have hxd : v.getD i 0 = x := by rw [List.getD_eq_getElem?_getD, hx]; rfl
        have hvlH : Hid (i < v.length) := hvl
        clear hlt hvl
        cases y with
        | false =>
          have hV2 : Hid (VicI v b (i + 1) r ok) := vic_skip hV (by rw [hy]; simp)
          clear hV
          go_wp2_with fail
          go_quiet (fail)
          go_wp2_with fail
          go_roundw
          case rel => exact ⟨i + 1, r, ok, hlt', hlt2', by go_num, rfl, rfl, hV2, KK.drewN _⟩
          case measure => have : i < nv := hlt'; simp [intOf]; omega
        | true =>
          cases ok with
          | false =>
            have hV2 : Hid (VicI v b (i + 1) (i : Int) true) := vic_first hV hvlH hy
            clear hV
            go_wp2_with fail
            go_quiet (fail)
            go_wp2_with fail
            go_roundw
            case rel => exact ⟨i + 1, (i : Int), true, hlt', hlt2', by go_num, rfl, rfl, hV2, KK.drewN _⟩
            case measure => have : i < nv := hlt'; simp [intOf]; omega
          | true =>
            obtain ⟨j, rfl, hj, hjv, -⟩ := hV.yes rfl
            obtain ⟨z, hz⟩ : ∃ z, v[j]? = some z := ⟨_, List.getElem?_eq_getElem hjv⟩
            obtain ⟨g1', o1', e, cz⟩ := (hI.more KK).at hz
            injection e with e
            injection e with e1 e2
            subst e1 e2
            have hzd : v.getD j 0 = z := by rw [List.getD_eq_getElem?_getD, hz]; rfl
            have dj : (j : Int) < (nv : Int) := by omega
            by_cases hxz : x < z
            · have q3 : decide (x < z) = true := decide_eq_true hxz
              have hV2 : Hid (VicI v b (i + 1) (i : Int) true) := vic_less hV hvlH hy (by rw [hxd, hzd]; exact hxz)
              clear hV
              go_wp2_with fail
              go_quiet (fail)
              go_wp2_with fail
              go_roundw
              case rel => exact ⟨i + 1, (i : Int), true, hlt', hlt2', by go_num, rfl, rfl, hV2, KK.drewN _⟩
              case measure => have : i < nv := hlt'; simp [intOf]; omega
            · have q3 : decide (x < z) = false := decide_eq_false hxz
              have hV2 : Hid (VicI v b (i + 1) (j : Int) true) := vic_more hV (by rw [hxd, hzd]; exact hxz)
              clear hV
              go_wp2_with fail
              go_quiet (fail)
              go_wp2_with fail
              go_roundw
              case rel => exact ⟨i + 1, (j : Int), true, hlt', hlt2', by go_num, rfl, rfl, hV2, KK.drewN _⟩
              case measure => have : i < nv := hlt'; simp [intOf]; omega
      · have di : ¬ (i : Int) < (nb : Int) := by omega
        have he : VicS v b r ok := vic_end hV (by rw [← show nv = v.length from hnv', ← show nb = b.length from hnb']; omega)
        clear hlt hV
        go_wp2_with fail
        go_ret2
        exact ⟨r, ok, rfl, he, KK⟩
  · have hK : nv ≤ nb := by omega
    go_enter Try.func12, Try.ntmps12
    go_wp2_with fail
    go_loopw [6, 7, 14] (fun rv ov iv wx => ∃ (i : Nat) (r : Int) (ok : Bool), i ≤ nv ∧ i ≤ nb ∧ iv = .int .i64 (i : Int) ∧ rv = .int .i64 r ∧ ov = .bool ok ∧ VicI v b i r ok ∧ Keep (fun _ => False) w wx) (fun _ _ iv _ => nv - (intOf iv).toNat)
    case atStart => exact ⟨0, 0, false, by omega, by omega, rfl, rfl, rfl, vic_zero v b, Keep.refl _ _⟩
    case round =>
      obtain ⟨i, r, ok, hi, hi2, rfl, rfl, rfl, hV, KK⟩ := hrel
      by_cases hlt : i < nv
      · have di : (i : Int) < (nv : Int) := by omega
        have hvl : i < v.length := by rw [← show nv = v.length from hnv']; omega
        have di1 : (i : Int) < (nv : Int) := by omega
        have di2 : (i : Int) < (nb : Int) := by omega
        have dw := wrapI (x := (i : Int) + 1) (by omega) (by omega)
        have hlt' : Hid (i + 1 ≤ nv) := by show _ ≤ _; omega
        have hlt2' : Hid (i + 1 ≤ nb) := by show _ ≤ _; omega
        obtain ⟨x, hx⟩ : ∃ x, v[i]? = some x := ⟨_, List.getElem?_eq_getElem hvl⟩
        obtain ⟨y, hy⟩ : ∃ y, b[i]? = some y := ⟨_, List.getElem?_eq_getElem (by rw [← show nb = b.length from hnb']; omega)⟩
        obtain ⟨g1, o1, rfl, cx⟩ := (hI.more KK).at hx
        obtain ⟨g2, o2, rfl, cy⟩ := (hB.more KK).at hy
        have hxd : v.getD i 0 = x := by rw [List.getD_eq_getElem?_getD, hx]; rfl
        have hvlH : Hid (i < v.length) := hvl
        clear hlt hvl
        cases y with
        | false =>
          have hV2 : Hid (VicI v b (i + 1) r ok) := vic_skip hV (by rw [hy]; simp)
          clear hV
          go_wp2_with fail
          go_quiet (fail)
          go_wp2_with fail
          go_roundw
          case rel => exact ⟨i + 1, r, ok, hlt', hlt2', by go_num, rfl, rfl, hV2, KK.drewN _⟩
          case measure => have : i < nv := hlt'; simp [intOf]; omega
        | true =>
          cases ok with
          | false =>
            have hV2 : Hid (VicI v b (i + 1) (i : Int) true) := vic_first hV hvlH hy
            clear hV
            go_wp2_with fail
            go_quiet (fail)
            go_wp2_with fail
            go_roundw
            case rel => exact ⟨i + 1, (i : Int), true, hlt', hlt2', by go_num, rfl, rfl, hV2, KK.drewN _⟩
            case measure => have : i < nv := hlt'; simp [intOf]; omega
          | true =>
            obtain ⟨j, rfl, hj, hjv, -⟩ := hV.yes rfl
            obtain ⟨z, hz⟩ : ∃ z, v[j]? = some z := ⟨_, List.getElem?_eq_getElem hjv⟩
            obtain ⟨g1', o1', e, cz⟩ := (hI.more KK).at hz
            injection e with e
            injection e with e1 e2
            subst e1 e2
            have hzd : v.getD j 0 = z := by rw [List.getD_eq_getElem?_getD, hz]; rfl
            have dj : (j : Int) < (nv : Int) := by omega
            by_cases hxz : x < z
            · have q3 : decide (x < z) = true := decide_eq_true hxz
              have hV2 : Hid (VicI v b (i + 1) (i : Int) true) := vic_less hV hvlH hy (by rw [hxd, hzd]; exact hxz)
              clear hV
              go_wp2_with fail
              go_quiet (fail)
              go_wp2_with fail
              go_roundw
              case rel => exact ⟨i + 1, (i : Int), true, hlt', hlt2', by go_num, rfl, rfl, hV2, KK.drewN _⟩
              case measure => have : i < nv := hlt'; simp [intOf]; omega
            · have q3 : decide (x < z) = false := decide_eq_false hxz
              have hV2 : Hid (VicI v b (i + 1) (j : Int) true) := vic_more hV (by rw [hxd, hzd]; exact hxz)
              clear hV
              go_wp2_with fail
              go_quiet (fail)
              go_wp2_with fail
              go_roundw
              case rel => exact ⟨i + 1, (j : Int), true, hlt', hlt2', by go_num, rfl, rfl, hV2, KK.drewN _⟩
              case measure => have : i < nv := hlt'; simp [intOf]; omega
      · have di : ¬ (i : Int) < (nv : Int) := by omega
        have he : VicS v b r ok := vic_end hV (by rw [← show nv = v.length from hnv', ← show nb = b.length from hnb']; omega)
        clear hlt hV
        go_wp2_with fail
        go_ret2
        exact ⟨r, ok, rfl, he, KK⟩
end Tg
end Go.Proofs.Ytkddonmddgfpnab
