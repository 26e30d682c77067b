/-
  Rows of changes and of runs that lie anywhere, held against each other.
-/
import Derived.Test.YtlekapfhbceibaaDf
namespace Go.Proofs.Ytlekapfhbceibaa
open Go.ChangeShapes Go.WideShapes Go.ChangeAt Go.RowKit
namespace Tg
set_option maxRecDepth 100000 in
set_option maxHeartbeats 1000000 in
theorem sameZ {w : World} {a1 a2 : Option Addr} {c1 c2 : Nat} {m1 m2 : List Rn} (h1 : Rz w a1 c1 m1) (h2 : Rz w a2 c2 m2) (hl1 : m1.length ≤ 9223372036854775807) :
    Calls Try.prog 21 #[.slice a1 m1.length c1, .slice a2 m2.length c2] w fun e w' => e = .returned (.bool (sameL m1 m2)) ∧ Keep (fun _ => False) w w' := by
  have K0 := Keep.refl (fun _ => False) w
  have hc1 := h1.1
  have hc2 := h2.1
  by_cases hl : m1.length = m2.length
  · have hb : ((m1.length : Int) != (m2.length : Int)) = false := by simp [hl]
    have hl' : Hid (m1.length = m2.length) := hl
    have hl1' : (m1.length : Int) ≤ 9223372036854775807 := by omega
    have hm2 : (m2.length : Int) = (m1.length : Int) := by omega
    have hm2' : Hid ((m2.length : Int) = (m1.length : Int)) := hm2
    clear hl hl1 hm2
    go_enter Try.func21, Try.ntmps21
    go_wp2_with fail
    go_loopw [5] (fun v wx => ∃ i : Nat, i ≤ m1.length ∧ v = .int .i64 (i : Int) ∧ Hid (m1.take i = m2.take i) ∧ Keep (fun _ => False) w wx) (fun v _ => m1.length - (intOf v).toNat)
    case atStart => exact ⟨0, by omega, rfl, by show m1.take 0 = m2.take 0; simp, K0⟩
    case round =>
      obtain ⟨i, hi, rfl, hI, k1⟩ := hrel
      by_cases hlt : i < m1.length
      · have hlt2 : i < m2.length := by have := show m1.length = m2.length from hl'; omega
        obtain ⟨x, hx⟩ := get_rn hlt
        obtain ⟨y, hy⟩ := get_rn hlt2
        obtain ⟨g1, o1, rfl, e0, e1, e2⟩ := (h1.more k1).at hx
        obtain ⟨g2, o2, rfl, f0, f1, f2⟩ := (h2.more k1).at hy
        have di : (i : Int) < (m1.length : Int) := by omega
        have di2 : (i : Int) < (m2.length : Int) := by omega
        have dw := wrapI (x := (i : Int) + 1) (by omega) (by omega)
        have hlt' : Hid (i < m1.length) := hlt
        have t1 : Hid (m1.take (i + 1) = m1.take i ++ [x]) := take_next hx
        have t2 : Hid (m2.take (i + 1) = m2.take i ++ [y]) := take_next hy
        by_cases e : x = y
        · subst e
          have hI2 : Hid (m1.take (i + 1) = m2.take (i + 1)) := by
            show m1.take (i + 1) = m2.take (i + 1)
            rw [show m1.take (i + 1) = _ from t1, show m2.take (i + 1) = _ from t2, show m1.take i = m2.take i from hI]
          clear hx hy hlt hlt2 hI t1 t2
          go_wp2_with fail
          go_quiet (fail)
          go_wp2_with fail
          go_roundw
          case rel => exact ⟨i + 1, hlt', by go_num, hI2, k1.drewN _⟩
          case measure => have : i < m1.length := hlt'; simp [intOf]; omega
        · have hne : Hid (sameL m1 m2 = false) := by
            show sameL m1 m2 = false
            rw [Bool.eq_false_iff]
            intro hs
            have := sameL_iff.1 hs
            subst this
            rw [hx] at hy
            injection hy with hy
            exact e hy
          clear hx hy hlt hlt2 hI t1 t2 h1 h2
          by_cases u1 : x.lba = y.lba
          · have v1 : (x.lba == y.lba) = true := by simp [u1]
            by_cases u2 : x.len = y.len
            · have v2 : (x.len == y.len) = true := by simp [u2]
              have v3 : (x.phys == y.phys) = false := by
                simp
                intro u3
                exact e (by cases x; cases y; simp only at u1 u2 u3; subst u1; subst u2; subst u3; rfl)
              clear e u1 u2
              go_wp2_with fail
              go_quiet (fail)
              go_wp2_with fail
              go_ret
              exact ⟨by rw [show sameL m1 m2 = false from hne]; rfl, k1.drewN _⟩
            · have v2 : (x.len == y.len) = false := by simp [u2]
              clear e u1 u2
              go_wp2_with fail
              go_quiet (fail)
              go_wp2_with fail
              go_ret
              exact ⟨by rw [show sameL m1 m2 = false from hne]; rfl, k1.drewN _⟩
          · have v1 : (x.lba == y.lba) = false := by simp [u1]
            clear e u1
            go_wp2_with fail
            go_quiet (fail)
            go_wp2_with fail
            go_ret
            exact ⟨by rw [show sameL m1 m2 = false from hne]; rfl, k1.drewN _⟩
      · have di : ¬ (i : Int) < (m1.length : Int) := by omega
        have he : Hid (sameL m1 m2 = true) := sameL_iff.2 (sameL_take hl' hI (by omega))
        clear hlt h1 h2
        go_wp2_with fail
        go_ret
        exact ⟨by rw [show sameL m1 m2 = true from he]; rfl, k1⟩
  · have hb : ((m1.length : Int) != (m2.length : Int)) = true := by simp; omega
    have hne : Hid (sameL m1 m2 = false) := by
      show sameL m1 m2 = false
      rw [Bool.eq_false_iff]
      intro hs
      exact hl (by rw [sameL_iff.1 hs])
    clear hl h1 h2
    go_enter Try.func21, Try.ntmps21
    go_wp2_with fail
    go_ret
    exact ⟨by rw [show sameL m1 m2 = false from hne]; rfl, K0⟩
set_option maxRecDepth 100000 in
set_option maxHeartbeats 1000000 in
theorem opsZ {w : World} {a1 a2 : Option Addr} {c1 c2 : Nat} {m1 m2 : List Rn} (h1 : Rz w a1 c1 m1) (h2 : Rz w a2 c2 m2) (hl1 : m1.length ≤ 9223372036854775807) :
    Calls Try.prog 12 #[.slice a1 m1.length c1, .slice a2 m2.length c2] w fun e w' => e = .returned (.bool (sameL m1 m2)) ∧ Keep (fun _ => False) w w' := by
  have K0 := Keep.refl (fun _ => False) w
  have hc1 := h1.1
  have hc2 := h2.1
  by_cases hl : m1.length = m2.length
  · have hb : ((m1.length : Int) != (m2.length : Int)) = false := by simp [hl]
    have hl' : Hid (m1.length = m2.length) := hl
    have hl1' : (m1.length : Int) ≤ 9223372036854775807 := by omega
    have hm2 : (m2.length : Int) = (m1.length : Int) := by omega
    have hm2' : Hid ((m2.length : Int) = (m1.length : Int)) := hm2
    clear hl hl1 hm2
    go_enter Try.func12, Try.ntmps12
    go_wp2_with fail
    go_loopw [5] (fun v wx => ∃ i : Nat, i ≤ m1.length ∧ v = .int .i64 (i : Int) ∧ Hid (m1.take i = m2.take i) ∧ Keep (fun _ => False) w wx) (fun v _ => m1.length - (intOf v).toNat)
    case atStart => exact ⟨0, by omega, rfl, by show m1.take 0 = m2.take 0; simp, K0⟩
    case round =>
      obtain ⟨i, hi, rfl, hI, k1⟩ := hrel
      by_cases hlt : i < m1.length
      · have hlt2 : i < m2.length := by have := show m1.length = m2.length from hl'; omega
        obtain ⟨x, hx⟩ := get_rn hlt
        obtain ⟨y, hy⟩ := get_rn hlt2
        obtain ⟨g1, o1, rfl, e0, e1, e2⟩ := (h1.more k1).at hx
        obtain ⟨g2, o2, rfl, f0, f1, f2⟩ := (h2.more k1).at hy
        have di : (i : Int) < (m1.length : Int) := by omega
        have di2 : (i : Int) < (m2.length : Int) := by omega
        have dw := wrapI (x := (i : Int) + 1) (by omega) (by omega)
        have hlt' : Hid (i < m1.length) := hlt
        have t1 : Hid (m1.take (i + 1) = m1.take i ++ [x]) := take_next hx
        have t2 : Hid (m2.take (i + 1) = m2.take i ++ [y]) := take_next hy
        by_cases e : x = y
        · subst e
          have hI2 : Hid (m1.take (i + 1) = m2.take (i + 1)) := by
            show m1.take (i + 1) = m2.take (i + 1)
            rw [show m1.take (i + 1) = _ from t1, show m2.take (i + 1) = _ from t2, show m1.take i = m2.take i from hI]
          clear hx hy hlt hlt2 hI t1 t2
          go_wp2_with fail
          go_quiet (fail)
          go_wp2_with fail
          go_roundw
          case rel => exact ⟨i + 1, hlt', by go_num, hI2, k1.drewN _⟩
          case measure => have : i < m1.length := hlt'; simp [intOf]; omega
        · have hne : Hid (sameL m1 m2 = false) := by
            show sameL m1 m2 = false
            rw [Bool.eq_false_iff]
            intro hs
            have := sameL_iff.1 hs
            subst this
            rw [hx] at hy
            injection hy with hy
            exact e hy
          clear hx hy hlt hlt2 hI t1 t2 h1 h2
          by_cases u1 : x.lba = y.lba
          · have v1 : (x.lba == y.lba) = true := by simp [u1]
            by_cases u2 : x.len = y.len
            · have v2 : (x.len == y.len) = true := by simp [u2]
              have v3 : (x.phys == y.phys) = false := by
                simp
                intro u3
                exact e (by cases x; cases y; simp only at u1 u2 u3; subst u1; subst u2; subst u3; rfl)
              clear e u1 u2
              go_wp2_with fail
              go_quiet (fail)
              go_wp2_with fail
              go_ret
              exact ⟨by rw [show sameL m1 m2 = false from hne]; rfl, k1.drewN _⟩
            · have v2 : (x.len == y.len) = false := by simp [u2]
              clear e u1 u2
              go_wp2_with fail
              go_quiet (fail)
              go_wp2_with fail
              go_ret
              exact ⟨by rw [show sameL m1 m2 = false from hne]; rfl, k1.drewN _⟩
          · have v1 : (x.lba == y.lba) = false := by simp [u1]
            clear e u1
            go_wp2_with fail
            go_quiet (fail)
            go_wp2_with fail
            go_ret
            exact ⟨by rw [show sameL m1 m2 = false from hne]; rfl, k1.drewN _⟩
      · have di : ¬ (i : Int) < (m1.length : Int) := by omega
        have he : Hid (sameL m1 m2 = true) := sameL_iff.2 (sameL_take hl' hI (by omega))
        clear hlt h1 h2
        go_wp2_with fail
        go_ret
        exact ⟨by rw [show sameL m1 m2 = true from he]; rfl, k1⟩
  · have hb : ((m1.length : Int) != (m2.length : Int)) = true := by simp; omega
    have hne : Hid (sameL m1 m2 = false) := by
      show sameL m1 m2 = false
      rw [Bool.eq_false_iff]
      intro hs
      exact hl (by rw [sameL_iff.1 hs])
    clear hl h1 h2
    go_enter Try.func12, Try.ntmps12
    go_wp2_with fail
    go_ret
    exact ⟨by rw [show sameL m1 m2 = false from hne]; rfl, K0⟩
end Tg
end Go.Proofs.Ytlekapfhbceibaa
