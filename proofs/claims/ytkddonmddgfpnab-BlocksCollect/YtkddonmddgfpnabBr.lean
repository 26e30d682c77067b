/-
  The document's own Ends, Fits, Inside, walked.
-/
import Derived.Test.YtkddonmddgfpnabBm
namespace Go.Proofs.Ytkddonmddgfpnab
open Go.ChangeShapes Go.WideShapes Go.ChangeAt Go.RowKit
namespace Tg
set_option maxHeartbeats 600000 in
theorem ends_any {w : World} {a : Option Addr} {cap : Nat} {l : List Rn} (hR : Rz w a cap l) (hb : ∀ x ∈ l, inB x = true) :
    Calls Try.prog 42 #[.slice a l.length cap, .int .i64 512] w fun e w' => e = .returned (.bool (endB l)) ∧ Keep (fun _ => False) w w' := by
  have K0 := Keep.refl (fun _ => False) w
  have hlc := hR.1
  have hlc2 := hR.2.1
  unfold endB
  cases hl : l.getLast? with
  | none =>
    simp only [List.getLast?_eq_none_iff] at hl
    subst hl
    go_enter Try.func42, Try.ntmps42
    go_wp2_with fail
    go_quiet (fail)
    go_wp2_with fail
    go_ret
    exact ⟨rfl, K0.drewN _⟩
  | some x =>
    obtain ⟨m, rfl⟩ := List.getLast?_eq_some_iff.1 hl
    have hm : (m ++ [x]).length = m.length + 1 := by simp
    obtain ⟨g, o, rfl, c0, c1, c2⟩ := hR.at (i := m.length) (x := x) (by simp)
    have hx := inB_iff.1 (hb x (by simp))
    clear hb hR hl
    generalize (m ++ [x]).length = n at hm hlc ⊢
    generalize m.length = k at c0 c1 c2 hm
    have f1 : IntKind.i64.wrap ((n : Int) - 1) = (k : Int) := by rw [wrapI (by omega) (by omega)]; omega
    have f2 := wrapI (x := x.lba + x.len) (by omega) (by omega)
    have f3 : ((n : Int) == 0) = false := beq_eq_false_iff_ne.2 (by omega)
    have f4 : (k : Int) < (n : Int) := by omega
    have f5 : k < n := by omega
    clear hm
    unfold Rn.fin
    go_enter Try.func42, Try.ntmps42
    go_wp2_with fail
    go_quiet (fail)
    go_wp2_with fail
    go_ret
    exact ⟨rfl, K0.drewN _⟩
set_option maxHeartbeats 600000 in
theorem fits13 {w : World} {a : Option Addr} {cap : Nat} {l : List Rn} (hR : Rz w a cap l) :
    Calls Try.prog 25 #[.slice a l.length cap] w fun e w' => e = .returned (.bool (fit13 l)) ∧ Keep (fun _ => False) w w' := by
  have K0 := Keep.refl (fun _ => False) w
  have hlc := hR.1
  have hlc2 := hR.2.1
  unfold fit13
  by_cases hl : l.length ≤ 512
  · have hl' : (l.length : Int) ≤ 512 := by omega
    rw [decide_eq_true hl, Bool.true_and]
    have hf := fun {w'} (k : Keep (fun _ => False) w w') => form9 (hR.more k) (by omega)
    cases hfo : formP none l with
    | false =>
      rw [hfo] at hf
      rw [Bool.false_and]
      go_enter Try.func25, Try.ntmps25
      go_wp2_with fail
      refine (hf K0).mono ?_
      rintro e w1 ⟨rfl, k1⟩
      go_wp2_with fail
      go_ret
      exact ⟨rfl, k1⟩
    | true =>
      have hF := formP_form hfo
      rw [hfo] at hf
      rw [Bool.true_and]
      have he := fun {w'} (k : Keep (fun _ => False) w w') => ends_any (hR.more k) hF.2.1
      clear hfo hF
      go_enter Try.func25, Try.ntmps25
      go_wp2_with fail
      refine (hf K0).mono ?_
      rintro e w1 ⟨rfl, k1⟩
      go_wp2_with fail
      refine (he k1).mono ?_
      rintro e w2 ⟨rfl, k2⟩
      go_wp2_with fail
      go_ret
      exact ⟨rfl, k1.trans k2⟩
  · rw [decide_eq_false hl, Bool.false_and]
    have hl' : ¬ (l.length : Int) ≤ 512 := by omega
    go_enter Try.func25, Try.ntmps25
    go_wp2_with fail
    go_ret
    exact ⟨rfl, K0⟩
set_option maxRecDepth 100000 in
set_option maxHeartbeats 1000000 in
theorem inside13 {w : World} {a : Option Addr} {cap : Nat} {l : List Rn} (hR : Rz w a cap l) (hF : Ft13 l) {P : Int} (hP : 0 ≤ P ∧ P ≤ 2147483648) :
    Calls Try.prog 15 #[.slice a l.length cap, .int .i64 P] w fun e w' => e = .returned (.bool (inP P l)) ∧ Keep (fun _ => False) w w' := by
  have hlc := hR.1
  have hlc2 := hR.2.1
  have hl5 := hF.len
  obtain ⟨m, hm⟩ : ∃ m, m = l.length := ⟨_, rfl⟩
  have hm' : Hid (m = l.length) := hm
  rw [← hm] at hlc hl5 ⊢
  clear hm
  go_enter Try.func15, Try.ntmps15
  go_wp2_with fail
  go_loopw [5] (fun v wx => ∃ i : Nat, i ≤ m ∧ v = .int .i64 (i : Int) ∧ Hid (inP P (l.take i) = true) ∧ Keep (fun _ => False) w wx) (fun v _ => m - (intOf v).toNat)
  case atStart => exact ⟨0, by omega, rfl, rfl, Keep.refl _ _⟩
  case round =>
    obtain ⟨i, hi, rfl, hin, KK⟩ := hrel
    by_cases hlt : i < m
    · obtain ⟨x, hx⟩ := get_rn (m := l) (i := i) (by rw [← show m = l.length from hm']; exact hlt)
      have hb := hF.bd (List.mem_of_getElem? hx)
      obtain ⟨g, o, rfl, c0, c1, c2⟩ := (hR.more KK).at hx
      have hnx := take_next hx
      have di : (i : Int) < (m : Int) := by omega
      have dw := wrapI (x := (i : Int) + 1) (by omega) (by omega)
      have hlt' : Hid (i < m) := hlt
      have f1 : IntKind.i64.wrap (P - x.phys) = P - x.phys := wrapI (by omega) (by omega)
      have hall : Hid (x.phys + x.len ≤ P → inP P (l.take (i + 1)) = true) := fun h => by rw [hnx, inP_snoc, show inP P (l.take i) = true from hin, decide_eq_true h]; rfl
      have hno : Hid (¬ x.phys + x.len ≤ P → inP P l = false) := fun h => by
        cases hq : inP P l with
        | false => rfl
        | true => exact absurd ((inP_iff.1 hq) x (List.mem_of_getElem? hx)) h
      clear hx hnx hlt c0
      by_cases d1 : P < x.phys
      · have e : Hid (inP P l = false) := (show ¬ x.phys + x.len ≤ P → inP P l = false from hno) (by omega)
        go_wp2_with fail
        go_quiet (fail)
        go_wp2_with fail
        go_ret
        exact ⟨by rw [show inP P l = false from e]; rfl, KK.drewN _⟩
      · by_cases d2 : P - x.phys < x.len
        · have e : Hid (inP P l = false) := (show ¬ x.phys + x.len ≤ P → inP P l = false from hno) (by omega)
          go_wp2_with fail
          go_quiet (fail)
          go_wp2_with fail
          go_ret
          exact ⟨by rw [show inP P l = false from e]; rfl, KK.drewN _⟩
        · have hin2 : Hid (inP P (l.take (i + 1)) = true) := (show x.phys + x.len ≤ P → _ from hall) (by omega)
          clear hin hall hno
          go_wp2_with fail
          go_quiet (fail)
          go_wp2_with fail
          go_roundw
          case rel => exact ⟨i + 1, hlt', by go_num, hin2, KK.drewN _⟩
          case measure => have : i < m := hlt'; simp [intOf]; omega
    · have e : Hid (inP P l = true) := by
        show inP P l = true
        have := show inP P (l.take i) = true from hin
        rwa [List.take_of_length_le (by rw [← show m = l.length from hm']; omega)] at this
      have di : ¬ (i : Int) < (m : Int) := by omega
      clear hlt
      go_wp2_with fail
      go_ret
      exact ⟨by rw [show inP P l = true from e]; rfl, KK⟩
end Tg
end Go.Proofs.Ytkddonmddgfpnab
