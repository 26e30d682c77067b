/-
  The document's own Ends and Fits, walked.
-/
import Derived.Test.YtlekapfhbceibaaDc
namespace Go.Proofs.Ytlekapfhbceibaa
open Go.ChangeShapes Go.WideShapes Go.ChangeAt Go.RowKit
namespace Tg
open Vi
/-- Do runs end where they may? -/
def endB (l : List Rn) : Bool := match l.getLast? with
  | none => true
  | some x => decide (x.fin ≤ 512)
theorem ends_all {l : List Rn} (h : Form l) : (l.all (fun x => decide (x.fin ≤ 512 ∧ x.phys ≤ 1048576))) = (endB l && l.all (fun x => decide (x.phys ≤ 1048576))) := by
  rw [Bool.eq_iff_iff, Bool.and_eq_true, List.all_eq_true, List.all_eq_true]
  simp only [decide_eq_true_iff]
  unfold endB
  cases hl : l.getLast? with
  | none =>
    simp only [List.getLast?_eq_none_iff] at hl
    subst hl
    simp
  | some y =>
    simp only [decide_eq_true_iff]
    constructor
    · intro h3
      exact ⟨(h3 y (List.mem_of_getLast? hl)).1, fun x hx => (h3 x hx).2⟩
    · rintro ⟨h3, h4⟩ x hx
      refine ⟨?_, h4 x hx⟩
      obtain ⟨m, rfl⟩ := List.getLast?_eq_some_iff.1 hl
      rcases List.mem_append.1 hx with hx | hx
      · have h5 := (List.pairwise_append.1 h.2).2.2 x hx y (by simp)
        have h6 := h.1 y (by simp)
        unfold Rn.Ok at h6
        unfold Rn.fin at *
        omega
      · simp at hx; subst hx; exact h3
set_option maxHeartbeats 600000 in
theorem ends_any {w : World} {a : Option Addr} {cap : Nat} {l : List Rn} (hR : Rz w a cap l) (hb : ∀ x ∈ l, inB x = true) :
    Calls Try.prog 37 #[.slice a l.length cap, .int .i64 512] w fun e w' => e = .returned (.bool (endB l)) ∧ Keep (fun _ => False) w w' := by
  have K0 := Keep.refl (fun _ => False) w
  have hlc := hR.1
  have hlc2 := hR.2.1
  unfold endB
  cases hl : l.getLast? with
  | none =>
    simp only [List.getLast?_eq_none_iff] at hl
    subst hl
    go_enter Try.func37, Try.ntmps37
    go_wp2_with fail
    go_quiet (fail)
    go_wp2_with fail
    go_ret
    exact ⟨rfl, K0.drewN _⟩
  | some x =>
    obtain ⟨m, rfl⟩ := List.getLast?_eq_some_iff.1 hl
    have hm : (m ++ [x]).length = m.length + 1 := by simp
    obtain ⟨g, o, rfl, c0, c1, c2⟩ := hR.at (i := m.length) (x := x) (by simp)
    have hx := inB_iff.1 (hb x (by simp))
    clear hb hR hl
    generalize (m ++ [x]).length = n at hm hlc ⊢
    generalize m.length = k at c0 c1 c2 hm
    have f1 : IntKind.i64.wrap ((n : Int) - 1) = (k : Int) := by rw [wrapI (by omega) (by omega)]; omega
    have f2 := wrapI (x := x.lba + x.len) (by omega) (by omega)
    have f3 : ((n : Int) == 0) = false := beq_eq_false_iff_ne.2 (by omega)
    have f4 : (k : Int) < (n : Int) := by omega
    have f5 : k < n := by omega
    clear hm
    unfold Rn.fin
    go_enter Try.func37, Try.ntmps37
    go_wp2_with fail
    go_quiet (fail)
    go_wp2_with fail
    go_ret
    exact ⟨rfl, K0.drewN _⟩
set_option maxHeartbeats 600000 in
/-- Fits. -/
theorem fits_any {w : World} {a : Option Addr} {cap : Nat} {l : List Rn} (hR : Rz w a cap l) :
    Calls Try.prog 17 #[.slice a l.length cap] w fun e w' => e = .returned (.bool (fitB l)) ∧ Keep (fun _ => False) w w' := by
  have K0 := Keep.refl (fun _ => False) w
  have hlc := hR.1
  have hlc2 := hR.2.1
  unfold fitB
  by_cases hl : l.length ≤ 512
  · have hl' : ¬ (512 : Int) < (l.length : Int) := by omega
    rw [decide_eq_true hl, Bool.true_and]
    have hf := fun {w'} (k : Keep (fun _ => False) w w') => form9 (hR.more k) (by omega)
    cases hfo : formP none l with
    | false =>
      rw [hfo] at hf
      rw [Bool.false_and]
      go_enter Try.func17, Try.ntmps17
      go_wp2_with fail
      refine (hf K0).mono ?_
      rintro e w1 ⟨rfl, k1⟩
      go_wp2_with fail
      go_ret
      exact ⟨rfl, k1⟩
    | true =>
      have hF := formP_form hfo
      rw [hfo] at hf
      rw [Bool.true_and, ends_all hF.1]
      have he := fun {w'} (k : Keep (fun _ => False) w w') => ends_any (hR.more k) hF.2.1
      clear hfo hF
      cases hen : endB l with
      | false =>
        rw [hen] at he
        rw [Bool.false_and]
        go_enter Try.func17, Try.ntmps17
        go_wp2_with fail
        refine (hf K0).mono ?_
        rintro e w1 ⟨rfl, k1⟩
        go_wp2_with fail
        refine (he k1).mono ?_
        rintro e w2 ⟨rfl, k2⟩
        go_wp2_with fail
        go_ret
        exact ⟨rfl, k1.trans k2⟩
      | true =>
        rw [hen] at he
        rw [Bool.true_and]
        have hB0 : ∃ B, l.all (fun x => decide (x.phys ≤ 1048576)) = B := ⟨_, rfl⟩
        obtain ⟨B, hB⟩ := hB0
        rw [hB]
        have hB' : Hid (l.all (fun x => decide (x.phys ≤ 1048576)) = B) := hB
        clear hB hen
        go_enter Try.func17, Try.ntmps17
        go_wp2_with fail
        refine (hf K0).mono ?_
        rintro e w1 ⟨rfl, k1⟩
        go_wp2_with fail
        refine (he k1).mono ?_
        rintro e w2 ⟨rfl, k2⟩
        have K2 := k1.trans k2
        clear k1 k2 hf he
        go_wp2_with fail
        go_loopw [3] (fun v wx => ∃ i : Nat, i ≤ l.length ∧ v = .int .i64 (i : Int) ∧ Hid (B = (l.drop i).all (fun x => decide (x.phys ≤ 1048576))) ∧ Keep (fun _ => False) w wx) (fun v _ => l.length - (intOf v).toNat)
        case atStart => exact ⟨0, by omega, rfl, (show _ = B from hB').symm, K2⟩
        case round =>
          obtain ⟨i, hi, rfl, hI, k1⟩ := hrel
          by_cases hlt : i < l.length
          · obtain ⟨x, hx⟩ := get_rn hlt
            obtain ⟨g, o, rfl, c0, c1, c2⟩ := (hR.more k1).at hx
            have hstep : Hid (B = (decide (x.phys ≤ 1048576) && (l.drop (i + 1)).all (fun x => decide (x.phys ≤ 1048576)))) := by
              show _ = _
              rw [show _ = _ from hI, drop_at hx, List.all_cons]
            have di : (i : Int) < (l.length : Int) := by omega
            have dw := wrapI (x := (i : Int) + 1) (by omega) (by omega)
            have hlt' : Hid (i < l.length) := hlt
            clear hI hlt hx
            by_cases b : x.phys ≤ 1048576
            · have hI2 : Hid (B = (l.drop (i + 1)).all (fun x => decide (x.phys ≤ 1048576))) := by
                show _ = _
                rw [show _ = _ from hstep, decide_eq_true b, Bool.true_and]
              have n5 : ¬ 1048576 < x.phys := by omega
              clear hstep b
              go_wp2_with fail
              go_roundw
              case rel => exact ⟨i + 1, hlt', by go_num, hI2, k1⟩
              case measure => have : i < l.length := hlt'; simp [intOf]; omega
            · have hF : Hid (B = false) := by
                show _ = _
                rw [show _ = _ from hstep, decide_eq_false b, Bool.false_and]
              clear hstep
              obtain rfl : B = false := hF
              have n5 : 1048576 < x.phys := by omega
              clear b
              go_wp2_with fail
              go_ret
              exact ⟨rfl, k1⟩
          · obtain rfl : i = l.length := by omega
            have hT : Hid (B = true) := by
              show _ = _
              rw [show _ = _ from hI, List.drop_length]; rfl
            obtain rfl : B = true := hT
            clear hI hlt
            go_wp2_with fail
            go_ret
            exact ⟨rfl, k1⟩
  · have hl' : (512 : Int) < (l.length : Int) := by omega
    rw [decide_eq_false hl, Bool.false_and]
    go_enter Try.func17, Try.ntmps17
    go_wp2_with fail
    go_ret
    exact ⟨rfl, K0⟩
end Tg
end Go.Proofs.Ytlekapfhbceibaa
