/-
  The document's own Form.
-/
import Derived.Test.YtkddonmddgfpnabFormA
import Derived.BigQuiet
namespace Go.Proofs.Ytkddonmddgfpnab
open Go.ChangeShapes Go.WideShapes Go.ChangeAt Go.RowKit
namespace Tg

set_option maxRecDepth 100000 in
set_option maxHeartbeats 2000000 in
theorem form9 {w : World} {a : Option Addr} {cap : Nat} {l : List Rn} (hR : Rz w a cap l) (hl : l.length ≤ 9223372036854775807) :
    Calls Try.prog 41 #[.slice a l.length cap] w fun e w' => e = .returned (.bool (formP none l)) ∧ Keep (fun _ => False) w w' := by
  have hlc := hR.1
  have hlc2 := hR.2.1
  have h0 : formP none l = formP (prev l 0) (l.drop 0) := by rw [List.drop_zero]; rfl
  go_enter Try.func41, Try.ntmps41
  go_wp2_with fail
  go_loopw [3] (fun v wx => ∃ i : Nat, i ≤ l.length ∧ v = .int .i64 (i : Int) ∧ Hid (formP none l = formP (prev l i) (l.drop i)) ∧ Hid (∀ y, prev l i = some y → inB y = true) ∧ Keep (fun _ => False) w wx) (fun v _ => l.length - (intOf v).toNat)
  case atStart => exact ⟨0, by omega, rfl, h0, (fun y e => by cases e), Keep.refl _ _⟩
  case round =>
    clear h0
    obtain ⟨i, hi, rfl, hI, hP, k1⟩ := hrel
    by_cases hlt : i < l.length
    · obtain ⟨x, hx⟩ := get_rn hlt
      have Rx := hR.more k1
      obtain ⟨g, o, rfl, c0, c1, c2⟩ := Rx.at hx
      have hstep : formP none l = (okAt (prev l i) x && formP (some x) (l.drop (i + 1))) := by
        rw [show formP none l = formP (prev l i) (l.drop i) from hI, drop_at hx, formP_at]
      have hP2 := show ∀ y, prev l i = some y → inB y = true from hP
      have di : (i : Int) < (l.length : Int) := by omega
      have dw := wrapI (x := (i : Int) + 1) (by omega) (by omega)
      have hlt' : Hid (i < l.length) := hlt
      have hx' : Hid (l[i]? = some x) := hx
      have i0 := fun w => inside_any w x.lba 0
      have i1 := fun w => inside_any w x.phys 0
      have i2 := fun w => inside_any w x.len 1
      clear hI hP hlt hx
      by_cases b0 : 0 ≤ x.lba ∧ x.lba ≤ 1073741824
      · rw [show (decide (0 ≤ x.lba) && decide (x.lba ≤ 1073741824)) = true by simp [b0.1, b0.2]] at i0
        by_cases b1 : 0 ≤ x.phys ∧ x.phys ≤ 1073741824
        · rw [show (decide (0 ≤ x.phys) && decide (x.phys ≤ 1073741824)) = true by simp [b1.1, b1.2]] at i1
          by_cases b2 : 1 ≤ x.len ∧ x.len ≤ 1073741824
          · rw [show (decide (1 ≤ x.len) && decide (x.len ≤ 1073741824)) = true by simp [b2.1, b2.2]] at i2
            have hb : inB x = true := inB_iff.2 ⟨b0.1, b0.2, b2.1, b2.2, b1.1, b1.2⟩
            have hb' : Hid (inB x = true) := hb
            go_wp2_with fail
            refine (i0 _).mono ?_
            rintro e wz ⟨rfl, e1⟩; have e1 := e1.symm; subst e1
            go_wp2_with fail
            refine (i1 _).mono ?_
            rintro e wz ⟨rfl, e1⟩; have e1 := e1.symm; subst e1
            go_wp2_with fail
            refine (i2 _).mono ?_
            rintro e wz ⟨rfl, e1⟩; have e1 := e1.symm; subst e1
            cases i with
            | zero =>
              have hF : Hid (formP none l = formP (some x) (l.drop (0 + 1))) := by
                show formP none l = _
                rw [hstep]; unfold okAt prev; rw [hb]; rfl
              clear hstep hP2 hR Rx hb b0 b1 b2
              go_wp2_with fail
              go_roundw
              case rel => exact ⟨0 + 1, hlt', by go_num, by show formP none l = _; rw [show formP none l = formP (some x) (l.drop (0 + 1)) from hF, prev_succ, show l[0]? = some x from hx'], (fun z e => by rw [prev_succ, show l[0]? = some x from hx'] at e; injection e with e; subst e; exact hb'), k1⟩
              case measure => have : 0 < l.length := hlt'; simp [intOf]; omega
            | succ j =>
              obtain ⟨y, hy⟩ := get_rn (m := l) (i := j) (by have : j + 1 < l.length := hlt'; omega)
              have hyb := inB_iff.1 (hP2 y hy)
              obtain ⟨g', o', eg, h1, h2, h3⟩ := Rx.at hy
              injection eg with eg; injection eg with eg1 eg2; subst eg1; subst eg2
              have hst2 : formP none l = (folB y x && formP (some x) (l.drop (j + 1 + 1))) := by rw [hstep]; unfold okAt; rw [prev_succ, hb, hy]; simp
              have dj1 : IntKind.i64.wrap (((j + 1 : Nat) : Int) - 1) = (j : Int) := by rw [wrapI (by omega) (by omega)]; omega
              have dj4 := wrapI (x := (j : Int)) (by omega) (by omega)
              have dj3 : (j : Int) < (l.length : Int) := by omega
              have dj5 : (((j + 1 : Nat) : Int) == 0) = false := by simp; omega
              have da := wrapI (x := y.lba + y.len) (by omega) (by omega)
              have db := wrapI (x := y.phys + y.len) (by omega) (by omega)
              have K2 : Keep (fun _ => False) wr (wr.alloc (.cells #[.int .i64 y.lba, .int .i64 y.len, .int .i64 y.phys] 35)) := (Keep.refl _ _).alloc _
              have L1 : Blk (wr.alloc (.cells #[.int .i64 y.lba, .int .i64 y.len, .int .i64 y.phys] 35)) wr.heap.size 3 (rcell y) := blk_alloc wr _ 35 3 _ (fun i hi => by
                have : i = 0 ∨ i = 1 ∨ i = 2 := by omega
                rcases this with rfl | rfl | rfl <;> rfl)
              have R2 := Rx.more K2
              clear hstep hP2 hR Rx i0 i1 i2
              go_upto_region 8 with fail
              generalize wr.alloc (.cells #[.int .i64 y.lba, .int .i64 y.len, .int .i64 y.phys] 35) = w2 at K2 L1 R2 ⊢
              generalize wr.heap.size = G at L1 ⊢
              have k2 := k1.trans K2
              obtain ⟨g2, o2, eg, u0, u1, u2⟩ := R2.at (show l[j + 1]? = some x from hx')
              injection eg with eg; injection eg with eg1 eg2; subst eg1; subst eg2
              have v0 : w2.cell? ⟨G, 0, none⟩ = some (.int .i64 y.lba) := (L1 0 (by omega)).1
              have v1 : w2.cell? ⟨G, 1, none⟩ = some (.int .i64 y.len) := (L1 1 (by omega)).1
              have v2 : w2.cell? ⟨G, 2, none⟩ = some (.int .i64 y.phys) := (L1 2 (by omega)).1
              clear K2 k1 R2 L1
              by_cases t0 : x.lba < y.lba + y.len
              · have hF : Hid (formP none l = false) := by
                  show formP none l = false
                  have : folB y x = false := by
                    unfold folB
                    split
                    · omega
                    · simp; omega
                  rw [hst2, this]; rfl
                have tb : decide (x.lba < y.lba + y.len) = true := decide_eq_true t0
                clear hst2 hyb hb b0 b1 b2
                go_quiet (fail)
                go_wp2_with fail
                go_ret
                exact ⟨by rw [show formP none l = false from hF]; rfl, k2.drewN _⟩
              · have tb : decide (x.lba < y.lba + y.len) = false := decide_eq_false t0
                by_cases t1 : y.lba + y.len = x.lba
                · have tb1 : (y.lba + y.len == x.lba) = true := by simp [t1]
                  by_cases t2 : y.phys + y.len = x.phys
                  · have tb2 : (y.phys + y.len == x.phys) = true := by simp [t2]
                    have hF : Hid (formP none l = false) := by
                      show formP none l = false
                      have : folB y x = false := by
                        unfold folB
                        rw [if_pos (by omega)]
                        simp; omega
                      rw [hst2, this]; rfl
                    clear hst2 t1 t2 hyb hb b0 b1 b2
                    go_quiet (fail)
                    go_wp2_with fail
                    go_ret
                    exact ⟨by rw [show formP none l = false from hF]; rfl, k2.drewN _⟩
                  · have tb2 : (y.phys + y.len == x.phys) = false := by simp [t2]
                    have hF : Hid (formP none l = formP (some x) (l.drop (j + 1 + 1))) := by
                      show formP none l = _
                      have : folB y x = true := by
                        unfold folB
                        rw [if_pos (by omega)]
                        simp; omega
                      rw [hst2, this]; rfl
                    clear hst2 t1 t2 hyb hb b0 b1 b2
                    go_quiet (fail)
                    go_wp2_with fail
                    go_roundw
                    case rel => exact ⟨j + 1 + 1, hlt', by go_num, by show formP none l = _; rw [show formP none l = formP (some x) (l.drop (j + 1 + 1)) from hF, prev_succ, show l[j + 1]? = some x from hx'], (fun z e => by rw [prev_succ, show l[j + 1]? = some x from hx'] at e; injection e with e; subst e; exact hb'), k2.drewN _⟩
                    case measure => have : j + 1 < l.length := hlt'; simp [intOf]; omega
                · have tb1 : (y.lba + y.len == x.lba) = false := by simp [t1]
                  have hF : Hid (formP none l = formP (some x) (l.drop (j + 1 + 1))) := by
                    show formP none l = _
                    have : folB y x = true := by
                      unfold folB
                      rw [if_neg (by omega)]
                      simp; omega
                    rw [hst2, this]; rfl
                  clear hst2 t1 hyb hb b0 b1 b2
                  go_quiet (fail)
                  go_wp2_with fail
                  go_roundw
                  case rel => exact ⟨j + 1 + 1, hlt', by go_num, by show formP none l = _; rw [show formP none l = formP (some x) (l.drop (j + 1 + 1)) from hF, prev_succ, show l[j + 1]? = some x from hx'], (fun z e => by rw [prev_succ, show l[j + 1]? = some x from hx'] at e; injection e with e; subst e; exact hb'), k2.drewN _⟩
                  case measure => have : j + 1 < l.length := hlt'; simp [intOf]; omega
          · rw [show (decide (1 ≤ x.len) && decide (x.len ≤ 1073741824)) = false by simp; omega] at i2
            have hF : Hid (formP none l = false) := by
              show formP none l = false
              have : inB x = false := by rw [Bool.eq_false_iff]; intro e; rw [inB_iff] at e; omega
              rw [hstep]; unfold okAt; rw [this]; rfl
            clear hstep hP2 b0 b1 b2 hR Rx
            go_wp2_with fail
            refine (i0 _).mono ?_
            rintro e wz ⟨rfl, e1⟩; have e1 := e1.symm; subst e1
            go_wp2_with fail
            refine (i1 _).mono ?_
            rintro e wz ⟨rfl, e1⟩; have e1 := e1.symm; subst e1
            go_wp2_with fail
            refine (i2 _).mono ?_
            rintro e wz ⟨rfl, e1⟩; have e1 := e1.symm; subst e1
            go_wp2_with fail
            go_ret
            exact ⟨by rw [show formP none l = false from hF]; rfl, k1⟩
        · rw [show (decide (0 ≤ x.phys) && decide (x.phys ≤ 1073741824)) = false by simp; omega] at i1
          have hF : Hid (formP none l = false) := by
            show formP none l = false
            have : inB x = false := by rw [Bool.eq_false_iff]; intro e; rw [inB_iff] at e; omega
            rw [hstep]; unfold okAt; rw [this]; rfl
          clear hstep hP2 b0 b1 hR Rx
          go_wp2_with fail
          refine (i0 _).mono ?_
          rintro e wz ⟨rfl, e1⟩; have e1 := e1.symm; subst e1
          go_wp2_with fail
          refine (i1 _).mono ?_
          rintro e wz ⟨rfl, e1⟩; have e1 := e1.symm; subst e1
          go_wp2_with fail
          go_ret
          exact ⟨by rw [show formP none l = false from hF]; rfl, k1⟩
      · rw [show (decide (0 ≤ x.lba) && decide (x.lba ≤ 1073741824)) = false by simp; omega] at i0
        have hF : Hid (formP none l = false) := by
          show formP none l = false
          have : inB x = false := by rw [Bool.eq_false_iff]; intro e; rw [inB_iff] at e; omega
          rw [hstep]; unfold okAt; rw [this]; rfl
        clear hstep hP2 b0 hR Rx
        go_wp2_with fail
        refine (i0 _).mono ?_
        rintro e wz ⟨rfl, e1⟩; have e1 := e1.symm; subst e1
        go_wp2_with fail
        go_ret
        exact ⟨by rw [show formP none l = false from hF]; rfl, k1⟩
    · have di : ¬ (i : Int) < (l.length : Int) := by omega
      have he : Hid (formP none l = true) := by
        show formP none l = true
        rw [show formP none l = formP (prev l i) (l.drop i) from hI, List.drop_of_length_le (by omega)]
        cases prev l i <;> rfl
      clear hlt hR hI hP
      go_wp2_with fail
      go_ret
      exact ⟨by rw [show formP none l = true from he]; rfl, k1⟩
end Tg
end Go.Proofs.Ytkddonmddgfpnab
