/-
  Proved: the call of the statement NandSteps returns true for every byte and every number of steps, and what it was handed reads as before; no condition.
-/
import Derived.Test.YtjafjofonckaaaaRows
import Derived.Test.YtjafjofonckaaaaCuts
import Derived.WalkKit
import Derived.ProofKit
import Derived.OpenShut
import Derived.ShutString
import Derived.ChangeOld
import Derived.Below
namespace Go.Proofs.Ytjafjofonckaaaa.nandSteps
open Go.ChangeShapes Go.WideShapes Go.ChangeAt Go.RowKit
open Go.ChangeMaps (open_string shut_string)
set_option linter.unusedVariables false      -- a walk need not use every 'w<i>' (that an integer argument fits its kind)

theorem own : ownKnob Try.prog.godebug = none := by kernel_rfl

open Nd

/-- What the test behind the loops sees. -/
theorem last_test {x y : Bool} (h : x = y) : Ending.returned (.bool x) = .returned (.bool y) := by rw [h]

set_option maxHeartbeats 2000000 in
theorem walk (v : Int) (steps : Int) (w0 : (Lit.int .u8 v).wf = true) (w1 : (Lit.int .i64 steps).wf = true) (w : World) :
    Calls Try.prog 5 #[.int .u8 v, .int .i64 steps] w fun e w' => e = .returned (.bool true) ∧ Below w.heap.size w w' := by
  have hv := bounds_u8 w0
  have hst := bounds_i64 w1
  clear w0 w1
  by_cases h255 : v = 255
  · go_enter Try.func5, Try.ntmps5
    go_wp2_with fail
    refine (awake_any w).mono ?_
    rintro e w1 ⟨rfl, k1⟩
    go_wp2_with fail
    go_ret
    exact ⟨rfl, k1.below (Nat.le_refl _) (fun _ e => e.elim)⟩
  · obtain ⟨r, m, nx, t, hpr, hcell, hnx, hfull, hcut, hm⟩ := steps_math steps v
    have okA : ((Fl.new 1 2).setCut steps).Ok 0 := (Fl.Ok.new (by omega) (by omega) (by omega) (by omega) 0).setCut (by omega)
    have okT : t.Ok 1 := by have := okA.program (b := 0) (j := 0) (show 0 < 2 by omega) (d := fun _ => v) (fun _ => hv); rw [hpr] at this; exact this
    have hBP := Fl.program_P ((Fl.new 1 2).setCut steps) 0 0 (fun _ => v)
    rw [hpr] at hBP
    have hPP : t.P = 2 := hBP.1
    have hBB : t.B = 1 := hBP.2
    clear hBP
    go_enter Try.func5, Try.ntmps5
    go_wp2_with fail
    refine (awake_any w).mono ?_
    rintro e w1 ⟨rfl, k1⟩
    go_wp2_with fail
    refine (new_any (B := 1) (P := 2) (by omega) (by omega) (by omega) (by omega)).mono ?_
    rintro e w4 ⟨p, c, k, rfl, m0, hp, hc, hk, K0⟩
    have hsz := k1.size
    have F0 : Fs w p c k (Fl.new 1 2) w4 := ⟨m0, k1.trans K0, by omega, by omega, by omega⟩
    clear m0 K0 hp hc hk k1 hsz
    go_wp2_with fail
    refine (cut_any F0.mem steps).mono ?_
    rintro e w5 ⟨rfl, m5, k5⟩
    have F5 := F0.own m5 k5
    clear F0 m5 k5
    go_wp2_with fail
    refine (new_page F5 okA v).mono ?_
    rintro e w6 ⟨rfl, F6, hb6, ho6⟩
    go_wp2_with fail
    refine (prog_page F6 okA (by omega) (b := 0) (j := 0) (pg := 0) (r := r) (t := t) (show 0 < 1 by omega) (show 0 < 2 by omega) rfl (fun _ => hv) hb6 ho6 (by rw [hpr]) (by rw [hpr])).mono ?_
    rintro e w7 ⟨rfl, F7⟩
    clear F5 F6 hb6 ho6 hpr okA
    go_wp2_with fail
    refine (on_any F7.mem).mono ?_
    rintro e w8 ⟨rfl, m8, k8⟩
    have F8 := F7.own m8 k8
    clear F7 m8 k8
    go_wp2_with fail
    refine (read_any F8.mem okT.turnOn (by omega) (pg := 0) (by show 0 < t.B * t.P; rw [hBB, hPP]; omega) rfl).mono ?_
    rintro e w9 ⟨g, cap, rfl, hg, hrow, hf, m9, k9⟩
    have F9 := F8.own m9 k9
    have hc : ∀ i, i < 68 → w9.cell? ⟨g, i, none⟩ = some (.int .u8 (if i < m then v else 255)) := fun i hi => by
      rw [hrow.cellAt hi, tab_get _ hi]
      show some (Value.int .u8 (t.cell (0 * 68 + i))) = _
      rw [Nat.zero_mul, Nat.zero_add, hcell i hi]
    have hnext := next_any F9.mem (b := 0) (by show 0 < t.B; rw [hBB]; omega)
    rw [show (t.turnOn.readOne.next 0) = nx from hnx] at hnext
    have HK : Below w.heap.size w w9 := F9.keep.below (Nat.le_refl _) (fun _ e => e.elim)
    clear F8 F9 m9 k9 hrow hf hg hcell hnx okT hBB hPP
    go_wp2_with fail
    go_loop [9] (fun x => ∃ q : Nat, q ≤ m ∧ x = .int .i64 q) (fun x => 68 - (intOf x).toNat)
    case atStart => exact ⟨0, by omega, rfl⟩
    case round =>
      obtain ⟨q, hq, rfl⟩ := hrel
      by_cases hlt : q < m
      · have hcq := hc q (by omega)
        rw [if_pos hlt] at hcq
        have hq68 : (q : Int) < 68 := by omega
        clear hc hfull hcut
        go_wp2_with fail
        go_round
        case rel => exact ⟨q + 1, by omega, by go_num⟩
        case measure => simp [intOf]; omega
      · obtain rfl : q = m := by omega
        have hloop : ∀ r' : Nat, q ≤ r' → r' < 68 → w9.cell? ⟨g, r', none⟩ = some (.int .u8 255) := fun r' h1 h2 => by rw [hc r' h2, if_neg (by omega)]
        by_cases h68 : q < 68
        · have hcq := hloop q (Nat.le_refl _) h68
          have hq68 : (q : Int) < 68 := by omega
          have h255' : ¬ (255 : Int) = v := fun e => h255 e.symm
          have hsteps : 0 ≤ steps ∧ steps < 17 := by
            by_cases h : steps < 0 ∨ 17 ≤ steps
            · have := hfull h; omega
            · omega
          obtain ⟨hr7, hm4', hnx1'⟩ := hcut hsteps.1 hsteps.2
          have hm4 : Hid ((q : Int) = 4 * steps) := hm4'
          have HQ : Hid (nx = if steps = 0 then 0 else 1) := hnx1'
          subst hr7
          clear hc hfull hcut hm4' hnx1'
          go_wp2_with fail
          go_loop [10] (fun x => ∃ r : Nat, q ≤ r ∧ r ≤ 68 ∧ x = .int .i64 r) (fun x => 68 - (intOf x).toNat)
          case atStart => exact ⟨q, by omega, by omega, rfl⟩
          case round =>
            obtain ⟨r2, hr1, hr2, rfl⟩ := hrel
            clear hcq
            by_cases hr3 : r2 < 68
            · have hcr := hloop r2 hr1 hr3
              have hr68 : (r2 : Int) < 68 := by omega
              clear hloop hm4 HQ
              go_wp2_with fail
              go_round
              case rel => exact ⟨r2 + 1, by omega, by omega, by go_num⟩
              case measure => simp [intOf]; omega
            · have hr68 : ¬ (r2 : Int) < 68 := by omega
              have n0 : ¬ steps < 0 := by omega
              have n17 : ¬ 17 ≤ steps := by omega
              have e4 : (q : Int) = steps * 4 := by have := hm4.out; omega
              clear hloop hm4
              by_cases hz : steps = 0
              · have hn0 : nx = 0 := by rw [HQ.out, if_pos hz]
                subst hn0
                have gz : ¬ 0 < steps := by omega
                clear HQ hz
                go_wp2_with fail
                refine hnext.mono ?_
                rintro e w10 ⟨rfl, rfl⟩
                go_wp2_with fail
                go_ret
                exact ⟨last_test (by simp [gz]), HK⟩
              · have hn1 : nx = 1 := by rw [HQ.out, if_neg hz]
                subst hn1
                have gz : 0 < steps := by omega
                clear HQ hz
                go_wp2_with fail
                refine hnext.mono ?_
                rintro e w10 ⟨rfl, rfl⟩
                go_wp2_with fail
                go_ret
                exact ⟨last_test (by simp), HK⟩
        · have hq68 : ¬ (q : Int) < 68 := by omega
          have hq : q = 68 := by omega
          subst hq
          have hfl : steps < 0 ∨ 17 ≤ steps := by
            by_cases h : steps < 0 ∨ 17 ≤ steps
            · exact h
            · have := hcut (by omega) (by omega); omega
          obtain ⟨rfl, _⟩ := hfull hfl
          clear hc hcut hfull hloop hnext
          go_wp2_with fail
          go_loop [10] (fun x => ∃ r : Nat, 68 ≤ r ∧ r ≤ 68 ∧ x = .int .i64 r) (fun x => 68 - (intOf x).toNat)
          case atStart => exact ⟨68, by omega, by omega, rfl⟩
          case round =>
            obtain ⟨r2, hr1, hr2, rfl⟩ := hrel
            have hr68 : ¬ (r2 : Int) < 68 := by omega
            by_cases hneg : steps < 0
            · go_wp2_with fail
              go_ret
              exact ⟨rfl, HK⟩
            · have h17 : 17 ≤ steps := by omega
              go_wp2_with fail
              go_ret
              exact ⟨rfl, HK⟩

set_option maxRecDepth 100000 in
theorem lifted (os : Os) (started : os.Started) (H : Type) (enc : TypeId × Value → H) :
    ReturnsInHanded {} Try.checked os 5 .any (Rows.nandStepsSpec.pre6 enc Try.prog Try.f5 Rows.nandStepsRow.domain false) (Rows.nandStepsSpec.post enc Try.prog Try.f5 false true false false) := by
  refine returnsInHanded_of_change (C := Try.checked) own started (by kernel_rfl) Try.func5
    (ChangeSpec.witness6 (enc := enc) (C := Try.checked) false ⟨#[], #[.int .u8 0, .int .i64 0], []⟩ 8 (by kernel_rfl) (by kernel_rfl) (by kernel_rfl) (by kernel_rfl)) ?_
  intro W base args ds gs before hval0 hW hcnd _
  have hval : ∀ (j : Nat) t v, Try.f5.params[j]? = some t → args[j]? = some v → Value.okWide Try.prog W .any base t v := hval0
  have hW' := hW
  obtain ⟨p, q, hA0, hV, rfl, hfz, hnd⟩ := hW
  have hA : DataW.TrodAll enc Try.prog W 0 (fun _ => true) true Try.f5.params.toList args.toList ds p := hA0
  rw [Try.params5] at hA hval
  obtain ⟨v0, vs0, d0, ds0, p0, q0, hargs, rfl, rfl, h0, r0⟩ := trodAll_cons hA
  obtain ⟨v1, vs1, d1, ds1, p1, q1, rfl, rfl, rfl, h1, r1⟩ := trodAll_cons r0
  obtain ⟨rfl, rfl, rfl⟩ := trodAll_nil r1
  obtain rfl : args = #[v0, v1] := by cases args; simp_all
  obtain ⟨rfl, rfl⟩ := trodVars_none hV
  obtain ⟨a0, rfl, rfl, rfl, w0⟩ := open_int Try.underlying5 (hval 0 5 v0 rfl rfl) h0
  obtain ⟨a1, rfl, rfl, rfl, w1⟩ := open_int Try.underlying3 (hval 1 3 v1 rfl rfl) h1
  clear hA0 hval0
  simp only [List.append_nil] at hW'
  refine (walk a0 a1 w0 w1 W).mono fun e W' ⟨he, bel⟩ => ?_
  subst he
  exact ⟨_, rfl, _, _, _, [], _, [], hW', trodAll_mk1 (shut_bool Try.underlying4 _), (trodAll_cons_mk (shut_int Try.underlying5 w0) (trodAll_cons_mk (shut_int Try.underlying3 w1) trodAll_mk0)), rfl, bel.frame _, fun h => by cases h⟩

theorem over : Rows.nandStepsRow.holds Try.pinned (OpenSpec.ofChange Rows.nandStepsSpec) :=
  OpenClaim.holds_of_wide 5 Try.f5 rfl rfl rfl rfl rfl rfl rfl ⟨rfl, rfl, rfl, rfl, rfl⟩ rfl rfl rfl rfl rfl (by kernel_rfl) Try.func5 (by kernel_rfl)
    (of_decide_eq_true (by kernel_rfl)) (by unfold Func.isWrapper; first | (rw [if_pos (by decide +kernel)]; kernel_rfl) | (rw [if_neg (by decide +kernel)]; exact ⟨rfl, rfl⟩))
    (fun os started H enc _ => lifted os started H enc)

theorem proved : Rows.NandStepsSaid :=
  over
#print axioms proved
end Go.Proofs.Ytjafjofonckaaaa.nandSteps
