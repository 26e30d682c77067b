/-
  The document's own runs of a list of pages.
-/
import Derived.Test.YtbdankhlbepjoaaInts
namespace Go.Proofs.Ytbdankhlbepjoaa
open Go.ChangeShapes Go.WideShapes Go.ChangeAt Go.RowKit
namespace Tg

theorem grow_len : ∀ m : List Rn, (grow m).length = m.length
  | [] => rfl
  | [x] => rfl
  | x :: y :: m => by rw [grow, List.length_cons, grow_len (y :: m)]; rfl
theorem refR_len (t : List Int) : ∀ i, (refR t i).length ≤ i
  | 0 => by simp [refR]
  | i + 1 => by
    have := refR_len t i
    rw [refR]
    split
    · omega
    · split
      · rw [grow_len]; omega
      · simp; omega
/-- Bounds of a list of pages. -/
def Tab (t : List Int) : Prop := ∀ i, -1 ≤ t.getD i (-1) ∧ t.getD i (-1) ≤ 1049088
set_option maxRecDepth 100000 in
/-- An empty row, made. -/
theorem rr_made (w : World) : (Instr.makeSlice 49 (.int .i64 0) (.int .i64 0)).run Try.prog w = .ok (.slice (some ⟨w.heap.size, 0, none⟩) 0 0) (w.alloc (.cells (madeCells #[.int .i64 0, .int .i64 0, .int .i64 0] (0 * 3)) 55)) ∧ Rr w (w.alloc (.cells (madeCells #[.int .i64 0, .int .i64 0, .int .i64 0] (0 * 3)) 55)) (some ⟨w.heap.size, 0, none⟩) 0 [] := by
  refine ⟨make_runs 0 (by omega) w, ?_, (Keep.refl _ _).alloc _⟩
  have e : madeCells #[.int .i64 0, .int .i64 0, .int .i64 0] (0 * 3) = #[] := by simp [madeCells]
  rw [e]
  exact World.ownsRow_lit (e := 55) (size := 3) (base := w.heap.size) w #[] 0 (Nat.le_refl _) (by unfold maxLen; omega) rfl

set_option maxRecDepth 100000 in
set_option maxHeartbeats 2000000 in
theorem runs9 {w : World} {a : Option Addr} {c : Nat} {t : List Int} (h : Is w a c t) (h2 : t.length ≤ 512) (hb : Tab t) :
    Calls Try.prog 35 #[.slice a t.length c] w fun e w' => ∃ a' c', e = .returned (.slice a' (refR t t.length).length c') ∧ Rr w w' a' c' (refR t t.length) := by
  obtain ⟨hmk, R0⟩ := rr_made w
  have R0 : Rr w (w.alloc (.cells (madeCells #[.int .i64 0, .int .i64 0, .int .i64 0] (0 * 3)) 55)) (some ⟨w.heap.size, 0, none⟩) 0 (refR t 0) := R0
  generalize w.alloc (.cells (madeCells #[.int .i64 0, .int .i64 0, .int .i64 0] (0 * 3)) 55) = w1 at hmk R0
  generalize hG : w.heap.size = G at hmk R0
  have hc := h.1
  have hl : (t.length : Int) ≤ 512 := by omega
  go_enter Try.func35, Try.ntmps35
  go_wp2_with fail
  clear hmk
  go_loopw [3, 4] (fun lv v wx => ∃ (i : Nat) (a' : Option Addr) (c' : Nat), i ≤ t.length ∧ lv = .slice a' (refR t i).length c' ∧ v = .int .i64 (i : Int) ∧ Rr w wx a' c' (refR t i)) (fun _ v _ => t.length - (intOf v).toNat)
  case atStart => exact ⟨0, _, _, by omega, rfl, rfl, R0⟩
  case round =>
    clear R0
    obtain ⟨i, a', c', hi, rfl, rfl, R1⟩ := hrel
    by_cases hlt : i < t.length
    · obtain ⟨g, rfl, ci⟩ := (h.more R1.keep).at hlt
      have hbi := hb i
      have hstep : refR t (i + 1) = if t.getD i (-1) < 0 then refR t i else if 0 < i ∧ 0 ≤ t.getD (i - 1) (-1) ∧ t.getD (i - 1) (-1) + 1 = t.getD i (-1) then grow (refR t i) else refR t i ++ [⟨(i : Int), 1, t.getD i (-1)⟩] := by rw [refR]
      have hlast := (refR_ok t i).last
      have hfm := (refR_ok t i).form
      have hln := refR_len t i
      have di : (i : Int) < (t.length : Int) := by omega
      have dw := wrapI (x := (i : Int) + 1) (by omega) (by omega)
      have hlt' : Hid (i < t.length) := hlt
      have hcj : ∀ j, j + 1 = i → wr.cell? ⟨g, j, none⟩ = some (.int .i64 (t.getD j (-1))) := fun j hj => by
        obtain ⟨g', eg, cj⟩ := (h.more R1.keep).at (i := j) (by omega)
        injection eg with eg; injection eg with eg; subst eg; exact cj
      have hbj := fun j => hb j
      generalize hX : t.getD i (-1) = X at ci hbi hstep
      clear h hb
      by_cases c0 : X < 0
      · rw [if_pos c0] at hstep
        have R2 : Rr w wr a' c' (refR t (i + 1)) := by rw [hstep]; exact R1
        have hE : Hid ((refR t (i + 1)).length = (refR t i).length) := by show (refR t (i + 1)).length = _; rw [hstep]
        clear hlast hfm hcj hbj R1 hstep hX
        go_wp2_with fail
        go_roundw
        case rel => exact ⟨i + 1, a', c', hlt', by rw [show (refR t (i + 1)).length = _ from hE], by go_num, R2⟩
        case measure => have : i < t.length := hlt'; simp [intOf]; omega
      · rw [if_neg c0] at hstep
        have c0' : 0 ≤ X := by omega
        -- where no run goes on
        have hnew : refR t (i + 1) = refR t i ++ [⟨(i : Int), 1, X⟩] → ∀ w2, Keep (fun _ => False) wr w2 → ∃ a2 c2 w3, (Builtin.append_ #[49, 49] 49 #[.slice a' (refR t i).length c', .slice (some ⟨w2.heap.size, 0, none⟩) 1 1]).run Try.prog (w2.alloc (.cells #[.int .i64 (i : Int), .int .i64 1, .int .i64 X] 55)) = .ok (.slice a2 ((refR t i).length + 1) c2) w3 ∧ Rr w w3 a2 c2 (refR t (i + 1)) ∧ (refR t (i + 1)).length = (refR t i).length + 1 := fun e w2 k2 => by
          obtain ⟨a2, c2, w3, h1, h2⟩ := (R1.more k2).app1 (by omega) ⟨(i : Int), 1, X⟩
          exact ⟨a2, c2, w3, h1, by rw [e]; exact h2, by rw [e]; simp⟩
        by_cases hz : i = 0
        · have dz : ¬ (0 : Int) < (i : Int) := by omega
          have dzb : decide ((0 : Int) < (i : Int)) = false := decide_eq_false dz
          have dzc : decide (0 < i) = false := decide_eq_false (by omega)
          rw [if_neg (by omega)] at hstep
          have hn := hnew hstep
          clear hlast hfm hcj hbj hstep hnew hX hz
          go_upto_region 6 with fail
          go_quiet (fail)
          have k2 := (Keep.refl (fun _ => False) wr).drewN nq
          have ci2 := k2.cell ci
          generalize wr.drewN nq = w2 at k2 ci2 ⊢
          obtain ⟨a2, c2, w3, happ, R3, hE⟩ := hn w2 k2
          have hE' : Hid ((refR t (i + 1)).length = (refR t i).length + 1) := hE
          clear hn hE R1 ci k2
          go_wp2_with (at_builtin; refine wpList_append_run rfl (.tmp 50) (.tmp 57) 49 rfl (by rfl) (by rfl) happ ?_)
          go_roundw
          case rel => exact ⟨i + 1, a2, c2, hlt', by rw [show (refR t (i + 1)).length = _ from hE'], by go_num, R3⟩
          case measure => have : i < t.length := hlt'; simp [intOf]; omega
        · obtain ⟨j, hij⟩ : ∃ j, j + 1 = i := ⟨i - 1, by omega⟩
          have cj := hcj j hij
          have bj := hbj j
          have ej : i - 1 = j := by omega
          rw [ej] at hstep hlast
          have dz : (0 : Int) < (i : Int) := by omega
          have dzb : decide ((0 : Int) < (i : Int)) = true := decide_eq_true dz
          have dzc : decide (0 < i) = true := decide_eq_true (by omega)
          have djw : IntKind.i64.wrap ((i : Int) - 1) = (j : Int) := (wrapI (x := (i : Int) - 1) (by omega) (by omega)).trans (by omega)
          have djl : (j : Int) < (t.length : Int) := by omega
          generalize t.getD j (-1) = Y at cj bj hstep hlast
          by_cases cy : Y < 0
          · have cyd : decide (0 ≤ Y) = false := decide_eq_false (by omega)
            rw [if_neg (by omega)] at hstep
            have hn := hnew hstep
            clear hlast hfm hcj hbj hstep hnew hX hz ej hij
            go_upto_region 6 with fail
            go_quiet (fail)
            have k2 := (Keep.refl (fun _ => False) wr).drewN nq
            have ci2 := k2.cell ci
            generalize wr.drewN nq = w2 at k2 ci2 ⊢
            obtain ⟨a2, c2, w3, happ, R3, hE⟩ := hn w2 k2
            have hE' : Hid ((refR t (i + 1)).length = (refR t i).length + 1) := hE
            clear hn hE R1 ci k2
            go_wp2_with (at_builtin; refine wpList_append_run rfl (.tmp 50) (.tmp 57) 49 rfl (by rfl) (by rfl) happ ?_)
            go_roundw
            case rel => exact ⟨i + 1, a2, c2, hlt', by rw [show (refR t (i + 1)).length = _ from hE'], by go_num, R3⟩
            case measure => have : i < t.length := hlt'; simp [intOf]; omega
          · have cj0 : 0 ≤ Y := by omega
            have cyd : decide (0 ≤ Y) = true := decide_eq_true cj0
            have dy := wrapI (x := Y + 1) (by omega) (by omega)
            by_cases ce : Y + 1 = X
            · have ceb : (Y + 1 == X) = true := by simp [ce]
              rw [if_pos ⟨by omega, cj0, ce⟩] at hstep
              obtain ⟨A, x, eA, xf, xp⟩ := hlast (by omega) cj0
              rw [eA, grow_snoc] at hstep
              have hxo := hfm.1 x (by rw [eA]; simp)
              have hx1 := hxo.1
              have hx2 := hxo.2.1
              unfold Rn.fin at xf
              rw [eA] at R1 hln ⊢
              have hAl : (A ++ [x]).length = A.length + 1 := by simp
              rw [hAl] at hln ⊢
              have hEl : Hid ((refR t (i + 1)).length = A.length + 1) := by show (refR t (i + 1)).length = _; rw [hstep]; simp
              have hst' : Hid (refR t (i + 1) = A ++ [⟨x.lba, x.len + 1, x.phys⟩]) := hstep
              have dxl := wrapI (x := x.len + 1) (by omega) (by omega)
              have dA := wrapI (x := ((A.length + 1 : Nat) : Int) - 1) (by omega) (by omega)
              have dA2 : ((A.length + 1 : Nat) : Int) - 1 = (A.length : Int) := by omega
              rw [dA2] at dA
              have hrc := R1.rs.1
              rw [hAl] at hrc
              clear hcj hbj hstep hnew hX hz ej hij ce
              clear hlast hfm eA hxo hx1 hx2 xf xp dA2 hAl
              go_upto_region 6 with fail
              go_quiet (fail)
              have k2 := (Keep.refl (fun _ => False) wr).drewN nq
              have R2 := R1.more k2
              generalize wr.drewN nq = w2 at k2 R2 ⊢
              obtain ⟨g2, rfl, f0, f1, f2⟩ := R2.rs.at (i := A.length) (x := x) (by simp)
              have hfz := R2.own.frozenAt (A.length * 3 + 1)
              have R3 := R2.setLen (x.len + 1)
              rw [← (show refR t (i + 1) = _ from hst')] at R3
              clear R1 R2 ci k2
              go_wp2_with fail
              go_roundw
              case rel => exact ⟨i + 1, _, c', hlt', by rw [show (refR t (i + 1)).length = _ from hEl], by go_num, R3⟩
              case measure => have : i < t.length := hlt'; simp [intOf]; omega
            · have ceb : (Y + 1 == X) = false := by simp [ce]
              rw [if_neg (fun h => ce h.2.2)] at hstep
              have hn := hnew hstep
              clear hlast hfm hcj hbj hstep hnew hX hz ej hij ce
              go_upto_region 6 with fail
              go_quiet (fail)
              have k2 := (Keep.refl (fun _ => False) wr).drewN nq
              have ci2 := k2.cell ci
              generalize wr.drewN nq = w2 at k2 ci2 ⊢
              obtain ⟨a2, c2, w3, happ, R3, hE⟩ := hn w2 k2
              have hE' : Hid ((refR t (i + 1)).length = (refR t i).length + 1) := hE
              clear hn hE R1 ci k2
              go_wp2_with (at_builtin; refine wpList_append_run rfl (.tmp 50) (.tmp 57) 49 rfl (by rfl) (by rfl) happ ?_)
              go_roundw
              case rel => exact ⟨i + 1, a2, c2, hlt', by rw [show (refR t (i + 1)).length = _ from hE'], by go_num, R3⟩
              case measure => have : i < t.length := hlt'; simp [intOf]; omega
    · have di : ¬ (i : Int) < (t.length : Int) := by omega
      have ei : i = t.length := by omega
      rw [ei] at R1 ⊢
      clear hlt ei h
      go_wp2_with fail
      go_ret
      exact ⟨_, _, rfl, R1⟩
end Tg
end Go.Proofs.Ytbdankhlbepjoaa
