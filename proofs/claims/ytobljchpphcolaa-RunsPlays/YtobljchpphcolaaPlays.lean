/-
  The map of runs is always what one entry a sector would be: the document's own cut, pieces held against each other, the document's own Set, is, and the play.
-/
import Derived.Test.YtobljchpphcolaaRefR
import Derived.Deep.CutBlock
namespace Go.Proofs.Ytobljchpphcolaa
open Go.ChangeShapes Go.WideShapes Go.ChangeAt Go.RowKit
namespace Tg

/-- The last piece's length is written over. -/
theorem Rq.setLen {w0 w : World} {g cap : Nat} {a : List Rn} {x : Rn} (h : Rq w0 w (some ⟨g, 0, none⟩) cap (a ++ [x])) (v : Int) :
    Rq w0 (w.setCell ⟨g, a.length * 3 + 1, none⟩ (.int .i64 v)) (some ⟨g, 0, none⟩) cap (a ++ [⟨x.lba, v, x.phys⟩]) := by
  have hl : (a ++ [x]).length = (a ++ [(⟨x.lba, v, x.phys⟩ : Rn)]).length := by simp
  obtain ⟨h1, h2⟩ := h.own.stored (a.length * 3 + 1) (.int .i64 v)
  rw [set_cells] at h1
  refine ⟨by rw [← hl]; exact h1, h.keep.next (keep_grown h2) (fun y hy e => ?_)⟩
  injection e with e
  have := (h.block rfl).1
  omega

theorem refP_len (t : List Int) (lba : Nat) : ∀ i, (refP t lba i).length ≤ i
  | 0 => by simp [refP]
  | i + 1 => by
    have := refP_len t lba i
    rw [refP]
    split
    · rw [grow_len]; omega
    · simp; omega
set_option maxRecDepth 100000 in
/-- An empty row of pieces, made. -/
theorem rq_made (w : World) : (Instr.makeSlice 41 (.int .i64 0) (.int .i64 0)).run Try.prog w = .ok (.slice (some ⟨w.heap.size, 0, none⟩) 0 0) (w.alloc (.cells #[] 45)) ∧ Rq w (w.alloc (.cells #[] 45)) (some ⟨w.heap.size, 0, none⟩) 0 [] := by
  obtain ⟨i, hi, hz0, hz1, hz2⟩ := info_parts info45
  have := run_make (P := Try.prog) w 41 45 i _ Try.underlying41 hi hz0 .i64 .i64 0 0 (by omega) (by omega) (by rw [hz2]; omega) (by omega)
  have e : ∀ z : Array Value, madeCells z 0 = #[] := fun z => by simp [madeCells]
  rw [show Int.toNat 0 = 0 from rfl, Nat.zero_mul, e] at this
  exact ⟨this, World.ownsRow_lit (e := 45) (size := 3) (base := w.heap.size) w #[] 0 (Nat.le_refl _) (by unfold maxLen; omega) rfl, (Keep.refl _ _).alloc _⟩

set_option maxRecDepth 100000 in
set_option maxHeartbeats 4000000 in
theorem range9 {w : World} {a : Option Addr} {c : Nat} {t : List Int} (h : Is w a c t) (h2 : t.length ≤ 512) (hb : Tab t) {lba n : Nat} (hr : lba + n ≤ t.length) :
    Calls Try.prog 37 #[.slice a t.length c, .int .i64 (lba : Int), .int .i64 (n : Int)] w fun e w' => ∃ a' c', e = .returned (.slice a' (refP t lba n).length c') ∧ Rq w w' a' c' (refP t lba n) := by
  obtain ⟨hmk, R0⟩ := rq_made w
  have R0 : Rq w (w.alloc (.cells #[] 45)) (some ⟨w.heap.size, 0, none⟩) 0 (refP t lba 0) := R0
  generalize w.alloc (.cells #[] 45) = w1 at hmk R0
  generalize hG : w.heap.size = G at hmk R0
  have hc := h.1
  have hl : (t.length : Int) ≤ 512 := by omega
  have ds := wrapI (x := (lba : Int) + n) (by omega) (by omega)
  go_enter Try.func37, Try.ntmps37
  go_wp2_with fail
  clear hmk
  go_loopw [7, 8] (fun lv v wx => ∃ (k i : Nat) (a' : Option Addr) (c' : Nat), k ≤ n ∧ Hid (i = lba + k) ∧ lv = .slice a' (refP t lba k).length c' ∧ v = .int .i64 (i : Int) ∧ Rq w wx a' c' (refP t lba k)) (fun _ v _ => lba + n - (intOf v).toNat)
  case atStart => exact ⟨0, lba, _, _, by omega, rfl, rfl, rfl, R0⟩
  case round =>
    clear R0
    obtain ⟨k, i, a', c', hk, hik, rfl, rfl, R1⟩ := hrel
    have hik2 := (show i = lba + k from hik)
    by_cases hlt : k < n
    · obtain ⟨g, rfl, ci⟩ := (h.more R1.keep).at (i := i) (by omega)
      have hbi := hb i
      have hstep : refP t lba (k + 1) = if 0 < k ∧ (t.getD i (-1) < 0 ∧ t.getD (i - 1) (-1) < 0 ∨ 0 ≤ t.getD i (-1) ∧ 0 ≤ t.getD (i - 1) (-1) ∧ t.getD (i - 1) (-1) + 1 = t.getD i (-1)) then grow (refP t lba k) else refP t lba k ++ [⟨(i : Int), 1, if t.getD i (-1) < 0 then -1 else t.getD i (-1)⟩] := by rw [refP, ← hik2]
      have hln := refP_len t lba k
      have di : (i : Int) < (lba : Int) + n := by omega
      have dit : (i : Int) < (t.length : Int) := by omega
      have dw := wrapI (x := (i : Int) + 1) (by omega) (by omega)
      have hlt' : Hid (k < n) := hlt
      have hcj : ∀ j, j + 1 = i → wr.cell? ⟨g, j, none⟩ = some (.int .i64 (t.getD j (-1))) := fun j hj => by
        obtain ⟨g', eg, cj⟩ := (h.more R1.keep).at (i := j) (by omega)
        injection eg with eg; injection eg with eg; subst eg; exact cj
      have hbj := fun j => hb j
      clear hik2
      generalize hX : t.getD i (-1) = X at ci hbi hstep
      clear h hb
      have hnew : ∀ v : Int, refP t lba (k + 1) = refP t lba k ++ [⟨(i : Int), 1, v⟩] → ∀ w2, Keep (fun _ => False) wr w2 → ∃ a2 c2 w3, (Builtin.append_ #[41, 41] 41 #[.slice a' (refP t lba k).length c', .slice (some ⟨w2.heap.size, 0, none⟩) 1 1]).run Try.prog (w2.alloc (.cells #[.int .i64 (i : Int), .int .i64 1, .int .i64 v] 45)) = .ok (.slice a2 ((refP t lba k).length + 1) c2) w3 ∧ Rq w w3 a2 c2 (refP t lba (k + 1)) ∧ (refP t lba (k + 1)).length = (refP t lba k).length + 1 := fun v e w2 k2 => by
        obtain ⟨a2, c2, w3, h1, h2⟩ := (R1.more k2).app1 (by omega) ⟨(i : Int), 1, v⟩
        exact ⟨a2, c2, w3, h1, by rw [e]; exact h2, by rw [e]; simp⟩
      have hnew := fun {v : Int} => hnew v
      by_cases hz : k = 0
      · have dz : ¬ (lba : Int) < (i : Int) := by have := (show i = lba + k from hik); omega
        have dzb : decide ((lba : Int) < (i : Int)) = false := decide_eq_false dz
        have dzc : decide (lba < i) = false := decide_eq_false (by omega)
        rw [if_neg (fun h => by omega)] at hstep
        by_cases cx : X < 0
        · have cxd : decide (0 ≤ X) = false := decide_eq_false (by omega)
          have cxe : decide (X < 0) = true := decide_eq_true cx
          rw [if_pos cx] at hstep
          have hn := hnew hstep
          clear hcj hbj hstep hnew hX hz
          go_upto_region 5 with fail
          go_quiet (fail)
          have k2 := (Keep.refl (fun _ => False) wr).drewN nq
          have ci2 := k2.cell ci
          have K3 : Keep (fun _ => False) wr ((wr.drewN nq).alloc (.cells #[.int .i64 (i : Int), .int .i64 1, .int .i64 (-1)] 45)) := k2.alloc _
          have L3 := Lrn.new45 (wr.drewN nq) ⟨(i : Int), 1, (-1)⟩
          rw [rnA_lit] at L3
          have L3 : Lrn ((wr.drewN nq).alloc (.cells #[.int .i64 (i : Int), .int .i64 1, .int .i64 (-1)] 45)) (wr.drewN nq).heap.size ⟨(i : Int), 1, (-1)⟩ := L3
          generalize wr.drewN nq = w2 at k2 ci2 K3 L3 ⊢
          have ci3 := ((Keep.refl (fun _ => False) w2).alloc (.cells #[.int .i64 (i : Int), .int .i64 1, .int .i64 (-1)] 45)).cell ci2
          go_upto_region 10 with fail
          clear ci2 ci3 ci
          generalize w2.alloc (.cells #[.int .i64 (i : Int), .int .i64 1, .int .i64 (-1)] 45) = w3 at K3 L3 ⊢
          generalize w2.heap.size = g3 at L3 ⊢
          obtain ⟨a2, c2, w4, happ, R3, hE⟩ := hn w3 K3
          have hE' : Hid ((refP t lba (k + 1)).length = (refP t lba k).length + 1) := hE
          obtain ⟨p0, p1, p2⟩ := L3.c
          clear hn hE R1 k2 K3 L3
          go_wp2_with (at_builtin; refine wpList_append_run rfl (.tmp 87) (.tmp 89) 41 rfl (by rfl) (by rfl) happ ?_)
          go_roundw
          case rel => exact ⟨k + 1, i + 1, a2, c2, hlt', by have := (show i = lba + k from hik); show i + 1 = lba + (k + 1); omega, by rw [show (refP t lba (k + 1)).length = _ from hE'], by go_num, R3⟩
          case measure => have : k < n := hlt'; have := (show i = lba + k from hik); simp [intOf]; omega
        · have cx0 : 0 ≤ X := by omega
          have cxd : decide (0 ≤ X) = true := decide_eq_true cx0
          have cxe : decide (X < 0) = false := decide_eq_false cx
          rw [if_neg cx] at hstep
          have hn := hnew hstep
          clear hcj hbj hstep hnew hX hz
          go_upto_region 5 with fail
          go_quiet (fail)
          have k2 := (Keep.refl (fun _ => False) wr).drewN nq
          have ci2 := k2.cell ci
          have K3 : Keep (fun _ => False) wr ((wr.drewN nq).alloc (.cells #[.int .i64 (i : Int), .int .i64 1, .int .i64 X] 45)) := k2.alloc _
          have L3 := Lrn.new45 (wr.drewN nq) ⟨(i : Int), 1, X⟩
          rw [rnA_lit] at L3
          have L3 : Lrn ((wr.drewN nq).alloc (.cells #[.int .i64 (i : Int), .int .i64 1, .int .i64 X] 45)) (wr.drewN nq).heap.size ⟨(i : Int), 1, X⟩ := L3
          generalize wr.drewN nq = w2 at k2 ci2 K3 L3 ⊢
          have ci3 := ((Keep.refl (fun _ => False) w2).alloc (.cells #[.int .i64 (i : Int), .int .i64 1, .int .i64 (-1)] 45)).cell ci2
          go_upto_region 10 with fail
          clear ci2 ci3 ci
          generalize w2.alloc (.cells #[.int .i64 (i : Int), .int .i64 1, .int .i64 X] 45) = w3 at K3 L3 ⊢
          generalize w2.heap.size = g3 at L3 ⊢
          obtain ⟨a2, c2, w4, happ, R3, hE⟩ := hn w3 K3
          have hE' : Hid ((refP t lba (k + 1)).length = (refP t lba k).length + 1) := hE
          obtain ⟨p0, p1, p2⟩ := L3.c
          clear hn hE R1 k2 K3 L3
          go_wp2_with (at_builtin; refine wpList_append_run rfl (.tmp 87) (.tmp 89) 41 rfl (by rfl) (by rfl) happ ?_)
          go_roundw
          case rel => exact ⟨k + 1, i + 1, a2, c2, hlt', by have := (show i = lba + k from hik); show i + 1 = lba + (k + 1); omega, by rw [show (refP t lba (k + 1)).length = _ from hE'], by go_num, R3⟩
          case measure => have : k < n := hlt'; have := (show i = lba + k from hik); simp [intOf]; omega
      · obtain ⟨j, hij⟩ : ∃ j, j + 1 = i := ⟨i - 1, by have := (show i = lba + k from hik); omega⟩
        have hik2 := (show i = lba + k from hik)
        have cj := hcj j hij
        have bj := hbj j
        have ej : i - 1 = j := by omega
        rw [ej] at hstep
        have dz : (lba : Int) < (i : Int) := by omega
        have dzb : decide ((lba : Int) < (i : Int)) = true := decide_eq_true dz
        have dzc : decide (lba < i) = true := decide_eq_true (by omega)
        have djw : IntKind.i64.wrap ((i : Int) - 1) = (j : Int) := (wrapI (x := (i : Int) - 1) (by omega) (by omega)).trans (by omega)
        have djl : (j : Int) < (t.length : Int) := by omega
        clear hik2
        generalize t.getD j (-1) = Y at cj bj hstep
        by_cases cx : X < 0
        · have cxd : decide (0 ≤ X) = false := decide_eq_false (by omega)
          have cxe : decide (X < 0) = true := decide_eq_true cx
          by_cases cy : Y < 0
          · have cyd : decide (0 ≤ Y) = false := decide_eq_false (by omega)
            have cye : decide (Y < 0) = true := decide_eq_true cy
            rw [if_pos ⟨by omega, Or.inl ⟨cx, cy⟩⟩] at hstep
            obtain ⟨A, x, eA, hpre, xf, x1, x2, -⟩ := refP_ok t lba (k - 1) (by omega)
            rw [show k - 1 + 1 = k by omega] at eA xf
            have hxl := hpre.le
            rw [eA, grow_snoc] at hstep
            unfold Rn.fin at xf
            rw [eA] at R1 hln ⊢
            have hAl : (A ++ [x]).length = A.length + 1 := by simp
            rw [hAl] at hln ⊢
            have hEl : Hid ((refP t lba (k + 1)).length = A.length + 1) := by show (refP t lba (k + 1)).length = _; rw [hstep]; simp
            have hst' : Hid (refP t lba (k + 1) = A ++ [⟨x.lba, x.len + 1, x.phys⟩]) := hstep
            have dxl := wrapI (x := x.len + 1) (by omega) (by omega)
            have dA := wrapI (x := ((A.length + 1 : Nat) : Int) - 1) (by omega) (by omega)
            have dA2 : ((A.length + 1 : Nat) : Int) - 1 = (A.length : Int) := by omega
            rw [dA2] at dA
            have hrc := R1.rs.1
            rw [hAl] at hrc
            clear hcj hbj hstep hnew hX hz ej hij
            clear eA hpre x1 x2 hxl xf dA2 hAl
            go_upto_region 5 with fail
            go_quiet (fail)
            have k2 := (Keep.refl (fun _ => False) wr).drewN nq
            have R2 := R1.more k2
            generalize wr.drewN nq = w2 at k2 R2 ⊢
            obtain ⟨g2, rfl, f0, f1, f2⟩ := R2.rs.at (i := A.length) (x := x) (by simp)
            have hfz := R2.own.frozenAt (A.length * 3 + 1)
            have R3 := R2.setLen (x.len + 1)
            rw [← (show refP t lba (k + 1) = _ from hst')] at R3
            clear R1 R2 ci k2
            go_wp2_with fail
            go_roundw
            case rel => exact ⟨k + 1, i + 1, _, c', hlt', by have := (show i = lba + k from hik); show i + 1 = lba + (k + 1); omega, by rw [show (refP t lba (k + 1)).length = _ from hEl], by go_num, R3⟩
            case measure => have : k < n := hlt'; have := (show i = lba + k from hik); simp [intOf]; omega
          · have cyd : decide (0 ≤ Y) = true := decide_eq_true (by omega)
            have cye : decide (Y < 0) = false := decide_eq_false cy
            rw [if_neg (fun h => by omega), if_pos cx] at hstep
            have hn := hnew hstep
            clear hcj hbj hstep hnew hX hz ej hij
            go_upto_region 5 with fail
            go_quiet (fail)
            have k2 := (Keep.refl (fun _ => False) wr).drewN nq
            have ci2 := k2.cell ci
            have K3 : Keep (fun _ => False) wr ((wr.drewN nq).alloc (.cells #[.int .i64 (i : Int), .int .i64 1, .int .i64 (-1)] 45)) := k2.alloc _
            have L3 := Lrn.new45 (wr.drewN nq) ⟨(i : Int), 1, (-1)⟩
            rw [rnA_lit] at L3
            have L3 : Lrn ((wr.drewN nq).alloc (.cells #[.int .i64 (i : Int), .int .i64 1, .int .i64 (-1)] 45)) (wr.drewN nq).heap.size ⟨(i : Int), 1, (-1)⟩ := L3
            generalize wr.drewN nq = w2 at k2 ci2 K3 L3 ⊢
            have ci3 := ((Keep.refl (fun _ => False) w2).alloc (.cells #[.int .i64 (i : Int), .int .i64 1, .int .i64 (-1)] 45)).cell ci2
            go_upto_region 10 with fail
            clear ci2 ci3 ci
            generalize w2.alloc (.cells #[.int .i64 (i : Int), .int .i64 1, .int .i64 (-1)] 45) = w3 at K3 L3 ⊢
            generalize w2.heap.size = g3 at L3 ⊢
            obtain ⟨a2, c2, w4, happ, R3, hE⟩ := hn w3 K3
            have hE' : Hid ((refP t lba (k + 1)).length = (refP t lba k).length + 1) := hE
            obtain ⟨p0, p1, p2⟩ := L3.c
            clear hn hE R1 k2 K3 L3
            go_wp2_with (at_builtin; refine wpList_append_run rfl (.tmp 87) (.tmp 89) 41 rfl (by rfl) (by rfl) happ ?_)
            go_roundw
            case rel => exact ⟨k + 1, i + 1, a2, c2, hlt', by have := (show i = lba + k from hik); show i + 1 = lba + (k + 1); omega, by rw [show (refP t lba (k + 1)).length = _ from hE'], by go_num, R3⟩
            case measure => have : k < n := hlt'; have := (show i = lba + k from hik); simp [intOf]; omega
        · have cx0 : 0 ≤ X := by omega
          have cxd : decide (0 ≤ X) = true := decide_eq_true cx0
          have cxe : decide (X < 0) = false := decide_eq_false cx
          by_cases cy : Y < 0
          · have cyd : decide (0 ≤ Y) = false := decide_eq_false (by omega)
            have cye : decide (Y < 0) = true := decide_eq_true cy
            rw [if_neg (fun h => by omega), if_neg cx] at hstep
            have hn := hnew hstep
            clear hcj hbj hstep hnew hX hz ej hij
            go_upto_region 5 with fail
            go_quiet (fail)
            have k2 := (Keep.refl (fun _ => False) wr).drewN nq
            have ci2 := k2.cell ci
            have K3 : Keep (fun _ => False) wr ((wr.drewN nq).alloc (.cells #[.int .i64 (i : Int), .int .i64 1, .int .i64 X] 45)) := k2.alloc _
            have L3 := Lrn.new45 (wr.drewN nq) ⟨(i : Int), 1, X⟩
            rw [rnA_lit] at L3
            have L3 : Lrn ((wr.drewN nq).alloc (.cells #[.int .i64 (i : Int), .int .i64 1, .int .i64 X] 45)) (wr.drewN nq).heap.size ⟨(i : Int), 1, X⟩ := L3
            generalize wr.drewN nq = w2 at k2 ci2 K3 L3 ⊢
            have ci3 := ((Keep.refl (fun _ => False) w2).alloc (.cells #[.int .i64 (i : Int), .int .i64 1, .int .i64 (-1)] 45)).cell ci2
            go_upto_region 10 with fail
            clear ci2 ci3 ci
            generalize w2.alloc (.cells #[.int .i64 (i : Int), .int .i64 1, .int .i64 X] 45) = w3 at K3 L3 ⊢
            generalize w2.heap.size = g3 at L3 ⊢
            obtain ⟨a2, c2, w4, happ, R3, hE⟩ := hn w3 K3
            have hE' : Hid ((refP t lba (k + 1)).length = (refP t lba k).length + 1) := hE
            obtain ⟨p0, p1, p2⟩ := L3.c
            clear hn hE R1 k2 K3 L3
            go_wp2_with (at_builtin; refine wpList_append_run rfl (.tmp 87) (.tmp 89) 41 rfl (by rfl) (by rfl) happ ?_)
            go_roundw
            case rel => exact ⟨k + 1, i + 1, a2, c2, hlt', by have := (show i = lba + k from hik); show i + 1 = lba + (k + 1); omega, by rw [show (refP t lba (k + 1)).length = _ from hE'], by go_num, R3⟩
            case measure => have : k < n := hlt'; have := (show i = lba + k from hik); simp [intOf]; omega
          · have cyd : decide (0 ≤ Y) = true := decide_eq_true (by omega)
            have cye : decide (Y < 0) = false := decide_eq_false cy
            have dy := wrapI (x := Y + 1) (by omega) (by omega)
            by_cases ce : Y + 1 = X
            · have ceb : (Y + 1 == X) = true := by simp [ce]
              rw [if_pos ⟨by omega, Or.inr ⟨cx0, by omega, ce⟩⟩] at hstep
              obtain ⟨A, x, eA, hpre, xf, x1, x2, -⟩ := refP_ok t lba (k - 1) (by omega)
              rw [show k - 1 + 1 = k by omega] at eA xf
              have hxl := hpre.le
              rw [eA, grow_snoc] at hstep
              unfold Rn.fin at xf
              rw [eA] at R1 hln ⊢
              have hAl : (A ++ [x]).length = A.length + 1 := by simp
              rw [hAl] at hln ⊢
              have hEl : Hid ((refP t lba (k + 1)).length = A.length + 1) := by show (refP t lba (k + 1)).length = _; rw [hstep]; simp
              have hst' : Hid (refP t lba (k + 1) = A ++ [⟨x.lba, x.len + 1, x.phys⟩]) := hstep
              have dxl := wrapI (x := x.len + 1) (by omega) (by omega)
              have dA := wrapI (x := ((A.length + 1 : Nat) : Int) - 1) (by omega) (by omega)
              have dA2 : ((A.length + 1 : Nat) : Int) - 1 = (A.length : Int) := by omega
              rw [dA2] at dA
              have hrc := R1.rs.1
              rw [hAl] at hrc
              clear hcj hbj hstep hnew hX hz ej hij ce
              clear eA hpre x1 x2 hxl xf dA2 hAl
              go_upto_region 5 with fail
              go_quiet (fail)
              have k2 := (Keep.refl (fun _ => False) wr).drewN nq
              have R2 := R1.more k2
              generalize wr.drewN nq = w2 at k2 R2 ⊢
              obtain ⟨g2, rfl, f0, f1, f2⟩ := R2.rs.at (i := A.length) (x := x) (by simp)
              have hfz := R2.own.frozenAt (A.length * 3 + 1)
              have R3 := R2.setLen (x.len + 1)
              rw [← (show refP t lba (k + 1) = _ from hst')] at R3
              clear R1 R2 ci k2
              go_wp2_with fail
              go_roundw
              case rel => exact ⟨k + 1, i + 1, _, c', hlt', by have := (show i = lba + k from hik); show i + 1 = lba + (k + 1); omega, by rw [show (refP t lba (k + 1)).length = _ from hEl], by go_num, R3⟩
              case measure => have : k < n := hlt'; have := (show i = lba + k from hik); simp [intOf]; omega
            · have ceb : (Y + 1 == X) = false := by simp [ce]
              rw [if_neg (fun h => by omega), if_neg cx] at hstep
              have hn := hnew hstep
              clear hcj hbj hstep hnew hX hz ej hij ce
              go_upto_region 5 with fail
              go_quiet (fail)
              have k2 := (Keep.refl (fun _ => False) wr).drewN nq
              have ci2 := k2.cell ci
              have K3 : Keep (fun _ => False) wr ((wr.drewN nq).alloc (.cells #[.int .i64 (i : Int), .int .i64 1, .int .i64 X] 45)) := k2.alloc _
              have L3 := Lrn.new45 (wr.drewN nq) ⟨(i : Int), 1, X⟩
              rw [rnA_lit] at L3
              have L3 : Lrn ((wr.drewN nq).alloc (.cells #[.int .i64 (i : Int), .int .i64 1, .int .i64 X] 45)) (wr.drewN nq).heap.size ⟨(i : Int), 1, X⟩ := L3
              generalize wr.drewN nq = w2 at k2 ci2 K3 L3 ⊢
              have ci3 := ((Keep.refl (fun _ => False) w2).alloc (.cells #[.int .i64 (i : Int), .int .i64 1, .int .i64 (-1)] 45)).cell ci2
              go_upto_region 10 with fail
              clear ci2 ci3 ci
              generalize w2.alloc (.cells #[.int .i64 (i : Int), .int .i64 1, .int .i64 X] 45) = w3 at K3 L3 ⊢
              generalize w2.heap.size = g3 at L3 ⊢
              obtain ⟨a2, c2, w4, happ, R3, hE⟩ := hn w3 K3
              have hE' : Hid ((refP t lba (k + 1)).length = (refP t lba k).length + 1) := hE
              obtain ⟨p0, p1, p2⟩ := L3.c
              clear hn hE R1 k2 K3 L3
              go_wp2_with (at_builtin; refine wpList_append_run rfl (.tmp 87) (.tmp 89) 41 rfl (by rfl) (by rfl) happ ?_)
              go_roundw
              case rel => exact ⟨k + 1, i + 1, a2, c2, hlt', by have := (show i = lba + k from hik); show i + 1 = lba + (k + 1); omega, by rw [show (refP t lba (k + 1)).length = _ from hE'], by go_num, R3⟩
              case measure => have : k < n := hlt'; have := (show i = lba + k from hik); simp [intOf]; omega
    · have di : ¬ (i : Int) < (lba : Int) + n := by omega
      have ek : k = n := by omega
      rw [ek] at R1 ⊢
      clear hlt ek h hik2
      go_wp2_with fail
      go_ret
      exact ⟨_, _, rfl, R1⟩

set_option maxRecDepth 100000 in
set_option maxHeartbeats 1000000 in
theorem pieces9 {w : World} {a1 a2 : Option Addr} {c1 c2 : Nat} {m1 m2 : List Rn} (h1 : Rs w a1 c1 m1) (h2 : Rs w a2 c2 m2) (hl1 : m1.length ≤ 100000) :
    Calls Try.prog 36 #[.slice a1 m1.length c1, .slice a2 m2.length c2] w fun e w' => e = .returned (.bool (sameL m1 m2)) ∧ Keep (fun _ => False) w w' := by
  have K0 := Keep.refl (fun _ => False) w
  have hc1 := h1.1
  have hc2 := h2.1
  by_cases hl : m1.length = m2.length
  · have hb : ((m1.length : Int) != (m2.length : Int)) = false := by simp [hl]
    have hl' : Hid (m1.length = m2.length) := hl
    have hl1' : (m1.length : Int) ≤ 100000 := by omega
    have hm2 : (m2.length : Int) = (m1.length : Int) := by omega
    have hm2' : Hid ((m2.length : Int) = (m1.length : Int)) := hm2
    clear hl hl1 hm2
    go_enter Try.func36, Try.ntmps36
    go_wp2_with fail
    go_loopw [5] (fun v wx => ∃ i : Nat, i ≤ m1.length ∧ v = .int .i64 (i : Int) ∧ Hid (m1.take i = m2.take i) ∧ Keep (fun _ => False) w wx) (fun v _ => m1.length - (intOf v).toNat)
    case atStart => exact ⟨0, by omega, rfl, by show m1.take 0 = m2.take 0; simp, K0⟩
    case round =>
      obtain ⟨i, hi, rfl, hI, k1⟩ := hrel
      by_cases hlt : i < m1.length
      · have hlt2 : i < m2.length := by have := show m1.length = m2.length from hl'; omega
        obtain ⟨x, hx⟩ := get_rn hlt
        obtain ⟨y, hy⟩ := get_rn hlt2
        obtain ⟨g1, rfl, e0, e1, e2⟩ := (h1.more k1).at hx
        obtain ⟨g2, rfl, f0, f1, f2⟩ := (h2.more k1).at hy
        have di : (i : Int) < (m1.length : Int) := by omega
        have di2 : (i : Int) < (m2.length : Int) := by omega
        have dw := wrapI (x := (i : Int) + 1) (by omega) (by omega)
        have hlt' : Hid (i < m1.length) := hlt
        have t1 : Hid (m1.take (i + 1) = m1.take i ++ [x]) := take_next hx
        have t2 : Hid (m2.take (i + 1) = m2.take i ++ [y]) := take_next hy
        by_cases e : x = y
        · subst e
          have hI2 : Hid (m1.take (i + 1) = m2.take (i + 1)) := by
            show m1.take (i + 1) = m2.take (i + 1)
            rw [show m1.take (i + 1) = _ from t1, show m2.take (i + 1) = _ from t2, show m1.take i = m2.take i from hI]
          clear hx hy hlt hlt2 hI t1 t2
          go_wp2_with fail
          go_quiet (fail)
          go_wp2_with fail
          go_roundw
          case rel => exact ⟨i + 1, hlt', by go_num, hI2, k1.drewN _⟩
          case measure => have : i < m1.length := hlt'; simp [intOf]; omega
        · have hne : Hid (sameL m1 m2 = false) := by
            show sameL m1 m2 = false
            rw [Bool.eq_false_iff]
            intro hs
            have := sameL_iff.1 hs
            subst this
            rw [hx] at hy
            injection hy with hy
            exact e hy
          clear hx hy hlt hlt2 hI t1 t2 h1 h2
          by_cases u1 : x.lba = y.lba
          · have v1 : (x.lba == y.lba) = true := by simp [u1]
            by_cases u2 : x.len = y.len
            · have v2 : (x.len == y.len) = true := by simp [u2]
              have v3 : (x.phys == y.phys) = false := by
                simp
                intro u3
                exact e (by cases x; cases y; simp only at u1 u2 u3; subst u1; subst u2; subst u3; rfl)
              clear e u1 u2
              go_wp2_with fail
              go_quiet (fail)
              go_wp2_with fail
              go_ret
              exact ⟨by rw [show sameL m1 m2 = false from hne]; rfl, k1.drewN _⟩
            · have v2 : (x.len == y.len) = false := by simp [u2]
              clear e u1 u2
              go_wp2_with fail
              go_quiet (fail)
              go_wp2_with fail
              go_ret
              exact ⟨by rw [show sameL m1 m2 = false from hne]; rfl, k1.drewN _⟩
          · have v1 : (x.lba == y.lba) = false := by simp [u1]
            clear e u1
            go_wp2_with fail
            go_quiet (fail)
            go_wp2_with fail
            go_ret
            exact ⟨by rw [show sameL m1 m2 = false from hne]; rfl, k1.drewN _⟩
      · have di : ¬ (i : Int) < (m1.length : Int) := by omega
        have he : Hid (sameL m1 m2 = true) := sameL_iff.2 (sameL_take hl' hI (by omega))
        clear hlt h1 h2
        go_wp2_with fail
        go_ret
        exact ⟨by rw [show sameL m1 m2 = true from he]; rfl, k1⟩
  · have hb : ((m1.length : Int) != (m2.length : Int)) = true := by simp; omega
    have hne : Hid (sameL m1 m2 = false) := by
      show sameL m1 m2 = false
      rw [Bool.eq_false_iff]
      intro hs
      exact hl (by rw [sameL_iff.1 hs])
    clear hl h1 h2
    go_enter Try.func36, Try.ntmps36
    go_wp2_with fail
    go_ret
    exact ⟨by rw [show sameL m1 m2 = false from hne]; rfl, K0⟩

theorem putN_tab {t : List Int} (h : Tab t) {lba n : Nat} (hr : lba + n ≤ t.length) (hn : n ≤ 512) {phys : Int} (hp : phys ≤ 1048576) : Tab (putN t lba phys n) := fun i => by
  have := h i
  rw [putN_get t lba phys n hr i]
  split
  · split <;> omega
  · exact this

set_option maxRecDepth 100000 in
set_option maxHeartbeats 1000000 in
/-- A range that is not right, or a page that may not be. -/
theorem set9_no {w : World} {a : Option Addr} {c : Nat} {t : List Int} (hc : t.length ≤ 512) (most lba n phys : Int) (cl : Bool) (hno : okR (t.length : Int) lba n = false ∨ (cl = false ∧ (phys < 0 ∨ 1048576 < phys))) :
    Calls Try.prog 14 #[.slice a t.length c, .int .i64 most, .int .i64 lba, .int .i64 n, .int .i64 phys, .bool cl] w fun e w' => e = .returned (.tuple #[.slice a t.length c, .int .i64 1]) ∧ w' = w := by
  have hr := right9 w (t.length : Int) lba n (by omega)
  cases o1 : okR (t.length : Int) lba n with
  | false =>
    rw [o1] at hr
    clear hno
    go_enter Try.func14, Try.ntmps14
    go_wp2_with (go_at_call 22; refine hr.mono ?_; rintro e w1 ⟨rfl, e1⟩; have e1 := e1.symm; subst e1)
    go_ret2
    exact ⟨rfl, rfl⟩
  | true =>
    rw [o1] at hr
    obtain ⟨rfl, hp⟩ := hno.resolve_left (by rw [o1]; simp)
    by_cases cp : phys < 0
    · clear hno hp
      go_enter Try.func14, Try.ntmps14
      go_wp2_with (go_at_call 22; refine hr.mono ?_; rintro e w1 ⟨rfl, e1⟩; have e1 := e1.symm; subst e1)
      go_ret2
      exact ⟨rfl, rfl⟩
    · have cp2 : 1048576 < phys := by omega
      clear hno hp
      go_enter Try.func14, Try.ntmps14
      go_wp2_with (go_at_call 22; refine hr.mono ?_; rintro e w1 ⟨rfl, e1⟩; have e1 := e1.symm; subst e1)
      go_ret2
      exact ⟨rfl, rfl⟩

/-- What Set leaves: the entries put, or as they were. -/
def Sat (w : World) (a : Option Addr) (c : Nat) (t u : List Int) (most : Int) (e : Ending) (w' : World) : Prop :=
  (((refR u u.length).length : Int) ≤ most ∧ ∃ a' c', e = .returned (.tuple #[.slice a' t.length c', .int .i64 0]) ∧ Ri w w' a' c' u) ∨ (most < ((refR u u.length).length : Int) ∧ e = .returned (.tuple #[.slice a t.length c, .int .i64 5]) ∧ Keep (fun _ => False) w w')

set_option maxRecDepth 100000 in
set_option maxHeartbeats 1000000 in
theorem set9_yes {w : World} {a : Option Addr} {c : Nat} {t : List Int} (h : Is w a c t) (h1 : 1 ≤ t.length) (h2 : t.length ≤ 512) (hb : Tab t) {lba n : Nat} (hn : 1 ≤ n) (hr : lba + n ≤ t.length) (most : Int) {phys : Int} (hp : 0 ≤ phys ∧ phys ≤ 1048576) :
    Calls Try.prog 14 #[.slice a t.length c, .int .i64 most, .int .i64 (lba : Int), .int .i64 (n : Int), .int .i64 phys, .bool false] w (Sat w a c t (putN t lba phys n) most) := by
  have hrt := right9 w (t.length : Int) (lba : Int) (n : Int) (by omega)
  rw [okR_iff.2 ⟨by omega, by omega, by omega⟩] at hrt
  have hput := put9 h h1 h2 hr (phys := phys) (by omega)
  have htab := putN_tab hb hr (by omega) hp.2
  have hul := putN_len t lba phys n
  have p1 : ¬ phys < 0 := by omega
  have p2 : ¬ 1048576 < phys := by omega
  generalize putN t lba phys n = u at hput htab hul ⊢
  have hul' : Hid (u.length = t.length) := hul
  clear h
  go_enter Try.func14, Try.ntmps14
  go_upto_region 6 with (first | (go_at_call 22; refine hrt.mono ?_; rintro e w1 ⟨rfl, e1⟩; have e1 := e1.symm; subst e1) | (go_at_call 34; refine hput.mono ?_; rintro e w2 ⟨a', c', rfl, R2⟩))
  have hru := runs9 R2.is (by omega) htab
  rw [hul] at hru
  have hE : Hid (refR u u.length = refR u t.length) := by show refR u u.length = _; rw [hul]
  have hln := refR_len u t.length
  generalize refR u t.length = m at hru hE hln
  have KK := R2.keep
  clear hput hrt hul
  by_cases hf : most < (m.length : Int)
  · have hf' : Hid (most < ((refR u u.length).length : Int)) := by show most < ((refR u u.length).length : Int); rw [show refR u u.length = m from hE]; exact hf
    go_wp2_with (go_at_call 35; refine hru.mono ?_; rintro e w3 ⟨a3, c3, rfl, R3⟩)
    go_ret2
    exact Or.inr ⟨hf', rfl, KK.trans R3.keep⟩
  · have hf' : Hid (((refR u u.length).length : Int) ≤ most) := by show ((refR u u.length).length : Int) ≤ most; rw [show refR u u.length = m from hE]; omega
    go_wp2_with (go_at_call 35; refine hru.mono ?_; rintro e w3 ⟨a3, c3, rfl, R3⟩)
    go_ret2
    exact Or.inl ⟨hf', a', c', rfl, R2.more R3.keep⟩
set_option maxRecDepth 100000 in
set_option maxHeartbeats 1000000 in
theorem clear9_yes {w : World} {a : Option Addr} {c : Nat} {t : List Int} (h : Is w a c t) (h1 : 1 ≤ t.length) (h2 : t.length ≤ 512) (hb : Tab t) {lba n : Nat} (hn : 1 ≤ n) (hr : lba + n ≤ t.length) (most : Int) :
    Calls Try.prog 14 #[.slice a t.length c, .int .i64 most, .int .i64 (lba : Int), .int .i64 (n : Int), .int .i64 0, .bool true] w (Sat w a c t (putN t lba (-1) n) most) := by
  have hrt := right9 w (t.length : Int) (lba : Int) (n : Int) (by omega)
  rw [okR_iff.2 ⟨by omega, by omega, by omega⟩] at hrt
  have hput := put9 h h1 h2 hr (phys := -1) (by omega)
  have htab := putN_tab hb hr (by omega) (phys := -1) (by omega)
  have hul := putN_len t lba (-1) n
  generalize putN t lba (-1) n = u at hput htab hul ⊢
  have hul' : Hid (u.length = t.length) := hul
  clear h
  go_enter Try.func14, Try.ntmps14
  go_upto_region 6 with (first | (go_at_call 22; refine hrt.mono ?_; rintro e w1 ⟨rfl, e1⟩; have e1 := e1.symm; subst e1) | (go_at_call 34; refine hput.mono ?_; rintro e w2 ⟨a', c', rfl, R2⟩))
  have hru := runs9 R2.is (by omega) htab
  rw [hul] at hru
  have hE : Hid (refR u u.length = refR u t.length) := by show refR u u.length = _; rw [hul]
  have hln := refR_len u t.length
  generalize refR u t.length = m at hru hE hln
  have KK := R2.keep
  clear hput hrt hul
  by_cases hf : most < (m.length : Int)
  · have hf' : Hid (most < ((refR u u.length).length : Int)) := by show most < ((refR u u.length).length : Int); rw [show refR u u.length = m from hE]; exact hf
    go_wp2_with (go_at_call 35; refine hru.mono ?_; rintro e w3 ⟨a3, c3, rfl, R3⟩)
    go_ret2
    exact Or.inr ⟨hf', rfl, KK.trans R3.keep⟩
  · have hf' : Hid (((refR u u.length).length : Int) ≤ most) := by show ((refR u u.length).length : Int) ≤ most; rw [show refR u u.length = m from hE]; omega
    go_wp2_with (go_at_call 35; refine hru.mono ?_; rintro e w3 ⟨a3, c3, rfl, R3⟩)
    go_ret2
    exact Or.inl ⟨hf', a', c', rfl, R2.more R3.keep⟩

theorem Rw.poke {w : World} {G N : Nat} (h : Rw w G N []) (j : Nat) (v : Value) : Rw (w.setCell ⟨G, j, none⟩ v) G N [] := by
  refine ⟨fun j u hu => by simp at hu, fun i hi => ?_⟩
  obtain ⟨h1, h2⟩ := h.free i hi
  refine ⟨?_, by rw [World.frozen?_setCell]; exact h2⟩
  obtain ⟨x, hx⟩ := Option.isSome_iff_exists.1 h1
  by_cases e : i = j
  · subst e; rw [World.cell?_setCell_same w _ _ hx]; rfl
  · rw [World.cell?_setCell_other (h := fun x => e (congrArg Addr.off x).symm)]; exact h1

set_option maxRecDepth 100000 in
set_option maxHeartbeats 4000000 in
theorem is_any {w wa : World} {q b p k N cap : Nat} {m : List Rn} (h : Mp w wa q b p k N cap m) {ta : Option Addr} {tc : Nat} {t : List Int} (ht : Is wa ta tc t) (hb : Tab t) (ho : Of t m) (htl : t.length = cap) {lba n : Int} (hat : -9223372036854775808 ≤ lba ∧ lba ≤ 9223372036854775807) :
    Calls Try.prog 15 #[.pointer (some ⟨q, 0, none⟩), .slice ta cap tc, .int .i64 (N : Int), .int .i64 lba, .int .i64 n] wa fun e w' => e = .returned (.bool true) ∧ Keep (fun _ => False) wa w' := by
  have hml := h.len
  have hN2 := h.N2
  have hcap2 := h.cap2
  have hruns := runs_any h
  have hrr : refR t cap = m := by rw [← htl]; exact ho.runs.symm
  have hR9 : 1 ≤ n → 0 ≤ lba → n ≤ (cap : Int) - lba → ∀ ps, Cut (page m) (lba + n) lba ps → ∀ wx, Is wx ta tc t → ps = refP t lba.toNat n.toNat ∧ Calls Try.prog 37 #[.slice ta cap tc, .int .i64 lba, .int .i64 n] wx fun e w' => ∃ a' c', e = .returned (.slice a' (refP t lba.toNat n.toNat).length c') ∧ Rq wx w' a' c' (refP t lba.toNat n.toNat) := by
    intro h1 h2 h3 ps hc wx hx
    obtain ⟨L, rfl⟩ : ∃ L : Nat, lba = (L : Int) := ⟨lba.toNat, by omega⟩
    obtain ⟨M, rfl⟩ : ∃ M : Nat, n = (M : Int) := ⟨n.toNat, by omega⟩
    simp only [Int.toNat_natCast]
    refine ⟨ho.cut (by omega) hc, ?_⟩
    have := range9 hx (by omega) hb (lba := L) (n := M) (by omega)
    rw [htl] at this
    exact this
  have hpg : page m lba = entry t lba := ho.2 lba
  have hent : entry t lba = if 0 ≤ lba ∧ lba < (cap : Int) ∧ 0 ≤ t.getD lba.toNat (-1) then some (t.getD lba.toNat (-1)) else none := by unfold entry; rw [htl]
  have htc : cap ≤ tc := by have := ht.1; omega
  have hcell : 0 ≤ lba → lba < (cap : Int) → ∀ wx, Is wx ta tc t → ∃ g, ta = some ⟨g, 0, none⟩ ∧ wx.cell? ⟨g, lba.toNat, none⟩ = some (.int .i64 (t.getD lba.toNat (-1))) := fun h1 h2 wx hx => hx.at (by omega)
  have hG := h.out (Nat.le_refl wa.heap.size)
  have hlt := h.lt
  have hGw : w.heap.size ≤ wa.heap.size := h.keep.size
  have hgt : ∀ g, ta = some ⟨g, 0, none⟩ → ¬ (g = wa.heap.size ∧ 0 < m.length) := fun g e => by
    obtain ⟨g', e', hx⟩ := ht.at (i := 0) (by have := h.cap1; omega)
    rw [e] at e'
    injection e' with e'; injection e' with e'; subst e'
    have := World.block_lt_of_cell? wa _ hx
    rintro ⟨e1, -⟩
    have e2 : g < wa.heap.size := this
    omega
  generalize hGe : wa.heap.size = G at hruns hG hlt hGw hgt
  go_enter Try.func15, Try.ntmps15
  go_upto_region 2 with (go_at_call 16; refine hruns.mono ?_; rintro e w1 ⟨rfl, r1, k1⟩)
  have M1 := h.more k1
  have t1 := ht.more k1
  have hG1 : 0 < m.length → G < w1.heap.size := fun h0 => by
    obtain ⟨x, hx⟩ := Option.isSome_iff_exists.1 (r1.free 0 (by omega)).1
    exact World.block_lt_of_cell? w1 _ hx
  have hr9 := runs9 t1 (by omega) hb
  rw [htl, hrr] at hr9
  clear hruns h ht
  go_upto_region 3 with (go_at_call 35; refine hr9.mono ?_; rintro e w2 ⟨a2, c2, rfl, R2⟩)
  have M2 := M1.more R2.keep
  have t2 := t1.more R2.keep
  have r2 := r1.more R2.keep
  have s2 := R2.rs
  have K2 := k1.trans R2.keep
  have ob2 : ∀ g, a2 = some ⟨g, 0, none⟩ → ¬ (g = G ∧ 0 < m.length) := fun g e => by have := (R2.block e).1; rintro ⟨e1, e2⟩; have := hG1 e2; omega
  have sm := same9 (r2.rs (by omega)) s2 (by omega)
  rw [sameL_iff.2 rfl] at sm
  clear hr9 M1 t1 r1 k1 R2
  go_wp2_with fail
  refine sm.mono ?_
  rintro e w3 ⟨rfl, k3⟩
  have M3 := M2.more k3
  have t3 := t2.more k3
  have r3 : Rw w3 G (m.length * 3) [] := ⟨fun j u hu => by simp at hu, (r2.more k3).free⟩
  have s3 := s2.more k3
  have K3 := K2.trans k3
  have hct := count_any M3
  have hcp := capacity_any M3
  have hmo := most_any M3
  clear sm M2 t2 r2 s2 K2 k3
  go_wp2_with (first | (go_at_call 12; refine hct.mono ?_; rintro e wz ⟨rfl, ez⟩; have ez := ez.symm; subst ez) | (go_at_call 27; refine hcp.mono ?_; rintro e wz ⟨rfl, ez⟩; have ez := ez.symm; subst ez) | (go_at_call 28; refine hmo.mono ?_; rintro e wz ⟨rfl, ez⟩; have ez := ez.symm; subst ez))
  clear hct hcp hmo
  go_loopw [13] (fun v wx => ∃ i : Nat, i ≤ m.length ∧ v = .int .i64 (i : Int) ∧ Rw wx G (m.length * 3) [] ∧ Keep (fun x => x = G ∧ 0 < m.length) w3 wx) (fun v _ => m.length - (intOf v).toNat)
  case atStart => exact ⟨0, by omega, rfl, r3, Keep.refl _ _⟩
  case round =>
    clear r3
    obtain ⟨i, hi, rfl, r4, k4⟩ := hrel
    by_cases hlt4 : i < m.length
    · obtain ⟨z1, z2⟩ := r4.free (i * 3 + 1) (by omega)
      obtain ⟨v, hv⟩ := Option.isSome_iff_exists.1 z1
      have r5 := r4.poke (i * 3 + 1) (.int .i64 99)
      have k5 : Keep (fun x => x = G ∧ 0 < m.length) w3 (wr.setCell ⟨G, i * 3 + 1, none⟩ (.int .i64 99)) := k4.setCell (p := ⟨G, i * 3 + 1, none⟩) (Or.inl ⟨rfl, by omega⟩) _
      have di : (i : Int) < (m.length : Int) := by omega
      have dw := wrapI (x := (i : Int) + 1) (by omega) (by omega)
      have hlt' : Hid (i < m.length) := hlt4
      clear hlt4 z1 hR9 hcell hpg hent M3 t3 s3 r4 k4 hgt ob2
      go_wp2_with fail
      go_roundw
      case rel => exact ⟨i + 1, hlt', by go_num, r5, k5⟩
      case measure => have : i < m.length := hlt'; simp [intOf]; omega
    · have di : ¬ (i : Int) < (m.length : Int) := by omega
      have M4 := M3.other k4 (fun x e => by omega) (by omega) (by omega) (by omega) (by omega)
      have t4 := t3.keep k4 hgt
      have s4 := s3.keep k4 ob2
      have KW : Keep (fun _ => False) wa wr := K3.next k4 (fun x hx e => by omega)
      have hg := get_map M4 lba hat.2
      clear hlt4 M3 t3 s3 K3 k4 r4
      rw [hpg] at hg
      have hent' : Hid (entry t lba = if 0 ≤ lba ∧ lba < (cap : Int) ∧ 0 ≤ t.getD lba.toNat (-1) then some (t.getD lba.toNat (-1)) else none) := hent
      clear hent hpg hG1
      generalize hEX0 : (entry t lba).getD 0 = EX at hg
      generalize hEB0 : (entry t lba).isSome = EB at hg
      have hEX : Hid ((entry t lba).getD 0 = EX) := hEX0
      have hEB : Hid ((entry t lba).isSome = EB) := hEB0
      clear hEX0 hEB0 htl hrr hGe
      go_upto_region 10 with (go_at_call 24; refine hg.mono ?_; rintro e w5 ⟨rfl, k5⟩)
      have M4 := M4.more k5
      have t4 := t4.more k5
      have s4 := s4.more k5
      have KW := KW.trans k5
      clear hg k5
      go_cut [76] from 62 to 76 (fun v wx => v = .bool (entry t lba).isNone ∧ wx = w5)
      case first =>
        by_cases c1 : lba < 0
        · have hE : Hid (entry t lba = none) := by show entry t lba = none; rw [(show entry t lba = _ from hent'), if_neg (by omega)]
          clear hcell hR9 M4 t4 s4 hent'
          go_wp2_with fail
          go_meet
          exact ⟨by rw [show entry t lba = none from hE]; rfl, rfl⟩
        by_cases c2 : (cap : Int) ≤ lba
        · have hE : Hid (entry t lba = none) := by show entry t lba = none; rw [(show entry t lba = _ from hent'), if_neg (by omega)]
          clear hcell hR9 M4 t4 s4 hent'
          go_wp2_with fail
          go_meet
          exact ⟨by rw [show entry t lba = none from hE]; rfl, rfl⟩
        obtain ⟨g, rfl, hc5⟩ := hcell (by omega) (by omega) w5 t4
        generalize hX : t.getD lba.toNat (-1) = X at hc5
        obtain ⟨L, rfl⟩ : ∃ L : Nat, lba = (L : Int) := ⟨lba.toNat, by omega⟩
        rw [Int.toNat_natCast] at hc5 hX
        have dL : (L : Int) < (cap : Int) := by omega
        by_cases c3 : X < 0
        · have hE : Hid (entry t (L : Int) = none) := by show entry t (L : Int) = none; rw [(show entry t (L : Int) = _ from hent'), if_neg (by rw [Int.toNat_natCast, hX]; omega)]
          clear hcell hR9 M4 t4 s4 hent' hX
          go_wp2_with fail
          go_meet
          exact ⟨by rw [show entry t (L : Int) = none from hE]; rfl, rfl⟩
        · have hE : Hid (entry t (L : Int) = some X) := by show entry t (L : Int) = some X; rw [(show entry t (L : Int) = _ from hent'), if_pos (by rw [Int.toNat_natCast, hX]; omega), Int.toNat_natCast, hX]
          clear hcell hR9 M4 t4 s4 hent' hX
          go_wp2_with fail
          go_meet
          exact ⟨by rw [show entry t (L : Int) = some X from hE]; rfl, rfl⟩
      case rest =>
        obtain ⟨rfl, rfl⟩ := hcut
        cases hE : entry t lba with
        | none =>
          have e1 : EX = 0 := by rw [← (show (entry t lba).getD 0 = EX from hEX), hE]; rfl
          have e2 : EB = false := by rw [← (show (entry t lba).isSome = EB from hEB), hE]; rfl
          subst e1 e2
          rw [show (none : Option Int).isNone = true from rfl]
          clear hcell hE hent'
          go_upto_region 15 with fail
          cases o1 : okR (cap : Int) lba n with
          | false =>
            have hr := range_no M4 hat.2 o1
            have hrt := fun w' => right9 w' (cap : Int) lba n (by omega)
            rw [o1] at hrt
            clear M4 t4 s4 hR9
            go_upto_region 16 with (go_at_call 17; refine hr.mono ?_; rintro e w5 ⟨rfl, k5⟩)
            have hrt5 := hrt w5
            clear hr hrt
            go_wp2_with (go_at_call 22; refine hrt5.mono ?_; rintro e w6 ⟨rfl, e6⟩; have e6 := e6.symm; subst e6)
            go_ret
            exact ⟨rfl, KW.trans k5⟩
          | true =>
            obtain ⟨o2, o3, o4⟩ := okR_iff.1 o1
            have hr := range_any M4 o3 o2 (by omega)
            have hrt := fun w' => right9 w' (cap : Int) lba n (by omega)
            rw [o1] at hrt
            have hR9 := hR9 o2 o3 o4
            go_upto_region 16 with (go_at_call 17; refine hr.mono ?_; rintro e w5 ⟨pa, pc, ps, rfl, hcut, r5, hpl⟩)
            have M5 := M4.more r5.keep
            have t5 := t4.more r5.keep
            have s5 := s4.more r5.keep
            have KW5 := KW.trans r5.keep
            have p5 := r5.rs
            obtain ⟨hps, hrange⟩ := hR9 ps hcut w5 t5
            rw [← hps] at hrange
            clear hps
            have hrt5 := hrt w5
            clear hr hrt hR9 hcut r5 M4 t4 s4
            go_wp2_with (go_at_call 22; refine hrt5.mono ?_; rintro e w6 ⟨rfl, e6⟩; have e6 := e6.symm; subst e6)
            refine hrange.mono ?_
            rintro e w7 ⟨a7, c7, rfl, R7⟩
            have M7 := M5.more R7.keep
            have s7 := s5.more R7.keep
            have KW7 := KW5.trans R7.keep
            have hpc := pieces9 (p5.more R7.keep) R7.rs (by omega)
            rw [sameL_iff.2 rfl] at hpc
            clear hrange M5 t5 s5 p5 hrt5
            go_wp2_with fail
            refine hpc.mono ?_
            rintro e w8 ⟨rfl, k8⟩
            have hwh := whole_any (M7.more k8) (s7.more k8)
            clear hpc M7 s7 R7
            go_wp2_with fail
            refine hwh.mono ?_
            rintro e w9 ⟨rfl, k9⟩
            clear hwh
            go_wp2_with fail
            go_ret
            exact ⟨rfl, (KW7.trans k8).trans k9⟩
        | some X =>
          have e1 : X = EX := by rw [← (show (entry t lba).getD 0 = EX from hEX), hE]; rfl
          have e2 : EB = true := by rw [← (show (entry t lba).isSome = EB from hEB), hE]; rfl
          subst e1 e2
          rw [show (some X).isNone = false from rfl]
          have hE2 := (show entry t lba = _ from hent')
          rw [hE] at hE2
          have hin : 0 ≤ lba ∧ lba < (cap : Int) ∧ X = t.getD lba.toNat (-1) := by
            by_cases c : 0 ≤ lba ∧ lba < (cap : Int) ∧ 0 ≤ t.getD lba.toNat (-1)
            · rw [if_pos c] at hE2; injection hE2 with hE2; exact ⟨c.1, c.2.1, hE2⟩
            · rw [if_neg c] at hE2; cases hE2
          obtain ⟨g, rfl, hc5⟩ := hcell hin.1 hin.2.1 wc t4
          rw [← hin.2.2] at hc5
          have hi1 := hin.1
          have hi2 := hin.2.1
          have hi0 : ¬ lba < 0 := by omega
          clear hcell hE hent' hE2 hin
          go_upto_region 15 with fail
          clear hc5
          cases o1 : okR (cap : Int) lba n with
          | false =>
            have hr := range_no M4 hat.2 o1
            have hrt := fun w' => right9 w' (cap : Int) lba n (by omega)
            rw [o1] at hrt
            clear M4 t4 s4 hR9
            go_upto_region 16 with (go_at_call 17; refine hr.mono ?_; rintro e w5 ⟨rfl, k5⟩)
            have hrt5 := hrt w5
            clear hr hrt
            go_wp2_with (go_at_call 22; refine hrt5.mono ?_; rintro e w6 ⟨rfl, e6⟩; have e6 := e6.symm; subst e6)
            go_ret
            exact ⟨rfl, KW.trans k5⟩
          | true =>
            obtain ⟨o2, o3, o4⟩ := okR_iff.1 o1
            have hr := range_any M4 o3 o2 (by omega)
            have hrt := fun w' => right9 w' (cap : Int) lba n (by omega)
            rw [o1] at hrt
            have hR9 := hR9 o2 o3 o4
            go_upto_region 16 with (go_at_call 17; refine hr.mono ?_; rintro e w5 ⟨pa, pc, ps, rfl, hcut, r5, hpl⟩)
            have M5 := M4.more r5.keep
            have t5 := t4.more r5.keep
            have s5 := s4.more r5.keep
            have KW5 := KW.trans r5.keep
            have p5 := r5.rs
            obtain ⟨hps, hrange⟩ := hR9 ps hcut w5 t5
            rw [← hps] at hrange
            clear hps
            have hrt5 := hrt w5
            clear hr hrt hR9 hcut r5 M4 t4 s4
            go_wp2_with (go_at_call 22; refine hrt5.mono ?_; rintro e w6 ⟨rfl, e6⟩; have e6 := e6.symm; subst e6)
            refine hrange.mono ?_
            rintro e w7 ⟨a7, c7, rfl, R7⟩
            have M7 := M5.more R7.keep
            have s7 := s5.more R7.keep
            have KW7 := KW5.trans R7.keep
            have hpc := pieces9 (p5.more R7.keep) R7.rs (by omega)
            rw [sameL_iff.2 rfl] at hpc
            clear hrange M5 t5 s5 p5 hrt5
            go_wp2_with fail
            refine hpc.mono ?_
            rintro e w8 ⟨rfl, k8⟩
            have hwh := whole_any (M7.more k8) (s7.more k8)
            clear hpc M7 s7 R7
            go_wp2_with fail
            refine hwh.mono ?_
            rintro e w9 ⟨rfl, k9⟩
            clear hwh
            go_wp2_with fail
            go_ret
            exact ⟨rfl, (KW7.trans k8).trans k9⟩

/-- A map, and a list of pages whose runs it has. -/
structure Pl (W wx : World) (q b p k N C : Nat) (ta : Option Addr) (tc : Nat) : Prop where
  ex : ∃ t m, Mp W wx q b p k N C m ∧ Is wx ta tc t ∧ Tab t ∧ Of t m ∧ t.length = C
  ap : ∀ g, ta = some ⟨g, 0, none⟩ → ¬ Own3 b p k g
theorem Pl.more {W wx w' : World} {q b p k N C : Nat} {ta : Option Addr} {tc : Nat} (h : Pl W wx q b p k N C ta tc) (hk : Keep (fun _ => False) wx w') : Pl W w' q b p k N C ta tc := by
  obtain ⟨t, m, h1, h2, h3⟩ := h.ex
  exact ⟨⟨t, m, h1.more hk, h2.more hk, h3⟩, h.ap⟩
theorem Pl.keep {W wx : World} {q b p k N C : Nat} {ta : Option Addr} {tc : Nat} (h : Pl W wx q b p k N C ta tc) : Keep (fun _ => False) W wx := by
  obtain ⟨t, m, h1, -⟩ := h.ex
  exact h1.keep
theorem Pl.is {W wx : World} {q b p k N C : Nat} {ta : Option Addr} {tc : Nat} (h : Pl W wx q b p k N C ta tc) {lba : Int} (n : Int) (hat : -9223372036854775808 ≤ lba ∧ lba ≤ 9223372036854775807) :
    Calls Try.prog 15 #[.pointer (some ⟨q, 0, none⟩), .slice ta C tc, .int .i64 (N : Int), .int .i64 lba, .int .i64 n] wx fun e w' => e = .returned (.bool true) ∧ Keep (fun _ => False) wx w' := by
  obtain ⟨t, m, h1, h2, h3, h4, h5⟩ := h.ex
  exact is_any h1 h2 h3 h4 h5 hat
theorem of_nil (C : Nat) : Of (List.replicate C (-1)) [] := by
  refine ⟨Form.nil, fun s => ?_⟩
  unfold entry
  rw [if_neg]
  · rfl
  · rintro ⟨h1, h2, h3⟩
    simp at h2
    have e : (List.replicate C (-1 : Int)).getD s.toNat (-1) = -1 := by
      simp only [List.getD_eq_getElem?_getD, List.getElem?_replicate]
      split <;> rfl
    omega
theorem tab_nil (C : Nat) : Tab (List.replicate C (-1)) := fun i => by
  have e : (List.replicate C (-1 : Int)).getD i (-1) = -1 := by
    simp only [List.getD_eq_getElem?_getD, List.getElem?_replicate]
    split <;> rfl
  omega
theorem Pl.new {W w1 w' : World} {q b p k N C : Nat} {a : Option Addr} {c : Nat} (h : Mp W w1 q b p k N C []) (hr : Ri w1 w' a c (List.replicate C (-1))) : Pl W w' q b p k N C a c :=
  ⟨⟨_, [], h.more hr.keep, hr.is, tab_nil C, of_nil C, by simp⟩, fun g e => h.out (hr.block e).1⟩

/-- What both answer of a change, and that they go on alike. -/
def Both (W wx : World) (q b p k N C : Nat) (vs : Array Value) (f : FuncId) (args : Array Value) (bad : Int) : Prop :=
  Calls Try.prog 14 vs wx fun e w1 => ∃ a' c', e = .returned (.tuple #[.slice a' C c', .int .i64 bad]) ∧ Keep (fun _ => False) wx w1 ∧
    Calls Try.prog f args w1 fun e w2 => e = .returned (.int .i64 bad) ∧ Pl W w2 q b p k N C a' c' ∧ Keep (Own3 b p k) w1 w2

/-- A change that both make, or both refuse for the runs' number. -/
theorem both_of {W wx : World} {q b p k N C : Nat} {ta : Option Addr} {tc : Nat} {vs args : Array Value} {f : FuncId} {t u : List Int} {m m' : List Rn}
    (h1 : Mp W wx q b p k N C m) (h2 : Is wx ta tc t) (h3 : Tab t) (h4 : Of t m) (h5 : t.length = C) (ap : ∀ g, ta = some ⟨g, 0, none⟩ → ¬ Own3 b p k g)
    (hu : Tab u) (ho : Of u m') (hul : u.length = C) (hset : Calls Try.prog 14 vs wx (Sat wx ta tc t u (N : Int)))
    (hdo : ∀ w1, Mp W w1 q b p k N C m → Calls Try.prog f args w1 (Did W w1 q b p k N C m')) : ∃ bad, Both W wx q b p k N C vs f args bad := by
  have hE : refR u u.length = m' := ho.runs.symm
  by_cases c : m'.length ≤ N
  · refine ⟨0, hset.mono ?_⟩
    rintro e w1 (⟨-, a', c', rfl, R⟩ | ⟨hf, -⟩)
    · refine ⟨a', c', by rw [h5], R.keep, (hdo w1 (h1.more R.keep)).mono ?_⟩
      intro e w2 hD
      obtain ⟨he, M2, k2⟩ := hD.yes c
      have ap' : ∀ g, a' = some ⟨g, 0, none⟩ → ¬ Own3 b p k g := fun g e => h1.out (R.block e).1
      exact ⟨he, ⟨⟨u, m', M2, R.is.keep k2 ap', hu, ho, hul⟩, ap'⟩, k2⟩
    · rw [hE] at hf; omega
  · refine ⟨5, hset.mono ?_⟩
    rintro e w1 (⟨hf, -⟩ | ⟨-, rfl, k1⟩)
    · rw [hE] at hf; omega
    · refine ⟨ta, tc, by rw [h5], k1, (hdo w1 (h1.more k1)).mono ?_⟩
      intro e w2 hD
      obtain ⟨he, k2⟩ := hD.full (by omega)
      exact ⟨he, ⟨⟨t, m, (h1.more k1).more k2, (h2.more k1).more k2, h3, h4, h5⟩, ap⟩, k2.mono (fun _ _ e => e.elim)⟩

theorem Pl.set {W wx : World} {q b p k N C : Nat} {ta : Option Addr} {tc : Nat} (h : Pl W wx q b p k N C ta tc) (f : Nat → Int) (hf : ∀ j, -9223372036854775808 ≤ f j ∧ f j ≤ 9223372036854775807) :
    ∃ bad, Both W wx q b p k N C #[.slice ta C tc, .int .i64 (N : Int), .int .i64 (f 1), .int .i64 (f 2), .int .i64 (f 3), .bool false] 10 #[.pointer (some ⟨q, 0, none⟩), .int .i64 (f 1), .int .i64 (f 2), .int .i64 (f 3)] bad := by
  obtain ⟨t, m, h1, h2, h3, h4, h5⟩ := h.ex
  have hc1 := h1.cap1
  have hc2 := h1.cap2
  by_cases c : okR (C : Int) (f 1) (f 2) = true ∧ 0 ≤ f 3 ∧ f 3 ≤ 1048576
  · obtain ⟨c1, c2, c3⟩ := okR_iff.1 c.1
    obtain ⟨L, eL⟩ : ∃ L : Nat, f 1 = (L : Int) := ⟨(f 1).toNat, by omega⟩
    obtain ⟨M, eM⟩ : ∃ M : Nat, f 2 = (M : Int) := ⟨(f 2).toNat, by omega⟩
    have hset := set9_yes h2 (by omega) (by omega) h3 (lba := L) (n := M) (by omega) (by omega) (N : Int) c.2
    rw [h5, ← eL, ← eM] at hset
    refine both_of h1 h2 h3 h4 h5 h.ap (putN_tab h3 (by omega) (by omega) c.2.2) (h4.set (by omega) c.2.1 (by omega)) (by rw [putN_len]; exact h5) hset (fun w1 M1 => ?_)
    have := set_map M1 (r := ⟨f 1, f 2, f 3⟩) c2 c1 (by simp only; omega) c.2.1 c.2.2
    rw [← eL, ← eM]
    exact this
  · have hno : okR (C : Int) (f 1) (f 2) = false ∨ f 3 < 0 ∨ 1048576 < f 3 := by
      by_cases c1 : okR (C : Int) (f 1) (f 2) = true
      · right
        by_cases c2 : f 3 < 0
        · exact Or.inl c2
        · right
          by_cases c3 : f 3 ≤ 1048576
          · exact absurd ⟨c1, by omega, c3⟩ c
          · omega
      · left; simpa using c1
    have hset := set9_no (w := wx) (a := ta) (c := tc) (t := t) (by omega) (N : Int) (f 1) (f 2) (f 3) false (by rw [h5]; exact hno.imp id (fun e => ⟨rfl, e⟩))
    rw [h5] at hset
    refine ⟨1, hset.mono ?_⟩
    rintro e w1 ⟨rfl, rfl⟩
    refine ⟨ta, tc, rfl, Keep.refl _ _, (set_no h1 (hf 1).2 hno).mono ?_⟩
    rintro e w2 ⟨rfl, k2⟩
    exact ⟨rfl, h.more k2, k2.mono (fun _ _ e => e.elim)⟩
theorem Pl.clear {W wx : World} {q b p k N C : Nat} {ta : Option Addr} {tc : Nat} (h : Pl W wx q b p k N C ta tc) (f : Nat → Int) (hf : ∀ j, -9223372036854775808 ≤ f j ∧ f j ≤ 9223372036854775807) :
    ∃ bad, Both W wx q b p k N C #[.slice ta C tc, .int .i64 (N : Int), .int .i64 (f 1), .int .i64 (f 2), .int .i64 0, .bool true] 11 #[.pointer (some ⟨q, 0, none⟩), .int .i64 (f 1), .int .i64 (f 2)] bad := by
  obtain ⟨t, m, h1, h2, h3, h4, h5⟩ := h.ex
  have hc1 := h1.cap1
  have hc2 := h1.cap2
  by_cases c : okR (C : Int) (f 1) (f 2) = true
  · obtain ⟨c1, c2, c3⟩ := okR_iff.1 c
    obtain ⟨L, eL⟩ : ∃ L : Nat, f 1 = (L : Int) := ⟨(f 1).toNat, by omega⟩
    obtain ⟨M, eM⟩ : ∃ M : Nat, f 2 = (M : Int) := ⟨(f 2).toNat, by omega⟩
    have hset := clear9_yes h2 (by omega) (by omega) h3 (lba := L) (n := M) (by omega) (by omega) (N : Int)
    rw [h5, ← eL, ← eM] at hset
    refine both_of h1 h2 h3 h4 h5 h.ap (putN_tab h3 (by omega) (by omega) (by omega)) (h4.clear (by omega) (by omega) (by omega)) (by rw [putN_len]; exact h5) hset (fun w1 M1 => ?_)
    have := clear_map M1 c2 c1 (by omega)
    rw [← eL, ← eM]
    exact this
  · have hno : okR (C : Int) (f 1) (f 2) = false := by simpa using c
    have hset := set9_no (w := wx) (a := ta) (c := tc) (t := t) (by omega) (N : Int) (f 1) (f 2) 0 true (by rw [h5]; exact Or.inl hno)
    rw [h5] at hset
    refine ⟨1, hset.mono ?_⟩
    rintro e w1 ⟨rfl, rfl⟩
    refine ⟨ta, tc, rfl, Keep.refl _ _, (clear_no h1 (hf 1).2 hno).mono ?_⟩
    rintro e w2 ⟨rfl, k2⟩
    exact ⟨rfl, h.more k2, k2.mono (fun _ _ e => e.elim)⟩

set_option maxRecDepth 100000 in
set_option maxHeartbeats 4000000 in
theorem plays_any {W : World} {cap most : Int} {a : Option Addr} {len c : Nat} (hA : Acts W a len c) {lba : Int} (hlb : -9223372036854775808 ≤ lba ∧ lba ≤ 9223372036854775807) (n : Int) :
    Calls Try.prog 4 #[.int .i64 cap, .int .i64 most, .slice a len c, .int .i64 lba, .int .i64 n] W fun e w' => e = .returned (.bool true) ∧ Keep (fun _ => False) W w' := by
  have haw := awake_any W
  have hlc := hA.1
  have hlc2 := hA.2.1
  by_cases hcap : cap < 1 ∨ 512 < cap ∨ most < 1 ∨ 512 < most
  · have hn := fun w => newMap_no (w := w) (c := cap) (n := most) hcap
    clear hA
    by_cases c1 : cap < 1
    · clear hcap
      go_enter Try.func4, Try.ntmps4
      go_wp2_with (first | (go_at_call 8; refine haw.mono ?_; rintro e w2 ⟨rfl, k2⟩) | (go_at_call 9; refine (hn _).mono ?_; rintro e w3 ⟨rfl, k3⟩))
      go_ret
      exact ⟨rfl, k2.trans k3⟩
    by_cases c2 : 512 < cap
    · clear hcap
      go_enter Try.func4, Try.ntmps4
      go_wp2_with (first | (go_at_call 8; refine haw.mono ?_; rintro e w2 ⟨rfl, k2⟩) | (go_at_call 9; refine (hn _).mono ?_; rintro e w3 ⟨rfl, k3⟩))
      go_ret
      exact ⟨rfl, k2.trans k3⟩
    by_cases c3 : most < 1
    · clear hcap
      go_enter Try.func4, Try.ntmps4
      go_wp2_with (first | (go_at_call 8; refine haw.mono ?_; rintro e w2 ⟨rfl, k2⟩) | (go_at_call 9; refine (hn _).mono ?_; rintro e w3 ⟨rfl, k3⟩))
      go_ret
      exact ⟨rfl, k2.trans k3⟩
    have c4 : 512 < most := by omega
    clear hcap
    go_enter Try.func4, Try.ntmps4
    go_wp2_with (first | (go_at_call 8; refine haw.mono ?_; rintro e w2 ⟨rfl, k2⟩) | (go_at_call 9; refine (hn _).mono ?_; rintro e w3 ⟨rfl, k3⟩))
    go_ret
    exact ⟨rfl, k2.trans k3⟩
  obtain ⟨C, rfl⟩ : ∃ C : Nat, cap = (C : Int) := ⟨cap.toNat, by omega⟩
  obtain ⟨N, rfl⟩ : ∃ N : Nat, most = (N : Int) := ⟨most.toNat, by omega⟩
  have hC1 : 1 ≤ C := by omega
  have hC2 : C ≤ 512 := by omega
  have hN1 : 1 ≤ N := by omega
  have hN2 : N ≤ 512 := by omega
  have n1 := fun w => newMap_any (w := w) (cap := C) (N := N) hC1 hC2 hN1 hN2
  have b1 : ¬ (C : Int) < 1 := by omega
  have b2 : ¬ (512 : Int) < C := by omega
  have b3 : ¬ (N : Int) < 1 := by omega
  have b4 : ¬ (512 : Int) < N := by omega
  clear hcap
  go_enter Try.func4, Try.ntmps4
  go_upto_region 6 with (first | (go_at_call 8; refine haw.mono ?_; rintro e w2 ⟨rfl, k2⟩) | (go_at_call 9; refine (n1 _).mono ?_; rintro e w3 ⟨q, b, p, k, rfl, M3⟩))
  clear haw n1
  have M4 := M3.older k2
  clear M3
  by_cases c1 : (40 : Int) < len
  · have HK := M4.keep
    clear hA M4
    go_wp2_with fail
    go_ret
    exact ⟨rfl, HK⟩
  by_cases c2 : (64 : Int) < C
  · have HK := M4.keep
    clear hA M4
    go_wp2_with fail
    go_ret
    exact ⟨rfl, HK⟩
  have hl40 : len ≤ 40 := by omega
  have hnew := new9 (w := w3) (C := C) hC2
  go_wp2_with (go_at_call 13; refine hnew.mono ?_; rintro e w4 ⟨ta, tc, rfl, R4⟩)
  have P4 := Pl.new M4 R4
  clear hnew R4 M4 c1 c2 b1 b2 b3 b4
  go_loopw [13, 14] (fun tv v wx => ∃ (i : Nat) (ta : Option Addr) (tc : Nat), i ≤ len ∧ tv = .slice ta C tc ∧ v = .int .i64 (i : Int) ∧ Pl W wx q b p k N C ta tc) (fun _ v _ => len - (intOf v).toNat)
  case atStart => exact ⟨0, ta, tc, by omega, rfl, rfl, P4⟩
  case round =>
    clear P4
    obtain ⟨i, ta, tc, hi, rfl, rfl, P1⟩ := hrel
    by_cases hlt : i < len
    · obtain ⟨ab, ao, rfl, h, hh, y0, y1, y2, y3⟩ := hA.at hlt
      have KX := P1.keep
      have e0 := KX.cell y0
      have e1 := KX.cell y1
      have e2 := KX.cell y2
      have e3 := KX.cell y3
      have di : (i : Int) < (len : Int) := by omega
      have dw := wrapI (x := (i : Int) + 1) (by omega) (by omega)
      have hlt' : Hid (i < len) := hlt
      have K2 : Keep (fun _ => False) wr (wr.alloc (.cells (actA h) 34)) := (Keep.refl _ _).alloc _
      have L2 := Lact.new wr h
      have P2 := P1.more K2
      have oG : ¬ Own3 b p k wr.heap.size := by obtain ⟨t, m, hm, -⟩ := P1.ex; exact hm.out (Nat.le_refl _)
      unfold actA at K2 L2 P2
      clear hlt KX hA y0 y1 y2 y3 P1
      go_upto_region 13 with fail
      generalize wr.alloc (.cells #[.int .i64 (h 0), .int .i64 (h 1), .int .i64 (h 2), .int .i64 (h 3)] 34) = w2 at K2 L2 P2 ⊢
      generalize wr.heap.size = g at L2 oG ⊢
      obtain ⟨f0, f1, f2, f3⟩ := L2.c
      clear e0 e1 e2 e3
      by_cases c0 : h 0 = 0
      · have cb : (h 0 == 0) = true := by simp [c0]
        clear c0
        obtain ⟨bad, hB⟩ := P2.set h hh
        unfold Both at hB
        clear P2
        go_upto_region 16 with (go_at_call 14; refine hB.mono ?_; rintro e w5 ⟨ta', tc', rfl, k5, hC⟩)
        have L5 := L2.more k5
        obtain ⟨f0, f1, f2, f3⟩ := L5.c
        clear hB k5 L2
        go_upto_region 24 with (go_at_call 10; refine hC.mono ?_; rintro e w6 ⟨rfl, P6, k6⟩)
        have L6 : Lact w6 g h := Blk.keep L5 k6 oG
        clear hC L5 k6 f0 f1 f2 f3
        have i1 := P6.is (h 2) (hh 1)
        obtain ⟨f0, f1, f2, f3⟩ := L6.c
        go_wp2_with fail
        refine i1.mono ?_
        rintro e w7 ⟨rfl, k7⟩
        have P7 := P6.more k7
        have i2 := P7.is n hlb
        clear i1 P6 L6 f0 f1 f2 f3
        go_wp2_with fail
        refine i2.mono ?_
        rintro e w8 ⟨rfl, k8⟩
        have P8 := P7.more k8
        clear i2 P7
        go_wp2_with fail
        go_roundw
        case rel => exact ⟨i + 1, ta', tc', hlt', rfl, by go_num, P8⟩
        case measure => have : i < len := hlt'; simp [intOf]; omega
      · have cb : (h 0 == 0) = false := by simp [c0]
        by_cases c1 : h 0 = 1
        · have cb1 : (h 0 == 1) = true := by simp [c1]
          clear c0 c1
          obtain ⟨bad, hB⟩ := P2.clear h hh
          unfold Both at hB
          clear P2
          go_upto_region 21 with (go_at_call 14; refine hB.mono ?_; rintro e w5 ⟨ta', tc', rfl, k5, hC⟩)
          have L5 := L2.more k5
          obtain ⟨f0, f1, f2, f3⟩ := L5.c
          clear hB k5 L2
          go_upto_region 24 with (go_at_call 11; refine hC.mono ?_; rintro e w6 ⟨rfl, P6, k6⟩)
          have L6 : Lact w6 g h := Blk.keep L5 k6 oG
          clear hC L5 k6 f0 f1 f2 f3
          have i1 := P6.is (h 2) (hh 1)
          obtain ⟨f0, f1, f2, f3⟩ := L6.c
          go_wp2_with fail
          refine i1.mono ?_
          rintro e w7 ⟨rfl, k7⟩
          have P7 := P6.more k7
          have i2 := P7.is n hlb
          clear i1 P6 L6 f0 f1 f2 f3
          go_wp2_with fail
          refine i2.mono ?_
          rintro e w8 ⟨rfl, k8⟩
          have P8 := P7.more k8
          clear i2 P7
          go_wp2_with fail
          go_roundw
          case rel => exact ⟨i + 1, ta', tc', hlt', rfl, by go_num, P8⟩
          case measure => have : i < len := hlt'; simp [intOf]; omega
        · have cb1 : (h 0 == 1) = false := by simp [c1]
          clear c0 c1
          go_upto_region 24 with fail
          have P6 := P2
          have L6 := L2
          clear P2 L2 f0 f1 f2 f3
          have i1 := P6.is (h 2) (hh 1)
          obtain ⟨f0, f1, f2, f3⟩ := L6.c
          go_wp2_with fail
          refine i1.mono ?_
          rintro e w7 ⟨rfl, k7⟩
          have P7 := P6.more k7
          have i2 := P7.is n hlb
          clear i1 P6 L6 f0 f1 f2 f3
          go_wp2_with fail
          refine i2.mono ?_
          rintro e w8 ⟨rfl, k8⟩
          have P8 := P7.more k8
          clear i2 P7
          go_wp2_with fail
          go_roundw
          case rel => exact ⟨i + 1, ta, tc, hlt', rfl, by go_num, P8⟩
          case measure => have : i < len := hlt'; simp [intOf]; omega
    · have di : ¬ (i : Int) < (len : Int) := by omega
      have HK := P1.keep
      clear hA hlt P1
      go_wp2_with fail
      go_ret
      exact ⟨rfl, HK⟩
theorem plays_walk (W : World) (cap most : Int) {a : Option Addr} {len c : Nat} (hA : Acts W a len c) {lba : Int} (hl : (Lit.int .i64 lba).wf = true) (n : Int) :
    Calls Try.prog 4 #[.int .i64 cap, .int .i64 most, .slice a len c, .int .i64 lba, .int .i64 n] W fun e w' => e = .returned (.bool true) ∧ Below W.heap.size W w' :=
  (plays_any hA (int_fits hl) n).mono (by rintro e w' ⟨h1, h2⟩; exact ⟨h1, h2.below (Nat.le_refl _) (fun _ e => e.elim)⟩)
end Tg
end Go.Proofs.Ytobljchpphcolaa
