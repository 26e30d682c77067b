/-
  The document's own cut, pieces held against each other, the document's own Set.
-/
import Derived.Test.YtbdankhlbepjoaaRefR
import Derived.Deep.CutBlock
namespace Go.Proofs.Ytbdankhlbepjoaa
open Go.ChangeShapes Go.WideShapes Go.ChangeAt Go.RowKit
namespace Tg

/-- The last piece's length is written over. -/
theorem Rq.setLen {w0 w : World} {g cap : Nat} {a : List Rn} {x : Rn} (h : Rq w0 w (some ⟨g, 0, none⟩) cap (a ++ [x])) (v : Int) :
    Rq w0 (w.setCell ⟨g, a.length * 3 + 1, none⟩ (.int .i64 v)) (some ⟨g, 0, none⟩) cap (a ++ [⟨x.lba, v, x.phys⟩]) := by
  have hl : (a ++ [x]).length = (a ++ [(⟨x.lba, v, x.phys⟩ : Rn)]).length := by simp
  obtain ⟨h1, h2⟩ := h.own.stored (a.length * 3 + 1) (.int .i64 v)
  rw [set_cells] at h1
  refine ⟨by rw [← hl]; exact h1, h.keep.next (keep_grown h2) (fun y hy e => ?_)⟩
  injection e with e
  have := (h.block rfl).1
  omega

theorem refP_len (t : List Int) (lba : Nat) : ∀ i, (refP t lba i).length ≤ i
  | 0 => by simp [refP]
  | i + 1 => by
    have := refP_len t lba i
    rw [refP]
    split
    · rw [grow_len]; omega
    · simp; omega
set_option maxRecDepth 100000 in
/-- An empty row of pieces, made. -/
theorem rq_made (w : World) : (Instr.makeSlice 42 (.int .i64 0) (.int .i64 0)).run Try.prog w = .ok (.slice (some ⟨w.heap.size, 0, none⟩) 0 0) (w.alloc (.cells #[] 56)) ∧ Rq w (w.alloc (.cells #[] 56)) (some ⟨w.heap.size, 0, none⟩) 0 [] := by
  obtain ⟨i, hi, hz0, hz1, hz2⟩ := info_parts info45
  have := run_make (P := Try.prog) w 42 56 i _ Try.underlying42 hi hz0 .i64 .i64 0 0 (by omega) (by omega) (by rw [hz2]; omega) (by omega)
  have e : ∀ z : Array Value, madeCells z 0 = #[] := fun z => by simp [madeCells]
  rw [show Int.toNat 0 = 0 from rfl, Nat.zero_mul, e] at this
  exact ⟨this, World.ownsRow_lit (e := 56) (size := 3) (base := w.heap.size) w #[] 0 (Nat.le_refl _) (by unfold maxLen; omega) rfl, (Keep.refl _ _).alloc _⟩

set_option maxRecDepth 100000 in
set_option maxHeartbeats 4000000 in
theorem range9 {w : World} {a : Option Addr} {c : Nat} {t : List Int} (h : Is w a c t) (h2 : t.length ≤ 512) (hb : Tab t) {lba n : Nat} (hr : lba + n ≤ t.length) :
    Calls Try.prog 36 #[.slice a t.length c, .int .i64 (lba : Int), .int .i64 (n : Int)] w fun e w' => ∃ a' c', e = .returned (.slice a' (refP t lba n).length c') ∧ Rq w w' a' c' (refP t lba n) := by
  obtain ⟨hmk, R0⟩ := rq_made w
  have R0 : Rq w (w.alloc (.cells #[] 56)) (some ⟨w.heap.size, 0, none⟩) 0 (refP t lba 0) := R0
  generalize w.alloc (.cells #[] 56) = w1 at hmk R0
  generalize hG : w.heap.size = G at hmk R0
  have hc := h.1
  have hl : (t.length : Int) ≤ 512 := by omega
  have ds := wrapI (x := (lba : Int) + n) (by omega) (by omega)
  go_enter Try.func36, Try.ntmps36
  go_wp2_with fail
  clear hmk
  go_loopw [7, 8] (fun lv v wx => ∃ (k i : Nat) (a' : Option Addr) (c' : Nat), k ≤ n ∧ Hid (i = lba + k) ∧ lv = .slice a' (refP t lba k).length c' ∧ v = .int .i64 (i : Int) ∧ Rq w wx a' c' (refP t lba k)) (fun _ v _ => lba + n - (intOf v).toNat)
  case atStart => exact ⟨0, lba, _, _, by omega, rfl, rfl, rfl, R0⟩
  case round =>
    clear R0
    obtain ⟨k, i, a', c', hk, hik, rfl, rfl, R1⟩ := hrel
    have hik2 := (show i = lba + k from hik)
    by_cases hlt : k < n
    · obtain ⟨g, rfl, ci⟩ := (h.more R1.keep).at (i := i) (by omega)
      have hbi := hb i
      have hstep : refP t lba (k + 1) = if 0 < k ∧ (t.getD i (-1) < 0 ∧ t.getD (i - 1) (-1) < 0 ∨ 0 ≤ t.getD i (-1) ∧ 0 ≤ t.getD (i - 1) (-1) ∧ t.getD (i - 1) (-1) + 1 = t.getD i (-1)) then grow (refP t lba k) else refP t lba k ++ [⟨(i : Int), 1, if t.getD i (-1) < 0 then -1 else t.getD i (-1)⟩] := by rw [refP, ← hik2]
      have hln := refP_len t lba k
      have di : (i : Int) < (lba : Int) + n := by omega
      have dit : (i : Int) < (t.length : Int) := by omega
      have dw := wrapI (x := (i : Int) + 1) (by omega) (by omega)
      have hlt' : Hid (k < n) := hlt
      have hcj : ∀ j, j + 1 = i → wr.cell? ⟨g, j, none⟩ = some (.int .i64 (t.getD j (-1))) := fun j hj => by
        obtain ⟨g', eg, cj⟩ := (h.more R1.keep).at (i := j) (by omega)
        injection eg with eg; injection eg with eg; subst eg; exact cj
      have hbj := fun j => hb j
      clear hik2
      generalize hX : t.getD i (-1) = X at ci hbi hstep
      clear h hb
      have hnew : ∀ v : Int, refP t lba (k + 1) = refP t lba k ++ [⟨(i : Int), 1, v⟩] → ∀ w2, Keep (fun _ => False) wr w2 → ∃ a2 c2 w3, (Builtin.append_ #[42, 42] 42 #[.slice a' (refP t lba k).length c', .slice (some ⟨w2.heap.size, 0, none⟩) 1 1]).run Try.prog (w2.alloc (.cells #[.int .i64 (i : Int), .int .i64 1, .int .i64 v] 56)) = .ok (.slice a2 ((refP t lba k).length + 1) c2) w3 ∧ Rq w w3 a2 c2 (refP t lba (k + 1)) ∧ (refP t lba (k + 1)).length = (refP t lba k).length + 1 := fun v e w2 k2 => by
        obtain ⟨a2, c2, w3, h1, h2⟩ := (R1.more k2).app1 (by omega) ⟨(i : Int), 1, v⟩
        exact ⟨a2, c2, w3, h1, by rw [e]; exact h2, by rw [e]; simp⟩
      have hnew := fun {v : Int} => hnew v
      by_cases hz : k = 0
      · have dz : ¬ (lba : Int) < (i : Int) := by have := (show i = lba + k from hik); omega
        have dzb : decide ((lba : Int) < (i : Int)) = false := decide_eq_false dz
        have dzc : decide (lba < i) = false := decide_eq_false (by omega)
        rw [if_neg (fun h => by omega)] at hstep
        by_cases cx : X < 0
        · have cxd : decide (0 ≤ X) = false := decide_eq_false (by omega)
          have cxe : decide (X < 0) = true := decide_eq_true cx
          rw [if_pos cx] at hstep
          have hn := hnew hstep
          clear hcj hbj hstep hnew hX hz
          go_upto_region 5 with fail
          go_quiet (fail)
          have k2 := (Keep.refl (fun _ => False) wr).drewN nq
          have ci2 := k2.cell ci
          have K3 : Keep (fun _ => False) wr ((wr.drewN nq).alloc (.cells #[.int .i64 (i : Int), .int .i64 1, .int .i64 (-1)] 56)) := k2.alloc _
          have L3 := Lrn.new45 (wr.drewN nq) ⟨(i : Int), 1, (-1)⟩
          rw [rnA_lit] at L3
          have L3 : Lrn ((wr.drewN nq).alloc (.cells #[.int .i64 (i : Int), .int .i64 1, .int .i64 (-1)] 56)) (wr.drewN nq).heap.size ⟨(i : Int), 1, (-1)⟩ := L3
          generalize wr.drewN nq = w2 at k2 ci2 K3 L3 ⊢
          have ci3 := ((Keep.refl (fun _ => False) w2).alloc (.cells #[.int .i64 (i : Int), .int .i64 1, .int .i64 (-1)] 56)).cell ci2
          go_upto_region 10 with fail
          clear ci2 ci3 ci
          generalize w2.alloc (.cells #[.int .i64 (i : Int), .int .i64 1, .int .i64 (-1)] 56) = w3 at K3 L3 ⊢
          generalize w2.heap.size = g3 at L3 ⊢
          obtain ⟨a2, c2, w4, happ, R3, hE⟩ := hn w3 K3
          have hE' : Hid ((refP t lba (k + 1)).length = (refP t lba k).length + 1) := hE
          obtain ⟨p0, p1, p2⟩ := L3.c
          clear hn hE R1 k2 K3 L3
          go_wp2_with (at_builtin; refine wpList_append_run rfl (.tmp 87) (.tmp 89) 42 rfl (by rfl) (by rfl) happ ?_)
          go_roundw
          case rel => exact ⟨k + 1, i + 1, a2, c2, hlt', by have := (show i = lba + k from hik); show i + 1 = lba + (k + 1); omega, by rw [show (refP t lba (k + 1)).length = _ from hE'], by go_num, R3⟩
          case measure => have : k < n := hlt'; have := (show i = lba + k from hik); simp [intOf]; omega
        · have cx0 : 0 ≤ X := by omega
          have cxd : decide (0 ≤ X) = true := decide_eq_true cx0
          have cxe : decide (X < 0) = false := decide_eq_false cx
          rw [if_neg cx] at hstep
          have hn := hnew hstep
          clear hcj hbj hstep hnew hX hz
          go_upto_region 5 with fail
          go_quiet (fail)
          have k2 := (Keep.refl (fun _ => False) wr).drewN nq
          have ci2 := k2.cell ci
          have K3 : Keep (fun _ => False) wr ((wr.drewN nq).alloc (.cells #[.int .i64 (i : Int), .int .i64 1, .int .i64 X] 56)) := k2.alloc _
          have L3 := Lrn.new45 (wr.drewN nq) ⟨(i : Int), 1, X⟩
          rw [rnA_lit] at L3
          have L3 : Lrn ((wr.drewN nq).alloc (.cells #[.int .i64 (i : Int), .int .i64 1, .int .i64 X] 56)) (wr.drewN nq).heap.size ⟨(i : Int), 1, X⟩ := L3
          generalize wr.drewN nq = w2 at k2 ci2 K3 L3 ⊢
          have ci3 := ((Keep.refl (fun _ => False) w2).alloc (.cells #[.int .i64 (i : Int), .int .i64 1, .int .i64 (-1)] 56)).cell ci2
          go_upto_region 10 with fail
          clear ci2 ci3 ci
          generalize w2.alloc (.cells #[.int .i64 (i : Int), .int .i64 1, .int .i64 X] 56) = w3 at K3 L3 ⊢
          generalize w2.heap.size = g3 at L3 ⊢
          obtain ⟨a2, c2, w4, happ, R3, hE⟩ := hn w3 K3
          have hE' : Hid ((refP t lba (k + 1)).length = (refP t lba k).length + 1) := hE
          obtain ⟨p0, p1, p2⟩ := L3.c
          clear hn hE R1 k2 K3 L3
          go_wp2_with (at_builtin; refine wpList_append_run rfl (.tmp 87) (.tmp 89) 42 rfl (by rfl) (by rfl) happ ?_)
          go_roundw
          case rel => exact ⟨k + 1, i + 1, a2, c2, hlt', by have := (show i = lba + k from hik); show i + 1 = lba + (k + 1); omega, by rw [show (refP t lba (k + 1)).length = _ from hE'], by go_num, R3⟩
          case measure => have : k < n := hlt'; have := (show i = lba + k from hik); simp [intOf]; omega
      · obtain ⟨j, hij⟩ : ∃ j, j + 1 = i := ⟨i - 1, by have := (show i = lba + k from hik); omega⟩
        have hik2 := (show i = lba + k from hik)
        have cj := hcj j hij
        have bj := hbj j
        have ej : i - 1 = j := by omega
        rw [ej] at hstep
        have dz : (lba : Int) < (i : Int) := by omega
        have dzb : decide ((lba : Int) < (i : Int)) = true := decide_eq_true dz
        have dzc : decide (lba < i) = true := decide_eq_true (by omega)
        have djw : IntKind.i64.wrap ((i : Int) - 1) = (j : Int) := (wrapI (x := (i : Int) - 1) (by omega) (by omega)).trans (by omega)
        have djl : (j : Int) < (t.length : Int) := by omega
        clear hik2
        generalize t.getD j (-1) = Y at cj bj hstep
        by_cases cx : X < 0
        · have cxd : decide (0 ≤ X) = false := decide_eq_false (by omega)
          have cxe : decide (X < 0) = true := decide_eq_true cx
          by_cases cy : Y < 0
          · have cyd : decide (0 ≤ Y) = false := decide_eq_false (by omega)
            have cye : decide (Y < 0) = true := decide_eq_true cy
            rw [if_pos ⟨by omega, Or.inl ⟨cx, cy⟩⟩] at hstep
            obtain ⟨A, x, eA, hpre, xf, x1, x2, -⟩ := refP_ok t lba (k - 1) (by omega)
            rw [show k - 1 + 1 = k by omega] at eA xf
            have hxl := hpre.le
            rw [eA, grow_snoc] at hstep
            unfold Rn.fin at xf
            rw [eA] at R1 hln ⊢
            have hAl : (A ++ [x]).length = A.length + 1 := by simp
            rw [hAl] at hln ⊢
            have hEl : Hid ((refP t lba (k + 1)).length = A.length + 1) := by show (refP t lba (k + 1)).length = _; rw [hstep]; simp
            have hst' : Hid (refP t lba (k + 1) = A ++ [⟨x.lba, x.len + 1, x.phys⟩]) := hstep
            have dxl := wrapI (x := x.len + 1) (by omega) (by omega)
            have dA := wrapI (x := ((A.length + 1 : Nat) : Int) - 1) (by omega) (by omega)
            have dA2 : ((A.length + 1 : Nat) : Int) - 1 = (A.length : Int) := by omega
            rw [dA2] at dA
            have hrc := R1.rs.1
            rw [hAl] at hrc
            clear hcj hbj hstep hnew hX hz ej hij
            clear eA hpre x1 x2 hxl xf dA2 hAl
            go_upto_region 5 with fail
            go_quiet (fail)
            have k2 := (Keep.refl (fun _ => False) wr).drewN nq
            have R2 := R1.more k2
            generalize wr.drewN nq = w2 at k2 R2 ⊢
            obtain ⟨g2, rfl, f0, f1, f2⟩ := R2.rs.at (i := A.length) (x := x) (by simp)
            have hfz := R2.own.frozenAt (A.length * 3 + 1)
            have R3 := R2.setLen (x.len + 1)
            rw [← (show refP t lba (k + 1) = _ from hst')] at R3
            clear R1 R2 ci k2
            go_wp2_with fail
            go_roundw
            case rel => exact ⟨k + 1, i + 1, _, c', hlt', by have := (show i = lba + k from hik); show i + 1 = lba + (k + 1); omega, by rw [show (refP t lba (k + 1)).length = _ from hEl], by go_num, R3⟩
            case measure => have : k < n := hlt'; have := (show i = lba + k from hik); simp [intOf]; omega
          · have cyd : decide (0 ≤ Y) = true := decide_eq_true (by omega)
            have cye : decide (Y < 0) = false := decide_eq_false cy
            rw [if_neg (fun h => by omega), if_pos cx] at hstep
            have hn := hnew hstep
            clear hcj hbj hstep hnew hX hz ej hij
            go_upto_region 5 with fail
            go_quiet (fail)
            have k2 := (Keep.refl (fun _ => False) wr).drewN nq
            have ci2 := k2.cell ci
            have K3 : Keep (fun _ => False) wr ((wr.drewN nq).alloc (.cells #[.int .i64 (i : Int), .int .i64 1, .int .i64 (-1)] 56)) := k2.alloc _
            have L3 := Lrn.new45 (wr.drewN nq) ⟨(i : Int), 1, (-1)⟩
            rw [rnA_lit] at L3
            have L3 : Lrn ((wr.drewN nq).alloc (.cells #[.int .i64 (i : Int), .int .i64 1, .int .i64 (-1)] 56)) (wr.drewN nq).heap.size ⟨(i : Int), 1, (-1)⟩ := L3
            generalize wr.drewN nq = w2 at k2 ci2 K3 L3 ⊢
            have ci3 := ((Keep.refl (fun _ => False) w2).alloc (.cells #[.int .i64 (i : Int), .int .i64 1, .int .i64 (-1)] 56)).cell ci2
            go_upto_region 10 with fail
            clear ci2 ci3 ci
            generalize w2.alloc (.cells #[.int .i64 (i : Int), .int .i64 1, .int .i64 (-1)] 56) = w3 at K3 L3 ⊢
            generalize w2.heap.size = g3 at L3 ⊢
            obtain ⟨a2, c2, w4, happ, R3, hE⟩ := hn w3 K3
            have hE' : Hid ((refP t lba (k + 1)).length = (refP t lba k).length + 1) := hE
            obtain ⟨p0, p1, p2⟩ := L3.c
            clear hn hE R1 k2 K3 L3
            go_wp2_with (at_builtin; refine wpList_append_run rfl (.tmp 87) (.tmp 89) 42 rfl (by rfl) (by rfl) happ ?_)
            go_roundw
            case rel => exact ⟨k + 1, i + 1, a2, c2, hlt', by have := (show i = lba + k from hik); show i + 1 = lba + (k + 1); omega, by rw [show (refP t lba (k + 1)).length = _ from hE'], by go_num, R3⟩
            case measure => have : k < n := hlt'; have := (show i = lba + k from hik); simp [intOf]; omega
        · have cx0 : 0 ≤ X := by omega
          have cxd : decide (0 ≤ X) = true := decide_eq_true cx0
          have cxe : decide (X < 0) = false := decide_eq_false cx
          by_cases cy : Y < 0
          · have cyd : decide (0 ≤ Y) = false := decide_eq_false (by omega)
            have cye : decide (Y < 0) = true := decide_eq_true cy
            rw [if_neg (fun h => by omega), if_neg cx] at hstep
            have hn := hnew hstep
            clear hcj hbj hstep hnew hX hz ej hij
            go_upto_region 5 with fail
            go_quiet (fail)
            have k2 := (Keep.refl (fun _ => False) wr).drewN nq
            have ci2 := k2.cell ci
            have K3 : Keep (fun _ => False) wr ((wr.drewN nq).alloc (.cells #[.int .i64 (i : Int), .int .i64 1, .int .i64 X] 56)) := k2.alloc _
            have L3 := Lrn.new45 (wr.drewN nq) ⟨(i : Int), 1, X⟩
            rw [rnA_lit] at L3
            have L3 : Lrn ((wr.drewN nq).alloc (.cells #[.int .i64 (i : Int), .int .i64 1, .int .i64 X] 56)) (wr.drewN nq).heap.size ⟨(i : Int), 1, X⟩ := L3
            generalize wr.drewN nq = w2 at k2 ci2 K3 L3 ⊢
            have ci3 := ((Keep.refl (fun _ => False) w2).alloc (.cells #[.int .i64 (i : Int), .int .i64 1, .int .i64 (-1)] 56)).cell ci2
            go_upto_region 10 with fail
            clear ci2 ci3 ci
            generalize w2.alloc (.cells #[.int .i64 (i : Int), .int .i64 1, .int .i64 X] 56) = w3 at K3 L3 ⊢
            generalize w2.heap.size = g3 at L3 ⊢
            obtain ⟨a2, c2, w4, happ, R3, hE⟩ := hn w3 K3
            have hE' : Hid ((refP t lba (k + 1)).length = (refP t lba k).length + 1) := hE
            obtain ⟨p0, p1, p2⟩ := L3.c
            clear hn hE R1 k2 K3 L3
            go_wp2_with (at_builtin; refine wpList_append_run rfl (.tmp 87) (.tmp 89) 42 rfl (by rfl) (by rfl) happ ?_)
            go_roundw
            case rel => exact ⟨k + 1, i + 1, a2, c2, hlt', by have := (show i = lba + k from hik); show i + 1 = lba + (k + 1); omega, by rw [show (refP t lba (k + 1)).length = _ from hE'], by go_num, R3⟩
            case measure => have : k < n := hlt'; have := (show i = lba + k from hik); simp [intOf]; omega
          · have cyd : decide (0 ≤ Y) = true := decide_eq_true (by omega)
            have cye : decide (Y < 0) = false := decide_eq_false cy
            have dy := wrapI (x := Y + 1) (by omega) (by omega)
            by_cases ce : Y + 1 = X
            · have ceb : (Y + 1 == X) = true := by simp [ce]
              rw [if_pos ⟨by omega, Or.inr ⟨cx0, by omega, ce⟩⟩] at hstep
              obtain ⟨A, x, eA, hpre, xf, x1, x2, -⟩ := refP_ok t lba (k - 1) (by omega)
              rw [show k - 1 + 1 = k by omega] at eA xf
              have hxl := hpre.le
              rw [eA, grow_snoc] at hstep
              unfold Rn.fin at xf
              rw [eA] at R1 hln ⊢
              have hAl : (A ++ [x]).length = A.length + 1 := by simp
              rw [hAl] at hln ⊢
              have hEl : Hid ((refP t lba (k + 1)).length = A.length + 1) := by show (refP t lba (k + 1)).length = _; rw [hstep]; simp
              have hst' : Hid (refP t lba (k + 1) = A ++ [⟨x.lba, x.len + 1, x.phys⟩]) := hstep
              have dxl := wrapI (x := x.len + 1) (by omega) (by omega)
              have dA := wrapI (x := ((A.length + 1 : Nat) : Int) - 1) (by omega) (by omega)
              have dA2 : ((A.length + 1 : Nat) : Int) - 1 = (A.length : Int) := by omega
              rw [dA2] at dA
              have hrc := R1.rs.1
              rw [hAl] at hrc
              clear hcj hbj hstep hnew hX hz ej hij ce
              clear eA hpre x1 x2 hxl xf dA2 hAl
              go_upto_region 5 with fail
              go_quiet (fail)
              have k2 := (Keep.refl (fun _ => False) wr).drewN nq
              have R2 := R1.more k2
              generalize wr.drewN nq = w2 at k2 R2 ⊢
              obtain ⟨g2, rfl, f0, f1, f2⟩ := R2.rs.at (i := A.length) (x := x) (by simp)
              have hfz := R2.own.frozenAt (A.length * 3 + 1)
              have R3 := R2.setLen (x.len + 1)
              rw [← (show refP t lba (k + 1) = _ from hst')] at R3
              clear R1 R2 ci k2
              go_wp2_with fail
              go_roundw
              case rel => exact ⟨k + 1, i + 1, _, c', hlt', by have := (show i = lba + k from hik); show i + 1 = lba + (k + 1); omega, by rw [show (refP t lba (k + 1)).length = _ from hEl], by go_num, R3⟩
              case measure => have : k < n := hlt'; have := (show i = lba + k from hik); simp [intOf]; omega
            · have ceb : (Y + 1 == X) = false := by simp [ce]
              rw [if_neg (fun h => by omega), if_neg cx] at hstep
              have hn := hnew hstep
              clear hcj hbj hstep hnew hX hz ej hij ce
              go_upto_region 5 with fail
              go_quiet (fail)
              have k2 := (Keep.refl (fun _ => False) wr).drewN nq
              have ci2 := k2.cell ci
              have K3 : Keep (fun _ => False) wr ((wr.drewN nq).alloc (.cells #[.int .i64 (i : Int), .int .i64 1, .int .i64 X] 56)) := k2.alloc _
              have L3 := Lrn.new45 (wr.drewN nq) ⟨(i : Int), 1, X⟩
              rw [rnA_lit] at L3
              have L3 : Lrn ((wr.drewN nq).alloc (.cells #[.int .i64 (i : Int), .int .i64 1, .int .i64 X] 56)) (wr.drewN nq).heap.size ⟨(i : Int), 1, X⟩ := L3
              generalize wr.drewN nq = w2 at k2 ci2 K3 L3 ⊢
              have ci3 := ((Keep.refl (fun _ => False) w2).alloc (.cells #[.int .i64 (i : Int), .int .i64 1, .int .i64 (-1)] 56)).cell ci2
              go_upto_region 10 with fail
              clear ci2 ci3 ci
              generalize w2.alloc (.cells #[.int .i64 (i : Int), .int .i64 1, .int .i64 X] 56) = w3 at K3 L3 ⊢
              generalize w2.heap.size = g3 at L3 ⊢
              obtain ⟨a2, c2, w4, happ, R3, hE⟩ := hn w3 K3
              have hE' : Hid ((refP t lba (k + 1)).length = (refP t lba k).length + 1) := hE
              obtain ⟨p0, p1, p2⟩ := L3.c
              clear hn hE R1 k2 K3 L3
              go_wp2_with (at_builtin; refine wpList_append_run rfl (.tmp 87) (.tmp 89) 42 rfl (by rfl) (by rfl) happ ?_)
              go_roundw
              case rel => exact ⟨k + 1, i + 1, a2, c2, hlt', by have := (show i = lba + k from hik); show i + 1 = lba + (k + 1); omega, by rw [show (refP t lba (k + 1)).length = _ from hE'], by go_num, R3⟩
              case measure => have : k < n := hlt'; have := (show i = lba + k from hik); simp [intOf]; omega
    · have di : ¬ (i : Int) < (lba : Int) + n := by omega
      have ek : k = n := by omega
      rw [ek] at R1 ⊢
      clear hlt ek h hik2
      go_wp2_with fail
      go_ret
      exact ⟨_, _, rfl, R1⟩

set_option maxRecDepth 100000 in
set_option maxHeartbeats 1000000 in
theorem pieces9 {w : World} {a1 a2 : Option Addr} {c1 c2 : Nat} {m1 m2 : List Rn} (h1 : Rs w a1 c1 m1) (h2 : Rs w a2 c2 m2) (hl1 : m1.length ≤ 100000) :
    Calls Try.prog 20 #[.slice a1 m1.length c1, .slice a2 m2.length c2] w fun e w' => e = .returned (.bool (sameL m1 m2)) ∧ Keep (fun _ => False) w w' := by
  have K0 := Keep.refl (fun _ => False) w
  have hc1 := h1.1
  have hc2 := h2.1
  by_cases hl : m1.length = m2.length
  · have hb : ((m1.length : Int) != (m2.length : Int)) = false := by simp [hl]
    have hl' : Hid (m1.length = m2.length) := hl
    have hl1' : (m1.length : Int) ≤ 100000 := by omega
    have hm2 : (m2.length : Int) = (m1.length : Int) := by omega
    have hm2' : Hid ((m2.length : Int) = (m1.length : Int)) := hm2
    clear hl hl1 hm2
    go_enter Try.func20, Try.ntmps20
    go_wp2_with fail
    go_loopw [5] (fun v wx => ∃ i : Nat, i ≤ m1.length ∧ v = .int .i64 (i : Int) ∧ Hid (m1.take i = m2.take i) ∧ Keep (fun _ => False) w wx) (fun v _ => m1.length - (intOf v).toNat)
    case atStart => exact ⟨0, by omega, rfl, by show m1.take 0 = m2.take 0; simp, K0⟩
    case round =>
      obtain ⟨i, hi, rfl, hI, k1⟩ := hrel
      by_cases hlt : i < m1.length
      · have hlt2 : i < m2.length := by have := show m1.length = m2.length from hl'; omega
        obtain ⟨x, hx⟩ := get_rn hlt
        obtain ⟨y, hy⟩ := get_rn hlt2
        obtain ⟨g1, rfl, e0, e1, e2⟩ := (h1.more k1).at hx
        obtain ⟨g2, rfl, f0, f1, f2⟩ := (h2.more k1).at hy
        have di : (i : Int) < (m1.length : Int) := by omega
        have di2 : (i : Int) < (m2.length : Int) := by omega
        have dw := wrapI (x := (i : Int) + 1) (by omega) (by omega)
        have hlt' : Hid (i < m1.length) := hlt
        have t1 : Hid (m1.take (i + 1) = m1.take i ++ [x]) := take_next hx
        have t2 : Hid (m2.take (i + 1) = m2.take i ++ [y]) := take_next hy
        by_cases e : x = y
        · subst e
          have hI2 : Hid (m1.take (i + 1) = m2.take (i + 1)) := by
            show m1.take (i + 1) = m2.take (i + 1)
            rw [show m1.take (i + 1) = _ from t1, show m2.take (i + 1) = _ from t2, show m1.take i = m2.take i from hI]
          clear hx hy hlt hlt2 hI t1 t2
          go_wp2_with fail
          go_quiet (fail)
          go_wp2_with fail
          go_roundw
          case rel => exact ⟨i + 1, hlt', by go_num, hI2, k1.drewN _⟩
          case measure => have : i < m1.length := hlt'; simp [intOf]; omega
        · have hne : Hid (sameL m1 m2 = false) := by
            show sameL m1 m2 = false
            rw [Bool.eq_false_iff]
            intro hs
            have := sameL_iff.1 hs
            subst this
            rw [hx] at hy
            injection hy with hy
            exact e hy
          clear hx hy hlt hlt2 hI t1 t2 h1 h2
          by_cases u1 : x.lba = y.lba
          · have v1 : (x.lba == y.lba) = true := by simp [u1]
            by_cases u2 : x.len = y.len
            · have v2 : (x.len == y.len) = true := by simp [u2]
              have v3 : (x.phys == y.phys) = false := by
                simp
                intro u3
                exact e (by cases x; cases y; simp only at u1 u2 u3; subst u1; subst u2; subst u3; rfl)
              clear e u1 u2
              go_wp2_with fail
              go_quiet (fail)
              go_wp2_with fail
              go_ret
              exact ⟨by rw [show sameL m1 m2 = false from hne]; rfl, k1.drewN _⟩
            · have v2 : (x.len == y.len) = false := by simp [u2]
              clear e u1 u2
              go_wp2_with fail
              go_quiet (fail)
              go_wp2_with fail
              go_ret
              exact ⟨by rw [show sameL m1 m2 = false from hne]; rfl, k1.drewN _⟩
          · have v1 : (x.lba == y.lba) = false := by simp [u1]
            clear e u1
            go_wp2_with fail
            go_quiet (fail)
            go_wp2_with fail
            go_ret
            exact ⟨by rw [show sameL m1 m2 = false from hne]; rfl, k1.drewN _⟩
      · have di : ¬ (i : Int) < (m1.length : Int) := by omega
        have he : Hid (sameL m1 m2 = true) := sameL_iff.2 (sameL_take hl' hI (by omega))
        clear hlt h1 h2
        go_wp2_with fail
        go_ret
        exact ⟨by rw [show sameL m1 m2 = true from he]; rfl, k1⟩
  · have hb : ((m1.length : Int) != (m2.length : Int)) = true := by simp; omega
    have hne : Hid (sameL m1 m2 = false) := by
      show sameL m1 m2 = false
      rw [Bool.eq_false_iff]
      intro hs
      exact hl (by rw [sameL_iff.1 hs])
    clear hl h1 h2
    go_enter Try.func20, Try.ntmps20
    go_wp2_with fail
    go_ret
    exact ⟨by rw [show sameL m1 m2 = false from hne]; rfl, K0⟩

theorem putN_tab {t : List Int} (h : Tab t) {lba n : Nat} (hr : lba + n ≤ t.length) (hn : n ≤ 512) {phys : Int} (hp : phys ≤ 1048576) : Tab (putN t lba phys n) := fun i => by
  have := h i
  rw [putN_get t lba phys n hr i]
  split
  · split <;> omega
  · exact this

set_option maxRecDepth 100000 in
set_option maxHeartbeats 1000000 in
/-- A range that is not right, or a page that may not be. -/
theorem set9_no {w : World} {a : Option Addr} {c : Nat} {t : List Int} (hc : t.length ≤ 512) (most lba n phys : Int) (cl : Bool) (hno : okR (t.length : Int) lba n = false ∨ (cl = false ∧ (phys < 0 ∨ 1048576 < phys))) :
    Calls Try.prog 13 #[.slice a t.length c, .int .i64 most, .int .i64 lba, .int .i64 n, .int .i64 phys, .bool cl] w fun e w' => e = .returned (.tuple #[.slice a t.length c, .int .i64 1]) ∧ w' = w := by
  have hr := right9 w (t.length : Int) lba n (by omega)
  cases o1 : okR (t.length : Int) lba n with
  | false =>
    rw [o1] at hr
    clear hno
    go_enter Try.func13, Try.ntmps13
    go_wp2_with (go_at_call 28; refine hr.mono ?_; rintro e w1 ⟨rfl, e1⟩; have e1 := e1.symm; subst e1)
    go_ret2
    exact ⟨rfl, rfl⟩
  | true =>
    rw [o1] at hr
    obtain ⟨rfl, hp⟩ := hno.resolve_left (by rw [o1]; simp)
    by_cases cp : phys < 0
    · clear hno hp
      go_enter Try.func13, Try.ntmps13
      go_wp2_with (go_at_call 28; refine hr.mono ?_; rintro e w1 ⟨rfl, e1⟩; have e1 := e1.symm; subst e1)
      go_ret2
      exact ⟨rfl, rfl⟩
    · have cp2 : 1048576 < phys := by omega
      clear hno hp
      go_enter Try.func13, Try.ntmps13
      go_wp2_with (go_at_call 28; refine hr.mono ?_; rintro e w1 ⟨rfl, e1⟩; have e1 := e1.symm; subst e1)
      go_ret2
      exact ⟨rfl, rfl⟩

/-- What Set leaves: the entries put, or as they were. -/
def Sat (w : World) (a : Option Addr) (c : Nat) (t u : List Int) (most : Int) (e : Ending) (w' : World) : Prop :=
  (((refR u u.length).length : Int) ≤ most ∧ ∃ a' c', e = .returned (.tuple #[.slice a' t.length c', .int .i64 0]) ∧ Ri w w' a' c' u) ∨ (most < ((refR u u.length).length : Int) ∧ e = .returned (.tuple #[.slice a t.length c, .int .i64 5]) ∧ Keep (fun _ => False) w w')

set_option maxRecDepth 100000 in
set_option maxHeartbeats 1000000 in
theorem set9_yes {w : World} {a : Option Addr} {c : Nat} {t : List Int} (h : Is w a c t) (h1 : 1 ≤ t.length) (h2 : t.length ≤ 512) (hb : Tab t) {lba n : Nat} (hn : 1 ≤ n) (hr : lba + n ≤ t.length) (most : Int) {phys : Int} (hp : 0 ≤ phys ∧ phys ≤ 1048576) :
    Calls Try.prog 13 #[.slice a t.length c, .int .i64 most, .int .i64 (lba : Int), .int .i64 (n : Int), .int .i64 phys, .bool false] w (Sat w a c t (putN t lba phys n) most) := by
  have hrt := right9 w (t.length : Int) (lba : Int) (n : Int) (by omega)
  rw [okR_iff.2 ⟨by omega, by omega, by omega⟩] at hrt
  have hput := put9 h h1 h2 hr (phys := phys) (by omega)
  have htab := putN_tab hb hr (by omega) hp.2
  have hul := putN_len t lba phys n
  have p1 : ¬ phys < 0 := by omega
  have p2 : ¬ 1048576 < phys := by omega
  generalize putN t lba phys n = u at hput htab hul ⊢
  have hul' : Hid (u.length = t.length) := hul
  clear h
  go_enter Try.func13, Try.ntmps13
  go_upto_region 6 with (first | (go_at_call 28; refine hrt.mono ?_; rintro e w1 ⟨rfl, e1⟩; have e1 := e1.symm; subst e1) | (go_at_call 34; refine hput.mono ?_; rintro e w2 ⟨a', c', rfl, R2⟩))
  have hru := runs9 R2.is (by omega) htab
  rw [hul] at hru
  have hE : Hid (refR u u.length = refR u t.length) := by show refR u u.length = _; rw [hul]
  have hln := refR_len u t.length
  generalize refR u t.length = m at hru hE hln
  have KK := R2.keep
  clear hput hrt hul
  by_cases hf : most < (m.length : Int)
  · have hf' : Hid (most < ((refR u u.length).length : Int)) := by show most < ((refR u u.length).length : Int); rw [show refR u u.length = m from hE]; exact hf
    go_wp2_with (go_at_call 35; refine hru.mono ?_; rintro e w3 ⟨a3, c3, rfl, R3⟩)
    go_ret2
    exact Or.inr ⟨hf', rfl, KK.trans R3.keep⟩
  · have hf' : Hid (((refR u u.length).length : Int) ≤ most) := by show ((refR u u.length).length : Int) ≤ most; rw [show refR u u.length = m from hE]; omega
    go_wp2_with (go_at_call 35; refine hru.mono ?_; rintro e w3 ⟨a3, c3, rfl, R3⟩)
    go_ret2
    exact Or.inl ⟨hf', a', c', rfl, R2.more R3.keep⟩
set_option maxRecDepth 100000 in
set_option maxHeartbeats 1000000 in
theorem clear9_yes {w : World} {a : Option Addr} {c : Nat} {t : List Int} (h : Is w a c t) (h1 : 1 ≤ t.length) (h2 : t.length ≤ 512) (hb : Tab t) {lba n : Nat} (hn : 1 ≤ n) (hr : lba + n ≤ t.length) (most : Int) :
    Calls Try.prog 13 #[.slice a t.length c, .int .i64 most, .int .i64 (lba : Int), .int .i64 (n : Int), .int .i64 0, .bool true] w (Sat w a c t (putN t lba (-1) n) most) := by
  have hrt := right9 w (t.length : Int) (lba : Int) (n : Int) (by omega)
  rw [okR_iff.2 ⟨by omega, by omega, by omega⟩] at hrt
  have hput := put9 h h1 h2 hr (phys := -1) (by omega)
  have htab := putN_tab hb hr (by omega) (phys := -1) (by omega)
  have hul := putN_len t lba (-1) n
  generalize putN t lba (-1) n = u at hput htab hul ⊢
  have hul' : Hid (u.length = t.length) := hul
  clear h
  go_enter Try.func13, Try.ntmps13
  go_upto_region 6 with (first | (go_at_call 28; refine hrt.mono ?_; rintro e w1 ⟨rfl, e1⟩; have e1 := e1.symm; subst e1) | (go_at_call 34; refine hput.mono ?_; rintro e w2 ⟨a', c', rfl, R2⟩))
  have hru := runs9 R2.is (by omega) htab
  rw [hul] at hru
  have hE : Hid (refR u u.length = refR u t.length) := by show refR u u.length = _; rw [hul]
  have hln := refR_len u t.length
  generalize refR u t.length = m at hru hE hln
  have KK := R2.keep
  clear hput hrt hul
  by_cases hf : most < (m.length : Int)
  · have hf' : Hid (most < ((refR u u.length).length : Int)) := by show most < ((refR u u.length).length : Int); rw [show refR u u.length = m from hE]; exact hf
    go_wp2_with (go_at_call 35; refine hru.mono ?_; rintro e w3 ⟨a3, c3, rfl, R3⟩)
    go_ret2
    exact Or.inr ⟨hf', rfl, KK.trans R3.keep⟩
  · have hf' : Hid (((refR u u.length).length : Int) ≤ most) := by show ((refR u u.length).length : Int) ≤ most; rw [show refR u u.length = m from hE]; omega
    go_wp2_with (go_at_call 35; refine hru.mono ?_; rintro e w3 ⟨a3, c3, rfl, R3⟩)
    go_ret2
    exact Or.inl ⟨hf', a', c', rfl, R2.more R3.keep⟩

theorem Rw.poke {w : World} {G N : Nat} (h : Rw w G N []) (j : Nat) (v : Value) : Rw (w.setCell ⟨G, j, none⟩ v) G N [] := by
  refine ⟨fun j u hu => by simp at hu, fun i hi => ?_⟩
  obtain ⟨h1, h2⟩ := h.free i hi
  refine ⟨?_, by rw [World.frozen?_setCell]; exact h2⟩
  obtain ⟨x, hx⟩ := Option.isSome_iff_exists.1 h1
  by_cases e : i = j
  · subst e; rw [World.cell?_setCell_same w _ _ hx]; rfl
  · rw [World.cell?_setCell_other (h := fun x => e (congrArg Addr.off x).symm)]; exact h1

theorem of_nil (C : Nat) : Of (List.replicate C (-1)) [] := by
  refine ⟨Form.nil, fun s => ?_⟩
  unfold entry
  rw [if_neg]
  · rfl
  · rintro ⟨h1, h2, h3⟩
    simp at h2
    have e : (List.replicate C (-1 : Int)).getD s.toNat (-1) = -1 := by
      simp only [List.getD_eq_getElem?_getD, List.getElem?_replicate]
      split <;> rfl
    omega
theorem tab_nil (C : Nat) : Tab (List.replicate C (-1)) := fun i => by
  have e : (List.replicate C (-1 : Int)).getD i (-1) = -1 := by
    simp only [List.getD_eq_getElem?_getD, List.getElem?_replicate]
    split <;> rfl
  omega
end Tg
end Go.Proofs.Ytbdankhlbepjoaa
