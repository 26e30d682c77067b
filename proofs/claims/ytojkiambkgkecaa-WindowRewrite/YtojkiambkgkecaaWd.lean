/-
  The document's own Put, Right, Range, Pieces, and the flat map's Count.
-/
import Derived.Test.YtojkiambkgkecaaWc
namespace Go.Proofs.Ytojkiambkgkecaa
open Go.ChangeShapes Go.WideShapes Go.ChangeAt Go.RowKit
namespace Tg
set_option maxRecDepth 100000 in
set_option maxHeartbeats 1000000 in
theorem put9 {w : World} {a : Option Addr} {c : Nat} {t : List Int} (h : Is w a c t) (h1 : 1 ≤ t.length) (h2 : t.length ≤ 512) {lba n : Nat} (hr : lba + n ≤ t.length) {phys : Int} (hp : -1 ≤ phys ∧ phys ≤ 1073741824) :
    Calls Try.prog 42 #[.slice a t.length c, .int .i64 (lba : Int), .int .i64 (n : Int), .int .i64 phys] w fun e w' => ∃ a' c', e = .returned (.slice a' t.length c') ∧ Ri w w' a' c' (putN t lba phys n) := by
  obtain ⟨a', c', w', happ, R0⟩ := copy_ints h h1 h2
  have R0 : Ri w w' a' c' (putN t lba phys 0) := R0
  have hc' := R0.is.1
  rw [putN_len] at hc'
  clear h
  go_enter Try.func42, Try.ntmps42
  go_wp2_with (at_builtin; refine wpList_append_run rfl (.tmp 11) (.tmp 12) 29 rfl (by rfl) (by rfl) happ ?_)
  clear happ
  go_loopw [10] (fun v wx => ∃ i : Nat, i ≤ n ∧ v = .int .i64 (i : Int) ∧ Ri w wx a' c' (putN t lba phys i)) (fun v _ => n - (intOf v).toNat)
  case atStart => exact ⟨0, by omega, rfl, R0⟩
  case round =>
    clear R0
    obtain ⟨i, hi, rfl, R1⟩ := hrel
    by_cases hlt : i < n
    · obtain ⟨g, rfl, c0⟩ := R1.is.at (i := lba + i) (by rw [putN_len]; omega)
      have z0 := R1.fz (lba + i)
      have R2 := R1.set (lba + i) (-1)
      have di : (i : Int) < (n : Int) := by omega
      have dw := wrapI (x := (i : Int) + 1) (by omega) (by omega)
      have ds := wrapI (x := (lba : Int) + i) (by omega) (by omega)
      have dsl : (lba : Int) + i < (t.length : Int) := by omega
      have ds0 : ¬ (lba : Int) + i < 0 := by omega
      have hlt' : Hid (i < n) := hlt
      by_cases cp : phys < 0
      · have R3 : Ri w (wr.setCell ⟨g, lba + i, none⟩ (.int .i64 (-1))) (some ⟨g, 0, none⟩) c' (putN t lba phys (i + 1)) := by
          rw [putN, if_pos cp]; exact R2
        clear hlt R1 R2
        go_wp2_with fail
        go_roundw
        case rel => exact ⟨i + 1, hlt', by go_num, R3⟩
        case measure => have : i < n := hlt'; simp [intOf]; omega
      · have R3 : Ri w ((wr.setCell ⟨g, lba + i, none⟩ (.int .i64 (-1))).setCell ⟨g, lba + i, none⟩ (.int .i64 (phys + i))) (some ⟨g, 0, none⟩) c' (putN t lba phys (i + 1)) := by
          have := R2.set (lba + i) (phys + i)
          rw [List.set_set] at this
          rw [putN, if_neg cp]; exact this
        have cp' : 0 ≤ phys := by omega
        have dp := wrapI (x := phys + i) (by omega) (by omega)
        clear hlt R1 R2
        go_wp2_with fail
        go_roundw
        case rel => exact ⟨i + 1, hlt', by go_num, R3⟩
        case measure => have : i < n := hlt'; simp [intOf]; omega
    · have di : ¬ (i : Int) < (n : Int) := by omega
      have ei : i = n := by omega
      rw [ei] at R1
      clear hlt ei
      go_wp2_with fail
      go_ret
      exact ⟨_, _, rfl, R1⟩
set_option maxRecDepth 100000 in
theorem right9 (w : World) (cap lba n : Int) (hc : cap ≤ 9223372036854775807) :
    Calls Try.prog 23 #[.int .i64 cap, .int .i64 lba, .int .i64 n] w fun e w' => e = .returned (.bool (okR cap lba n)) ∧ w' = w := by
  unfold okR
  by_cases h1 : 1 ≤ n
  · by_cases h2 : n ≤ cap
    · by_cases h3 : 0 ≤ lba
      · have dw := wrapI (x := cap - n) (by omega) (by omega)
        go_enter Try.func23, Try.ntmps23
        go_wp2_with fail
        go_ret
        refine ⟨?_, rfl⟩
        have e : decide (lba ≤ cap - n) = decide (n ≤ cap - lba) := decide_eq_decide.2 (by omega)
        simp [h1, h3, e]
      · go_enter Try.func23, Try.ntmps23
        go_wp2_with fail
        go_ret
        exact ⟨by simp; intros; omega, rfl⟩
    · go_enter Try.func23, Try.ntmps23
      go_wp2_with fail
      go_ret
      exact ⟨by simp; intros; omega, rfl⟩
  · go_enter Try.func23, Try.ntmps23
    go_wp2_with fail
    go_ret
    exact ⟨by simp; intros; omega, rfl⟩
set_option maxRecDepth 100000 in
/-- An empty row of pieces, made. -/
theorem rq_made (w : World) : (Instr.makeSlice 23 (.int .i64 0) (.int .i64 0)).run Try.prog w = .ok (.slice (some ⟨w.heap.size, 0, none⟩) 0 0) (w.alloc (.cells #[] 38)) ∧ Rq w (w.alloc (.cells #[] 38)) (some ⟨w.heap.size, 0, none⟩) 0 [] := by
  obtain ⟨i, hi, hz0, hz1, hz2⟩ := info_parts info45
  have := run_make (P := Try.prog) w 23 38 i _ Try.underlying23 hi hz0 .i64 .i64 0 0 (by omega) (by omega) (by rw [hz2]; omega) (by omega)
  have e : ∀ z : Array Value, madeCells z 0 = #[] := fun z => by simp [madeCells]
  rw [show Int.toNat 0 = 0 from rfl, Nat.zero_mul, e] at this
  exact ⟨this, World.ownsRow_lit (e := 38) (size := 3) (base := w.heap.size) w #[] 0 (Nat.le_refl _) (by unfold maxLen; omega) rfl, (Keep.refl _ _).alloc _⟩
set_option maxRecDepth 100000 in
set_option maxHeartbeats 4000000 in
theorem range9 {w : World} {a : Option Addr} {c : Nat} {t : List Int} (h : Is w a c t) (h2 : t.length ≤ 512) (hb : Tab t) {lba n : Nat} (hr : lba + n ≤ t.length) :
    Calls Try.prog 38 #[.slice a t.length c, .int .i64 (lba : Int), .int .i64 (n : Int)] w fun e w' => ∃ a' c', e = .returned (.slice a' (refP t lba n).length c') ∧ Rq w w' a' c' (refP t lba n) := by
  obtain ⟨hmk, R0⟩ := rq_made w
  have R0 : Rq w (w.alloc (.cells #[] 38)) (some ⟨w.heap.size, 0, none⟩) 0 (refP t lba 0) := R0
  generalize w.alloc (.cells #[] 38) = w1 at hmk R0
  generalize hG : w.heap.size = G at hmk R0
  have hc := h.1
  have hl : (t.length : Int) ≤ 512 := by omega
  have ds := wrapI (x := (lba : Int) + n) (by omega) (by omega)
  go_enter Try.func38, Try.ntmps38
  go_wp2_with fail
  clear hmk
  go_loopw [7, 8] (fun lv v wx => ∃ (k i : Nat) (a' : Option Addr) (c' : Nat), k ≤ n ∧ Hid (i = lba + k) ∧ lv = .slice a' (refP t lba k).length c' ∧ v = .int .i64 (i : Int) ∧ Rq w wx a' c' (refP t lba k)) (fun _ v _ => lba + n - (intOf v).toNat)
  case atStart => exact ⟨0, lba, _, _, by omega, rfl, rfl, rfl, R0⟩
  case round =>
    clear R0
    obtain ⟨k, i, a', c', hk, hik, rfl, rfl, R1⟩ := hrel
    have hik2 := (show i = lba + k from hik)
    by_cases hlt : k < n
    · obtain ⟨g, rfl, ci⟩ := (h.more R1.keep).at (i := i) (by omega)
      have hbi := hb i
      have hstep : refP t lba (k + 1) = if 0 < k ∧ (t.getD i (-1) < 0 ∧ t.getD (i - 1) (-1) < 0 ∨ 0 ≤ t.getD i (-1) ∧ 0 ≤ t.getD (i - 1) (-1) ∧ t.getD (i - 1) (-1) + 1 = t.getD i (-1)) then grow (refP t lba k) else refP t lba k ++ [⟨(i : Int), 1, if t.getD i (-1) < 0 then -1 else t.getD i (-1)⟩] := by rw [refP, ← hik2]
      have hln := refP_len t lba k
      have di : (i : Int) < (lba : Int) + n := by omega
      have dit : (i : Int) < (t.length : Int) := by omega
      have dw := wrapI (x := (i : Int) + 1) (by omega) (by omega)
      have hlt' : Hid (k < n) := hlt
      have hcj : ∀ j, j + 1 = i → wr.cell? ⟨g, j, none⟩ = some (.int .i64 (t.getD j (-1))) := fun j hj => by
        obtain ⟨g', eg, cj⟩ := (h.more R1.keep).at (i := j) (by omega)
        injection eg with eg; injection eg with eg; subst eg; exact cj
      have hbj := fun j => hb j
      clear hik2
      generalize hX : t.getD i (-1) = X at ci hbi hstep
      clear h hb
      have hnew : ∀ v : Int, refP t lba (k + 1) = refP t lba k ++ [⟨(i : Int), 1, v⟩] → ∀ w2, Keep (fun _ => False) wr w2 → ∃ a2 c2 w3, (Builtin.append_ #[23, 23] 23 #[.slice a' (refP t lba k).length c', .slice (some ⟨w2.heap.size, 0, none⟩) 1 1]).run Try.prog (w2.alloc (.cells #[.int .i64 (i : Int), .int .i64 1, .int .i64 v] 38)) = .ok (.slice a2 ((refP t lba k).length + 1) c2) w3 ∧ Rq w w3 a2 c2 (refP t lba (k + 1)) ∧ (refP t lba (k + 1)).length = (refP t lba k).length + 1 := fun v e w2 k2 => by
        obtain ⟨a2, c2, w3, h1, h2⟩ := (R1.more k2).app1 (by omega) ⟨(i : Int), 1, v⟩
        exact ⟨a2, c2, w3, h1, by rw [e]; exact h2, by rw [e]; simp⟩
      have hnew := fun {v : Int} => hnew v
      by_cases hz : k = 0
      · have dz : ¬ (lba : Int) < (i : Int) := by have := (show i = lba + k from hik); omega
        have dzb : decide ((lba : Int) < (i : Int)) = false := decide_eq_false dz
        have dzc : decide (lba < i) = false := decide_eq_false (by omega)
        rw [if_neg (fun h => by omega)] at hstep
        by_cases cx : X < 0
        · have cxd : decide (0 ≤ X) = false := decide_eq_false (by omega)
          have cxe : decide (X < 0) = true := decide_eq_true cx
          rw [if_pos cx] at hstep
          have hn := hnew hstep
          clear hcj hbj hstep hnew hX hz
          go_upto_region 5 with fail
          go_quiet (fail)
          have k2 := (Keep.refl (fun _ => False) wr).drewN nq
          have ci2 := k2.cell ci
          have K3 : Keep (fun _ => False) wr ((wr.drewN nq).alloc (.cells #[.int .i64 (i : Int), .int .i64 1, .int .i64 (-1)] 38)) := k2.alloc _
          have L3 := Lrn.new45 (wr.drewN nq) ⟨(i : Int), 1, (-1)⟩
          rw [rnA_lit] at L3
          have L3 : Lrn ((wr.drewN nq).alloc (.cells #[.int .i64 (i : Int), .int .i64 1, .int .i64 (-1)] 38)) (wr.drewN nq).heap.size ⟨(i : Int), 1, (-1)⟩ := L3
          generalize wr.drewN nq = w2 at k2 ci2 K3 L3 ⊢
          have ci3 := ((Keep.refl (fun _ => False) w2).alloc (.cells #[.int .i64 (i : Int), .int .i64 1, .int .i64 (-1)] 38)).cell ci2
          go_upto_region 10 with fail
          clear ci2 ci3 ci
          generalize w2.alloc (.cells #[.int .i64 (i : Int), .int .i64 1, .int .i64 (-1)] 38) = w3 at K3 L3 ⊢
          generalize w2.heap.size = g3 at L3 ⊢
          obtain ⟨a2, c2, w4, happ, R3, hE⟩ := hn w3 K3
          have hE' : Hid ((refP t lba (k + 1)).length = (refP t lba k).length + 1) := hE
          obtain ⟨p0, p1, p2⟩ := L3.c
          clear hn hE R1 k2 K3 L3
          go_wp2_with (at_builtin; refine wpList_append_run rfl (.tmp 87) (.tmp 89) 23 rfl (by rfl) (by rfl) happ ?_)
          go_roundw
          case rel => exact ⟨k + 1, i + 1, a2, c2, hlt', by have := (show i = lba + k from hik); show i + 1 = lba + (k + 1); omega, by rw [show (refP t lba (k + 1)).length = _ from hE'], by go_num, R3⟩
          case measure => have : k < n := hlt'; have := (show i = lba + k from hik); simp [intOf]; omega
        · have cx0 : 0 ≤ X := by omega
          have cxd : decide (0 ≤ X) = true := decide_eq_true cx0
          have cxe : decide (X < 0) = false := decide_eq_false cx
          rw [if_neg cx] at hstep
          have hn := hnew hstep
          clear hcj hbj hstep hnew hX hz
          go_upto_region 5 with fail
          go_quiet (fail)
          have k2 := (Keep.refl (fun _ => False) wr).drewN nq
          have ci2 := k2.cell ci
          have K3 : Keep (fun _ => False) wr ((wr.drewN nq).alloc (.cells #[.int .i64 (i : Int), .int .i64 1, .int .i64 X] 38)) := k2.alloc _
          have L3 := Lrn.new45 (wr.drewN nq) ⟨(i : Int), 1, X⟩
          rw [rnA_lit] at L3
          have L3 : Lrn ((wr.drewN nq).alloc (.cells #[.int .i64 (i : Int), .int .i64 1, .int .i64 X] 38)) (wr.drewN nq).heap.size ⟨(i : Int), 1, X⟩ := L3
          generalize wr.drewN nq = w2 at k2 ci2 K3 L3 ⊢
          have ci3 := ((Keep.refl (fun _ => False) w2).alloc (.cells #[.int .i64 (i : Int), .int .i64 1, .int .i64 (-1)] 38)).cell ci2
          go_upto_region 10 with fail
          clear ci2 ci3 ci
          generalize w2.alloc (.cells #[.int .i64 (i : Int), .int .i64 1, .int .i64 X] 38) = w3 at K3 L3 ⊢
          generalize w2.heap.size = g3 at L3 ⊢
          obtain ⟨a2, c2, w4, happ, R3, hE⟩ := hn w3 K3
          have hE' : Hid ((refP t lba (k + 1)).length = (refP t lba k).length + 1) := hE
          obtain ⟨p0, p1, p2⟩ := L3.c
          clear hn hE R1 k2 K3 L3
          go_wp2_with (at_builtin; refine wpList_append_run rfl (.tmp 87) (.tmp 89) 23 rfl (by rfl) (by rfl) happ ?_)
          go_roundw
          case rel => exact ⟨k + 1, i + 1, a2, c2, hlt', by have := (show i = lba + k from hik); show i + 1 = lba + (k + 1); omega, by rw [show (refP t lba (k + 1)).length = _ from hE'], by go_num, R3⟩
          case measure => have : k < n := hlt'; have := (show i = lba + k from hik); simp [intOf]; omega
      · obtain ⟨j, hij⟩ : ∃ j, j + 1 = i := ⟨i - 1, by have := (show i = lba + k from hik); omega⟩
        have hik2 := (show i = lba + k from hik)
        have cj := hcj j hij
        have bj := hbj j
        have ej : i - 1 = j := by omega
        rw [ej] at hstep
        have dz : (lba : Int) < (i : Int) := by omega
        have dzb : decide ((lba : Int) < (i : Int)) = true := decide_eq_true dz
        have dzc : decide (lba < i) = true := decide_eq_true (by omega)
        have djw : IntKind.i64.wrap ((i : Int) - 1) = (j : Int) := (wrapI (x := (i : Int) - 1) (by omega) (by omega)).trans (by omega)
        have djl : (j : Int) < (t.length : Int) := by omega
        clear hik2
        generalize t.getD j (-1) = Y at cj bj hstep
        by_cases cx : X < 0
        · have cxd : decide (0 ≤ X) = false := decide_eq_false (by omega)
          have cxe : decide (X < 0) = true := decide_eq_true cx
          by_cases cy : Y < 0
          · have cyd : decide (0 ≤ Y) = false := decide_eq_false (by omega)
            have cye : decide (Y < 0) = true := decide_eq_true cy
            rw [if_pos ⟨by omega, Or.inl ⟨cx, cy⟩⟩] at hstep
            obtain ⟨A, x, eA, hpre, xf, x1, x2, -⟩ := refP_ok t lba (k - 1) (by omega)
            rw [show k - 1 + 1 = k by omega] at eA xf
            have hxl := hpre.le
            rw [eA, grow_snoc] at hstep
            unfold Rn.fin at xf
            rw [eA] at R1 hln ⊢
            have hAl : (A ++ [x]).length = A.length + 1 := by simp
            rw [hAl] at hln ⊢
            have hEl : Hid ((refP t lba (k + 1)).length = A.length + 1) := by show (refP t lba (k + 1)).length = _; rw [hstep]; simp
            have hst' : Hid (refP t lba (k + 1) = A ++ [⟨x.lba, x.len + 1, x.phys⟩]) := hstep
            have dxl := wrapI (x := x.len + 1) (by omega) (by omega)
            have dA := wrapI (x := ((A.length + 1 : Nat) : Int) - 1) (by omega) (by omega)
            have dA2 : ((A.length + 1 : Nat) : Int) - 1 = (A.length : Int) := by omega
            rw [dA2] at dA
            have hrc := R1.rs.1
            rw [hAl] at hrc
            clear hcj hbj hstep hnew hX hz ej hij
            clear eA hpre x1 x2 hxl xf dA2 hAl
            go_upto_region 5 with fail
            go_quiet (fail)
            have k2 := (Keep.refl (fun _ => False) wr).drewN nq
            have R2 := R1.more k2
            generalize wr.drewN nq = w2 at k2 R2 ⊢
            obtain ⟨g2, rfl, f0, f1, f2⟩ := R2.rs.at (i := A.length) (x := x) (by simp)
            have hfz := R2.own.frozenAt (A.length * 3 + 1)
            have R3 := R2.setLen (x.len + 1)
            rw [← (show refP t lba (k + 1) = _ from hst')] at R3
            clear R1 R2 ci k2
            go_wp2_with fail
            go_roundw
            case rel => exact ⟨k + 1, i + 1, _, c', hlt', by have := (show i = lba + k from hik); show i + 1 = lba + (k + 1); omega, by rw [show (refP t lba (k + 1)).length = _ from hEl], by go_num, R3⟩
            case measure => have : k < n := hlt'; have := (show i = lba + k from hik); simp [intOf]; omega
          · have cyd : decide (0 ≤ Y) = true := decide_eq_true (by omega)
            have cye : decide (Y < 0) = false := decide_eq_false cy
            rw [if_neg (fun h => by omega), if_pos cx] at hstep
            have hn := hnew hstep
            clear hcj hbj hstep hnew hX hz ej hij
            go_upto_region 5 with fail
            go_quiet (fail)
            have k2 := (Keep.refl (fun _ => False) wr).drewN nq
            have ci2 := k2.cell ci
            have K3 : Keep (fun _ => False) wr ((wr.drewN nq).alloc (.cells #[.int .i64 (i : Int), .int .i64 1, .int .i64 (-1)] 38)) := k2.alloc _
            have L3 := Lrn.new45 (wr.drewN nq) ⟨(i : Int), 1, (-1)⟩
            rw [rnA_lit] at L3
            have L3 : Lrn ((wr.drewN nq).alloc (.cells #[.int .i64 (i : Int), .int .i64 1, .int .i64 (-1)] 38)) (wr.drewN nq).heap.size ⟨(i : Int), 1, (-1)⟩ := L3
            generalize wr.drewN nq = w2 at k2 ci2 K3 L3 ⊢
            have ci3 := ((Keep.refl (fun _ => False) w2).alloc (.cells #[.int .i64 (i : Int), .int .i64 1, .int .i64 (-1)] 38)).cell ci2
            go_upto_region 10 with fail
            clear ci2 ci3 ci
            generalize w2.alloc (.cells #[.int .i64 (i : Int), .int .i64 1, .int .i64 (-1)] 38) = w3 at K3 L3 ⊢
            generalize w2.heap.size = g3 at L3 ⊢
            obtain ⟨a2, c2, w4, happ, R3, hE⟩ := hn w3 K3
            have hE' : Hid ((refP t lba (k + 1)).length = (refP t lba k).length + 1) := hE
            obtain ⟨p0, p1, p2⟩ := L3.c
            clear hn hE R1 k2 K3 L3
            go_wp2_with (at_builtin; refine wpList_append_run rfl (.tmp 87) (.tmp 89) 23 rfl (by rfl) (by rfl) happ ?_)
            go_roundw
            case rel => exact ⟨k + 1, i + 1, a2, c2, hlt', by have := (show i = lba + k from hik); show i + 1 = lba + (k + 1); omega, by rw [show (refP t lba (k + 1)).length = _ from hE'], by go_num, R3⟩
            case measure => have : k < n := hlt'; have := (show i = lba + k from hik); simp [intOf]; omega
        · have cx0 : 0 ≤ X := by omega
          have cxd : decide (0 ≤ X) = true := decide_eq_true cx0
          have cxe : decide (X < 0) = false := decide_eq_false cx
          by_cases cy : Y < 0
          · have cyd : decide (0 ≤ Y) = false := decide_eq_false (by omega)
            have cye : decide (Y < 0) = true := decide_eq_true cy
            rw [if_neg (fun h => by omega), if_neg cx] at hstep
            have hn := hnew hstep
            clear hcj hbj hstep hnew hX hz ej hij
            go_upto_region 5 with fail
            go_quiet (fail)
            have k2 := (Keep.refl (fun _ => False) wr).drewN nq
            have ci2 := k2.cell ci
            have K3 : Keep (fun _ => False) wr ((wr.drewN nq).alloc (.cells #[.int .i64 (i : Int), .int .i64 1, .int .i64 X] 38)) := k2.alloc _
            have L3 := Lrn.new45 (wr.drewN nq) ⟨(i : Int), 1, X⟩
            rw [rnA_lit] at L3
            have L3 : Lrn ((wr.drewN nq).alloc (.cells #[.int .i64 (i : Int), .int .i64 1, .int .i64 X] 38)) (wr.drewN nq).heap.size ⟨(i : Int), 1, X⟩ := L3
            generalize wr.drewN nq = w2 at k2 ci2 K3 L3 ⊢
            have ci3 := ((Keep.refl (fun _ => False) w2).alloc (.cells #[.int .i64 (i : Int), .int .i64 1, .int .i64 (-1)] 38)).cell ci2
            go_upto_region 10 with fail
            clear ci2 ci3 ci
            generalize w2.alloc (.cells #[.int .i64 (i : Int), .int .i64 1, .int .i64 X] 38) = w3 at K3 L3 ⊢
            generalize w2.heap.size = g3 at L3 ⊢
            obtain ⟨a2, c2, w4, happ, R3, hE⟩ := hn w3 K3
            have hE' : Hid ((refP t lba (k + 1)).length = (refP t lba k).length + 1) := hE
            obtain ⟨p0, p1, p2⟩ := L3.c
            clear hn hE R1 k2 K3 L3
            go_wp2_with (at_builtin; refine wpList_append_run rfl (.tmp 87) (.tmp 89) 23 rfl (by rfl) (by rfl) happ ?_)
            go_roundw
            case rel => exact ⟨k + 1, i + 1, a2, c2, hlt', by have := (show i = lba + k from hik); show i + 1 = lba + (k + 1); omega, by rw [show (refP t lba (k + 1)).length = _ from hE'], by go_num, R3⟩
            case measure => have : k < n := hlt'; have := (show i = lba + k from hik); simp [intOf]; omega
          · have cyd : decide (0 ≤ Y) = true := decide_eq_true (by omega)
            have cye : decide (Y < 0) = false := decide_eq_false cy
            have dy := wrapI (x := Y + 1) (by omega) (by omega)
            by_cases ce : Y + 1 = X
            · have ceb : (Y + 1 == X) = true := by simp [ce]
              rw [if_pos ⟨by omega, Or.inr ⟨cx0, by omega, ce⟩⟩] at hstep
              obtain ⟨A, x, eA, hpre, xf, x1, x2, -⟩ := refP_ok t lba (k - 1) (by omega)
              rw [show k - 1 + 1 = k by omega] at eA xf
              have hxl := hpre.le
              rw [eA, grow_snoc] at hstep
              unfold Rn.fin at xf
              rw [eA] at R1 hln ⊢
              have hAl : (A ++ [x]).length = A.length + 1 := by simp
              rw [hAl] at hln ⊢
              have hEl : Hid ((refP t lba (k + 1)).length = A.length + 1) := by show (refP t lba (k + 1)).length = _; rw [hstep]; simp
              have hst' : Hid (refP t lba (k + 1) = A ++ [⟨x.lba, x.len + 1, x.phys⟩]) := hstep
              have dxl := wrapI (x := x.len + 1) (by omega) (by omega)
              have dA := wrapI (x := ((A.length + 1 : Nat) : Int) - 1) (by omega) (by omega)
              have dA2 : ((A.length + 1 : Nat) : Int) - 1 = (A.length : Int) := by omega
              rw [dA2] at dA
              have hrc := R1.rs.1
              rw [hAl] at hrc
              clear hcj hbj hstep hnew hX hz ej hij ce
              clear eA hpre x1 x2 hxl xf dA2 hAl
              go_upto_region 5 with fail
              go_quiet (fail)
              have k2 := (Keep.refl (fun _ => False) wr).drewN nq
              have R2 := R1.more k2
              generalize wr.drewN nq = w2 at k2 R2 ⊢
              obtain ⟨g2, rfl, f0, f1, f2⟩ := R2.rs.at (i := A.length) (x := x) (by simp)
              have hfz := R2.own.frozenAt (A.length * 3 + 1)
              have R3 := R2.setLen (x.len + 1)
              rw [← (show refP t lba (k + 1) = _ from hst')] at R3
              clear R1 R2 ci k2
              go_wp2_with fail
              go_roundw
              case rel => exact ⟨k + 1, i + 1, _, c', hlt', by have := (show i = lba + k from hik); show i + 1 = lba + (k + 1); omega, by rw [show (refP t lba (k + 1)).length = _ from hEl], by go_num, R3⟩
              case measure => have : k < n := hlt'; have := (show i = lba + k from hik); simp [intOf]; omega
            · have ceb : (Y + 1 == X) = false := by simp [ce]
              rw [if_neg (fun h => by omega), if_neg cx] at hstep
              have hn := hnew hstep
              clear hcj hbj hstep hnew hX hz ej hij ce
              go_upto_region 5 with fail
              go_quiet (fail)
              have k2 := (Keep.refl (fun _ => False) wr).drewN nq
              have ci2 := k2.cell ci
              have K3 : Keep (fun _ => False) wr ((wr.drewN nq).alloc (.cells #[.int .i64 (i : Int), .int .i64 1, .int .i64 X] 38)) := k2.alloc _
              have L3 := Lrn.new45 (wr.drewN nq) ⟨(i : Int), 1, X⟩
              rw [rnA_lit] at L3
              have L3 : Lrn ((wr.drewN nq).alloc (.cells #[.int .i64 (i : Int), .int .i64 1, .int .i64 X] 38)) (wr.drewN nq).heap.size ⟨(i : Int), 1, X⟩ := L3
              generalize wr.drewN nq = w2 at k2 ci2 K3 L3 ⊢
              have ci3 := ((Keep.refl (fun _ => False) w2).alloc (.cells #[.int .i64 (i : Int), .int .i64 1, .int .i64 (-1)] 38)).cell ci2
              go_upto_region 10 with fail
              clear ci2 ci3 ci
              generalize w2.alloc (.cells #[.int .i64 (i : Int), .int .i64 1, .int .i64 X] 38) = w3 at K3 L3 ⊢
              generalize w2.heap.size = g3 at L3 ⊢
              obtain ⟨a2, c2, w4, happ, R3, hE⟩ := hn w3 K3
              have hE' : Hid ((refP t lba (k + 1)).length = (refP t lba k).length + 1) := hE
              obtain ⟨p0, p1, p2⟩ := L3.c
              clear hn hE R1 k2 K3 L3
              go_wp2_with (at_builtin; refine wpList_append_run rfl (.tmp 87) (.tmp 89) 23 rfl (by rfl) (by rfl) happ ?_)
              go_roundw
              case rel => exact ⟨k + 1, i + 1, a2, c2, hlt', by have := (show i = lba + k from hik); show i + 1 = lba + (k + 1); omega, by rw [show (refP t lba (k + 1)).length = _ from hE'], by go_num, R3⟩
              case measure => have : k < n := hlt'; have := (show i = lba + k from hik); simp [intOf]; omega
    · have di : ¬ (i : Int) < (lba : Int) + n := by omega
      have ek : k = n := by omega
      rw [ek] at R1 ⊢
      clear hlt ek h hik2
      go_wp2_with fail
      go_ret
      exact ⟨_, _, rfl, R1⟩
set_option maxRecDepth 100000 in
set_option maxHeartbeats 1000000 in
theorem pieces9 {w : World} {a1 a2 : Option Addr} {c1 c2 : Nat} {m1 m2 : List Rn} (h1 : Rs w a1 c1 m1) (h2 : Rs w a2 c2 m2) (hl1 : m1.length ≤ 100000) :
    Calls Try.prog 24 #[.slice a1 m1.length c1, .slice a2 m2.length c2] w fun e w' => e = .returned (.bool (sameL m1 m2)) ∧ Keep (fun _ => False) w w' := by
  have K0 := Keep.refl (fun _ => False) w
  have hc1 := h1.1
  have hc2 := h2.1
  by_cases hl : m1.length = m2.length
  · have hb : ((m1.length : Int) != (m2.length : Int)) = false := by simp [hl]
    have hl' : Hid (m1.length = m2.length) := hl
    have hl1' : (m1.length : Int) ≤ 100000 := by omega
    have hm2 : (m2.length : Int) = (m1.length : Int) := by omega
    have hm2' : Hid ((m2.length : Int) = (m1.length : Int)) := hm2
    clear hl hl1 hm2
    go_enter Try.func24, Try.ntmps24
    go_wp2_with fail
    go_loopw [5] (fun v wx => ∃ i : Nat, i ≤ m1.length ∧ v = .int .i64 (i : Int) ∧ Hid (m1.take i = m2.take i) ∧ Keep (fun _ => False) w wx) (fun v _ => m1.length - (intOf v).toNat)
    case atStart => exact ⟨0, by omega, rfl, by show m1.take 0 = m2.take 0; simp, K0⟩
    case round =>
      obtain ⟨i, hi, rfl, hI, k1⟩ := hrel
      by_cases hlt : i < m1.length
      · have hlt2 : i < m2.length := by have := show m1.length = m2.length from hl'; omega
        obtain ⟨x, hx⟩ := get_rn hlt
        obtain ⟨y, hy⟩ := get_rn hlt2
        obtain ⟨g1, rfl, e0, e1, e2⟩ := (h1.more k1).at hx
        obtain ⟨g2, rfl, f0, f1, f2⟩ := (h2.more k1).at hy
        have di : (i : Int) < (m1.length : Int) := by omega
        have di2 : (i : Int) < (m2.length : Int) := by omega
        have dw := wrapI (x := (i : Int) + 1) (by omega) (by omega)
        have hlt' : Hid (i < m1.length) := hlt
        have t1 : Hid (m1.take (i + 1) = m1.take i ++ [x]) := take_next hx
        have t2 : Hid (m2.take (i + 1) = m2.take i ++ [y]) := take_next hy
        by_cases e : x = y
        · subst e
          have hI2 : Hid (m1.take (i + 1) = m2.take (i + 1)) := by
            show m1.take (i + 1) = m2.take (i + 1)
            rw [show m1.take (i + 1) = _ from t1, show m2.take (i + 1) = _ from t2, show m1.take i = m2.take i from hI]
          clear hx hy hlt hlt2 hI t1 t2
          go_wp2_with fail
          go_quiet (fail)
          go_wp2_with fail
          go_roundw
          case rel => exact ⟨i + 1, hlt', by go_num, hI2, k1.drewN _⟩
          case measure => have : i < m1.length := hlt'; simp [intOf]; omega
        · have hne : Hid (sameL m1 m2 = false) := by
            show sameL m1 m2 = false
            rw [Bool.eq_false_iff]
            intro hs
            have := sameL_iff.1 hs
            subst this
            rw [hx] at hy
            injection hy with hy
            exact e hy
          clear hx hy hlt hlt2 hI t1 t2 h1 h2
          by_cases u1 : x.lba = y.lba
          · have v1 : (x.lba == y.lba) = true := by simp [u1]
            by_cases u2 : x.len = y.len
            · have v2 : (x.len == y.len) = true := by simp [u2]
              have v3 : (x.phys == y.phys) = false := by
                simp
                intro u3
                exact e (by cases x; cases y; simp only at u1 u2 u3; subst u1; subst u2; subst u3; rfl)
              clear e u1 u2
              go_wp2_with fail
              go_quiet (fail)
              go_wp2_with fail
              go_ret
              exact ⟨by rw [show sameL m1 m2 = false from hne]; rfl, k1.drewN _⟩
            · have v2 : (x.len == y.len) = false := by simp [u2]
              clear e u1 u2
              go_wp2_with fail
              go_quiet (fail)
              go_wp2_with fail
              go_ret
              exact ⟨by rw [show sameL m1 m2 = false from hne]; rfl, k1.drewN _⟩
          · have v1 : (x.lba == y.lba) = false := by simp [u1]
            clear e u1
            go_wp2_with fail
            go_quiet (fail)
            go_wp2_with fail
            go_ret
            exact ⟨by rw [show sameL m1 m2 = false from hne]; rfl, k1.drewN _⟩
      · have di : ¬ (i : Int) < (m1.length : Int) := by omega
        have he : Hid (sameL m1 m2 = true) := sameL_iff.2 (sameL_take hl' hI (by omega))
        clear hlt h1 h2
        go_wp2_with fail
        go_ret
        exact ⟨by rw [show sameL m1 m2 = true from he]; rfl, k1⟩
  · have hb : ((m1.length : Int) != (m2.length : Int)) = true := by simp; omega
    have hne : Hid (sameL m1 m2 = false) := by
      show sameL m1 m2 = false
      rw [Bool.eq_false_iff]
      intro hs
      exact hl (by rw [sameL_iff.1 hs])
    clear hl h1 h2
    go_enter Try.func24, Try.ntmps24
    go_wp2_with fail
    go_ret
    exact ⟨by rw [show sameL m1 m2 = false from hne]; rfl, K0⟩
set_option maxRecDepth 100000 in
theorem fcount {B : Nat → Prop} {wr : World} {q N C : Nat} {t : List Int} (h : Fm B wr q N C t) :
    Calls Try.prog 17 #[.pointer (some ⟨q, 0, none⟩)] wr fun e w' => e = .returned (.int .i64 ((refR t C).length : Int)) ∧ Keep (fun _ => False) wr w' := by
  obtain ⟨a, c, hb, hi, -⟩ := h.ex
  have c1 : wr.cell? ⟨q, 1, none⟩ = some (.slice a C c) := (hb 1 (by omega)).1
  have hcl := runsOf_any hi (by have := h.cap2; have := h.tl; omega) h.tab
  rw [h.tl] at hcl
  clear h hb hi
  generalize refR t C = m at hcl ⊢
  go_enter Try.func17, Try.ntmps17
  go_wp2_with (go_at_call 33; refine hcl.mono ?_; rintro e w1 ⟨a', c', rfl, R1⟩)
  go_ret
  exact ⟨rfl, R1.keep⟩
end Tg
end Go.Proofs.Ytojkiambkgkecaa
