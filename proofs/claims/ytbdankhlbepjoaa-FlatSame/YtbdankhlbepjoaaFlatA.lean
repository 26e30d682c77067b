/-
  What the flat map's small functions do: a row copied, its pieces, its runs.
-/
import Derived.Test.YtbdankhlbepjoaaRefP
import Derived.Test.YtbdankhlbepjoaaFlatM
namespace Go.Proofs.Ytbdankhlbepjoaa
open Go.ChangeShapes Go.WideShapes Go.ChangeAt Go.RowKit
namespace Tg

set_option maxRecDepth 100000 in
theorem clone_any {w : World} {a : Option Addr} {c : Nat} {t : List Int} (h : Is w a c t) (h1 : 1 ≤ t.length) (h2 : t.length ≤ 512) :
    Calls Try.prog 47 #[.slice a t.length c] w fun e w' => ∃ a' c', e = .returned (.slice a' t.length c') ∧ Ri w w' a' c' t := by
  obtain ⟨g, rfl, -⟩ := h.at (i := 0) h1
  obtain ⟨a', c', w', happ, R⟩ := copy_ints h h1 h2
  have he : ∀ w : World, (binOp .eql 31 (.slice (some ⟨g, 0, none⟩) t.length c) (.slice none 0 0)).run Try.prog w = .ok (.bool false) w := fun _ => rfl
  clear h
  go_enter Try.func47, Try.ntmps47
  go_wp2_with (at_builtin; refine wpList_append_run rfl (.tmp 5) (.tmp 6) 31 rfl (by rfl) (by rfl) happ ?_)
  go_ret
  exact ⟨_, _, rfl, R⟩

/-- Are two neighbours' entries of one hole or of one run? -/
def tog (x y : Int) : Bool := if x = -1 then y == -1 else y == x + 1
set_option maxRecDepth 100000 in
theorem tog_any (w : World) {x : Int} (y : Int) (h1 : -1 ≤ x) (h2 : x ≤ 1049088) :
    Calls Try.prog 54 #[.int .i64 x, .int .i64 y] w fun e w' => e = .returned (.bool (tog x y)) ∧ w' = w := by
  unfold tog
  by_cases c : x = -1
  · have cb : (x == -1) = true := by simp [c]
    rw [if_pos c]
    clear c
    go_enter Try.func54, Try.ntmps54
    go_wp2_with fail
    go_ret
    exact ⟨rfl, rfl⟩
  · have cb : (x == -1) = false := by simp [c]
    rw [if_neg c]
    have dx := wrapI (x := x + 1) (by omega) (by omega)
    clear c
    go_enter Try.func54, Try.ntmps54
    go_wp2_with fail
    go_ret
    exact ⟨rfl, rfl⟩
theorem refP_tog {t : List Int} (hb : Tab t) (lba k : Nat) {i : Nat} (hi : i = lba + k) : refP t lba (k + 1) = if 0 < k ∧ tog (t.getD (i - 1) (-1)) (t.getD i (-1)) = true then grow (refP t lba k) else refP t lba k ++ [⟨(i : Int), 1, t.getD i (-1)⟩] := by
  have h1 := hb i
  have h2 := hb (i - 1)
  rw [refP, ← hi]
  have e1 : (if t.getD i (-1) < 0 then -1 else t.getD i (-1)) = t.getD i (-1) := by split <;> omega
  rw [e1]
  have e2 : (t.getD i (-1) < 0 ∧ t.getD (i - 1) (-1) < 0 ∨ 0 ≤ t.getD i (-1) ∧ 0 ≤ t.getD (i - 1) (-1) ∧ t.getD (i - 1) (-1) + 1 = t.getD i (-1)) ↔ tog (t.getD (i - 1) (-1)) (t.getD i (-1)) = true := by
    unfold tog
    generalize t.getD i (-1) = X at *
    generalize t.getD (i - 1) (-1) = Y at *
    by_cases c : Y = -1
    · rw [if_pos c]; simp; omega
    · rw [if_neg c]; simp; omega
  simp only [e2]

set_option maxRecDepth 100000 in
set_option maxHeartbeats 2000000 in
theorem piecesOf_any {w : World} {a : Option Addr} {c : Nat} {t : List Int} (h : Is w a c t) (h2 : t.length ≤ 512) (hb : Tab t) {lba n : Nat} (hr : lba + n ≤ t.length) {L E : Int} (eL : L = (lba : Int)) (eE : E = (lba : Int) + n) :
    Calls Try.prog 43 #[.slice a t.length c, .int .i64 L, .int .i64 E] w fun e w' => ∃ a' c', e = .returned (.slice a' (refP t lba n).length c') ∧ Rq w w' a' c' (refP t lba n) := by
  subst eL eE
  have R0 : Rq w w none 0 (refP t lba 0) := Rq.nil w
  have hc := h.1
  have hl : (t.length : Int) ≤ 512 := by omega
  go_enter Try.func43, Try.ntmps43
  go_wp2_with fail
  go_loopw [7, 8] (fun lv v wx => ∃ (k i : Nat) (a' : Option Addr) (c' : Nat), k ≤ n ∧ Hid (i = lba + k) ∧ lv = .slice a' (refP t lba k).length c' ∧ v = .int .i64 (i : Int) ∧ Rq w wx a' c' (refP t lba k)) (fun _ v _ => lba + n - (intOf v).toNat)
  case atStart => exact ⟨0, lba, _, _, by omega, rfl, rfl, rfl, R0⟩
  case round =>
    clear R0
    obtain ⟨k, i, a', c', hk, hik, rfl, rfl, R1⟩ := hrel
    have hik2 := (show i = lba + k from hik)
    by_cases hlt : k < n
    · obtain ⟨g, rfl, ci⟩ := (h.more R1.keep).at (i := i) (by omega)
      have hbi := hb i
      have hstep := refP_tog hb lba k hik2
      have hln := refP_len t lba k
      have di : (i : Int) < (lba : Int) + n := by omega
      have dit : (i : Int) < (t.length : Int) := by omega
      have dw := wrapI (x := (i : Int) + 1) (by omega) (by omega)
      have hlt' : Hid (k < n) := hlt
      have hcj : ∀ j, j + 1 = i → wr.cell? ⟨g, j, none⟩ = some (.int .i64 (t.getD j (-1))) := fun j hj => by
        obtain ⟨g', eg, cj⟩ := (h.more R1.keep).at (i := j) (by omega)
        injection eg with eg; injection eg with eg; subst eg; exact cj
      have hbj := fun j => hb j
      clear hik2
      generalize hX : t.getD i (-1) = X at ci hbi hstep
      clear h hb
      have hnew : refP t lba (k + 1) = refP t lba k ++ [⟨(i : Int), 1, X⟩] → ∀ w2, Keep (fun _ => False) wr w2 → ∃ a2 c2 w3, (Builtin.append_ #[42, 42] 42 #[.slice a' (refP t lba k).length c', .slice (some ⟨w2.heap.size, 0, none⟩) 1 1]).run Try.prog (w2.alloc (.cells #[.int .i64 (i : Int), .int .i64 1, .int .i64 X] 56)) = .ok (.slice a2 ((refP t lba k).length + 1) c2) w3 ∧ Rq w w3 a2 c2 (refP t lba (k + 1)) ∧ (refP t lba (k + 1)).length = (refP t lba k).length + 1 := fun e w2 k2 => by
        obtain ⟨a2, c2, w3, h1, h2⟩ := (R1.more k2).app1 (by omega) ⟨(i : Int), 1, X⟩
        exact ⟨a2, c2, w3, h1, by rw [e]; exact h2, by rw [e]; simp⟩
      by_cases hz : k = 0
      · have dz : ¬ (lba : Int) < (i : Int) := by have := (show i = lba + k from hik); omega
        have dzb : decide ((lba : Int) < (i : Int)) = false := decide_eq_false dz
        have dzc : decide (lba < i) = false := decide_eq_false (by omega)
        rw [if_neg (fun h => by omega)] at hstep
        have hn := hnew hstep
        clear hcj hbj hstep hnew hX hz
        go_upto_region 5 with fail
        go_quiet (fail)
        have k2 := (Keep.refl (fun _ => False) wr).drewN nq
        have ci2 := k2.cell ci
        generalize wr.drewN nq = w2 at k2 ci2 ⊢
        obtain ⟨a2, c2, w3, happ, R3, hE⟩ := hn w2 k2
        have hE' : Hid ((refP t lba (k + 1)).length = (refP t lba k).length + 1) := hE
        clear hn hE R1 ci k2
        go_wp2_with (at_builtin; refine wpList_append_run rfl (.tmp 40) (.tmp 47) 42 rfl (by rfl) (by rfl) happ ?_)
        go_roundw
        case rel => exact ⟨k + 1, i + 1, a2, c2, hlt', by have := (show i = lba + k from hik); show i + 1 = lba + (k + 1); omega, by rw [show (refP t lba (k + 1)).length = _ from hE'], by go_num, R3⟩
        case measure => have : k < n := hlt'; have := (show i = lba + k from hik); simp [intOf]; omega
      · obtain ⟨j, hij⟩ : ∃ j, j + 1 = i := ⟨i - 1, by have := (show i = lba + k from hik); omega⟩
        have hik2 := (show i = lba + k from hik)
        have cj := hcj j hij
        have bj := hbj j
        have ej : i - 1 = j := by omega
        rw [ej] at hstep
        have dz : (lba : Int) < (i : Int) := by omega
        have dzb : decide ((lba : Int) < (i : Int)) = true := decide_eq_true dz
        have dzc : decide (lba < i) = true := decide_eq_true (by omega)
        have djw : IntKind.i64.wrap ((i : Int) - 1) = (j : Int) := (wrapI (x := (i : Int) - 1) (by omega) (by omega)).trans (by omega)
        have djl : (j : Int) < (t.length : Int) := by omega
        clear hik2
        generalize t.getD j (-1) = Y at cj bj hstep
        have htg := fun wx => tog_any wx X bj.1 bj.2
        cases hT : tog Y X with
        | true =>
          rw [hT] at htg
          rw [if_pos ⟨by omega, hT⟩] at hstep
          obtain ⟨A, x, eA, hpre, xf, x1, x2, -⟩ := refP_ok t lba (k - 1) (by omega)
          rw [show k - 1 + 1 = k by omega] at eA xf
          have hxl := hpre.le
          rw [eA, grow_snoc] at hstep
          unfold Rn.fin at xf
          rw [eA] at R1 hln ⊢
          have hAl : (A ++ [x]).length = A.length + 1 := by simp
          rw [hAl] at hln ⊢
          have hEl : Hid ((refP t lba (k + 1)).length = A.length + 1) := by show (refP t lba (k + 1)).length = _; rw [hstep]; simp
          have hst' : Hid (refP t lba (k + 1) = A ++ [⟨x.lba, x.len + 1, x.phys⟩]) := hstep
          have dxl := wrapI (x := x.len + 1) (by omega) (by omega)
          have dA := wrapI (x := ((A.length + 1 : Nat) : Int) - 1) (by omega) (by omega)
          have dA2 : ((A.length + 1 : Nat) : Int) - 1 = (A.length : Int) := by omega
          rw [dA2] at dA
          have hrc := R1.rs.1
          rw [hAl] at hrc
          clear hcj hbj hstep hnew hX hz ej hij hT
          clear eA hpre x1 x2 hxl xf dA2 hAl
          go_upto_region 5 with fail
          go_quiet ((go_at_call 54; exact Calls.quiet_of_same (htg _)))
          have k2 := (Keep.refl (fun _ => False) wr).drewN nq
          have R2 := R1.more k2
          generalize wr.drewN nq = w2 at k2 R2 ⊢
          obtain ⟨g2, rfl, f0, f1, f2⟩ := R2.rs.at (i := A.length) (x := x) (by simp)
          have hfz := R2.own.frozenAt (A.length * 3 + 1)
          have R3 := R2.setLen (x.len + 1)
          rw [← (show refP t lba (k + 1) = _ from hst')] at R3
          clear R1 R2 ci k2 htg
          go_wp2_with fail
          go_roundw
          case rel => exact ⟨k + 1, i + 1, _, c', hlt', by have := (show i = lba + k from hik); show i + 1 = lba + (k + 1); omega, by rw [show (refP t lba (k + 1)).length = _ from hEl], by go_num, R3⟩
          case measure => have : k < n := hlt'; have := (show i = lba + k from hik); simp [intOf]; omega
        | false =>
          rw [hT] at htg
          rw [if_neg (fun h => by rw [hT] at h; simp at h)] at hstep
          have hn := hnew hstep
          clear hcj hbj hstep hnew hX hz ej hij hT
          go_upto_region 5 with fail
          go_quiet ((go_at_call 54; exact Calls.quiet_of_same (htg _)))
          have k2 := (Keep.refl (fun _ => False) wr).drewN nq
          have ci2 := k2.cell ci
          generalize wr.drewN nq = w2 at k2 ci2 ⊢
          obtain ⟨a2, c2, w3, happ, R3, hE⟩ := hn w2 k2
          have hE' : Hid ((refP t lba (k + 1)).length = (refP t lba k).length + 1) := hE
          clear hn hE R1 ci k2 htg
          go_wp2_with (at_builtin; refine wpList_append_run rfl (.tmp 40) (.tmp 47) 42 rfl (by rfl) (by rfl) happ ?_)
          go_roundw
          case rel => exact ⟨k + 1, i + 1, a2, c2, hlt', by have := (show i = lba + k from hik); show i + 1 = lba + (k + 1); omega, by rw [show (refP t lba (k + 1)).length = _ from hE'], by go_num, R3⟩
          case measure => have : k < n := hlt'; have := (show i = lba + k from hik); simp [intOf]; omega
    · have di : ¬ (i : Int) < (lba : Int) + n := by omega
      have ek : k = n := by omega
      rw [ek] at R1 ⊢
      clear hlt ek h hik2
      go_wp2_with fail
      go_ret
      exact ⟨_, _, rfl, R1⟩

theorem Rr.older {w0 w1 w : World} {a : Option Addr} {cap : Nat} {m : List Rn} (h : Rr w1 w a cap m) (k : Keep (fun _ => False) w0 w1) : Rr w0 w a cap m := by
  refine ⟨⟨h.own.1, h.own.2.imp id ?_⟩, k.trans h.keep⟩
  rintro ⟨g, c, cur, e, hb, hh, h1, h2, h3, h4⟩
  exact ⟨g, c, cur, e, by have := k.size; omega, hh, h1, h2, h3, h4⟩
theorem solid_len (m : List Rn) : (solid m).length ≤ m.length := List.length_filter_le _ _
set_option maxRecDepth 100000 in
set_option maxHeartbeats 2000000 in
theorem runsOf_any {w : World} {a : Option Addr} {c : Nat} {t : List Int} (h : Is w a c t) (h2 : t.length ≤ 512) (hb : Tab t) :
    Calls Try.prog 33 #[.slice a t.length c] w fun e w' => ∃ a' c', e = .returned (.slice a' (refR t t.length).length c') ∧ Rr w w' a' c' (refR t t.length) := by
  have hp := piecesOf_any h h2 hb (lba := 0) (n := t.length) (by omega) (L := 0) (E := (t.length : Int)) rfl (by omega)
  rw [← refR_solid t (fun i => (hb i).1)]
  have hln := refP_len t 0 t.length
  generalize refP t 0 t.length = P at hp hln ⊢
  have hP5 : P.length ≤ 512 := by omega
  clear h hb
  go_enter Try.func33, Try.ntmps33
  go_wp2_with (go_at_call 43; refine hp.mono ?_; rintro e w1 ⟨pa, pc, rfl, Q1⟩)
  have s1 := Q1.rs
  have hpc := s1.1
  have hK1 := Q1.keep
  have R0 : Rr w1 w1 none 0 (solid (P.take 0)) := Rr.nil w1
  have e0 : Hid ((solid (P.take 0)).length = 0) := by show (solid (P.take 0)).length = 0; simp [solid]
  clear hp hln h2 Q1
  go_loopw [3, 11] (fun lv v wx => ∃ (i : Nat) (a' : Option Addr) (c' : Nat), i ≤ P.length ∧ lv = .slice a' (solid (P.take i)).length c' ∧ v = .int .i64 (i : Int) ∧ Rr w1 wx a' c' (solid (P.take i))) (fun _ v _ => P.length - (intOf v).toNat)
  case atStart => exact ⟨0, none, 0, by omega, by rw [show (solid (P.take 0)).length = 0 from e0], rfl, R0⟩
  case round =>
    clear R0
    obtain ⟨i, a', c', hi, rfl, rfl, R1⟩ := hrel
    by_cases hlt : i < P.length
    · obtain ⟨x, hx⟩ := get_rn hlt
      obtain ⟨g, rfl, f0, f1, f2⟩ := (s1.more R1.keep).at hx
      have hT : solid (P.take (i + 1)) = solid (P.take i) ++ (if x.phys = -1 then [] else [x]) := by rw [take_next hx, solid_snoc]
      have hsl : (solid (P.take i)).length ≤ 512 := by have := solid_len (P.take i); simp at this; omega
      have di : (i : Int) < (P.length : Int) := by omega
      have dw := wrapI (x := (i : Int) + 1) (by omega) (by omega)
      have hlt' : Hid (i < P.length) := hlt
      have K2 : Keep (fun _ => False) wr (wr.alloc (.cells (rnA x) 56)) := (Keep.refl _ _).alloc _
      have L2 := Lrn.new45 wr x
      have R2 := R1.more K2
      rw [rnA_lit] at K2 L2 R2
      clear hx hlt s1 R1
      go_upto_region 5 with fail
      generalize wr.alloc (.cells #[.int .i64 x.lba, .int .i64 x.len, .int .i64 x.phys] 56) = w2 at K2 L2 R2 ⊢
      generalize wr.heap.size = g2 at L2 ⊢
      obtain ⟨p0, p1, p2⟩ := L2.c
      clear f0 f1 f2 K2
      by_cases cx : x.phys = -1
      · have cb : (x.phys != -1) = false := by simp [cx]
        rw [if_pos cx, List.append_nil] at hT
        have R3 : Rr w1 w2 a' c' (solid (P.take (i + 1))) := by rw [hT]; exact R2
        have hE : Hid ((solid (P.take (i + 1))).length = (solid (P.take i)).length) := by show (solid (P.take (i + 1))).length = _; rw [hT]
        clear hT cx R2
        go_wp2_with fail
        go_roundw
        case rel => exact ⟨i + 1, a', c', hlt', by rw [show (solid (P.take (i + 1))).length = _ from hE], by go_num, R3⟩
        case measure => have : i < P.length := hlt'; simp [intOf]; omega
      · have cb : (x.phys != -1) = true := by simp [cx]
        rw [if_neg cx] at hT
        obtain ⟨a2, c2, w3, happ, R3⟩ := R2.app1 (by omega) x
        rw [← hT] at R3
        have hE : Hid ((solid (P.take (i + 1))).length = (solid (P.take i)).length + 1) := by show (solid (P.take (i + 1))).length = _; rw [hT]; simp
        clear hT cx R2
        go_wp2_with (at_builtin; refine wpList_append_run rfl (.tmp 18) (.tmp 20) 49 rfl (by rfl) (by rfl) happ ?_)
        go_roundw
        case rel => exact ⟨i + 1, a2, c2, hlt', by rw [show (solid (P.take (i + 1))).length = _ from hE], by go_num, R3⟩
        case measure => have : i < P.length := hlt'; simp [intOf]; omega
    · have di : ¬ (i : Int) < (P.length : Int) := by omega
      have ei : i = P.length := by omega
      rw [ei, List.take_length] at R1 ⊢
      clear hlt ei s1
      go_wp2_with fail
      go_ret
      exact ⟨_, _, rfl, R1.older hK1⟩
end Tg
end Go.Proofs.Ytbdankhlbepjoaa
