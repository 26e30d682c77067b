/-
  The runs of a list of pages are its pieces without the holes. What the flat map's small functions do: a row copied, its pieces, its runs. The flat map in memory, and what its calls do. The flat map made, a range set, a range cleared.
-/
import Derived.Test.YtkddonmddgfpnaaTd
import Derived.Test.YtkddonmddgfpnaaTr
import Derived.Deep.RegionHeld3
namespace Go.Proofs.Ytkddonmddgfpnaa
namespace Tg

/-- The pieces that go somewhere. -/
def solid (m : List Rn) : List Rn := m.filter (fun x => x.phys != -1)
theorem solid_snoc (a : List Rn) (x : Rn) : solid (a ++ [x]) = solid a ++ (if x.phys = -1 then [] else [x]) := by
  unfold solid
  rw [List.filter_append]
  congr 1
  by_cases h : x.phys = -1
  · simp [h]
  · simp [h]
theorem refP_last (t : List Int) (hb : ∀ i, -1 ≤ t.getD i (-1)) (lba : Nat) : ∀ i, ∃ a x, refP t lba (i + 1) = a ++ [x] ∧ -1 ≤ x.phys ∧ (x.phys < 0 ↔ t.getD (lba + i) (-1) < 0)
  | 0 => ⟨[], _, by rw [refP, if_neg (by omega), refP], by simp only; split <;> omega, by simp only; split <;> omega⟩
  | i + 1 => by
    obtain ⟨a, x, e, h1, h2⟩ := refP_last t hb lba i
    rw [refP]
    have hk : lba + (i + 1) - 1 = lba + i := by omega
    rw [hk]
    split
    · next c =>
      rw [e, grow_snoc]
      refine ⟨a, _, rfl, h1, ?_⟩
      show x.phys < 0 ↔ _
      rw [h2]
      omega
    · exact ⟨_, _, rfl, by simp only; split <;> omega, by simp only; split <;> omega⟩
/-- The document's own runs are the pieces of the whole without the holes. -/
theorem refR_solid (t : List Int) (hb : ∀ i, -1 ≤ t.getD i (-1)) : ∀ i, solid (refP t 0 i) = refR t i
  | 0 => rfl
  | i + 1 => by
    have ih := refR_solid t hb i
    have hbi := hb i
    have hP : refP t 0 (i + 1) = if 0 < i ∧ (t.getD i (-1) < 0 ∧ t.getD (i - 1) (-1) < 0 ∨ 0 ≤ t.getD i (-1) ∧ 0 ≤ t.getD (i - 1) (-1) ∧ t.getD (i - 1) (-1) + 1 = t.getD i (-1)) then grow (refP t 0 i) else refP t 0 i ++ [⟨(i : Int), 1, if t.getD i (-1) < 0 then -1 else t.getD i (-1)⟩] := by
      rw [refP]; simp only [Nat.zero_add]
    by_cases c0 : t.getD i (-1) < 0
    · have hR : refR t (i + 1) = refR t i := by rw [refR, if_pos c0]
      rw [hR]
      by_cases c1 : 0 < i ∧ t.getD (i - 1) (-1) < 0
      · rw [if_pos ⟨c1.1, Or.inl ⟨c0, c1.2⟩⟩] at hP
        rw [hP, ← ih]
        obtain ⟨j, rfl⟩ : ∃ j, i = j + 1 := ⟨i - 1, by omega⟩
        obtain ⟨a, x, e, h1, h2⟩ := refP_last t hb 0 j
        rw [Nat.add_sub_cancel] at c1
        rw [Nat.zero_add] at h2
        have hx : x.phys = -1 := by have := h2.2 c1.2; omega
        rw [e, grow_snoc, solid_snoc, solid_snoc, if_pos hx, if_pos hx]
      · rw [if_neg (fun h => by omega), if_pos c0] at hP
        rw [hP, solid_snoc, if_pos rfl, List.append_nil, ih]
    · by_cases c1 : 0 < i ∧ 0 ≤ t.getD (i - 1) (-1) ∧ t.getD (i - 1) (-1) + 1 = t.getD i (-1)
      · have hR : refR t (i + 1) = grow (refR t i) := by rw [refR, if_neg c0, if_pos c1]
        rw [if_pos ⟨c1.1, Or.inr ⟨by omega, c1.2⟩⟩] at hP
        rw [hR, hP, ← ih]
        obtain ⟨j, rfl⟩ : ∃ j, i = j + 1 := ⟨i - 1, by omega⟩
        obtain ⟨a, x, e, h1, h2⟩ := refP_last t hb 0 j
        rw [Nat.add_sub_cancel] at c1
        rw [Nat.zero_add] at h2
        have hx : ¬ x.phys = -1 := fun h => by have := h2.1 (by omega); omega
        rw [e, grow_snoc, solid_snoc, solid_snoc, if_neg hx, if_neg hx, grow_snoc]
      · have hR : refR t (i + 1) = refR t i ++ [⟨(i : Int), 1, t.getD i (-1)⟩] := by rw [refR, if_neg c0, if_neg c1]
        rw [if_neg (fun h => by omega), if_neg c0] at hP
        rw [hR, hP, solid_snoc, if_neg (by simp only; omega), ih]
end Tg
end Go.Proofs.Ytkddonmddgfpnaa
namespace Go.Proofs.Ytkddonmddgfpnaa
open Go.ChangeShapes Go.WideShapes Go.ChangeAt Go.RowKit
namespace Tg

set_option maxRecDepth 100000 in
theorem clone_any {w : World} {a : Option Addr} {c : Nat} {t : List Int} (h : Is w a c t) (h1 : 1 ≤ t.length) (h2 : t.length ≤ 512) :
    Calls Try.prog 43 #[.slice a t.length c] w fun e w' => ∃ a' c', e = .returned (.slice a' t.length c') ∧ Ri w w' a' c' t := by
  obtain ⟨g, rfl, -⟩ := h.at (i := 0) h1
  obtain ⟨a', c', w', happ, R⟩ := copy_ints h h1 h2
  have he : ∀ w : World, (binOp .eql 37 (.slice (some ⟨g, 0, none⟩) t.length c) (.slice none 0 0)).run Try.prog w = .ok (.bool false) w := fun _ => rfl
  clear h
  go_enter Try.func43, Try.ntmps43
  go_wp2_with (at_builtin; refine wpList_append_run rfl (.tmp 5) (.tmp 6) 37 rfl (by rfl) (by rfl) happ ?_)
  go_ret
  exact ⟨_, _, rfl, R⟩

/-- Are two neighbours' entries of one hole or of one run? -/
def tog (x y : Int) : Bool := if x = -1 then y == -1 else y == x + 1
set_option maxRecDepth 100000 in
theorem tog_any (w : World) {x : Int} (y : Int) (h1 : -1 ≤ x) (h2 : x ≤ 1049088) :
    Calls Try.prog 122 #[.int .i64 x, .int .i64 y] w fun e w' => e = .returned (.bool (tog x y)) ∧ w' = w := by
  unfold tog
  by_cases c : x = -1
  · have cb : (x == -1) = true := by simp [c]
    rw [if_pos c]
    clear c
    go_enter Try.func122, Try.ntmps122
    go_wp2_with fail
    go_ret
    exact ⟨rfl, rfl⟩
  · have cb : (x == -1) = false := by simp [c]
    rw [if_neg c]
    have dx := wrapI (x := x + 1) (by omega) (by omega)
    clear c
    go_enter Try.func122, Try.ntmps122
    go_wp2_with fail
    go_ret
    exact ⟨rfl, rfl⟩
theorem refP_tog {t : List Int} (hb : Tab t) (lba k : Nat) {i : Nat} (hi : i = lba + k) : refP t lba (k + 1) = if 0 < k ∧ tog (t.getD (i - 1) (-1)) (t.getD i (-1)) = true then grow (refP t lba k) else refP t lba k ++ [⟨(i : Int), 1, t.getD i (-1)⟩] := by
  have h1 := hb i
  have h2 := hb (i - 1)
  rw [refP, ← hi]
  have e1 : (if t.getD i (-1) < 0 then -1 else t.getD i (-1)) = t.getD i (-1) := by split <;> omega
  rw [e1]
  have e2 : (t.getD i (-1) < 0 ∧ t.getD (i - 1) (-1) < 0 ∨ 0 ≤ t.getD i (-1) ∧ 0 ≤ t.getD (i - 1) (-1) ∧ t.getD (i - 1) (-1) + 1 = t.getD i (-1)) ↔ tog (t.getD (i - 1) (-1)) (t.getD i (-1)) = true := by
    unfold tog
    generalize t.getD i (-1) = X at *
    generalize t.getD (i - 1) (-1) = Y at *
    by_cases c : Y = -1
    · rw [if_pos c]; simp; omega
    · rw [if_neg c]; simp; omega
  simp only [e2]

set_option maxRecDepth 100000 in
set_option maxHeartbeats 2000000 in
theorem piecesOf_any {w : World} {a : Option Addr} {c : Nat} {t : List Int} (h : Is w a c t) (h2 : t.length ≤ 512) (hb : Tab t) {lba n : Nat} (hr : lba + n ≤ t.length) {L E : Int} (eL : L = (lba : Int)) (eE : E = (lba : Int) + n) :
    Calls Try.prog 121 #[.slice a t.length c, .int .i64 L, .int .i64 E] w fun e w' => ∃ a' c', e = .returned (.slice a' (refP t lba n).length c') ∧ Rq w w' a' c' (refP t lba n) := by
  subst eL eE
  have R0 : Rq w w none 0 (refP t lba 0) := Rq.nil w
  have hc := h.1
  have hl : (t.length : Int) ≤ 512 := by omega
  go_enter Try.func121, Try.ntmps121
  go_wp2_with fail
  go_loopw [7, 8] (fun lv v wx => ∃ (k i : Nat) (a' : Option Addr) (c' : Nat), k ≤ n ∧ Hid (i = lba + k) ∧ lv = .slice a' (refP t lba k).length c' ∧ v = .int .i64 (i : Int) ∧ Rq w wx a' c' (refP t lba k)) (fun _ v _ => lba + n - (intOf v).toNat)
  case atStart => exact ⟨0, lba, _, _, by omega, rfl, rfl, rfl, R0⟩
  case round =>
    clear R0
    obtain ⟨k, i, a', c', hk, hik, rfl, rfl, R1⟩ := hrel
    have hik2 := (show i = lba + k from hik)
    by_cases hlt : k < n
    · obtain ⟨g, rfl, ci⟩ := (h.more R1.keep).at (i := i) (by omega)
      have hbi := hb i
      have hstep := refP_tog hb lba k hik2
      have hln := refP_len t lba k
      have di : (i : Int) < (lba : Int) + n := by omega
      have dit : (i : Int) < (t.length : Int) := by omega
      have dw := wrapI (x := (i : Int) + 1) (by omega) (by omega)
      have hlt' : Hid (k < n) := hlt
      have hcj : ∀ j, j + 1 = i → wr.cell? ⟨g, j, none⟩ = some (.int .i64 (t.getD j (-1))) := fun j hj => by
        obtain ⟨g', eg, cj⟩ := (h.more R1.keep).at (i := j) (by omega)
        injection eg with eg; injection eg with eg; subst eg; exact cj
      have hbj := fun j => hb j
      clear hik2
      generalize hX : t.getD i (-1) = X at ci hbi hstep
      clear h hb
      have hnew : refP t lba (k + 1) = refP t lba k ++ [⟨(i : Int), 1, X⟩] → ∀ w2, Keep (fun _ => False) wr w2 → ∃ a2 c2 w3, (Builtin.append_ #[55, 55] 55 #[.slice a' (refP t lba k).length c', .slice (some ⟨w2.heap.size, 0, none⟩) 1 1]).run Try.prog (w2.alloc (.cells #[.int .i64 (i : Int), .int .i64 1, .int .i64 X] 57)) = .ok (.slice a2 ((refP t lba k).length + 1) c2) w3 ∧ Rq w w3 a2 c2 (refP t lba (k + 1)) ∧ (refP t lba (k + 1)).length = (refP t lba k).length + 1 := fun e w2 k2 => by
        obtain ⟨a2, c2, w3, h1, h2⟩ := (R1.more k2).app1 (by omega) ⟨(i : Int), 1, X⟩
        exact ⟨a2, c2, w3, h1, by rw [e]; exact h2, by rw [e]; simp⟩
      by_cases hz : k = 0
      · have dz : ¬ (lba : Int) < (i : Int) := by have := (show i = lba + k from hik); omega
        have dzb : decide ((lba : Int) < (i : Int)) = false := decide_eq_false dz
        have dzc : decide (lba < i) = false := decide_eq_false (by omega)
        rw [if_neg (fun h => by omega)] at hstep
        have hn := hnew hstep
        clear hcj hbj hstep hnew hX hz
        go_upto_region 5 with fail
        go_quiet (fail)
        have k2 := (Keep.refl (fun _ => False) wr).drewN nq
        have ci2 := k2.cell ci
        generalize wr.drewN nq = w2 at k2 ci2 ⊢
        obtain ⟨a2, c2, w3, happ, R3, hE⟩ := hn w2 k2
        have hE' : Hid ((refP t lba (k + 1)).length = (refP t lba k).length + 1) := hE
        clear hn hE R1 ci k2
        go_wp2_with (at_builtin; refine wpList_append_run rfl (.tmp 40) (.tmp 47) 55 rfl (by rfl) (by rfl) happ ?_)
        go_roundw
        case rel => exact ⟨k + 1, i + 1, a2, c2, hlt', by have := (show i = lba + k from hik); show i + 1 = lba + (k + 1); omega, by rw [show (refP t lba (k + 1)).length = _ from hE'], by go_num, R3⟩
        case measure => have : k < n := hlt'; have := (show i = lba + k from hik); simp [intOf]; omega
      · obtain ⟨j, hij⟩ : ∃ j, j + 1 = i := ⟨i - 1, by have := (show i = lba + k from hik); omega⟩
        have hik2 := (show i = lba + k from hik)
        have cj := hcj j hij
        have bj := hbj j
        have ej : i - 1 = j := by omega
        rw [ej] at hstep
        have dz : (lba : Int) < (i : Int) := by omega
        have dzb : decide ((lba : Int) < (i : Int)) = true := decide_eq_true dz
        have dzc : decide (lba < i) = true := decide_eq_true (by omega)
        have djw : IntKind.i64.wrap ((i : Int) - 1) = (j : Int) := (wrapI (x := (i : Int) - 1) (by omega) (by omega)).trans (by omega)
        have djl : (j : Int) < (t.length : Int) := by omega
        clear hik2
        generalize t.getD j (-1) = Y at cj bj hstep
        have htg := fun wx => tog_any wx X bj.1 bj.2
        cases hT : tog Y X with
        | true =>
          rw [hT] at htg
          rw [if_pos ⟨by omega, hT⟩] at hstep
          obtain ⟨A, x, eA, hpre, xf, x1, x2, -⟩ := refP_ok t lba (k - 1) (by omega)
          rw [show k - 1 + 1 = k by omega] at eA xf
          have hxl := hpre.le
          rw [eA, grow_snoc] at hstep
          unfold Rn.fin at xf
          rw [eA] at R1 hln ⊢
          have hAl : (A ++ [x]).length = A.length + 1 := by simp
          rw [hAl] at hln ⊢
          have hEl : Hid ((refP t lba (k + 1)).length = A.length + 1) := by show (refP t lba (k + 1)).length = _; rw [hstep]; simp
          have hst' : Hid (refP t lba (k + 1) = A ++ [⟨x.lba, x.len + 1, x.phys⟩]) := hstep
          have dxl := wrapI (x := x.len + 1) (by omega) (by omega)
          have dA := wrapI (x := ((A.length + 1 : Nat) : Int) - 1) (by omega) (by omega)
          have dA2 : ((A.length + 1 : Nat) : Int) - 1 = (A.length : Int) := by omega
          rw [dA2] at dA
          have hrc := R1.rs.1
          rw [hAl] at hrc
          clear hcj hbj hstep hnew hX hz ej hij hT
          clear eA hpre x1 x2 hxl xf dA2 hAl
          go_upto_region 5 with fail
          go_quiet ((go_at_call 122; exact Calls.quiet_of_same (htg _)))
          have k2 := (Keep.refl (fun _ => False) wr).drewN nq
          have R2 := R1.more k2
          generalize wr.drewN nq = w2 at k2 R2 ⊢
          obtain ⟨g2, rfl, f0, f1, f2⟩ := R2.rs.at (i := A.length) (x := x) (by simp)
          have hfz := R2.own.frozenAt (A.length * 3 + 1)
          have R3 := R2.setLen (x.len + 1)
          rw [← (show refP t lba (k + 1) = _ from hst')] at R3
          clear R1 R2 ci k2 htg
          go_wp2_with fail
          go_roundw
          case rel => exact ⟨k + 1, i + 1, _, c', hlt', by have := (show i = lba + k from hik); show i + 1 = lba + (k + 1); omega, by rw [show (refP t lba (k + 1)).length = _ from hEl], by go_num, R3⟩
          case measure => have : k < n := hlt'; have := (show i = lba + k from hik); simp [intOf]; omega
        | false =>
          rw [hT] at htg
          rw [if_neg (fun h => by rw [hT] at h; simp at h)] at hstep
          have hn := hnew hstep
          clear hcj hbj hstep hnew hX hz ej hij hT
          go_upto_region 5 with fail
          go_quiet ((go_at_call 122; exact Calls.quiet_of_same (htg _)))
          have k2 := (Keep.refl (fun _ => False) wr).drewN nq
          have ci2 := k2.cell ci
          generalize wr.drewN nq = w2 at k2 ci2 ⊢
          obtain ⟨a2, c2, w3, happ, R3, hE⟩ := hn w2 k2
          have hE' : Hid ((refP t lba (k + 1)).length = (refP t lba k).length + 1) := hE
          clear hn hE R1 ci k2 htg
          go_wp2_with (at_builtin; refine wpList_append_run rfl (.tmp 40) (.tmp 47) 55 rfl (by rfl) (by rfl) happ ?_)
          go_roundw
          case rel => exact ⟨k + 1, i + 1, a2, c2, hlt', by have := (show i = lba + k from hik); show i + 1 = lba + (k + 1); omega, by rw [show (refP t lba (k + 1)).length = _ from hE'], by go_num, R3⟩
          case measure => have : k < n := hlt'; have := (show i = lba + k from hik); simp [intOf]; omega
    · have di : ¬ (i : Int) < (lba : Int) + n := by omega
      have ek : k = n := by omega
      rw [ek] at R1 ⊢
      clear hlt ek h hik2
      go_wp2_with fail
      go_ret
      exact ⟨_, _, rfl, R1⟩

theorem Rr.older {w0 w1 w : World} {a : Option Addr} {cap : Nat} {m : List Rn} (h : Rr w1 w a cap m) (k : Keep (fun _ => False) w0 w1) : Rr w0 w a cap m := by
  refine ⟨⟨h.own.1, h.own.2.imp id ?_⟩, k.trans h.keep⟩
  rintro ⟨g, c, cur, e, hb, hh, h1, h2, h3, h4⟩
  exact ⟨g, c, cur, e, by have := k.size; omega, hh, h1, h2, h3, h4⟩
theorem solid_len (m : List Rn) : (solid m).length ≤ m.length := List.length_filter_le _ _
set_option maxRecDepth 100000 in
set_option maxHeartbeats 2000000 in
theorem runsOf_any {w : World} {a : Option Addr} {c : Nat} {t : List Int} (h : Is w a c t) (h2 : t.length ≤ 512) (hb : Tab t) :
    Calls Try.prog 120 #[.slice a t.length c] w fun e w' => ∃ a' c', e = .returned (.slice a' (refR t t.length).length c') ∧ Rr w w' a' c' (refR t t.length) := by
  have hp := piecesOf_any h h2 hb (lba := 0) (n := t.length) (by omega) (L := 0) (E := (t.length : Int)) rfl (by omega)
  rw [← refR_solid t (fun i => (hb i).1)]
  have hln := refP_len t 0 t.length
  generalize refP t 0 t.length = P at hp hln ⊢
  have hP5 : P.length ≤ 512 := by omega
  clear h hb
  go_enter Try.func120, Try.ntmps120
  go_wp2_with (go_at_call 121; refine hp.mono ?_; rintro e w1 ⟨pa, pc, rfl, Q1⟩)
  have s1 := Q1.rs
  have hpc := s1.1
  have hK1 := Q1.keep
  have R0 : Rr w1 w1 none 0 (solid (P.take 0)) := Rr.nil w1
  have e0 : Hid ((solid (P.take 0)).length = 0) := by show (solid (P.take 0)).length = 0; simp [solid]
  clear hp hln h2 Q1
  go_loopw [3, 11] (fun lv v wx => ∃ (i : Nat) (a' : Option Addr) (c' : Nat), i ≤ P.length ∧ lv = .slice a' (solid (P.take i)).length c' ∧ v = .int .i64 (i : Int) ∧ Rr w1 wx a' c' (solid (P.take i))) (fun _ v _ => P.length - (intOf v).toNat)
  case atStart => exact ⟨0, none, 0, by omega, by rw [show (solid (P.take 0)).length = 0 from e0], rfl, R0⟩
  case round =>
    clear R0
    obtain ⟨i, a', c', hi, rfl, rfl, R1⟩ := hrel
    by_cases hlt : i < P.length
    · obtain ⟨x, hx⟩ := get_rn hlt
      obtain ⟨g, rfl, f0, f1, f2⟩ := (s1.more R1.keep).at hx
      have hT : solid (P.take (i + 1)) = solid (P.take i) ++ (if x.phys = -1 then [] else [x]) := by rw [take_next hx, solid_snoc]
      have hsl : (solid (P.take i)).length ≤ 512 := by have := solid_len (P.take i); simp at this; omega
      have di : (i : Int) < (P.length : Int) := by omega
      have dw := wrapI (x := (i : Int) + 1) (by omega) (by omega)
      have hlt' : Hid (i < P.length) := hlt
      have K2 : Keep (fun _ => False) wr (wr.alloc (.cells (rnA x) 57)) := (Keep.refl _ _).alloc _
      have L2 := Lrn.new45 wr x
      have R2 := R1.more K2
      rw [rnA_lit] at K2 L2 R2
      clear hx hlt s1 R1
      go_upto_region 5 with fail
      generalize wr.alloc (.cells #[.int .i64 x.lba, .int .i64 x.len, .int .i64 x.phys] 57) = w2 at K2 L2 R2 ⊢
      generalize wr.heap.size = g2 at L2 ⊢
      obtain ⟨p0, p1, p2⟩ := L2.c
      clear f0 f1 f2 K2
      by_cases cx : x.phys = -1
      · have cb : (x.phys != -1) = false := by simp [cx]
        rw [if_pos cx, List.append_nil] at hT
        have R3 : Rr w1 w2 a' c' (solid (P.take (i + 1))) := by rw [hT]; exact R2
        have hE : Hid ((solid (P.take (i + 1))).length = (solid (P.take i)).length) := by show (solid (P.take (i + 1))).length = _; rw [hT]
        clear hT cx R2
        go_wp2_with fail
        go_roundw
        case rel => exact ⟨i + 1, a', c', hlt', by rw [show (solid (P.take (i + 1))).length = _ from hE], by go_num, R3⟩
        case measure => have : i < P.length := hlt'; simp [intOf]; omega
      · have cb : (x.phys != -1) = true := by simp [cx]
        rw [if_neg cx] at hT
        obtain ⟨a2, c2, w3, happ, R3⟩ := R2.app1 (by omega) x
        rw [← hT] at R3
        have hE : Hid ((solid (P.take (i + 1))).length = (solid (P.take i)).length + 1) := by show (solid (P.take (i + 1))).length = _; rw [hT]; simp
        clear hT cx R2
        go_wp2_with (at_builtin; refine wpList_append_run rfl (.tmp 18) (.tmp 20) 32 rfl (by rfl) (by rfl) happ ?_)
        go_roundw
        case rel => exact ⟨i + 1, a2, c2, hlt', by rw [show (solid (P.take (i + 1))).length = _ from hE], by go_num, R3⟩
        case measure => have : i < P.length := hlt'; simp [intOf]; omega
    · have di : ¬ (i : Int) < (P.length : Int) := by omega
      have ei : i = P.length := by omega
      rw [ei, List.take_length] at R1 ⊢
      clear hlt ei s1
      go_wp2_with fail
      go_ret
      exact ⟨_, _, rfl, R1.older hK1⟩
end Tg
end Go.Proofs.Ytkddonmddgfpnaa
namespace Go.Proofs.Ytkddonmddgfpnaa
open Go.ChangeShapes Go.WideShapes Go.ChangeAt Go.RowKit
namespace Tg

/-- The map's two cells. -/
def ftop (N C : Nat) (a : Option Addr) (c : Nat) (i : Nat) : Value := if i = 0 then .int .i64 (N : Int) else .slice a C c
/-- A flat map whose blocks are among B (every later block is): its struct in q, most N, its entries t. -/
structure Fm (B : Nat → Prop) (wr : World) (q N C : Nat) (t : List Int) : Prop where
  ex : ∃ a c, Blk wr q 2 (ftop N C a c) ∧ Is wr a c t ∧ ∀ g, a = some ⟨g, 0, none⟩ → B g ∧ g ≠ q ∧ g < wr.heap.size
  bq : B q
  up : ∀ x, wr.heap.size ≤ x → B x
  tl : t.length = C
  tab : Tab t
  cap1 : 1 ≤ C
  cap2 : C ≤ 512
  N1 : 1 ≤ N
  N2 : N ≤ 512
  len : (refR t C).length ≤ N
theorem Fm.lt {B : Nat → Prop} {wr : World} {q N C : Nat} {t : List Int} (h : Fm B wr q N C t) : q < wr.heap.size := by
  obtain ⟨a, c, hb, -⟩ := h.ex
  exact hb.lt (by omega)
theorem Fm.other {S : Nat → Prop} {B : Nat → Prop} {wr w' : World} {q N C : Nat} {t : List Int} (h : Fm B wr q N C t) (k : Keep S wr w') (hS : ∀ x, S x → ¬ B x) : Fm B w' q N C t := by
  obtain ⟨a, c, hb, hi, hg⟩ := h.ex
  exact ⟨⟨a, c, hb.keep k (fun e => hS _ e h.bq), hi.keep k (fun g e s => hS _ s (hg g e).1), fun g e => ⟨(hg g e).1, (hg g e).2.1, by have := (hg g e).2.2; have := k.size; omega⟩⟩, h.bq, fun x hx => h.up x (Nat.le_trans k.size hx), h.tl, h.tab, h.cap1, h.cap2, h.N1, h.N2, h.len⟩
/-- Fewer blocks are let, and still its own and the later ones. -/
theorem Fm.among {B B' : Nat → Prop} {wr : World} {q N C : Nat} {t : List Int} (h : Fm B wr q N C t) (h1 : ∀ x, x < wr.heap.size → B x → B' x) (h2 : ∀ x, wr.heap.size ≤ x → B' x) : Fm B' wr q N C t := by
  obtain ⟨a, c, hb, hi, hg⟩ := h.ex
  exact ⟨⟨a, c, hb, hi, fun g e => ⟨h1 _ (hg g e).2.2 (hg g e).1, (hg g e).2⟩⟩, h1 _ (hb.lt (by omega)) h.bq, h2, h.tl, h.tab, h.cap1, h.cap2, h.N1, h.N2, h.len⟩
theorem Fm.more {B : Nat → Prop} {wr w' : World} {q N C : Nat} {t : List Int} (h : Fm B wr q N C t) (k : Keep (fun _ => False) wr w') : Fm B w' q N C t := h.other k (fun _ e => e.elim)

set_option maxRecDepth 100000 in
theorem fright {B : Nat → Prop} {wr : World} {q N C : Nat} {t : List Int} (h : Fm B wr q N C t) (lba n : Int) (hl : lba ≤ 9223372036854775807) :
    Calls Try.prog 118 #[.pointer (some ⟨q, 0, none⟩), .int .i64 lba, .int .i64 n] wr fun e w' => e = .returned (.bool (okR (C : Int) lba n)) ∧ w' = wr := by
  obtain ⟨a, c, hb, -, -⟩ := h.ex
  have c1 : wr.cell? ⟨q, 1, none⟩ = some (.slice a C c) := (hb 1 (by omega)).1
  have hc := h.cap2
  clear h hb
  unfold okR
  by_cases h1 : 1 ≤ n
  · by_cases h2 : 0 ≤ lba
    · have dw : IntKind.i64.wrap ((C : Int) - lba) = (C : Int) - lba := by rw [IntKind.wrap_i64] <;> omega
      go_enter Try.func118, Try.ntmps118
      go_wp2_with fail
      go_ret
      exact ⟨by simp [h1, h2], rfl⟩
    · go_enter Try.func118, Try.ntmps118
      go_wp2_with fail
      go_ret
      exact ⟨by simp; intros; omega, rfl⟩
  · go_enter Try.func118, Try.ntmps118
    go_wp2_with fail
    go_ret
    exact ⟨by simp; intros; omega, rfl⟩

set_option maxRecDepth 100000 in
theorem ftable {B : Nat → Prop} {wr : World} {q N C : Nat} {t : List Int} (h : Fm B wr q N C t) :
    Calls Try.prog 22 #[.pointer (some ⟨q, 0, none⟩)] wr fun e w' => ∃ a' c', e = .returned (.slice a' C c') ∧ Ri wr w' a' c' t := by
  obtain ⟨a, c, hb, hi, -⟩ := h.ex
  have c1 : wr.cell? ⟨q, 1, none⟩ = some (.slice a C c) := (hb 1 (by omega)).1
  have hcl := clone_any hi (by have := h.cap1; have := h.tl; omega) (by have := h.cap2; have := h.tl; omega)
  rw [h.tl] at hcl
  clear h hb hi
  go_enter Try.func22, Try.ntmps22
  go_wp2_with (go_at_call 43; refine hcl.mono ?_; rintro e w1 ⟨a', c', rfl, R1⟩)
  go_ret
  exact ⟨_, _, rfl, R1⟩
set_option maxRecDepth 100000 in
theorem fruns {B : Nat → Prop} {wr : World} {q N C : Nat} {t : List Int} (h : Fm B wr q N C t) :
    Calls Try.prog 116 #[.pointer (some ⟨q, 0, none⟩)] wr fun e w' => ∃ a' c', e = .returned (.slice a' (refR t C).length c') ∧ Rr wr w' a' c' (refR t C) := by
  obtain ⟨a, c, hb, hi, -⟩ := h.ex
  have c1 : wr.cell? ⟨q, 1, none⟩ = some (.slice a C c) := (hb 1 (by omega)).1
  have hcl := runsOf_any hi (by have := h.cap2; have := h.tl; omega) h.tab
  rw [h.tl] at hcl
  clear h hb hi
  generalize refR t C = m at hcl ⊢
  go_enter Try.func116, Try.ntmps116
  go_wp2_with (go_at_call 120; refine hcl.mono ?_; rintro e w1 ⟨a', c', rfl, R1⟩)
  go_ret
  exact ⟨_, _, rfl, R1⟩
set_option maxRecDepth 100000 in
theorem fcap {B : Nat → Prop} {wr : World} {q N C : Nat} {t : List Int} (h : Fm B wr q N C t) :
    Calls Try.prog 110 #[.pointer (some ⟨q, 0, none⟩)] wr fun e w' => e = .returned (.int .i64 (C : Int)) ∧ w' = wr := by
  obtain ⟨a, c, hb, -, -⟩ := h.ex
  have c1 : wr.cell? ⟨q, 1, none⟩ = some (.slice a C c) := (hb 1 (by omega)).1
  clear h hb
  go_enter Try.func110, Try.ntmps110
  go_wp2_with fail
  go_ret
  exact ⟨rfl, rfl⟩
set_option maxRecDepth 100000 in
theorem fmost {B : Nat → Prop} {wr : World} {q N C : Nat} {t : List Int} (h : Fm B wr q N C t) :
    Calls Try.prog 114 #[.pointer (some ⟨q, 0, none⟩)] wr fun e w' => e = .returned (.int .i64 (N : Int)) ∧ w' = wr := by
  obtain ⟨a, c, hb, -, -⟩ := h.ex
  have c1 : wr.cell? ⟨q, 0, none⟩ = some (.int .i64 (N : Int)) := (hb 0 (by omega)).1
  clear h hb
  go_enter Try.func114, Try.ntmps114
  go_wp2_with fail
  go_ret
  exact ⟨rfl, rfl⟩
/-- Done, or too many runs and nothing changed. -/
def Fid (B : Nat → Prop) (wa : World) (q N C : Nat) (u : List Int) (e : Ending) (w' : World) : Prop :=
  ((refR u C).length ≤ N ∧ e = .returned (.int .i64 0) ∧ Fm B w' q N C u ∧ Keep (fun x => x = q) wa w') ∨ (N < (refR u C).length ∧ e = .returned (.int .i64 5) ∧ Keep (fun _ => False) wa w')
theorem ftop_set (N C : Nat) (a : Option Addr) (c : Nat) (a' : Option Addr) (c' : Nat) (i : Nat) (hi : i < 2) : (if i = 1 then Value.slice a' C c' else ftop N C a c i) = ftop N C a' c' i := by
  unfold ftop
  have : i = 0 ∨ i = 1 := by omega
  rcases this with rfl | rfl <;> rfl
set_option maxRecDepth 100000 in
theorem ftake {B : Nat → Prop} {wr : World} {q N C : Nat} {t : List Int} (h : Fm B wr q N C t) {a' : Option Addr} {c' : Nat} {u : List Int} (hu : Is wr a' c' u) (hg : ∀ g, a' = some ⟨g, 0, none⟩ → B g ∧ g ≠ q ∧ g < wr.heap.size) (hul : u.length = C) (hub : Tab u) :
    Calls Try.prog 119 #[.pointer (some ⟨q, 0, none⟩), .slice a' C c'] wr (Fid B wr q N C u) := by
  obtain ⟨a, c, hb, -, -⟩ := h.ex
  have hru := runsOf_any (hu.more (Keep.refl (fun _ => False) wr).drew) (by have := h.cap2; omega) hub
  rw [hul] at hru
  have hlen := refR_len u C
  have hcap := h.cap2
  have hN2 := h.N2
  have hS : ∀ w', Keep (fun _ => False) wr.drew w' → w'.cell? ⟨q, 0, none⟩ = some (.int .i64 (N : Int)) := fun w' hk => (Blk.keep hb ((Keep.refl (fun _ => False) wr).drew.trans hk) (fun e => e) 0 (by omega)).1
  have hF : ∀ w', Keep (fun _ => False) wr w' → (refR u C).length ≤ N → w'.cell? ⟨q, 1, none⟩ = some (.slice a C c) ∧ w'.frozen? ⟨q, 1, none⟩ = false ∧ Fm B (w'.setCell ⟨q, 1, none⟩ (.slice a' C c')) q N C u ∧ Keep (fun x => x = q) wr (w'.setCell ⟨q, 1, none⟩ (.slice a' C c')) := fun w' hk hle => by
    have hb' := Blk.keep hb hk (fun e => e)
    have hk2 : Keep (fun x => x = q) wr (w'.setCell ⟨q, 1, none⟩ (.slice a' C c')) := Keep.setCell (S := fun x => x = q) (hk.mono (fun _ _ e => e.elim)) (p := ⟨q, 1, none⟩) (Or.inl rfl) _
    exact ⟨(hb' 1 (by omega)).1, (hb' 1 (by omega)).2, ⟨⟨a', c', (hb'.set 1 (.slice a' C c')).congr (fun i hi => ftop_set N C a c a' c' i hi), hu.keep hk2 (fun g e e2 => (hg g e).2.1 e2), fun g e => ⟨(hg g e).1, (hg g e).2.1, Nat.lt_of_lt_of_le (hg g e).2.2 hk2.size⟩⟩, h.bq, fun x hx => h.up x (Nat.le_trans hk2.size hx), hul, hub, h.cap1, h.cap2, h.N1, h.N2, hle⟩, hk2⟩
  unfold Fid
  clear h hb hu
  generalize refR u C = m at hru hlen hF ⊢
  go_enter Try.func119, Try.ntmps119
  go_upto_region 1 with fail
  by_cases hf : m.length ≤ N
  · have dN : ¬ (N : Int) < (m.length : Int) := by omega
    have dNb : decide ((N : Int) < (m.length : Int)) = false := decide_eq_false dN
    have dNc : decide (N < m.length) = false := decide_eq_false (by omega)
    go_region_held3 (fun w' => w'.cell? ⟨q, 0, none⟩ = some (.int .i64 (N : Int))) (first | exact hS _ (Keep.refl _ _) | exact hS _ k1) ((go_at_call 120; refine hru.mono ?_; rintro e w1 ⟨a1, c1, rfl, R1⟩; have k1 := R1.keep))
    obtain ⟨x1, x2, x3, x4⟩ := hF w1 ((Keep.refl (fun _ => False) wr).drew.trans k1) hf
    clear hF hru hS R1
    go_wp2_with fail
    go_ret
    exact Or.inl ⟨hf, rfl, x3, x4⟩
  · have dN : (N : Int) < (m.length : Int) := by omega
    have dNb : decide ((N : Int) < (m.length : Int)) = true := decide_eq_true dN
    have dNc : decide (N < m.length) = true := decide_eq_true (by omega)
    go_region_held3 (fun w' => w'.cell? ⟨q, 0, none⟩ = some (.int .i64 (N : Int))) (first | exact hS _ (Keep.refl _ _) | exact hS _ k1) ((go_at_call 120; refine hru.mono ?_; rintro e w1 ⟨a1, c1, rfl, R1⟩; have k1 := R1.keep))
    have k2 := (Keep.refl (fun _ => False) wr).drew.trans k1
    clear hF hru hS R1
    go_wp2_with fail
    go_ret
    exact Or.inr ⟨by omega, rfl, k2⟩
end Tg
end Go.Proofs.Ytkddonmddgfpnaa
namespace Go.Proofs.Ytkddonmddgfpnaa
open Go.ChangeShapes Go.WideShapes Go.ChangeAt Go.RowKit
namespace Tg

set_option maxRecDepth 100000 in
set_option maxHeartbeats 1000000 in
theorem newF_any {B : Nat → Prop} {w : World} (hB : ∀ x, w.heap.size ≤ x → B x) {C N : Nat} (c1 : 1 ≤ C) (c2 : C ≤ 512) (n1 : 1 ≤ N) (n2 : N ≤ 512) :
    Calls Try.prog 28 #[.int .i64 (C : Int), .int .i64 (N : Int)] w fun e w' => ∃ q, e = .returned (.tuple #[.pointer (some ⟨q, 0, none⟩), .int .i64 0]) ∧ Fm B w' q N C (List.replicate C (-1)) ∧ Keep (fun _ => False) w w' := by
  have hmk := make_ints C c2 w
  have R0 : Ri w (w.alloc (.cells (madeCells #[.int .i64 0] C) 3)) (some ⟨w.heap.size, 0, none⟩) C (nw C 0) := ri_made w C c2
  generalize w.alloc (.cells (madeCells #[.int .i64 0] C) 3) = w1 at hmk R0
  generalize hG : w.heap.size = G at hmk R0
  have hG' : Hid (w.heap.size = G) := hG
  have hB' : Hid (∀ x, G ≤ x → B x) := by rw [hG] at hB; exact hB
  clear hB
  have d1 : ¬ (C : Int) < 1 := by omega
  have d2 : ¬ (512 : Int) < C := by omega
  have d3 : ¬ (N : Int) < 1 := by omega
  have d4 : ¬ (512 : Int) < N := by omega
  clear hG
  go_enter Try.func28, Try.ntmps28
  go_wp2_with fail
  clear hmk
  go_loopw [26] (fun v wx => ∃ i : Nat, i ≤ C ∧ v = .int .i64 (i : Int) ∧ Ri w wx (some ⟨G, 0, none⟩) C (nw C i)) (fun v _ => C - (intOf v).toNat)
  case atStart => exact ⟨0, by omega, rfl, R0⟩
  case round =>
    clear R0
    obtain ⟨i, hi, rfl, R1⟩ := hrel
    by_cases hlt : i < C
    · obtain ⟨g, eg, c0⟩ := R1.is.at (i := i) (by rw [nw_len]; exact hlt)
      injection eg with eg; injection eg with eg; subst eg
      have z0 := R1.fz i
      have R2 := R1.set i (-1)
      have di : (i : Int) < (C : Int) := by omega
      have dw := wrapI (x := (i : Int) + 1) (by omega) (by omega)
      have hlt' : Hid (i < C) := hlt
      clear hlt R1
      go_wp2_with fail
      go_roundw
      case rel => exact ⟨i + 1, hlt', by go_num, R2⟩
      case measure => have : i < C := hlt'; simp [intOf]; omega
    · have di : ¬ (i : Int) < (C : Int) := by omega
      have ei : i = C := by omega
      rw [ei, nw_end] at R1
      have k2 : Keep (fun _ => False) wr (wr.alloc (.cells #[.int .i64 (N : Int), .slice (some ⟨G, 0, none⟩) C C] 80)) := (Keep.refl _ _).alloc _
      have hgb := R1.block rfl
      have hGe : w.heap.size = G := hG'
      have hB2 : ∀ x, G ≤ x → B x := hB'
      have F : Fm B (wr.alloc (.cells #[.int .i64 (N : Int), .slice (some ⟨G, 0, none⟩) C C] 80)) wr.heap.size N C (List.replicate C (-1)) :=
        ⟨⟨some ⟨G, 0, none⟩, C, blk_alloc wr _ 80 2 _ (fun j hj => by
            have : j = 0 ∨ j = 1 := by omega
            rcases this with rfl | rfl <;> rfl), (R1.more k2).is, fun g e => by
            injection e with e; injection e with e
            subst e
            have := k2.size
            exact ⟨hB2 _ (by omega), by omega, by omega⟩⟩, hB2 _ (by have := R1.keep.size; omega), fun x hx => hB2 _ (by have := R1.keep.size; have := k2.size; omega), by simp, tab_nil C, c1, c2, n1, n2, by
          have := (of_nil C).runs
          rw [List.length_replicate] at this
          rw [← this]; simp⟩
      have K2 := R1.keep.trans k2
      clear hlt ei R1 k2 hgb hGe hB2
      go_wp2_with fail
      go_ret2
      exact ⟨_, rfl, F, K2⟩
set_option maxRecDepth 100000 in
theorem newF_no {w : World} {c n : Int} (h : c < 1 ∨ 512 < c ∨ n < 1 ∨ 512 < n) :
    Calls Try.prog 28 #[.int .i64 c, .int .i64 n] w fun e w' => e = .returned (.tuple #[.pointer none, .int .i64 1]) ∧ w' = w := by
  by_cases h1 : c < 1
  · clear h
    go_enter Try.func28, Try.ntmps28
    go_wp2_with fail
    go_ret2
    exact ⟨rfl, rfl⟩
  by_cases h2 : 512 < c
  · clear h
    go_enter Try.func28, Try.ntmps28
    go_wp2_with fail
    go_ret2
    exact ⟨rfl, rfl⟩
  by_cases h3 : n < 1
  · clear h
    go_enter Try.func28, Try.ntmps28
    go_wp2_with fail
    go_ret2
    exact ⟨rfl, rfl⟩
  have h4 : 512 < n := by omega
  clear h
  go_enter Try.func28, Try.ntmps28
  go_wp2_with fail
  go_ret2
  exact ⟨rfl, rfl⟩

theorem Fid.first {B : Nat → Prop} {wa wb : World} {q N C : Nat} {u : List Int} {e : Ending} {w' : World} (h : Fid B wb q N C u e w') (k : Keep (fun _ => False) wa wb) : Fid B wa q N C u e w' := by
  rcases h with ⟨h1, h2, h3, h4⟩ | ⟨h1, h2, h3⟩
  · exact Or.inl ⟨h1, h2, h3, (k.mono (fun _ _ e => e.elim)).trans h4⟩
  · exact Or.inr ⟨h1, h2, k.trans h3⟩
/-- What it answers is known ahead. -/
theorem Fid.code {B : Nat → Prop} {wa wb : World} {q N C : Nat} {u : List Int} {f : FuncId} {vs : Array Value} (h : Calls Try.prog f vs wb (Fid B wa q N C u)) :
    ∃ r : Int, Calls Try.prog f vs wb fun e w' => e = .returned (.int .i64 r) ∧ Fid B wa q N C u (.returned (.int .i64 r)) w' := by
  by_cases c : (refR u C).length ≤ N
  · refine ⟨0, h.mono ?_⟩
    rintro e w' (⟨h1, rfl, h3⟩ | ⟨h1, h2⟩)
    · exact ⟨rfl, Or.inl ⟨h1, rfl, h3⟩⟩
    · omega
  · refine ⟨5, h.mono ?_⟩
    rintro e w' (⟨h1, h2⟩ | ⟨h1, rfl, h3⟩)
    · omega
    · exact ⟨rfl, Or.inr ⟨h1, rfl, h3⟩⟩
/-- A row made since the map was is apart from it. -/
theorem Fm.apart {B : Nat → Prop} {wa w' : World} {q N C : Nat} {t u : List Int} {a' : Option Addr} {c' : Nat} (h : Fm B wa q N C t) (R : Ri wa w' a' c' u) : ∀ g, a' = some ⟨g, 0, none⟩ → B g ∧ g ≠ q ∧ g < w'.heap.size := fun g e => by
  have h1 := h.lt
  have h3 := R.block e
  exact ⟨h.up g h3.1, by omega, h3.2⟩
set_option maxRecDepth 100000 in
set_option maxHeartbeats 1000000 in
theorem fset {B : Nat → Prop} {wa : World} {q N C : Nat} {t : List Int} (h : Fm B wa q N C t) {L M : Nat} {phys : Int} (hM : 1 ≤ M) (hr : L + M ≤ C) (p1 : 0 ≤ phys) (p2 : phys ≤ 1048576) :
    Calls Try.prog 117 #[.pointer (some ⟨q, 0, none⟩), .int .i64 (L : Int), .int .i64 (M : Int), .int .i64 phys] wa (Fid B wa q N C (putN t L phys M)) := by
  have hrt := fright h (L : Int) (M : Int) (by have := h.cap2; omega)
  rw [okR_iff.2 ⟨by omega, by omega, by omega⟩] at hrt
  have htb := ftable h
  have hcap := h.cap2
  have htl := h.tl
  have d1 : ¬ phys < 0 := by omega
  have d2 : ¬ 1048576 < phys := by omega
  have hput : ∀ i, putN t L phys (i + 1) = (putN t L phys i).set (L + i) (phys + i) := fun i => by rw [putN, if_neg d1]
  have hfin : ∀ w1 a' c', Ri wa w1 a' c' (putN t L phys M) → Calls Try.prog 119 #[.pointer (some ⟨q, 0, none⟩), .slice a' C c'] w1 (Fid B wa q N C (putN t L phys M)) := fun w1 a' c' R =>
    (ftake (h.more R.keep) R.is (h.apart R) (by rw [putN_len]; exact htl) (putN_tab h.tab (by omega) (by omega) p2)).mono (fun _ _ hD => hD.first R.keep)
  have hpl : ∀ i, (putN t L phys i).length = C := fun i => by rw [putN_len]; exact htl
  have hcc : ∀ w1 a' c' i, Ri wa w1 a' c' (putN t L phys i) → C ≤ c' := fun w1 a' c' i R => by have := R.is.1; rw [hpl] at this; exact this
  have R0' : ∀ w1 a' c', Ri wa w1 a' c' t → Ri wa w1 a' c' (putN t L phys 0) := fun _ _ _ R => R
  clear h htl
  go_enter Try.func117, Try.ntmps117
  go_wp2_with (first | (go_at_call 118; refine hrt.mono ?_; rintro e w1 ⟨rfl, e1⟩; have e1 := e1.symm; subst e1) | (go_at_call 22; refine htb.mono ?_; rintro e w2 ⟨a', c', rfl, R2⟩))
  have R3 := R0' _ _ _ R2
  have hc' := hcc _ _ _ _ R3
  clear hrt htb R2 R0' hcc
  go_loopw [27] (fun v wx => ∃ i : Nat, i ≤ M ∧ v = .int .i64 (i : Int) ∧ Ri wa wx a' c' (putN t L phys i)) (fun v _ => M - (intOf v).toNat)
  case atStart => exact ⟨0, by omega, rfl, R3⟩
  case round =>
    clear R3
    obtain ⟨i, hi, rfl, R1⟩ := hrel
    by_cases hlt : i < M
    · obtain ⟨g, rfl, c0⟩ := R1.is.at (i := L + i) (by rw [hpl]; omega)
      have z0 := R1.fz (L + i)
      have R2 := R1.set (L + i) (phys + i)
      rw [← hput] at R2
      have di : (i : Int) < (M : Int) := by omega
      have dw := wrapI (x := (i : Int) + 1) (by omega) (by omega)
      have ds := wrapI (x := (L : Int) + i) (by omega) (by omega)
      have dsl : (L : Int) + i < (C : Int) := by omega
      have ds0 : ¬ (L : Int) + i < 0 := by omega
      have dp := wrapI (x := phys + i) (by omega) (by omega)
      have hlt' : Hid (i < M) := hlt
      clear hlt R1 hput hfin hpl
      go_wp2_with fail
      go_roundw
      case rel => exact ⟨i + 1, hlt', by go_num, R2⟩
      case measure => have : i < M := hlt'; simp [intOf]; omega
    · have di : ¬ (i : Int) < (M : Int) := by omega
      have ei : i = M := by omega
      rw [ei] at R1
      obtain ⟨r, hT⟩ := Fid.code (hfin _ _ _ R1)
      clear hlt ei hput hfin hpl R1
      go_wp2_with (go_at_call 119; refine hT.mono ?_; rintro e w3 ⟨rfl, hD⟩)
      go_ret
      exact hD
set_option maxRecDepth 100000 in
set_option maxHeartbeats 1000000 in
theorem fclear {B : Nat → Prop} {wa : World} {q N C : Nat} {t : List Int} (h : Fm B wa q N C t) {L M : Nat} (hM : 1 ≤ M) (hr : L + M ≤ C) :
    Calls Try.prog 111 #[.pointer (some ⟨q, 0, none⟩), .int .i64 (L : Int), .int .i64 (M : Int)] wa (Fid B wa q N C (putN t L (-1) M)) := by
  have hrt := fright h (L : Int) (M : Int) (by have := h.cap2; omega)
  rw [okR_iff.2 ⟨by omega, by omega, by omega⟩] at hrt
  have htb := ftable h
  have hcap := h.cap2
  have htl := h.tl
  have hput : ∀ i, putN t L (-1) (i + 1) = (putN t L (-1) i).set (L + i) (-1) := fun i => by rw [putN, if_pos (by omega)]
  have hfin : ∀ w1 a' c', Ri wa w1 a' c' (putN t L (-1) M) → Calls Try.prog 119 #[.pointer (some ⟨q, 0, none⟩), .slice a' C c'] w1 (Fid B wa q N C (putN t L (-1) M)) := fun w1 a' c' R =>
    (ftake (h.more R.keep) R.is (h.apart R) (by rw [putN_len]; exact htl) (putN_tab h.tab (by omega) (by omega) (by omega))).mono (fun _ _ hD => hD.first R.keep)
  have hpl : ∀ i, (putN t L (-1) i).length = C := fun i => by rw [putN_len]; exact htl
  have hcc : ∀ w1 a' c' i, Ri wa w1 a' c' (putN t L (-1) i) → C ≤ c' := fun w1 a' c' i R => by have := R.is.1; rw [hpl] at this; exact this
  have R0' : ∀ w1 a' c', Ri wa w1 a' c' t → Ri wa w1 a' c' (putN t L (-1) 0) := fun _ _ _ R => R
  clear h htl
  go_enter Try.func111, Try.ntmps111
  go_wp2_with (first | (go_at_call 118; refine hrt.mono ?_; rintro e w1 ⟨rfl, e1⟩; have e1 := e1.symm; subst e1) | (go_at_call 22; refine htb.mono ?_; rintro e w2 ⟨a', c', rfl, R2⟩))
  have R3 := R0' _ _ _ R2
  have hc' := hcc _ _ _ _ R3
  clear hrt htb R2 R0' hcc
  go_loopw [17] (fun v wx => ∃ i : Nat, i ≤ M ∧ v = .int .i64 (i : Int) ∧ Ri wa wx a' c' (putN t L (-1) i)) (fun v _ => M - (intOf v).toNat)
  case atStart => exact ⟨0, by omega, rfl, R3⟩
  case round =>
    clear R3
    obtain ⟨i, hi, rfl, R1⟩ := hrel
    by_cases hlt : i < M
    · obtain ⟨g, rfl, c0⟩ := R1.is.at (i := L + i) (by rw [hpl]; omega)
      have z0 := R1.fz (L + i)
      have R2 := R1.set (L + i) (-1)
      rw [← hput] at R2
      have di : (i : Int) < (M : Int) := by omega
      have dw := wrapI (x := (i : Int) + 1) (by omega) (by omega)
      have ds := wrapI (x := (L : Int) + i) (by omega) (by omega)
      have dsl : (L : Int) + i < (C : Int) := by omega
      have ds0 : ¬ (L : Int) + i < 0 := by omega
      have hlt' : Hid (i < M) := hlt
      clear hlt R1 hput hfin hpl
      go_wp2_with fail
      go_roundw
      case rel => exact ⟨i + 1, hlt', by go_num, R2⟩
      case measure => have : i < M := hlt'; simp [intOf]; omega
    · have di : ¬ (i : Int) < (M : Int) := by omega
      have ei : i = M := by omega
      rw [ei] at R1
      obtain ⟨r, hT⟩ := Fid.code (hfin _ _ _ R1)
      clear hlt ei hput hfin hpl R1
      go_wp2_with (go_at_call 119; refine hT.mono ?_; rintro e w3 ⟨rfl, hD⟩)
      go_ret
      exact hD
set_option maxRecDepth 100000 in
theorem fset_no {B : Nat → Prop} {wa : World} {q N C : Nat} {t : List Int} (h : Fm B wa q N C t) {lba n phys : Int} (hl : lba ≤ 9223372036854775807) (hno : okR (C : Int) lba n = false ∨ phys < 0 ∨ 1048576 < phys) :
    Calls Try.prog 117 #[.pointer (some ⟨q, 0, none⟩), .int .i64 lba, .int .i64 n, .int .i64 phys] wa fun e w' => e = .returned (.int .i64 1) ∧ w' = wa := by
  have hrt := fright h lba n hl
  clear h
  cases ho : okR (C : Int) lba n with
  | false =>
    rw [ho] at hrt
    clear hno
    go_enter Try.func117, Try.ntmps117
    go_wp2_with (go_at_call 118; refine hrt.mono ?_; rintro e w1 ⟨rfl, e1⟩; have e1 := e1.symm; subst e1)
    go_ret
    exact ⟨rfl, rfl⟩
  | true =>
    rw [ho] at hrt
    have hp := hno.resolve_left (by rw [ho]; simp)
    by_cases c1 : phys < 0
    · clear hno hp
      go_enter Try.func117, Try.ntmps117
      go_wp2_with (go_at_call 118; refine hrt.mono ?_; rintro e w1 ⟨rfl, e1⟩; have e1 := e1.symm; subst e1)
      go_ret
      exact ⟨rfl, rfl⟩
    · have c2 : 1048576 < phys := by omega
      clear hno hp
      go_enter Try.func117, Try.ntmps117
      go_wp2_with (go_at_call 118; refine hrt.mono ?_; rintro e w1 ⟨rfl, e1⟩; have e1 := e1.symm; subst e1)
      go_ret
      exact ⟨rfl, rfl⟩
set_option maxRecDepth 100000 in
theorem fclear_no {B : Nat → Prop} {wa : World} {q N C : Nat} {t : List Int} (h : Fm B wa q N C t) {lba n : Int} (hl : lba ≤ 9223372036854775807) (ho : okR (C : Int) lba n = false) :
    Calls Try.prog 111 #[.pointer (some ⟨q, 0, none⟩), .int .i64 lba, .int .i64 n] wa fun e w' => e = .returned (.int .i64 1) ∧ w' = wa := by
  have hrt := fright h lba n hl
  rw [ho] at hrt
  clear h ho
  go_enter Try.func111, Try.ntmps111
  go_wp2_with (go_at_call 118; refine hrt.mono ?_; rintro e w1 ⟨rfl, e1⟩; have e1 := e1.symm; subst e1)
  go_ret
  exact ⟨rfl, rfl⟩
end Tg
end Go.Proofs.Ytkddonmddgfpnaa
