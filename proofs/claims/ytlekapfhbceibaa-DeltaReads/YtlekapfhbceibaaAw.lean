/-
  The awakening, walked.
-/
import Derived.Test.YtlekapfhbceibaaPj
namespace Go.Proofs.Ytlekapfhbceibaa
open Go.ChangeShapes Go.WideShapes Go.ChangeAt Go.RowKit
namespace Tg
open Vi
theorem litC1 : decL [1, 10, 2, 202, 1] = some [⟨5, 2, 100⟩] := by kernel_rfl
theorem litS1 : decS [2, 0, 1, 20, 1, 0, 15] = some [⟨0, 2, 10⟩, ⟨3, 1, 4⟩] := by kernel_rfl
theorem litC3 : decL [3, 10, 2, 202, 1, 0, 1, 2, 15, 1, 0] = some [⟨5, 2, 100⟩, ⟨7, 1, 102⟩, ⟨0, 1, -1⟩] := by kernel_rfl
theorem litC0 : decL [0] = some [] := by kernel_rfl
theorem litN1 : decL [1, 10] = none := by kernel_rfl
theorem litN2 : decS [1, 0, 0, 0, 9] = none := by kernel_rfl
theorem litN3 : decS [2, 0, 0, 0, 0, 0, 0] = none := by kernel_rfl
theorem bys_lit {b : List Int} (h : b.all (fun x => decide (0 ≤ x) && decide (x ≤ 255)) = true) : Bys b := fun x hx => by
  have := List.all_eq_true.1 h x hx
  simpa using this
theorem recC1 : MayL [⟨5, 2, 100⟩] ∧ recL [⟨5, 2, 100⟩] = [1, 10, 2, 202, 1] := (decL_iff (bys_lit (by decide))).1 litC1
theorem snS1 : FitL [⟨0, 2, 10⟩, ⟨3, 1, 4⟩] ∧ snL [⟨0, 2, 10⟩, ⟨3, 1, 4⟩] = [2, 0, 1, 20, 1, 0, 15] := (decS_iff (bys_lit (by decide))).1 litS1
theorem recC3 : MayL [⟨5, 2, 100⟩, ⟨7, 1, 102⟩, ⟨0, 1, -1⟩] ∧ recL [⟨5, 2, 100⟩, ⟨7, 1, 102⟩, ⟨0, 1, -1⟩] = [3, 10, 2, 202, 1, 0, 1, 2, 15, 1, 0] := (decL_iff (bys_lit (by decide))).1 litC3
theorem recC0 : MayL [] ∧ recL [] = [0] := (decL_iff (bys_lit (by decide))).1 litC0
theorem fits_lit {l : List Rn} (h : MayL l) : Fits l := fun x hx => by
  have := h.2 x hx
  unfold MayX at this
  omega
theorem rec_call {w : World} {a : Option Addr} {cap n : Nat} {l : List Rn} {b : List Int} (hR : Rz w a cap l) (hn : l.length = n) (h : MayL l ∧ recL l = b) :
    Calls Try.prog 9 #[.slice a n cap] w fun e w' => ∃ a' c', e = .returned (.tuple #[.slice a' b.length c', .int .i64 0]) ∧ Row w' a' b.length c' b ∧ Keep (fun _ => False) w w' := by
  have := record_ok hR (fits_lit h.1)
  rw [mayB_iff.2 h.1] at this
  simp only [↓reduceIte, h.2, hn] at this
  exact this.mono (fun e w' ⟨⟨a', c', h1, h2⟩, h3⟩ => ⟨a', c', h1, h2, h3⟩)
theorem sn_call {w : World} {a : Option Addr} {cap n : Nat} {l : List Rn} {b : List Int} (hR : Rz w a cap l) (hn : l.length = n) (h : FitL l ∧ snL l = b) :
    Calls Try.prog 20 #[.slice a n cap] w fun e w' => ∃ a' c', e = .returned (.tuple #[.slice a' b.length c', .int .i64 0]) ∧ Row w' a' b.length c' b ∧ Keep (fun _ => False) w w' := by
  have := snap_ok hR (fits_lit h.1.may)
  rw [fitB_iff.2 h.1] at this
  simp only [↓reduceIte, h.2, hn] at this
  exact this.mono (fun e w' ⟨⟨a', c', h1, h2⟩, h3⟩ => ⟨a', c', h1, h2, h3⟩)
theorem chg_call {w : World} {a : Option Addr} {len cap : Nat} {b : List Int} {l : List Rn} (hr : Row w a len cap b) (hl : len ≤ 140737488355000) (h : decL b = some l) :
    Calls Try.prog 10 #[.slice a len cap] w fun e w' => ∃ a' c', e = .returned (.tuple #[.slice a' l.length c', .int .i64 0]) ∧ Rz w' a' c' l ∧ Keep (fun _ => False) w w' := by
  have := changes_ok hr hl
  rw [h] at this
  exact this.mono (fun e w' ⟨⟨a', c', h1, h2⟩, h3⟩ => ⟨a', c', h1, h2, h3⟩)
theorem run_call {w : World} {a : Option Addr} {len cap : Nat} {b : List Int} {l : List Rn} (hr : Row w a len cap b) (hl : len ≤ 140737488355000) (h : decS b = some l) :
    Calls Try.prog 11 #[.slice a len cap] w fun e w' => ∃ a' c', e = .returned (.tuple #[.slice a' l.length c', .int .i64 0]) ∧ Rz w' a' c' l ∧ Keep (fun _ => False) w w' := by
  have := runs_ok hr hl
  rw [h] at this
  exact this.mono (fun e w' ⟨⟨a', c', h1, h2⟩, h3⟩ => ⟨a', c', h1, h2, h3⟩)
theorem chg_no {w : World} {a : Option Addr} {len cap : Nat} {b : List Int} (hr : Row w a len cap b) (hl : len ≤ 140737488355000) (h : decL b = none) :
    Calls Try.prog 10 #[.slice a len cap] w fun e w' => ∃ a' c', e = .returned (.tuple #[.slice a' 0 c', .int .i64 11]) ∧ Keep (fun _ => False) w w' := by
  have := changes_ok hr hl
  rw [h] at this
  exact this.mono (fun e w' ⟨⟨a', c', h1⟩, h3⟩ => ⟨a', c', h1, h3⟩)
theorem run_no {w : World} {a : Option Addr} {len cap : Nat} {b : List Int} (hr : Row w a len cap b) (hl : len ≤ 140737488355000) (h : decS b = none) :
    Calls Try.prog 11 #[.slice a len cap] w fun e w' => ∃ a' c', e = .returned (.tuple #[.slice a' 0 c', .int .i64 11]) ∧ Keep (fun _ => False) w w' := by
  have := runs_ok hr hl
  rw [h] at this
  exact this.mono (fun e w' ⟨⟨a', c', h1⟩, h3⟩ => ⟨a', c', h1, h3⟩)
set_option maxRecDepth 100000 in
set_option maxHeartbeats 1000000 in
theorem awake_ok : AwOk := by
  intro w
  have K0 := Keep.refl (fun _ => False) w
  go_enter Try.func8, Try.ntmps8
  go_wp2_with fail
  refine (rec_call (rs_new w #[.int .i64 5, .int .i64 2, .int .i64 100] 28 [⟨5, 2, 100⟩] rfl (by decide)).rz rfl recC1).mono ?_
  rintro e w1 ⟨a1, c1, rfl, r1, k1⟩
  go_wp2_with fail
  refine (sn_call (rs_new w1 #[.int .i64 0, .int .i64 2, .int .i64 10, .int .i64 3, .int .i64 1, .int .i64 4] 45 [⟨0, 2, 10⟩, ⟨3, 1, 4⟩] rfl (by decide)).rz rfl snS1).mono ?_
  rintro e w2 ⟨a2, c2, rfl, r2, k2⟩
  go_wp2_with fail
  refine (chg_call (row_new w2 [1, 10, 2, 202, 1] (0, 0) w2.heap.size 5 rfl (by decide) (by decide) (bys_lit (by decide))) (by decide) litC1).mono ?_
  rintro e w3 ⟨a3, c3, rfl, r3, k3⟩
  go_wp2_with fail
  refine (run_call (row_new w3 [2, 0, 1, 20, 1, 0, 15] (0, 0) w3.heap.size 7 rfl (by decide) (by decide) (bys_lit (by decide))) (by decide) litS1).mono ?_
  rintro e w4 ⟨a4, c4, rfl, r4, k4⟩
  have kk1 : Keep (fun _ => False) w1 w2 := ((Keep.refl _ w1).alloc _).trans k2
  have kk2 : Keep (fun _ => False) w2 w3 := ((Keep.refl _ w2).alloc _).trans k3
  have kk3 : Keep (fun _ => False) w3 w4 := ((Keep.refl _ w3).alloc _).trans k4
  have t1 : (convert 23 9 (.slice a1 5 c1)).run Try.prog w4 = .ok (.string { data := #[1, 10, 2, 202, 1] }) w4 := ((r1.moreV kk1).moreV (kk2.trans kk3)).text
  have t2 : (convert 23 9 (.slice a2 7 c2)).run Try.prog w4 = .ok (.string { data := #[2, 0, 1, 20, 1, 0, 15] }) w4 := (r2.moreV (kk2.trans kk3)).text
  obtain ⟨g3, o3, rfl, x0, x1, x2⟩ := (r3.more kk3).at (i := 0) (x := ⟨5, 2, 100⟩) rfl
  obtain ⟨g4, o4, rfl, y0, y1, y2⟩ := r4.at (i := 1) (x := ⟨3, 1, 4⟩) rfl
  have hK : Keep (fun _ => False) w w4 := ((K0.alloc _).trans k1).trans (kk1.trans (kk2.trans kk3))
  clear r1 r2 r3 r4 k1 k2 k3 k4 kk1 kk2 kk3 K0
  simp only [Nat.zero_mul, Nat.add_zero, Nat.one_mul] at x0 x1 x2 y0 y1 y2
  go_wp2_with fail
  go_ret
  exact ⟨rfl, hK⟩
end Tg
end Go.Proofs.Ytlekapfhbceibaa
