/-
  The landed Richest, walked.
-/
import Derived.Test.YtojkiambkgkecaaXc
namespace Go.Proofs.Ytojkiambkgkecaa
open Go.ChangeShapes Go.WideShapes Go.ChangeAt Go.RowKit
namespace Tg
theorem results_tmp4 {fn : Func} {t u v x : Tmp} (h : fn.results = #[.tmp t, .tmp u, .tmp v, .tmp x]) (tmps : Array Value) (P : Program) (w : World) :
    (results fn tmps).run P w = .ok (.tuple #[tmps.getD t undef, tmps.getD u undef, tmps.getD v undef, tmps.getD x undef]) w := by
  simp [results, h]
theorem iz_get {w : World} {a : Option Addr} {cap : Nat} {v : List Int} (h : Iz w a cap v) {i : Nat} (hi : i < v.length) : ∃ g o, a = some ⟨g, o, none⟩ ∧ w.cell? ⟨g, o + i, none⟩ = some (.int .i64 (v.getD i 0)) := by
  have hv : v[i]? = some (v.getD i 0) := by rw [List.getD_eq_getElem?_getD, List.getElem?_eq_getElem hi]; rfl
  exact h.at hv
theorem bst_in (v : List Int) {k n : Nat} (hn : 1 ≤ n) (hk : k ≤ n) : bst v k < n := by
  by_cases h : k = 0
  · subst h; unfold bst; omega
  · have := bst_lt v k (by omega); omega
set_option maxRecDepth 100000 in
set_option maxHeartbeats 1000000 in
theorem richest_no {w : World} {a : Option Addr} {cap : Nat} {l : List Rn} {C W : Int} (hR : Rz w a cap l) (hf : Fits l) (h : mOkB l C W = false) :
    Calls Try.prog 11 #[.slice a l.length cap, .int .i64 C, .int .i64 W] w fun e w' => e = .returned (.tuple #[.int .i64 0, .int .i64 0, .int .i64 0, .int .i64 1]) ∧ Keep (fun _ => False) w w' := by
  have hm := manyF_no hR hf h
  clear hR hf h
  go_enter Try.func11, Try.ntmps11
  go_wp2_with fail
  refine hm.mono ?_
  rintro e w1 ⟨⟨a1, c1, rfl⟩, k1⟩
  clear hm
  go_wp2_with fail
  try simp only [Exit.inBlock, Exit.then]
  refine bodyPost_ret (results_tmp4 rfl _ _ _) rfl ?_
  exact ⟨rfl, k1⟩
set_option maxRecDepth 100000 in
set_option maxHeartbeats 2000000 in
theorem richest_yes {w : World} {a : Option Addr} {cap : Nat} {l : List Rn} {C W : Nat} (hR : Rz w a cap l) (hf : Fits l) (h : mOkB l C W = true) :
    Calls Try.prog 11 #[.slice a l.length cap, .int .i64 (C : Int), .int .i64 (W : Int)] w fun e w' => e = .returned (.tuple #[.int .i64 ((ric C W l * W : Nat) : Int), .int .i64 (ricN C W (ric C W l * W)), .int .i64 ((manL C W l).getD (ric C W l) 0), .int .i64 0]) ∧ Keep (fun _ => False) w w' := by
  have hm := many_yes hR hf h
  rw [mOk_eq] at h
  obtain ⟨c1, c2, -⟩ := and3 h
  have hC : 1 ≤ (C : Int) ∧ (C : Int) ≤ 512 := by simpa using c1
  have hW : 1 ≤ (W : Int) ∧ (W : Int) ≤ C := by simpa using c2
  have hnw := nWin_le (C := C) (W := W) (by omega) (by omega)
  have hmul : Hid (∀ j, j < nWin C W → j * W + 1 ≤ C) := fun j hj => nWin_mul (by omega) hj
  have hvl := manL_len C W l
  have hric : Hid (ric C W l = bst (manL C W l) (nWin C W)) := rfl
  have hCW : Hid (1 ≤ W ∧ W ≤ C ∧ C ≤ 512) := ⟨by omega, by omega, by omega⟩
  generalize ric C W l = R at hric ⊢
  generalize manL C W l = v at *
  generalize nWin C W = n at *
  have hvl1 : Hid (v.length = n) := hvl
  clear hvl
  have hvl := hvl1
  clear hvl1
  obtain ⟨A, hA0⟩ : ∃ A, A = R * W := ⟨_, rfl⟩
  rw [← hA0]
  obtain ⟨Y, hY0⟩ : ∃ Y, Y = ricN C W A := ⟨_, rfl⟩
  rw [← hY0]
  obtain ⟨V, hV0⟩ : ∃ V, V = v.getD R 0 := ⟨_, rfl⟩
  rw [← hV0]
  have hA : Hid (A = R * W) := hA0
  have hY : Hid (Y = ricN C W A) := hY0
  have hV : Hid (V = v.getD R 0) := hV0
  clear hA0 hY0 hV0 h
  clear hR hf c1 c2 hC hW
  go_enter Try.func11, Try.ntmps11
  go_wp2_with fail
  refine hm.mono ?_
  rintro e w1 ⟨⟨a1, c1, rfl, I1⟩, k1⟩
  clear hm
  have hcap : Hid (v.length ≤ c1) := I1.1
  have hn1 : Hid (1 ≤ n ∧ n ≤ 512) := by obtain ⟨h1, h2, h3⟩ : 1 ≤ W ∧ W ≤ C ∧ C ≤ 512 := hCW; exact ⟨hnw.1, by omega⟩
  clear hnw
  go_wp2_with fail
  go_loopw [11, 25] (fun rv iv wx => ∃ i : Nat, i ≤ n ∧ iv = .int .i64 (i : Int) ∧ rv = .int .i64 ((bst v i : Nat) : Int) ∧ Keep (fun _ => False) w1 wx) (fun _ iv _ => n - (intOf iv).toNat)
  case atStart => exact ⟨0, by omega, rfl, rfl, Keep.refl _ _⟩
  case round =>
    obtain ⟨i, hi, rfl, rfl, k2⟩ := hrel
    have h1n : 1 ≤ n ∧ n ≤ 512 := hn1
    have hbi := bst_in v h1n.1 hi
    by_cases hlt : i < n
    · have I2 := I1.more k2
      obtain ⟨g, o, rfl, d1⟩ := iz_get I2 (i := i) (by rw [show v.length = n from hvl]; exact hlt)
      obtain ⟨g', o', eg, d2⟩ := iz_get I2 (i := bst v i) (by rw [show v.length = n from hvl]; exact hbi)
      injection eg with eg; injection eg with e1 e2; subst e1; subst e2
      have hs : Hid (bst v (i + 1) = if v.getD (bst v i) 0 < v.getD i 0 then i else bst v i) := by show _ = _; rw [bst]
      have di : (i : Int) < (n : Int) := by omega
      have dwi := wrapI (x := (i : Int) + 1) (by omega) (by omega)
      have dbi : ((bst v i : Nat) : Int) < (n : Int) := by omega
      have hlt' : Hid (i < n) := hlt
      generalize bst v i = q at d2 hs hbi dbi ⊢
      generalize v.getD i 0 = vi at d1 hs
      generalize v.getD q 0 = vq at d2 hs
      clear I2 hlt hi h1n
      by_cases hc : vq < vi
      · have hs : Hid (bst v (i + 1) = i) := by show _ = _; rw [show bst v (i + 1) = _ from hs, if_pos hc]
        have hcb : decide (vq < vi) = true := decide_eq_true hc
        go_wp2_with fail
        go_quiet (fail)
        go_wp2_with fail
        go_roundw
        case rel => exact ⟨i + 1, hlt', by go_num, by rw [show bst v (i + 1) = i from hs], k2.drewN _⟩
        case measure => have : i < n := hlt'; simp [intOf]; omega
      · have hs : Hid (bst v (i + 1) = q) := by show _ = _; rw [show bst v (i + 1) = _ from hs, if_neg hc]
        have hcb : decide (vq < vi) = false := decide_eq_false hc
        go_wp2_with fail
        go_quiet (fail)
        go_wp2_with fail
        go_roundw
        case rel => exact ⟨i + 1, hlt', by go_num, by rw [show bst v (i + 1) = q from hs], k2.drewN _⟩
        case measure => have : i < n := hlt'; simp [intOf]; omega
    · have di : ¬ (i : Int) < (n : Int) := by omega
      obtain rfl : i = n := by omega
      have I2 := I1.more k2
      have K2 := k1.trans k2
      have hRq : Hid (R = bst v i) := hric
      generalize bst v i = q at *
      obtain rfl : R = q := hRq
      obtain ⟨g, o, rfl, d1⟩ := iz_get I2 (i := R) (by rw [show v.length = i from hvl]; exact hbi)
      have hqW := (show ∀ j, j < i → j * W + 1 ≤ C from hmul) R hbi
      obtain ⟨h1, h2, h3⟩ : 1 ≤ W ∧ W ≤ C ∧ C ≤ 512 := hCW
      rw [← show A = R * W from hA] at hqW
      rw [← show V = v.getD R 0 from hV] at d1
      have dA : IntKind.i64.wrap ((R : Int) * (W : Int)) = (A : Int) := by rw [← Int.natCast_mul, ← show A = R * W from hA]; exact wrapI (by omega) (by omega)
      have dR : (R : Int) < (i : Int) := by omega
      have dB := wrapI (x := (C : Int) - (A : Int)) (by omega) (by omega)
      have hY1 : Y = if (C : Int) - (A : Int) < (W : Int) then (C : Int) - (A : Int) else (W : Int) := hY
      clear hqW hlt hi I2 hric hvl hcap hmul h1n hA hV hY h1 h2 h3
      by_cases hc : (C : Int) - (A : Int) < (W : Int)
      · rw [if_pos hc] at hY1
        have hY2 : Hid (Y = (C : Int) - (A : Int)) := hY1
        clear hY1
        go_wp2_with fail
        go_region
        go_wp2_with fail
        try simp only [Exit.inBlock, Exit.then]
        refine bodyPost_ret (results_tmp4 rfl _ _ _) rfl ?_
        exact ⟨by rw [show Y = _ from hY2]; rfl, K2.drew⟩
      · rw [if_neg hc] at hY1
        have hY2 : Hid (Y = (W : Int)) := hY1
        clear hY1
        go_wp2_with fail
        go_region
        go_wp2_with fail
        try simp only [Exit.inBlock, Exit.then]
        refine bodyPost_ret (results_tmp4 rfl _ _ _) rfl ?_
        exact ⟨by rw [show Y = _ from hY2]; rfl, K2.drew⟩
theorem richest_ok : RichestOk := by
  intro w a cap l C W hR hf hC hW
  by_cases h : mOkB l C W = true
  · have h' := h
    rw [mOk_eq] at h'
    obtain ⟨c1, c2, -⟩ := and3 h'
    have hC : 1 ≤ C ∧ C ≤ 512 := by simpa using c1
    have hW : 1 ≤ W ∧ W ≤ C := by simpa using c2
    obtain ⟨C, rfl⟩ : ∃ n : Nat, C = n := ⟨C.toNat, by omega⟩
    obtain ⟨W, rfl⟩ : ∃ n : Nat, W = n := ⟨W.toNat, by omega⟩
    refine (richest_yes hR hf h).mono ?_
    rintro e w' ⟨h1, k⟩
    exact ⟨by rw [if_pos h]; exact h1, k⟩
  · refine (richest_no hR hf (by simpa using h)).mono ?_
    rintro e w' ⟨h1, k⟩
    exact ⟨by rw [if_neg h]; exact h1, k⟩
end Tg
end Go.Proofs.Ytojkiambkgkecaa
