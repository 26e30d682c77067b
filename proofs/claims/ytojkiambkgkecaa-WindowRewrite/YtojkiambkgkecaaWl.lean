/-
  WindowRich's body, given what the program's calls answer.
-/
import Derived.Test.YtojkiambkgkecaaWk
namespace Go.Proofs.Ytojkiambkgkecaa
open Go.ChangeShapes Go.WideShapes Go.ChangeAt Go.RowKit
namespace Tg
theorem ft_fold (p : List Rn) : Ft13 (foldR p) := ⟨foldR_len p, foldR_form p, fun _ hx => foldR_in hx, fun _ hx => foldR_fin hx⟩
theorem endB_of {l : List Rn} (h : ∀ x ∈ l, x.fin ≤ 512) : endB l = true := by
  unfold endB
  cases hl : l.getLast? with
  | none => rfl
  | some x =>
    simp only [decide_eq_true_iff]
    exact h x (List.mem_of_getLast? hl)
theorem fit_fold (p : List Rn) : fit13 (foldR p) = true := by
  unfold fit13
  rw [decide_eq_true (foldR_len p), foldR_formP, endB_of (fun x hx => foldR_fin hx)]
  rfl
theorem mOk_fold (p : List Rn) {W : Int} (h1 : 1 ≤ W) (h2 : W ≤ 512) : mOkB (foldR p) 512 W = true := by
  unfold mOkB
  rw [fit_fold, decide_eq_true ⟨by omega, by omega, h1, h2⟩, (endC_iff (foldR_form p)).2 (fun x hx => foldR_fin hx)]
  rfl
theorem cutL_len (hi : Int) : ∀ (m : List Rn) (lo : Int), (∀ x ∈ m, 0 ≤ x.len) → ∀ y ∈ cutL hi lo m, 0 ≤ y.len
  | [], lo, _, y, hy => by
    rw [cutL] at hy
    split at hy
    · simp at hy; subst hy; simp only; omega
    · cases hy
  | x :: m, lo, hm, y, hy => by
    have hx := hm x (by simp)
    have hm := fun z hz => hm z (List.mem_cons_of_mem x hz)
    have hfin : x.fin = x.lba + x.len := rfl
    rw [cutL] at hy
    split at hy
    · cases hy
    · split at hy
      · exact cutL_len hi m lo hm y hy
      · split at hy
        · split at hy
          · simp at hy; subst hy; simp only; omega
          · rcases List.mem_cons.1 hy with rfl | hy
            · simp only; omega
            · rcases List.mem_cons.1 hy with rfl | hy
              · simp only; split <;> omega
              · exact cutL_len hi m _ hm y hy
        · rcases List.mem_cons.1 hy with rfl | hy
          · simp only; split <;> omega
          · exact cutL_len hi m _ hm y hy
theorem ManyOk.yes (H : ManyOk) {w : World} {a : Option Addr} {cap : Nat} {l : List Rn} {C W : Int} (hR : Rz w a cap l) (hf : Fits l) (hC : I64 C) (hW : I64 W) (h : mOkB l C W = true) :
    Calls Try.prog 10 #[.slice a l.length cap, .int .i64 C, .int .i64 W] w fun e w' => (∃ a' c', e = .returned (.tuple #[.slice a' (nWin C.toNat W.toNat) c', .int .i64 0]) ∧ Iz w' a' c' (manL C.toNat W.toNat l)) ∧ Keep (fun _ => False) w w' :=
  (H C W hR hf hC hW).mono (by rintro e w' ⟨h1, k⟩; rw [if_pos h] at h1; exact ⟨h1, k⟩)
theorem RichestOk.yes (H : RichestOk) {w : World} {a : Option Addr} {cap : Nat} {l : List Rn} {C W : Int} (hR : Rz w a cap l) (hf : Fits l) (hC : I64 C) (hW : I64 W) (h : mOkB l C W = true) :
    Calls Try.prog 11 #[.slice a l.length cap, .int .i64 C, .int .i64 W] w fun e w' => e = .returned (.tuple #[.int .i64 ((ric C.toNat W.toNat l * W.toNat : Nat) : Int), .int .i64 (ricN C.toNat W.toNat (ric C.toNat W.toNat l * W.toNat)), .int .i64 ((manL C.toNat W.toNat l).getD (ric C.toNat W.toNat l) 0), .int .i64 0]) ∧ Keep (fun _ => False) w w' :=
  (H C W hR hf hC hW).mono (by rintro e w' ⟨h1, k⟩; rw [if_pos h] at h1; exact ⟨h1, k⟩)
theorem HolesOk.yes (H : HolesOk) {w : World} {a : Option Addr} {cap : Nat} {l : List Rn} {lba n : Int} (hR : Rz w a cap l) (hf : Fits l) (hC : I64 lba) (hW : I64 n) (h : hOkB l lba n = true) :
    Calls Try.prog 8 #[.slice a l.length cap, .int .i64 lba, .int .i64 n] w fun e w' => (∃ a' c', e = .returned (.tuple #[.slice a' (holL l lba n).length c', .int .i64 0]) ∧ Rz w' a' c' (holL l lba n)) ∧ Keep (fun _ => False) w w' :=
  (H lba n hR hf hC hW).mono (by rintro e w' ⟨h1, k⟩; rw [if_pos h] at h1; exact ⟨h1, k⟩)
theorem lenS_bd : ∀ (l : List Rn) (i : Nat), (∀ x ∈ l, 0 ≤ x.len) → 0 ≤ lenS (l.take i) ∧ lenS (l.take i) ≤ lenS l
  | [], i, _ => by simp [lenS]
  | x :: l, 0, h => by
    have := lenS_bd l l.length (fun y hy => h y (by simp [hy]))
    rw [List.take_length] at this
    have hx := h x (by simp)
    simp [lenS]; omega
  | x :: l, i + 1, h => by
    have := lenS_bd l i (fun y hy => h y (by simp [hy]))
    have hx := h x (by simp)
    rw [List.take_succ_cons, lenS, lenS]; omega
theorem ovS_bd {lo hi : Int} (h : lo ≤ hi) : ∀ (l : List Rn) (i : Nat), 0 ≤ ovS lo hi (l.take i) ∧ ovS lo hi (l.take i) ≤ ovS lo hi l
  | [], i => by simp [ovS]
  | x :: l, 0 => by
    have := ovS_bd h l l.length
    rw [List.take_length] at this
    have hx := ovK_bd lo hi x.lba x.len.toNat h
    simp [ovS]; unfold ov; omega
  | x :: l, i + 1 => by
    have := ovS_bd h l i
    have hx := ovK_bd lo hi x.lba x.len.toNat h
    rw [List.take_succ_cons, ovS, ovS]; unfold ov; omega
theorem ric_lt {C W : Nat} (h1 : 1 ≤ W) (h2 : W ≤ C) (l : List Rn) : ric C W l < nWin C W := bst_lt _ _ (nWin_le h1 h2).1
theorem ric_mul {C W : Nat} (h1 : 1 ≤ W) (h2 : W ≤ C) (l : List Rn) : ric C W l * W + 1 ≤ C := nWin_mul h1 (ric_lt h1 h2 l)
theorem ricN_bd {C W A : Nat} (h1 : 1 ≤ W) (hA : A + 1 ≤ C) : 1 ≤ ricN C W A ∧ (A : Int) + ricN C W A ≤ (C : Int) := by
  unfold ricN
  split <;> omega
set_option maxRecDepth 100000 in
set_option maxHeartbeats 1000000 in
theorem rich_no5 (HM : ManyOk) (HR : RichestOk) (HH : HolesOk) {w : World} {a : Option Addr} {k c : Nat} {W : Int} (h : 100 < k ∨ W < 1 ∨ 512 < W) :
    Calls Try.prog 5 #[.slice a k c, .int .i64 W] w fun e w' => e = .returned (.bool true) ∧ Keep (fun _ => False) w w' := by
  have haw := awake_any HM HR HH w
  go_enter Try.func5, Try.ntmps5
  go_wp2_with fail
  refine haw.mono ?_
  rintro e w0 ⟨rfl, K0⟩
  clear haw
  by_cases h1 : 100 < k
  · have d1 : (100 : Int) < (k : Int) := by omega
    clear h
    go_wp2_with fail
    go_ret
    exact ⟨rfl, K0⟩
  · have d1 : ¬ (100 : Int) < (k : Int) := by omega
    by_cases h2 : W < 1
    · clear h
      go_wp2_with fail
      go_ret
      exact ⟨rfl, K0⟩
    · have h3 : 512 < W := by omega
      clear h
      go_wp2_with fail
      go_ret
      exact ⟨rfl, K0⟩
set_option maxRecDepth 100000 in
set_option maxHeartbeats 2000000 in
theorem rich_yes (HM : ManyOk) (HR : RichestOk) (HH : HolesOk) {w : World} {a : Option Addr} {c : Nat} {p : List Rn} (hP : Rz w a c p) (hfp : Fits p) {W : Nat} (hp : p.length ≤ 100) (h1 : 1 ≤ W) (h2 : W ≤ 512) :
    Calls Try.prog 5 #[.slice a p.length c, .int .i64 (W : Int)] w fun e w' => e = .returned (.bool true) ∧ Keep (fun _ => False) w w' := by
  have haw := awake_any HM HR HH w
  have hc1 := hP.1
  have hc2 := hP.2.1
  have d1 : ¬ (100 : Int) < (p.length : Int) := by omega
  have d2 : ¬ (W : Int) < 1 := by omega
  have d3 : ¬ (512 : Int) < (W : Int) := by omega
  have hok := mOk_fold p (W := (W : Int)) (by omega) (by omega)
  have hWI : I64 (W : Int) := ⟨by omega, by omega⟩
  have h5I : I64 512 := ⟨by omega, by omega⟩
  have hfit := fit_fold p
  have hF := ft_fold p
  have hll := foldR_len p
  have hfl := foldR_fits p
  go_enter Try.func5, Try.ntmps5
  go_wp2_with fail
  refine haw.mono ?_
  rintro e w0 ⟨rfl, K0⟩
  have hfo := fold9 (hP.more K0) hfp
  clear haw
  go_wp2_with fail
  refine hfo.mono ?_
  rintro e w1 ⟨a1, c1, rfl, R1⟩
  have Z1 := R1.rs.rz
  clear hfo hP
  generalize foldR p = l at *
  have hmn := HM.yes Z1 hfl h5I hWI hok
  have K1 := K0.trans R1.keep
  clear R1 K0
  have hZc := Z1.1
  have hZc2 := Z1.2.1
  obtain ⟨m, hm⟩ : ∃ m, m = l.length := ⟨_, rfl⟩
  have hm' : Hid (m = l.length) := hm
  rw [← hm] at hmn hll hZc ⊢
  clear hm
  go_wp2_with fail
  refine hmn.mono ?_
  rintro e w2 ⟨⟨a2, c2, rfl, -⟩, K2⟩
  have hrc := HR.yes (Z1.more K2) hfl h5I hWI hok
  rw [← show m = l.length from hm'] at hrc
  clear hmn
  rw [show (512 : Int).toNat = 512 from rfl, Int.toNat_natCast] at hrc ⊢
  have hnw := nWin_le h1 h2
  have hmul := ric_mul h1 h2 l
  have hr2 : Hid (2 * nWin 512 W < m → 2 < (manL 512 W l).getD (ric 512 W l) 0) := fun h => rich_more (C := 512) h1 (fun x hx => by have := hF.bd hx; omega) (c := 2) (by rw [← show m = l.length from hm']; exact h)
  have hr4 : Hid (4 * nWin 512 W < m → 4 < (manL 512 W l).getD (ric 512 W l) 0) := fun h => rich_more (C := 512) h1 (fun x hx => by have := hF.bd hx; omega) (c := 4) (by rw [← show m = l.length from hm']; exact h)
  have hbd := ricN_bd (C := 512) h1 hmul
  generalize (manL 512 W l).getD (ric 512 W l) 0 = r at *
  generalize ricN 512 W (ric 512 W l * W) = y at *
  generalize ric 512 W l * W = A at *
  generalize nWin 512 W = N at *
  go_wp2_with fail
  refine hrc.mono ?_
  rintro e w3 ⟨rfl, K3⟩
  have K13 := K2.trans K3
  clear hrc K2 K3 HM HR
  have q2 := wrapI (x := 2 * (N : Int)) (by omega) (by omega)
  have q4 := wrapI (x := 4 * (N : Int)) (by omega) (by omega)
  go_upto_region 8 with fail
  go_cut [75] from 17 to 139 (fun v wx => v = .bool false ∧ wx = w3)
  case first =>
    by_cases g2 : 2 * N < m
    · have g2' : 2 * (N : Int) < (m : Int) := by omega
      have r2 : ¬ r < 3 := by have := (show 2 * N < m → 2 < r from hr2) g2; omega
      by_cases g4 : 4 * N < m
      · have g4' : 4 * (N : Int) < (m : Int) := by omega
        have r4 : ¬ r < 5 := by have := (show 4 * N < m → 4 < r from hr4) g4; omega
        clear g2 g4
        go_wp2_with fail
        go_meet
        exact ⟨rfl, rfl⟩
      · have g4' : ¬ 4 * (N : Int) < (m : Int) := by omega
        clear g2 g4
        go_wp2_with fail
        go_meet
        exact ⟨rfl, rfl⟩
    · have g2' : ¬ 2 * (N : Int) < (m : Int) := by omega
      have g4' : ¬ 4 * (N : Int) < (m : Int) := by omega
      clear g2
      go_wp2_with fail
      go_meet
      exact ⟨rfl, rfl⟩
  case rest =>
    obtain ⟨rfl, ew⟩ := hcut
    subst wc
    have hhb : hOkB l A y = true := by
      unfold hOkB
      rw [hfit, okR_iff.2 ⟨by omega, by omega, by omega⟩]; rfl
    have hho := HH.yes (Z1.more K13) hfl ⟨by omega, by omega⟩ ⟨by omega, by omega⟩ hhb
    rw [← show m = l.length from hm'] at hho
    have hsum := hole_sum ((A : Int) + y) l A hF.form (by omega)
    have hHl : ∀ x ∈ holL l A y, 0 ≤ x.len := fun x hx => cutL_len _ _ _ (fun z hz => hF.form.len hz) x (List.mem_filter.1 hx).1
    have hsum : lenS (holL l A y) + ovS A ((A : Int) + y) l = (A : Int) + y - A := hsum
    have hlb := fun i => lenS_bd (holL l A y) i hHl
    have hob := fun i => ovS_bd (lo := (A : Int)) (hi := (A : Int) + y) (by omega) l i
    clear hHl hhb hr2 hr4 q2 q4 hok hfit
    generalize holL l A y = H at *
    obtain ⟨k, hk⟩ : ∃ k, k = H.length := ⟨_, rfl⟩
    have hk' : Hid (k = H.length) := hk
    rw [← hk] at hho
    clear hk
    go_wp2_with fail
    refine hho.mono ?_
    rintro e w4 ⟨⟨a4, c4, rfl, I4⟩, K4⟩
    have Z4 := (Z1.more K13).more K4
    have KK : Hid (Keep (fun _ => False) w w4) := (K1.trans K13).trans K4
    clear hho K13 K4 K1 Z1
    have hkc : k ≤ c4 := by rw [show k = _ from hk']; exact I4.1
    have hkc2 := I4.2.1
    have hsum' : Hid (lenS H + ovS A ((A : Int) + y) l = (A : Int) + y - A) := hsum
    have hlb' : Hid (∀ i, 0 ≤ lenS (H.take i) ∧ lenS (H.take i) ≤ lenS H) := hlb
    have hob' : Hid (∀ i, 0 ≤ ovS A ((A : Int) + y) (l.take i) ∧ ovS A ((A : Int) + y) (l.take i) ≤ ovS A ((A : Int) + y) l) := hob
    have hI4 : Hid (Rz w4 a4 c4 H) := I4
    have hZ4 : Hid (Rz w4 a1 c1 l) := Z4
    have hbd' : Hid (1 ≤ y ∧ (A : Int) + y ≤ 512) := hbd
    have dAy := wrapI (x := (A : Int) + y) (by omega) (by omega)
    clear hsum hlb hob I4 Z4 hbd
    go_wp2_with fail
    go_loopw [13, 14] (fun sv iv wx => ∃ i : Nat, i ≤ k ∧ iv = .int .i64 (i : Int) ∧ sv = .int .i64 (lenS (H.take i)) ∧ wx = w4) (fun _ iv _ => k - (intOf iv).toNat)
    case atStart => exact ⟨0, by omega, rfl, by first | rfl | simp [lenS], rfl⟩
    case round =>
      obtain ⟨i, hi, rfl, rfl, e0⟩ := hrel
      have e0 := e0.symm
      subst e0
      by_cases hlt : i < k
      · obtain ⟨x, hx⟩ : ∃ x, H[i]? = some x := ⟨_, List.getElem?_eq_getElem (by rw [← show k = _ from hk']; exact hlt)⟩
        obtain ⟨g, o, rfl, -, u1, -⟩ := (show Rz w4 a4 c4 H from hI4).at hx
        have di : (i : Int) < (k : Int) := by omega
        have b0 := (show ∀ i, 0 ≤ lenS (H.take i) ∧ lenS (H.take i) ≤ lenS H from hlb') (i + 1)
        have b1 := (show ∀ i, 0 ≤ ovS A ((A : Int) + y) (l.take i) ∧ _ from hob') 0
        have b2 : lenS H + ovS A ((A : Int) + y) l = (A : Int) + y - A := hsum'
        have b3 : 1 ≤ y ∧ (A : Int) + y ≤ 512 := hbd'
        have es : lenS (H.take (i + 1)) = lenS (H.take i) + x.len := by rw [take_snoc hx, lenS_app]; simp [lenS]
        have ds : IntKind.i64.wrap (lenS (H.take i) + x.len) = lenS (H.take (i + 1)) := by rw [es] at b0 ⊢; exact wrapI (by omega) (by omega)
        have dwi : IntKind.i64.wrap ((i : Int) + 1) = (i : Int) + 1 := wrapI (by omega) (by omega)
        have hlt' : Hid (i < k) := hlt
        clear b0 b1 b2 b3 es hlt hx
        generalize x.len = x1 at *
        generalize lenS (H.take i) = S0 at *
        generalize hS1 : lenS (H.take (i + 1)) = S1 at *
        have hS1 : Hid (lenS (H.take (i + 1)) = S1) := hS1
        go_wp2_with fail
        go_roundw
        case rel => exact ⟨i + 1, hlt', by go_num, by rw [show lenS (H.take (i + 1)) = S1 from hS1], trivial⟩
        case measure => have : i < k := hlt'; simp [intOf]; omega
      · have di : ¬ (i : Int) < (k : Int) := by omega
        rw [List.take_of_length_le (by rw [← show k = _ from hk']; omega)]
        have hL0p : Hid (0 ≤ lenS H) := by have h0 := (show ∀ i, 0 ≤ lenS (H.take i) ∧ lenS (H.take i) ≤ lenS H from hlb') 0; show 0 ≤ lenS H; omega
        clear hlt hlb' hI4
        generalize hL0 : lenS H = L0 at *
        clear hL0
        go_wp2_with fail
        go_loopw [13, 15, 16] (fun sv iv _ wx => ∃ i : Nat, i ≤ m ∧ iv = .int .i64 (i : Int) ∧ sv = .int .i64 (L0 + ovS A ((A : Int) + y) (l.take i)) ∧ wx = w4) (fun _ iv _ _ => m - (intOf iv).toNat)
        case atStart => exact ⟨0, by omega, rfl, by simp [ovS], rfl⟩
        case round =>
          obtain ⟨i, hi, rfl, rfl, e0⟩ := hrel
          have e0 := e0.symm
          subst e0
          by_cases hlt : i < m
          · obtain ⟨x, hx⟩ : ∃ x, l[i]? = some x := ⟨_, List.getElem?_eq_getElem (by rw [← show m = _ from hm']; exact hlt)⟩
            have hbx := hF.bd (List.mem_of_getElem? hx)
            obtain ⟨g, o, rfl, u0, u1, -⟩ := (show Rz w4 a1 c1 l from hZ4).at hx
            have di : (i : Int) < (m : Int) := by omega
            have dwi : IntKind.i64.wrap ((i : Int) + 1) = (i : Int) + 1 := wrapI (by omega) (by omega)
            have b0 := (show ∀ i, 0 ≤ ovS A ((A : Int) + y) (l.take i) ∧ _ from hob') i
            have b1 := (show ∀ i, 0 ≤ ovS A ((A : Int) + y) (l.take i) ∧ _ from hob') (i + 1)
            have b2 : L0 + ovS A ((A : Int) + y) l = (A : Int) + y - A := hsum'
            have b3 : 1 ≤ y ∧ (A : Int) + y ≤ 512 := hbd'
            obtain ⟨Ln, hLn⟩ : ∃ Ln : Nat, x.len = (Ln : Int) := ⟨x.len.toNat, by omega⟩
            have es : ovS A ((A : Int) + y) (l.take (i + 1)) = ovS A ((A : Int) + y) (l.take i) + ovK A ((A : Int) + y) x.lba Ln := by
              rw [take_snoc hx, ovS_app]
              simp only [ovS, ov]
              rw [hLn, Int.toNat_natCast]
              omega
            rw [hLn] at u1 hbx
            have hL0b : Hid (-1000 ≤ L0 + ovS A ((A : Int) + y) (l.take i) ∧ L0 + ovS A ((A : Int) + y) (l.take i) ≤ 1000) := by
              have hl0 : 0 ≤ L0 := hL0p
              exact ⟨by omega, by omega⟩
            have hlt' : Hid (i < m) := hlt
            have hes : Hid (L0 + ovS A ((A : Int) + y) (l.take i) + ovK A ((A : Int) + y) x.lba Ln = L0 + ovS A ((A : Int) + y) (l.take (i + 1))) := by show _ = _; omega
            clear b0 b1 b2 es hlt hx
            generalize L0 + ovS A ((A : Int) + y) (l.take i) = S0 at *
            generalize hS1 : L0 + ovS A ((A : Int) + y) (l.take (i + 1)) = S1 at *
            have hS1 : Hid (L0 + ovS A ((A : Int) + y) (l.take (i + 1)) = S1) := hS1
            generalize x.lba = x0 at *
            go_wp2_with fail
            go_loopw [13, 16] (fun sv kv wx => ∃ q : Nat, q ≤ Ln ∧ kv = .int .i64 (q : Int) ∧ sv = .int .i64 (S0 + ovK A ((A : Int) + y) x0 q) ∧ wx = w4) (fun _ kv _ => Ln - (intOf kv).toNat)
            case atStart => exact ⟨0, by omega, rfl, by rw [ovK_zero]; simp, rfl⟩
            case round =>
              obtain ⟨q, hq, rfl, rfl, e0⟩ := hrel
              have e0 := e0.symm
              subst e0
              by_cases hql : q < Ln
              · have dq : (q : Int) < (Ln : Int) := by omega
                have dwq : IntKind.i64.wrap ((q : Int) + 1) = (q : Int) + 1 := wrapI (by omega) (by omega)
                have dxq : IntKind.i64.wrap (x0 + (q : Int)) = x0 + (q : Int) := wrapI (by omega) (by omega)
                have hql' : Hid (q < Ln) := hql
                have hkb := ovK_bd (A : Int) ((A : Int) + y) x0 q (by omega)
                have hsu := ovK_succ (A : Int) ((A : Int) + y) x0 q
                have hLb : -1000 ≤ S0 ∧ S0 ≤ 1000 := hL0b
                generalize ovK A ((A : Int) + y) x0 q = T0 at *
                have dS := wrapI (x := S0 + T0 + 1) (by omega) (by omega)
                by_cases e1 : (A : Int) ≤ x0 + (q : Int)
                · by_cases e2 : x0 + (q : Int) < (A : Int) + y
                  · rw [if_pos ⟨e1, e2⟩] at hsu
                    have hsu : Hid (ovK A ((A : Int) + y) x0 (q + 1) = T0 + 1) := hsu
                    clear hql hkb hLb
                    go_wp2_with fail
                    go_roundw
                    case rel => exact ⟨q + 1, hql', by go_num, by rw [show ovK A ((A : Int) + y) x0 (q + 1) = _ from hsu, Int.add_assoc], trivial⟩
                    case measure => have : q < Ln := hql'; simp [intOf]; omega
                  · rw [if_neg (fun h => e2 h.2)] at hsu
                    have hsu : Hid (ovK A ((A : Int) + y) x0 (q + 1) = T0 + 0) := hsu
                    clear hql hkb hLb
                    go_wp2_with fail
                    go_roundw
                    case rel => exact ⟨q + 1, hql', by go_num, by rw [show ovK A ((A : Int) + y) x0 (q + 1) = _ from hsu, Int.add_zero], trivial⟩
                    case measure => have : q < Ln := hql'; simp [intOf]; omega
                · rw [if_neg (fun h => e1 h.1)] at hsu
                  have hsu : Hid (ovK A ((A : Int) + y) x0 (q + 1) = T0 + 0) := hsu
                  clear hql hkb hLb
                  go_wp2_with fail
                  go_roundw
                  case rel => exact ⟨q + 1, hql', by go_num, by rw [show ovK A ((A : Int) + y) x0 (q + 1) = _ from hsu, Int.add_zero], trivial⟩
                  case measure => have : q < Ln := hql'; simp [intOf]; omega
              · have dq : ¬ (q : Int) < (Ln : Int) := by omega
                obtain rfl : q = Ln := by omega
                rw [show S0 + ovK A ((A : Int) + y) x0 q = S1 from hes]
                clear hql
                go_wp2_with fail
                go_roundw
                case rel => exact ⟨i + 1, hlt', by go_num, by rw [show L0 + ovS A ((A : Int) + y) (l.take (i + 1)) = S1 from hS1], trivial⟩
                case measure => have : i < m := hlt'; simp [intOf]; omega
          · have di : ¬ (i : Int) < (m : Int) := by omega
            rw [List.take_of_length_le (by rw [← show m = _ from hm']; omega)]
            have b2 : L0 + ovS A ((A : Int) + y) l = (A : Int) + y - A := hsum'
            have b2 : L0 + ovS A ((A : Int) + y) l = y := by omega
            rw [b2]
            have dyy : (y == y) = true := by rw [beq_iff_eq]
            clear hlt b2
            go_wp2_with fail
            go_ret
            exact ⟨rfl, KK⟩
theorem rich_law (HM : ManyOk) (HR : RichestOk) (HH : HolesOk) {Wd : World} {a : Option Addr} {n d : Nat} (hp : Rows3 Wd a n d) {W : Int} :
    Calls Try.prog 5 #[.slice a n d, .int .i64 W] Wd fun e w' => e = .returned (.bool true) ∧ Below Wd.heap.size Wd w' := by
  obtain ⟨p, rfl, h1, h2⟩ := hp
  by_cases h : 100 < p.length ∨ W < 1 ∨ 512 < W
  · exact (rich_no5 HM HR HH h).mono fun _ _ ⟨h1, h2⟩ => ⟨h1, h2.belowB (Nat.le_refl _) (fun _ e => e.elim)⟩
  · obtain ⟨Wn, rfl⟩ : ∃ Wn : Nat, W = (Wn : Int) := ⟨W.toNat, by omega⟩
    exact (rich_yes HM HR HH h1 h2 (by omega) (by omega) (by omega)).mono fun _ _ ⟨h1, h2⟩ => ⟨h1, h2.belowB (Nat.le_refl _) (fun _ e => e.elim)⟩
end Tg
end Go.Proofs.Ytojkiambkgkecaa
