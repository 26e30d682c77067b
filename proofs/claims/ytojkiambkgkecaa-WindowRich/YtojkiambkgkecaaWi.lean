/-
  tells: the three calls held against the document's own, walked.
-/
import Derived.Test.YtojkiambkgkecaaWh
namespace Go.Proofs.Ytojkiambkgkecaa
open Go.ChangeShapes Go.WideShapes Go.ChangeAt Go.RowKit
namespace Tg
theorem mOk_true {l : List Rn} {C W : Int} (h : mOkB l C W = true) : Ft13 l ∧ (1 ≤ C ∧ C ≤ 512 ∧ 1 ≤ W ∧ W ≤ C) ∧ endC C l = true := by
  unfold mOkB at h
  rw [Bool.and_eq_true, Bool.and_eq_true, decide_eq_true_iff] at h
  exact ⟨Ft13.of h.1, h.2.1, h.2.2⟩
set_option maxRecDepth 100000 in
set_option maxHeartbeats 2000000 in
theorem tells_any (HM : ManyOk) (HR : RichestOk) (HH : HolesOk) {w : World} {a : Option Addr} {cap : Nat} {l : List Rn} (hR : Rz w a cap l) (hfi : Fits l) (hll : l.length ≤ 5864062014700) {C W lba n : Int}
    (hC : I64 C) (hW : I64 W) (hlb : I64 lba) (hn : I64 n) :
    Calls Try.prog 12 #[.slice a l.length cap, .int .i64 C, .int .i64 W, .int .i64 lba, .int .i64 n] w fun e w' => e = .returned (.bool true) ∧ Keep (fun _ => False) w w' := by
  have hlc := hR.1
  have hlc2 := hR.2.1
  obtain ⟨a2, c2, w2, hrun2, R2⟩ := copy_runsL hR (by omega)
  obtain ⟨a3, c3, w3, hrun3, R3⟩ := R2.app1L (by omega) ⟨9, 0, 0⟩
  have Z3 := R3.rs.rz
  have hc3 := Z3.1
  have hc4 := Z3.2.1
  rw [List.length_append, List.length_singleton] at hc3
  obtain ⟨g3, rfl⟩ := R3.some (by simp)
  have Z3' := Z3.init
  have K3 := R3.keep
  have hv := HM.post Z3' hfi hC hW
  obtain ⟨m, hm⟩ : ∃ m, m = l.length := ⟨_, rfl⟩
  have hm' : Hid (m = l.length) := hm
  rw [← hm] at hlc hll hrun2 hrun3 hc3 hv ⊢
  clear hm
  go_enter Try.func12, Try.ntmps12
  go_upto_region 2 with (first | (at_builtin; refine wpList_append_run rfl (.tmp 25) (.tmp 26) 27 rfl (by rfl) (by rfl) hrun2 ?_) | (at_builtin; refine wpList_append_run rfl (.tmp 27) (.tmp 29) 27 rfl (by rfl) (by rfl) hrun3 ?_))
  clear hrun2 hrun3 Z3 R3 R2
  go_upto_region 3 with (go_at_call 10; refine hv.mono ?_; rintro e w4 ⟨a4, k4, c4, E4, rfl, h4, K4⟩)
  have hs := HR.post (Z3'.more K4) hfi hC hW
  rw [← show m = l.length from hm'] at hs
  clear hv
  go_upto_region 4 with (go_at_call 11; refine hs.mono ?_; rintro e w5 ⟨x5, y5, r5, E5, rfl, h5, K5⟩)
  have hmv := HH.post ((Z3'.more K4).more K5) hfi hlb hn
  rw [← show m = l.length from hm'] at hmv
  clear hs
  go_upto_region 5 with (go_at_call 8; refine hmv.mono ?_; rintro e w6 ⟨a6, k6, c6, E6, rfl, h6, K6⟩)
  have K36 := ((K3.trans K4).trans K5).trans K6
  have hsa := sameZ (((Z3'.more K4).more K5).more K6) (hR.more K36) (by rw [← show m = l.length from hm']; omega)
  rw [← show m = l.length from hm', sameL_refl] at hsa
  clear hmv HM HR HH
  go_upto_region 7 with (go_at_call 21; refine hsa.mono ?_; rintro e w7 ⟨rfl, K7⟩)
  have K37 := K36.trans K7
  clear hsa K3 K36 Z3'
  have hE4 : Hid ((mOkB l C W = true → E4 = 0 ∧ k4 = nWin C.toNat W.toNat ∧ Iz w7 a4 c4 (manL C.toNat W.toNat l)) ∧ (mOkB l C W = false → E4 = 1 ∧ k4 = 0)) :=
    ⟨fun h => by obtain ⟨q1, q2, q3⟩ := h4.1 h; exact ⟨q1, q2, ((q3.more K5).more K6).more K7⟩, h4.2⟩
  have hE6 : Hid ((hOkB l lba n = true → E6 = 0 ∧ k6 = (holL l lba n).length ∧ Rz w7 a6 c6 (holL l lba n)) ∧ (hOkB l lba n = false → E6 = 1 ∧ k6 = 0)) :=
    ⟨fun h => by obtain ⟨q1, q2, q3⟩ := h6.1 h; exact ⟨q1, q2, q3.more K7⟩, h6.2⟩
  have hR7 := hR.more K37
  have hKK : Hid (Keep (fun _ => False) w w7) := K37
  have hft := fits13 hR7
  rw [← show m = l.length from hm'] at hft
  clear h4 h6 K4 K5 K6 K7 K37 hR
  go_upto_region 8 with (go_at_call 22; refine hft.mono ?_; rintro e w8 ⟨rfl, K8⟩)
  clear hft
  have hR8 := hR7.more K8
  have hFt : Hid (fit13 l = true → Ft13 l) := Ft13.of
  have hho : Hid (hOkB l lba n = (fit13 l && okR 512 lba n)) := rfl
  have hmo : Hid (mOkB l C W = (fit13 l && (decide (1 ≤ C ∧ C ≤ 512 ∧ 1 ≤ W ∧ W ≤ C) && endC C l))) := rfl
  generalize fit13 l = F at hFt hho hmo ⊢
  go_cut [70] from 25 to 209 (fun v wx => v = .bool (!hOkB l lba n) ∧ wx = w8)
  case first =>
    have hri := right9 w8 512 lba n (by omega)
    cases F with
    | false =>
      have e : Hid (hOkB l lba n = false) := by rw [show hOkB l lba n = _ from hho]; rfl
      go_wp2_with fail
      go_meet
      exact ⟨by rw [show hOkB l lba n = false from e]; rfl, rfl⟩
    | true =>
      have e : Hid (hOkB l lba n = okR 512 lba n) := by rw [show hOkB l lba n = _ from hho]; rfl
      go_wp2_with (go_at_call 23; refine hri.mono ?_; rintro e w9 ⟨rfl, e9⟩)
      go_meet
      exact ⟨by rw [show hOkB l lba n = _ from e], rfl⟩
  case rest =>
    obtain ⟨rfl, ew⟩ := hcut
    subst wc
    go_upto_if 70 with fail
    go_cut [] from 25 to 209 (fun wx => Keep (fun _ => False) w8 wx)
    case first =>
      cases hO : hOkB l lba n with
      | false =>
        obtain ⟨rfl, rfl⟩ := hE6.2 hO
        clear hO hE6
        go_wp2_with fail
        go_meet
        exact Keep.refl _ _
      | true =>
        obtain ⟨rfl, rfl, I6⟩ := hE6.1 hO
        have hO2 := hO
        rw [show hOkB l lba n = _ from hho, Bool.and_eq_true] at hO2
        obtain ⟨hf1, hr1⟩ := hO2
        have hF := (show F = true → _ from hFt) hf1
        obtain ⟨o1, o2, o3⟩ := okR_iff.1 hr1
        obtain ⟨L, hL⟩ : ∃ L : Nat, lba = (L : Int) := ⟨lba.toNat, by omega⟩
        obtain ⟨M, hM⟩ : ∃ M : Nat, n = (M : Int) := ⟨n.toNat, by omega⟩
        subst hL hM
        have hrh := rholes hR8 hF (lba := L) (n := M) (by omega)
        rw [← show m = l.length from hm'] at hrh
        have I8 := I6.more K8
        have hpl : (holL l L M).length ≤ 9223372036854775807 := by have := I6.2.1; have := I6.1; omega
        have hpi : ∀ {w9 : World} {a9 : Option Addr} {c9 : Nat}, Keep (fun _ => False) w8 w9 → Rs w9 a9 c9 (holL l L M) → Calls Try.prog 24 #[.slice a6 (holL l L M).length c6, .slice a9 (holL l L M).length c9] w9 fun e w' => e = .returned (.bool true) ∧ Keep (fun _ => False) w9 w' := fun k h => by
          have := piecesZ (I8.more k) h.rz hpl
          rw [sameL_refl] at this
          exact this
        clear hO hE6 hE4 I6 hf1 hr1 hF o1 o2 o3 hho hmo hFt
        generalize holL l L M = H at *
        go_wp2_with (first | (go_at_call 25; refine hrh.mono ?_; rintro e w9 ⟨a9, c9, rfl, R9⟩; have hp9 := hpi R9.keep R9.rs) | (go_at_call 24; refine hp9.mono ?_; rintro e w10 ⟨rfl, K10⟩))
        go_meet
        exact R9.keep.trans K10
    case rest =>
      have K9 : Keep (fun _ => False) w8 wc := hcut
      have hR9 := hR8.more K9
      clear hE6 hcut hho
      go_upto_region 13 with fail
      go_cut [113] from 25 to 209 (fun v wx => v = .bool (!mOkB l C W) ∧ Keep (fun _ => False) w8 wx)
      case first =>
        cases F with
        | false =>
          have e : Hid (mOkB l C W = false) := by rw [show mOkB l C W = _ from hmo]; rfl
          go_wp2_with fail
          go_meet
          exact ⟨by rw [show mOkB l C W = false from e]; rfl, K9⟩
        | true =>
          have hF := (show true = true → _ from hFt) rfl
          have hmo' : mOkB l C W = (decide (1 ≤ C ∧ C ≤ 512 ∧ 1 ≤ W ∧ W ≤ C) && endC C l) := by rw [show mOkB l C W = _ from hmo, Bool.true_and]
          have hen := ends_cap hR9 hF.inb C
          rw [← show m = l.length from hm'] at hen
          by_cases hall : 1 ≤ C ∧ C ≤ 512 ∧ 1 ≤ W ∧ W ≤ C
          · have e : Hid (mOkB l C W = endC C l) := by show _ = _; rw [hmo', decide_eq_true hall, Bool.true_and]
            obtain ⟨a1, a2, a3, a4⟩ := hall
            have g1 : ¬ C < 1 := by omega
            have g2 : ¬ 512 < C := by omega
            have g3 : ¬ W < 1 := by omega
            have g4 : ¬ C < W := by omega
            clear hmo hmo' a1 a2 a3 a4
            generalize endC C l = EC at *
            go_wp2_with (go_at_call 26; refine hen.mono ?_; rintro e w10 ⟨rfl, K10⟩)
            go_meet
            exact ⟨by rw [show mOkB l C W = _ from e], K9.trans K10⟩
          · have e : Hid (mOkB l C W = false) := by show _ = _; rw [hmo', decide_eq_false hall, Bool.false_and]
            clear hmo hmo' hen
            by_cases g1 : C < 1
            · go_wp2_with fail
              go_meet
              exact ⟨by rw [show mOkB l C W = false from e]; rfl, K9⟩
            · by_cases g2 : 512 < C
              · go_wp2_with fail
                go_meet
                exact ⟨by rw [show mOkB l C W = false from e]; rfl, K9⟩
              · by_cases g3 : W < 1
                · go_wp2_with fail
                  go_meet
                  exact ⟨by rw [show mOkB l C W = false from e]; rfl, K9⟩
                · have g4 : C < W := by omega
                  clear hall
                  go_wp2_with fail
                  go_meet
                  exact ⟨by rw [show mOkB l C W = false from e]; rfl, K9⟩
      case rest =>
        obtain ⟨rfl, K10⟩ := hcut
        have KA : Hid (Keep (fun _ => False) w wc) := ((show Keep (fun _ => False) w w7 from hKK).trans K8).trans K10
        have hR10 := hR8.more K10
        clear hmo hFt K9 hR9
        cases hV : mOkB l C W with
        | false =>
          obtain ⟨rfl, rfl⟩ := hE4.2 hV
          obtain ⟨rfl, rfl, rfl, rfl⟩ := h5.2 hV
          clear hV hE4 h5
          go_wp2_with fail
          go_ret
          exact ⟨rfl, KA⟩
        | true =>
          obtain ⟨rfl, rfl, I4⟩ := hE4.1 hV
          obtain ⟨rfl, rfl, rfl, rfl⟩ := h5.1 hV
          obtain ⟨hF, ⟨b1, b2, b3, b4⟩, -⟩ := mOk_true hV
          have I10 := (I4.more K8).more K10
          clear hE4 h5 hV I4
          obtain ⟨Cn, rfl⟩ : ∃ Cn : Nat, C = (Cn : Int) := ⟨C.toNat, by omega⟩
          obtain ⟨Wn, rfl⟩ : ∃ Wn : Nat, W = (Wn : Int) := ⟨W.toNat, by omega⟩
          rw [Int.toNat_natCast, Int.toNat_natCast] at I10 ⊢
          have hnw := nWin_le (C := Cn) (W := Wn) (by omega) (by omega)
          have hrm := rmany hR10 hF (C := Cn) (W := Wn) (by omega) (by omega) (by omega)
          rw [← show m = l.length from hm'] at hrm
          have hvl := manL_len Cn Wn l
          have hbl : Hid (bst (manL Cn Wn l) (nWin Cn Wn) < nWin Cn Wn) := bst_lt _ _ (by omega)
          have hmul : bst (manL Cn Wn l) (nWin Cn Wn) * Wn + 1 ≤ Cn := nWin_mul (by omega) (bst_lt _ _ (by omega))
          unfold ric
          generalize hAX : ((bst (manL Cn Wn l) (nWin Cn Wn) * Wn : Nat) : Int) = AX
          generalize hY : ricN Cn Wn (bst (manL Cn Wn l) (nWin Cn Wn) * Wn) = Y
          generalize hr0 : (manL Cn Wn l).getD (bst (manL Cn Wn l) (nWin Cn Wn)) 0 = r0
          have hAX' : Hid (((bst (manL Cn Wn l) (nWin Cn Wn) * Wn : Nat) : Int) = AX) := hAX
          have hY' : Hid (ricN Cn Wn (bst (manL Cn Wn l) (nWin Cn Wn) * Wn) = Y) := hY
          have hr0' : Hid ((manL Cn Wn l).getD (bst (manL Cn Wn l) (nWin Cn Wn)) 0 = r0) := hr0
          clear hAX hY hr0
          have hbn : (Cn : Int) ≤ 512 := b2
          clear hR8 hR10 hF b1 b2 b3 b4
          generalize manL Cn Wn l = v at *
          generalize nWin Cn Wn = N at *
          have hN : (N : Int) ≤ 512 := by omega
          have hN1 : Hid (1 ≤ N) := hnw.1
          clear hnw
          go_wp2_with fail
          refine hrm.mono ?_
          rintro e w11 ⟨gv, rfl, R11⟩
          have I11 := I10.more R11.keep
          have J11 := R11.is
          have KB : Hid (Keep (fun _ => False) w w11) := (show Keep (fun _ => False) w wc from KA).trans R11.keep
          have hrow : Hid (∀ wx, Keep (fun _ => False) w11 wx → ∀ i, i < N → (∃ g o, a4 = some ⟨g, o, none⟩ ∧ wx.cell? ⟨g, o + i, none⟩ = some (.int .i64 (v.getD i 0))) ∧ wx.cell? ⟨gv, i, none⟩ = some (.int .i64 (v.getD i 0))) := fun wx k i hi => by
            have hg : v[i]? = some (v.getD i 0) := by rw [List.getD_eq_getElem?_getD, List.getElem?_eq_getElem (by omega)]; rfl
            refine ⟨(I11.more k).at hg, ?_⟩
            rcases (J11.more k).2.2 with e | ⟨g', e, hc⟩
            · rw [e] at hg; simp at hg
            · injection e with e; injection e with e; subst e
              exact hc i _ (by unfold ic; rw [List.getElem?_map, hg]; rfl)
          clear hrm I10 I11 J11 R11 hvl
          go_wp2_with fail
          go_loopw [22, 23] (fun bv iv wx => ∃ i : Nat, i ≤ N ∧ iv = .int .i64 (i : Int) ∧ bv = .int .i64 ((bst v i : Nat) : Int) ∧ Keep (fun _ => False) w11 wx) (fun _ iv _ => N - (intOf iv).toNat)
          case atStart => exact ⟨0, by omega, rfl, rfl, Keep.refl _ _⟩
          case round =>
            obtain ⟨i, hi, rfl, rfl, k1⟩ := hrel
            by_cases hlt : i < N
            · obtain ⟨⟨g, o, rfl, z1⟩, z2⟩ := (show ∀ wx, _ → _ from hrow) _ k1 i hlt
              have hbi : bst v i < N := by
                by_cases h0 : i = 0
                · subst h0; show 0 < N; omega
                · have := bst_lt v i (by omega); omega
              obtain ⟨-, z3⟩ := (show ∀ wx, _ → _ from hrow) _ k1 (bst v i) hbi
              have di : (i : Int) < (N : Int) := by omega
              have db : ((bst v i : Nat) : Int) < (N : Int) := by omega
              have dwi := wrapI (x := (i : Int) + 1) (by omega) (by omega)
              have hlt' : Hid (i < N) := hlt
              have hbs : Hid (bst v (i + 1) = if v.getD (bst v i) 0 < v.getD i 0 then i else bst v i) := rfl
              have dvv : (v.getD i 0 != v.getD i 0) = false := by rw [bne_eq_false_iff_eq]
              generalize v.getD i 0 = y at *
              generalize v.getD (bst v i) 0 = z at *
              by_cases hyz : z < y
              · have hb2 : Hid (bst v (i + 1) = i) := by rw [show bst v (i + 1) = _ from hbs, if_pos hyz]; rfl
                have dyz : decide (z < y) = true := decide_eq_true hyz
                clear hlt hbs
                generalize bst v i = q at *
                go_wp2_with fail
                go_quiet (fail)
                go_wp2_with fail
                go_quiet (fail)
                go_wp2_with fail
                go_roundw
                case rel => exact ⟨i + 1, hlt', by go_num, by rw [show bst v (i + 1) = i from hb2], k1.drewN _⟩
                case measure => have : i < N := hlt'; simp [intOf]; omega
              · have hb2 : Hid (bst v (i + 1) = bst v i) := by rw [show bst v (i + 1) = _ from hbs, if_neg hyz]; rfl
                have dyz : decide (z < y) = false := decide_eq_false hyz
                clear hlt hbs
                generalize bst v i = q at *
                go_wp2_with fail
                go_quiet (fail)
                go_wp2_with fail
                go_quiet (fail)
                go_wp2_with fail
                go_roundw
                case rel => exact ⟨i + 1, hlt', by go_num, by rw [show bst v (i + 1) = _ from hb2], k1.drewN _⟩
                case measure => have : i < N := hlt'; simp [intOf]; omega
            · have di : ¬ (i : Int) < (N : Int) := by omega
              obtain rfl : i = N := by omega
              obtain ⟨-, z3⟩ := (show ∀ wx, _ → _ from hrow) _ k1 (bst v i) hbl
              have db : ((bst v i : Nat) : Int) < (i : Int) := by have : bst v i < i := hbl; omega
              have KC : Hid (Keep (fun _ => False) w wr) := (show Keep (fun _ => False) w w11 from KB).trans k1
              generalize bst v i = q at *
              have dA : IntKind.i64.wrap ((q : Int) * (Wn : Int)) = ((q * Wn : Nat) : Int) := by rw [← Int.natCast_mul]; exact wrapI (by omega) (by omega)
              generalize q * Wn = A at *
              have dCA := wrapI (x := (Cn : Int) - (A : Int)) (by omega) (by omega)
              have dAA : (AX == (A : Int)) = true := by rw [beq_iff_eq]; exact (show (A : Int) = AX from hAX').symm
              rw [show v.getD q 0 = r0 from hr0'] at z3
              have dyy : (r0 == r0) = true := by rw [beq_iff_eq]
              clear hlt hr0' hAX'
              by_cases hca : (Cn : Int) - (A : Int) < (Wn : Int)
              · have dYY : (Y == (Cn : Int) - (A : Int)) = true := by rw [beq_iff_eq, ← show ricN Cn Wn A = Y from hY']; unfold ricN; rw [if_pos hca]
                clear hY'
                go_wp2_with fail
                go_ret
                exact ⟨rfl, KC⟩
              · have dYY : (Y == (Wn : Int)) = true := by rw [beq_iff_eq, ← show ricN Cn Wn A = Y from hY']; unfold ricN; rw [if_neg hca]
                clear hY'
                go_wp2_with fail
                go_ret
                exact ⟨rfl, KC⟩
end Tg
end Go.Proofs.Ytojkiambkgkecaa
