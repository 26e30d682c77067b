/-
  tells: the three calls held against the document's own, walked.
-/
import Derived.Test.YtkddonmddgfpnabBi
namespace Go.Proofs.Ytkddonmddgfpnab
open Go.ChangeShapes Go.WideShapes Go.ChangeAt Go.RowKit
namespace Tg
theorem ValidOk.post (H : ValidOk) {w : World} {a : Option Addr} {cap : Nat} {l : List Rn} {n pages : Int} (hR : Rz w a cap l) (hf : Fits l) (hn : -9223372036854775808 ≤ n ∧ n ≤ 9223372036854775807) (hp : -9223372036854775808 ≤ pages ∧ pages ≤ 9223372036854775807) :
    Calls Try.prog 9 #[.slice a l.length cap, .int .i64 n, .int .i64 pages] w fun e w' => ∃ (a' : Option Addr) (k c' : Nat) (E : Int), e = .returned (.tuple #[.slice a' k c', .int .i64 E]) ∧ Hid ((vOk l n pages = true → E = 0 ∧ k = n.toNat ∧ Iz w' a' c' (valL pages l n.toNat)) ∧ (vOk l n pages = false → E = 1 ∧ k = 0)) ∧ Keep (fun _ => False) w w' :=
  (H n pages hR hf hn hp).mono (by
    rintro e w' ⟨h1, k⟩
    by_cases hc : vOk l n pages = true
    · rw [if_pos hc] at h1
      obtain ⟨a', c', rfl, h2⟩ := h1
      exact ⟨a', _, c', 0, rfl, ⟨fun _ => ⟨rfl, rfl, h2⟩, fun e => by rw [hc] at e; cases e⟩, k⟩
    · rw [if_neg hc] at h1
      obtain ⟨a', c', rfl⟩ := h1
      exact ⟨a', _, c', 1, rfl, ⟨fun e => absurd e hc, fun _ => ⟨rfl, rfl⟩⟩, k⟩)
theorem SplitOk.post (H : SplitOk) {w : World} {a : Option Addr} {cap : Nat} {l : List Rn} {pages : Int} (hR : Rz w a cap l) (hf : Fits l) (hp : -9223372036854775808 ≤ pages ∧ pages ≤ 9223372036854775807) :
    Calls Try.prog 19 #[.slice a l.length cap, .int .i64 pages] w fun e w' => ∃ (a' : Option Addr) (k c' : Nat) (E : Int), e = .returned (.tuple #[.slice a' k c', .int .i64 E]) ∧ Hid ((sOk l pages = true → E = 0 ∧ k = (splL pages l).length ∧ Rz w' a' c' (splL pages l)) ∧ (sOk l pages = false → E = 1 ∧ k = 0)) ∧ Keep (fun _ => False) w w' :=
  (H pages hR hf hp).mono (by
    rintro e w' ⟨h1, k⟩
    by_cases hc : sOk l pages = true
    · rw [if_pos hc] at h1
      obtain ⟨a', c', rfl, h2⟩ := h1
      exact ⟨a', _, c', 0, rfl, ⟨fun _ => ⟨rfl, rfl, h2⟩, fun e => by rw [hc] at e; cases e⟩, k⟩
    · rw [if_neg hc] at h1
      obtain ⟨a', c', rfl⟩ := h1
      exact ⟨a', _, c', 1, rfl, ⟨fun e => absurd e hc, fun _ => ⟨rfl, rfl⟩⟩, k⟩)
theorem MovesOk.post (H : MovesOk) {w : World} {a : Option Addr} {cap : Nat} {l : List Rn} {b pages : Int} (hR : Rz w a cap l) (hf : Fits l) (hb : -9223372036854775808 ≤ b ∧ b ≤ 9223372036854775807) (hp : -9223372036854775808 ≤ pages ∧ pages ≤ 9223372036854775807) :
    Calls Try.prog 11 #[.slice a l.length cap, .int .i64 b, .int .i64 pages] w fun e w' => ∃ (a' : Option Addr) (k c' : Nat) (E : Int), e = .returned (.tuple #[.slice a' k c', .int .i64 E]) ∧ Hid ((sOk l pages = true ∧ 0 ≤ b ∧ b < 64 → E = 0 ∧ k = (movL pages b l).length ∧ Rz w' a' c' (movL pages b l)) ∧ (¬ (sOk l pages = true ∧ 0 ≤ b ∧ b < 64) → E = 1 ∧ k = 0)) ∧ Keep (fun _ => False) w w' :=
  (H b pages hR hf hb hp).mono (by
    rintro e w' ⟨h1, k⟩
    by_cases hc : sOk l pages = true ∧ 0 ≤ b ∧ b < 64
    · rw [if_pos hc] at h1
      obtain ⟨a', c', rfl, h2, -⟩ := h1
      exact ⟨a', _, c', 0, rfl, ⟨fun _ => ⟨rfl, rfl, h2⟩, fun e => absurd hc e⟩, k⟩
    · rw [if_neg hc] at h1
      obtain ⟨a', c', rfl⟩ := h1
      exact ⟨a', _, c', 1, rfl, ⟨fun e => absurd e hc, fun _ => ⟨rfl, rfl⟩⟩, k⟩)
/-- The runs and the number of pages may be. -/
def ok0 (l : List Rn) (pages : Int) : Bool := decide (1 ≤ pages ∧ pages ≤ 32) && fit13 l
def allP (l : List Rn) : Bool := l.all (fun x => decide (x.phys ≤ 1048576))
theorem allP_snoc (l : List Rn) (x : Rn) : allP (l ++ [x]) = (allP l && decide (x.phys ≤ 1048576)) := by simp [allP]
theorem sOk_eq (l : List Rn) (pages : Int) : sOk l pages = (ok0 l pages && inP 1049089 l && allP l) := by
  unfold sOk ok0 allP
  cases hf : fit13 l with
  | false => simp
  | true =>
    cases hc : (l.all (fun x => decide (x.phys ≤ 1048576))) with
    | false => simp
    | true =>
      have hF := Ft13.of hf
      have : inP 1049089 l = true := inP_iff.2 (fun x hx => by
        have h1 := hF.bd hx
        have h2 : x.phys ≤ 1048576 := by
          have := List.all_eq_true.1 hc x hx
          simpa using this
        omega)
      rw [this]
      simp
theorem vOk_eq (l : List Rn) (n pages : Int) : vOk l n pages = (ok0 l pages && (decide (1 ≤ n ∧ n ≤ 64) && inP (n * pages) l)) := by
  unfold vOk ok0
  rw [Bool.and_assoc]
theorem ok0_true {l : List Rn} {pages : Int} (h : ok0 l pages = true) : (1 ≤ pages ∧ pages ≤ 32) ∧ Ft13 l := by
  unfold ok0 at h
  rw [Bool.and_eq_true, decide_eq_true_iff] at h
  exact ⟨h.1, Ft13.of h.2⟩
set_option maxRecDepth 100000 in
set_option maxHeartbeats 2000000 in
theorem tells_any (HV : ValidOk) (HS : SplitOk) (HM : MovesOk) {w : World} {a : Option Addr} {cap : Nat} {l : List Rn} (hR : Rz w a cap l) (hfi : Fits l) (hll : l.length ≤ 5864062014700) {n pages block : Int}
    (hn : -9223372036854775808 ≤ n ∧ n ≤ 9223372036854775807) (hp : -9223372036854775808 ≤ pages ∧ pages ≤ 9223372036854775807) (hbk : -9223372036854775808 ≤ block ∧ block ≤ 9223372036854775807) :
    Calls Try.prog 13 #[.slice a l.length cap, .int .i64 n, .int .i64 pages, .int .i64 block] w fun e w' => e = .returned (.bool true) ∧ Keep (fun _ => False) w w' := by
  have hlc := hR.1
  have hlc2 := hR.2.1
  obtain ⟨a2, c2, w2, hrun2, R2⟩ := copy_runsL hR (by omega)
  obtain ⟨a3, c3, w3, hrun3, R3⟩ := R2.app1L (by omega) ⟨9, 0, 0⟩
  have Z3 := R3.rs.rz
  have hc3 := Z3.1
  have hc4 := Z3.2.1
  rw [List.length_append, List.length_singleton] at hc3
  obtain ⟨g3, rfl⟩ := R3.some (by simp)
  have Z3' := Z3.init
  have K3 := R3.keep
  have hv := HV.post Z3' hfi hn hp
  obtain ⟨m, hm⟩ : ∃ m, m = l.length := ⟨_, rfl⟩
  have hm' : Hid (m = l.length) := hm
  rw [← hm] at hlc hll hrun2 hrun3 hc3 hv ⊢
  clear hm
  go_enter Try.func13, Try.ntmps13
  go_upto_region 2 with (first | (at_builtin; refine wpList_append_run rfl (.tmp 18) (.tmp 19) 27 rfl (by rfl) (by rfl) hrun2 ?_) | (at_builtin; refine wpList_append_run rfl (.tmp 20) (.tmp 22) 27 rfl (by rfl) (by rfl) hrun3 ?_))
  clear hrun2 hrun3 Z3 R3 R2
  go_upto_region 3 with (go_at_call 9; refine hv.mono ?_; rintro e w4 ⟨a4, k4, c4, E4, rfl, h4, K4⟩)
  have hs := HS.post (Z3'.more K4) hfi hp
  rw [← show m = l.length from hm'] at hs
  clear hv
  go_upto_region 4 with (go_at_call 19; refine hs.mono ?_; rintro e w5 ⟨a5, k5, c5, E5, rfl, h5, K5⟩)
  have hmv := HM.post ((Z3'.more K4).more K5) hfi hbk hp
  rw [← show m = l.length from hm'] at hmv
  clear hs
  go_upto_region 5 with (go_at_call 11; refine hmv.mono ?_; rintro e w6 ⟨a6, k6, c6, E6, rfl, h6, K6⟩)
  have K36 := ((K3.trans K4).trans K5).trans K6
  have hsa := sameZ (((Z3'.more K4).more K5).more K6) (hR.more K36) (by rw [← show m = l.length from hm']; omega)
  rw [← show m = l.length from hm', sameL_refl] at hsa
  clear hmv HV HS HM
  go_upto_region 7 with (go_at_call 16; refine hsa.mono ?_; rintro e w7 ⟨rfl, K7⟩)
  have K37 := K36.trans K7
  clear hsa K3 K36 Z3'
  have hE4 : Hid ((vOk l n pages = true → E4 = 0 ∧ k4 = n.toNat ∧ Iz w7 a4 c4 (valL pages l n.toNat)) ∧ (vOk l n pages = false → E4 = 1 ∧ k4 = 0)) :=
    ⟨fun h => by obtain ⟨q1, q2, q3⟩ := h4.1 h; exact ⟨q1, q2, ((q3.more K5).more K6).more K7⟩, h4.2⟩
  have hE5 : Hid ((sOk l pages = true → E5 = 0 ∧ k5 = (splL pages l).length ∧ Rz w7 a5 c5 (splL pages l)) ∧ (sOk l pages = false → E5 = 1 ∧ k5 = 0)) :=
    ⟨fun h => by obtain ⟨q1, q2, q3⟩ := h5.1 h; exact ⟨q1, q2, (q3.more K6).more K7⟩, h5.2⟩
  have hE6 : Hid ((sOk l pages = true ∧ 0 ≤ block ∧ block < 64 → E6 = 0 ∧ k6 = (movL pages block l).length ∧ Rz w7 a6 c6 (movL pages block l)) ∧ (¬ (sOk l pages = true ∧ 0 ≤ block ∧ block < 64) → E6 = 1 ∧ k6 = 0)) :=
    ⟨fun h => by obtain ⟨q1, q2, q3⟩ := h6.1 h; exact ⟨q1, q2, q3.more K7⟩, h6.2⟩
  have hR7 := hR.more K37
  have hKK : Hid (Keep (fun _ => False) w w7) := K37
  clear h4 h5 h6 K4 K5 K6 K7 K37 hR
  go_cut [16] from 18 to 167 (fun v wx => v = .bool (ok0 l pages) ∧ Keep (fun _ => False) w7 wx)
  case first =>
    have hfc := fits13 hR7
    rw [← show m = l.length from hm'] at hfc
    by_cases h1 : 1 ≤ pages
    · by_cases h2 : pages ≤ 32
      · have e : Hid (ok0 l pages = fit13 l) := by show _ = _; unfold ok0; rw [decide_eq_true ⟨h1, h2⟩, Bool.true_and]
        go_wp2_with (go_at_call 25; refine hfc.mono ?_; rintro e w8 ⟨rfl, K8⟩)
        go_meet
        exact ⟨by rw [show ok0 l pages = fit13 l from e], K8⟩
      · have e : Hid (ok0 l pages = false) := by show _ = _; unfold ok0; rw [decide_eq_false (fun h => h2 h.2), Bool.false_and]
        go_wp2_with fail
        go_meet
        exact ⟨by rw [show ok0 l pages = false from e], Keep.refl _ _⟩
    · have e : Hid (ok0 l pages = false) := by show _ = _; unfold ok0; rw [decide_eq_false (fun h => h1 h.1), Bool.false_and]
      go_wp2_with fail
      go_meet
      exact ⟨by rw [show ok0 l pages = false from e], Keep.refl _ _⟩
  case rest =>
    obtain ⟨rfl, K8⟩ := hcut
    have hok : Hid (ok0 l pages = true → (1 ≤ pages ∧ pages ≤ 32) ∧ Ft13 l) := ok0_true
    have hvo : Hid (vOk l n pages = (ok0 l pages && (decide (1 ≤ n ∧ n ≤ 64) && inP (n * pages) l))) := vOk_eq l n pages
    have hso : Hid (sOk l pages = (ok0 l pages && inP 1049089 l && allP l)) := sOk_eq l pages
    generalize ok0 l pages = O at hok hvo hso
    go_upto_region 8 with fail
    go_cut [78] from 18 to 167 (fun v wx => v = .bool (!vOk l n pages) ∧ Keep (fun _ => False) w7 wx)
    case first =>
      cases O with
      | false =>
        have e : Hid (vOk l n pages = false) := by rw [show vOk l n pages = _ from hvo]; rfl
        go_wp2_with fail
        go_meet
        exact ⟨by rw [show vOk l n pages = false from e]; rfl, K8⟩
      | true =>
        obtain ⟨hpp, hF⟩ := (show true = true → _ from hok) rfl
        have hvo' : vOk l n pages = (decide (1 ≤ n ∧ n ≤ 64) && inP (n * pages) l) := by rw [show vOk l n pages = _ from hvo, Bool.true_and]
        by_cases h1 : 1 ≤ n
        · by_cases h2 : n ≤ 64
          · have e : Hid (vOk l n pages = inP (n * pages) l) := by show _ = _; rw [hvo', decide_eq_true ⟨h1, h2⟩, Bool.true_and]
            have hnp : 1 ≤ n * pages ∧ n * pages ≤ 2048 := by
              have q1 : n * pages ≤ 64 * 32 := Int.mul_le_mul h2 hpp.2 (by omega) (by omega)
              have q2 : 1 * 1 ≤ n * pages := Int.mul_le_mul h1 hpp.1 (by omega) (by omega)
              omega
            have hin := inside13 (hR7.more K8) hF (P := n * pages) (by omega)
            rw [← show m = l.length from hm'] at hin
            have dnp : IntKind.i64.wrap (n * pages) = n * pages := wrapI (by omega) (by omega)
            have g1 : ¬ n < 1 := by omega
            have g2 : ¬ 64 < n := by omega
            clear hvo' hvo hnp
            go_wp2_with (go_at_call 15; refine hin.mono ?_; rintro e w9 ⟨rfl, K9⟩)
            go_meet
            exact ⟨by rw [show vOk l n pages = inP (n * pages) l from e], K8.trans K9⟩
          · have e : Hid (vOk l n pages = false) := by show _ = _; rw [hvo', decide_eq_false (fun h => h2 h.2), Bool.false_and]
            have g1 : ¬ n < 1 := by omega
            have g2 : 64 < n := by omega
            clear hvo' hvo
            go_wp2_with fail
            go_meet
            exact ⟨by rw [show vOk l n pages = false from e]; rfl, K8⟩
        · have e : Hid (vOk l n pages = false) := by show _ = _; rw [hvo', decide_eq_false (fun h => h1 h.1), Bool.false_and]
          have g1 : n < 1 := by omega
          clear hvo' hvo
          go_wp2_with fail
          go_meet
          exact ⟨by rw [show vOk l n pages = false from e]; rfl, K8⟩
    case rest =>
      obtain ⟨rfl, K9⟩ := hcut
      have hR9 := hR7.more K9
      go_upto_if 78 with fail
      go_cut [] from 18 to 167 (fun wx => Keep (fun _ => False) w7 wx)
      case first =>
        cases hV : vOk l n pages with
        | false =>
          obtain ⟨rfl, rfl⟩ := hE4.2 hV
          clear hV hE4
          go_wp2_with fail
          go_meet
          exact K9
        | true =>
          obtain ⟨rfl, rfl, I4⟩ := hE4.1 hV
          rw [show vOk l n pages = _ from hvo, Bool.and_eq_true, Bool.and_eq_true, decide_eq_true_iff] at hV
          obtain ⟨hO, ⟨hn1, hn2⟩, hin⟩ := hV
          obtain ⟨hpp, hF⟩ := (show O = true → _ from hok) hO
          obtain ⟨q, hq⟩ : ∃ q : Nat, n = (q : Int) := ⟨n.toNat, by omega⟩
          subst hq
          rw [Int.toNat_natCast] at I4 ⊢
          have hrv := rvalid hR9 hF (n := q) (by omega) hpp (fun x hx => inP_iff.1 hin x hx)
          rw [← show m = l.length from hm'] at hrv
          have I9 := I4.more K9
          have hints : ∀ {w8 : World} {g : Nat}, Keep (fun _ => False) wc w8 → Is w8 (some ⟨g, 0, none⟩) q (valL pages l q) → Calls Try.prog 20 #[.slice a4 q c4, .slice (some ⟨g, 0, none⟩) q q] w8 fun e w' => e = .returned (.bool true) ∧ Keep (fun _ => False) w8 w' := fun {w8 g} k h => by
            have := ints_any (I9.more k) h.iz (by rw [valL_len]; omega)
            rw [valL_len, decide_eq_true rfl] at this
            exact this
          clear hE4 hvo hin I4 hO
          go_wp2_with (first | (go_at_call 26; refine hrv.mono ?_; rintro e w8 ⟨g8, rfl, R8⟩; have hi8 := hints R8.keep R8.is) | (go_at_call 20; refine hi8.mono ?_; rintro e w10 ⟨rfl, K10⟩))
          go_meet
          exact (K9.trans R8.keep).trans K10
      case rest =>
        have hRc := hR7.more hcut
        have K10 : Keep (fun _ => False) w7 wc := hcut
        clear hE4 hvo hR9 K9 K8 hcut
        go_upto_region 13 with fail
        go_cut [16] from 18 to 167 (fun v wx => v = .bool (O && inP 1049089 l) ∧ Keep (fun _ => False) w7 wx)
        case first =>
          cases O with
          | false =>
            go_wp2_with fail
            go_meet
            exact ⟨rfl, K10⟩
          | true =>
            obtain ⟨hpp, hF⟩ := (show true = true → _ from hok) rfl
            have hin := inside13 hRc hF (P := 1049089) (by omega)
            rw [← show m = l.length from hm'] at hin
            go_wp2_with (go_at_call 15; refine hin.mono ?_; rintro e w9 ⟨rfl, K9⟩)
            go_meet
            exact ⟨rfl, K10.trans K9⟩
        case rest =>
          obtain ⟨rfl, K11⟩ := hcut
          have hQO : Hid ((O && inP 1049089 l) = true → O = true) := fun h => (Bool.and_eq_true _ _ ▸ h : O = true ∧ inP 1049089 l = true).1
          generalize (O && inP 1049089 l) = Q at hso hQO
          go_wp2_with fail
          go_loopw [16, 17] (fun ov v wx => ∃ i : Nat, i ≤ m ∧ v = .int .i64 (i : Int) ∧ ov = .bool (Q && allP (l.take i)) ∧ Keep (fun _ => False) w7 wx) (fun _ v _ => m - (intOf v).toNat)
          case atStart => exact ⟨0, by omega, rfl, by simp [allP], K11⟩
          case round =>
            clear K11 K10 hRc
            obtain ⟨i, hi, rfl, rfl, KK⟩ := hrel
            by_cases hlt : i < m
            · obtain ⟨x, hx⟩ := get_rn (m := l) (i := i) (by rw [← show m = l.length from hm']; exact hlt)
              obtain ⟨g, o, rfl, x0, x1, x2⟩ := (hR7.more KK).at hx
              have hnx : (Q && allP (l.take (i + 1))) = ((Q && allP (l.take i)) && decide (x.phys ≤ 1048576)) := by rw [take_next hx, allP_snoc, Bool.and_assoc]
              have hnx' : Hid ((Q && allP (l.take (i + 1))) = ((Q && allP (l.take i)) && decide (x.phys ≤ 1048576))) := hnx
              have di : (i : Int) < (m : Int) := by omega
              have dw := wrapI (x := (i : Int) + 1) (by omega) (by omega)
              have hlt' : Hid (i < m) := hlt
              clear hx hnx hlt x0 x1
              generalize (Q && allP (l.take i)) = F at hnx'
              cases F with
              | false =>
                go_wp2_with fail
                go_roundw
                case rel => exact ⟨i + 1, hlt', by go_num, by rw [show (Q && allP (l.take (i + 1))) = _ from hnx']; rfl, KK⟩
                case measure => have : i < m := hlt'; simp [intOf]; omega
              | true =>
                go_wp2_with fail
                go_roundw
                case rel => exact ⟨i + 1, hlt', by go_num, by rw [show (Q && allP (l.take (i + 1))) = _ from hnx', Bool.true_and], KK⟩
                case measure => have : i < m := hlt'; simp [intOf]; omega
            · have di : ¬ (i : Int) < (m : Int) := by omega
              have hQ : (Q && allP (l.take i)) = sOk l pages := by rw [show sOk l pages = _ from hso, List.take_of_length_le (by rw [← show m = l.length from hm']; omega)]
              have hRw := hR7.more KK
              rw [hQ]
              clear hlt hQ
              cases hV : sOk l pages with
              | false =>
                obtain ⟨rfl, rfl⟩ := hE5.2 hV
                obtain ⟨rfl, rfl⟩ := hE6.2 (fun h => by rw [hV] at h; cases h.1)
                clear hV hE5 hE6 hso
                go_wp2_with fail
                go_ret
                exact ⟨rfl, (show Keep (fun _ => False) w w7 from hKK).trans KK⟩
              | true =>
                obtain ⟨rfl, rfl, I5⟩ := hE5.1 hV
                have hO : O = true := (show Q = true → O = true from hQO) (by rw [show sOk l pages = _ from hso, Bool.and_eq_true] at hV; exact hV.1)
                obtain ⟨hpp, hF⟩ := (show O = true → _ from hok) hO
                have hspl := splL_512 (pages := pages) hF
                have hsp := rsplit hRw hF hpp
                rw [← show m = l.length from hm'] at hsp
                have I9 := I5.more KK
                have hsame : ∀ {w8 : World} {a8 : Option Addr} {c8 : Nat}, Keep (fun _ => False) wr w8 → Rs w8 a8 c8 (splL pages l) → Calls Try.prog 16 #[.slice a5 (splL pages l).length c5, .slice a8 (splL pages l).length c8] w8 fun e w' => e = .returned (.bool true) ∧ Keep (fun _ => False) w8 w' := fun {w8 a8 c8} k h => by
                  have := sameZ (I9.more k) h.rz (by omega)
                  rw [sameL_refl] at this
                  exact this
                by_cases hb1 : 0 ≤ block
                · by_cases hb2 : block < 64
                  · obtain ⟨rfl, rfl, I6⟩ := hE6.1 ⟨hV, hb1, hb2⟩
                    have hml := movL_len (pages := pages) (b := block) (l := l)
                    have hmo : ∀ {w8 : World}, Keep (fun _ => False) wr w8 → Calls Try.prog 28 #[.slice a m cap, .int .i64 block, .int .i64 pages] w8 fun e w' => ∃ a' c', e = .returned (.slice a' (movL pages block l).length c') ∧ Rr w8 w' a' c' (movL pages block l) := fun {w8} k => by
                      have := rmoves (b := block) (hRw.more k) hF hpp
                      rw [← show m = l.length from hm'] at this
                      exact this
                    have I10 := I6.more KK
                    have hsame2 : ∀ {w8 : World} {a8 : Option Addr} {c8 : Nat}, Keep (fun _ => False) wr w8 → Rs w8 a8 c8 (movL pages block l) → Calls Try.prog 16 #[.slice a6 (movL pages block l).length c6, .slice a8 (movL pages block l).length c8] w8 fun e w' => e = .returned (.bool true) ∧ Keep (fun _ => False) w8 w' := fun {w8 a8 c8} k h => by
                      have := sameZ (I10.more k) h.rz (by omega)
                      rw [sameL_refl] at this
                      exact this
                    generalize (movL pages block l).length = q6 at hmo hsame2
                    generalize (splL pages l).length = q5 at hsp hsame
                    have g1 : ¬ block < 0 := by omega
                    have g2 : ¬ 64 ≤ block := by omega
                    clear hE5 hE6 hV hso I5 I6 I9 I10 hO hspl hml
                    go_upto_region 22 with (first | (go_at_call 27; refine hsp.mono ?_; rintro e w8 ⟨a8, c8, rfl, R8⟩; have hs8 := hsame R8.keep R8.rs) | (go_at_call 16; refine hs8.mono ?_; rintro e w10 ⟨rfl, K10⟩))
                    have K12 := R8.keep.trans K10
                    have hm12 := hmo K12
                    go_wp2_with (first | (go_at_call 28; refine hm12.mono ?_; rintro e w13 ⟨a13, c13, rfl, R13⟩; have hs13 := hsame2 (K12.trans R13.keep) R13.rs) | (go_at_call 16; refine hs13.mono ?_; rintro e w14 ⟨rfl, K14⟩))
                    go_ret
                    exact ⟨rfl, (show Keep (fun _ => False) w w7 from hKK).trans (KK.trans ((K12.trans R13.keep).trans K14))⟩
                  · obtain ⟨rfl, rfl⟩ := hE6.2 (fun h => hb2 h.2.2)
                    generalize (splL pages l).length = q5 at hsp hsame
                    have g1 : ¬ block < 0 := by omega
                    have g2 : 64 ≤ block := by omega
                    clear hE5 hE6 hV hso I5 I9 hO hspl
                    go_wp2_with (first | (go_at_call 27; refine hsp.mono ?_; rintro e w8 ⟨a8, c8, rfl, R8⟩; have hs8 := hsame R8.keep R8.rs) | (go_at_call 16; refine hs8.mono ?_; rintro e w10 ⟨rfl, K10⟩))
                    go_ret
                    exact ⟨rfl, (show Keep (fun _ => False) w w7 from hKK).trans (KK.trans (R8.keep.trans K10))⟩
                · obtain ⟨rfl, rfl⟩ := hE6.2 (fun h => hb1 h.2.1)
                  generalize (splL pages l).length = q5 at hsp hsame
                  have g1 : block < 0 := by omega
                  clear hE5 hE6 hV hso I5 I9 hO hspl
                  go_wp2_with (first | (go_at_call 27; refine hsp.mono ?_; rintro e w8 ⟨a8, c8, rfl, R8⟩; have hs8 := hsame R8.keep R8.rs) | (go_at_call 16; refine hs8.mono ?_; rintro e w10 ⟨rfl, K10⟩))
                  go_ret
                  exact ⟨rfl, (show Keep (fun _ => False) w w7 from hKK).trans (KK.trans (R8.keep.trans K10))⟩
end Tg
end Go.Proofs.Ytkddonmddgfpnab
