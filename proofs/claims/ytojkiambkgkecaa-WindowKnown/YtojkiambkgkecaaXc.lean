/-
  The landed Many, walked.
-/
import Derived.Test.YtojkiambkgkecaaXb
import Derived.Test.YtojkiambkgkecaaWo
namespace Go.Proofs.Ytojkiambkgkecaa
open Go.ChangeShapes Go.WideShapes Go.ChangeAt Go.RowKit
namespace Tg
theorem and3 {a b c : Bool} (h : (a && (b && c)) = true) : a = true ∧ b = true ∧ c = true := by cases a <;> cases b <;> cases c <;> simp_all
/-- The row in the midst of a run's windows. -/
def irow (n W : Nat) (l : List Rn) (lo j : Nat) : List Int := (List.range n).map (fun k => mcnt W l k + if lo ≤ k ∧ k < j then 1 else 0)
def rowL (n W : Nat) (l : List Rn) : List Int := (List.range n).map (mcnt W l)
theorem irow_len (n W : Nat) (l : List Rn) (lo j : Nat) : (irow n W l lo j).length = n := by simp [irow]
theorem rowL_nil (n W : Nat) : rowL n W [] = List.replicate n 0 := by
  unfold rowL
  refine List.ext_getElem? (fun j => ?_)
  rw [List.getElem?_map, List.getElem?_replicate]
  by_cases hj : j < n
  · rw [List.getElem?_range hj, if_pos hj]; simp [mcnt]
  · rw [List.getElem?_eq_none (by simp; omega), if_neg hj]; rfl
theorem irow_start (n W : Nat) (l : List Rn) (lo : Nat) : irow n W l lo lo = rowL n W l := by
  unfold irow rowL
  refine List.map_congr_left (fun j _ => ?_)
  rw [if_neg (by omega), Int.add_zero]
theorem irow_end {n W : Nat} {l : List Rn} {i : Nat} {x : Rn} (hx : l[i]? = some x) (h1 : 1 ≤ W) (h0 : 0 ≤ x.lba) (hl : 1 ≤ x.len) : irow n W (l.take i) (x.lba.toNat / W) ((x.lba + x.len - 1).toNat / W + 1) = rowL n W (l.take (i + 1)) := by
  unfold irow rowL
  refine List.map_congr_left (fun j _ => ?_)
  rw [take_snoc hx, mcnt_snoc]
  congr 1
  by_cases c : inW W j x = true
  · rw [if_pos c, if_pos (by have := (inW_iff h1 h0 hl).1 c; omega)]
  · rw [if_neg c, if_neg (by intro h; exact c ((inW_iff h1 h0 hl).2 (by omega)))]
theorem irow_get {n W : Nat} {l : List Rn} {lo j : Nat} (hj : j < n) : (irow n W l lo j).getD j (-1) = mcnt W l j := by
  unfold irow
  rw [List.getD_eq_getElem?_getD, List.getElem?_map, List.getElem?_range hj]
  simp
theorem irow_set {n W : Nat} {l : List Rn} {lo j : Nat} (hj : j < n) (hlo : lo ≤ j) : (irow n W l lo j).set j (mcnt W l j + 1) = irow n W l lo (j + 1) := by
  refine List.ext_getElem? (fun k => ?_)
  rw [List.getElem?_set, irow_len]
  unfold irow
  rw [List.getElem?_map, List.getElem?_map]
  by_cases e : j = k
  · subst e
    rw [if_pos rfl, if_pos hj, List.getElem?_range hj]
    simp only [Option.map_some]
    rw [if_pos (by omega)]
  · rw [if_neg e]
    by_cases hk : k < n
    · rw [List.getElem?_range hk]
      simp only [Option.map_some]
      congr 2
      by_cases c : lo ≤ k ∧ k < j
      · rw [if_pos c, if_pos (by omega)]
      · rw [if_neg c, if_neg (by omega)]
    · rw [List.getElem?_eq_none (by simp; omega)]; rfl
set_option maxRecDepth 100000 in
set_option maxHeartbeats 1000000 in
theorem manyF_no {w : World} {a : Option Addr} {cap : Nat} {l : List Rn} {C W : Int} (hR : Rz w a cap l) (hf : Fits l) (h : mOkB l C W = false) :
    Calls Try.prog 10 #[.slice a l.length cap, .int .i64 C, .int .i64 W] w fun e w' => (∃ a' c', e = .returned (.tuple #[.slice a' 0 c', .int .i64 1])) ∧ Keep (fun _ => False) w w' := by
  have K0 := Keep.refl (fun _ => False) w
  rw [mOk_eq] at h
  have hw1 := fun w => within_any w C 1 512
  have hw2 := fun w => within_any w W 1 C
  cases c1 : (decide (1 ≤ C) && decide (C ≤ 512)) with
  | false =>
    rw [c1] at hw1
    clear h hR hf hw2 c1
    go_enter Try.func10, Try.ntmps10
    go_wp2_with fail
    refine (hw1 _).mono ?_
    rintro e w1 ⟨rfl, e0⟩
    subst e0
    go_wp2_with fail
    go_ret2
    exact ⟨⟨_, _, rfl⟩, K0⟩
  | true =>
    have hC : 1 ≤ C ∧ C ≤ 512 := by simpa using c1
    rw [c1] at hw1 h
    rw [Bool.true_and] at h
    cases c2 : (decide (1 ≤ W) && decide (W ≤ C)) with
    | false =>
      rw [c2] at hw2
      clear h hR hf c1 c2 hC
      go_enter Try.func10, Try.ntmps10
      go_wp2_with fail
      refine (hw1 _).mono ?_
      rintro e w1 ⟨rfl, e0⟩
      subst e0
      go_wp2_with fail
      refine (hw2 _).mono ?_
      rintro e w1 ⟨rfl, e0⟩
      subst e0
      go_wp2_with fail
      go_ret2
      exact ⟨⟨_, _, rfl⟩, K0⟩
    | true =>
      rw [c2] at hw2 h
      rw [Bool.true_and] at h
      have hfm := formed_any hR hf hC
      rw [h] at hfm
      clear h hR hf c1 c2 hC
      go_enter Try.func10, Try.ntmps10
      go_wp2_with fail
      refine (hw1 _).mono ?_
      rintro e w1 ⟨rfl, e0⟩
      subst e0
      go_wp2_with fail
      refine (hw2 _).mono ?_
      rintro e w1 ⟨rfl, e0⟩
      subst e0
      go_wp2_with fail
      refine hfm.mono ?_
      rintro e w2 ⟨rfl, k2⟩
      clear hfm
      go_wp2_with fail
      go_ret2
      exact ⟨⟨_, _, rfl⟩, k2⟩
set_option maxRecDepth 100000 in
set_option maxHeartbeats 2000000 in
theorem many_yes {w : World} {a : Option Addr} {cap : Nat} {l : List Rn} {C W : Nat} (hR : Rz w a cap l) (hf : Fits l) (h : mOkB l C W = true) :
    Calls Try.prog 10 #[.slice a l.length cap, .int .i64 (C : Int), .int .i64 (W : Int)] w fun e w' => (∃ a' c', e = .returned (.tuple #[.slice a' (nWin C W) c', .int .i64 0]) ∧ Iz w' a' c' (manL C W l)) ∧ Keep (fun _ => False) w w' := by
  have hm := h
  rw [mOk_eq] at h
  obtain ⟨c1, c2, hfmt⟩ := and3 h
  have hC : 1 ≤ (C : Int) ∧ (C : Int) ≤ 512 := by simpa using c1
  have hW : 1 ≤ (W : Int) ∧ (W : Int) ≤ C := by simpa using c2
  have hfit : fit13 l = true ∧ endC C l = true := by
    have := hfmt
    rw [fm_fit hC.2, Bool.and_eq_true] at this
    exact this
  have hF := Ft13.of hfit.1
  have hfo : Form l := (formP_form (by have := hfit.1; unfold fit13 at this; rw [Bool.and_eq_true, Bool.and_eq_true] at this; exact this.2.1)).1
  have hend := (endC_iff hfo).1 hfit.2
  have hw1 := fun w => within_any w C 1 512
  have hw2 := fun w => within_any w W 1 C
  have hfm := formed_any hR hf hC
  rw [c1] at hw1
  rw [c2] at hw2
  rw [hfmt] at hfm
  have hnw := nWin_le (C := C) (W := W) (by omega) (by omega)
  have hlc := hR.1
  have hml : l.length ≤ 512 := hF.len
  have q1 := wrapI (x := (C : Int) + W) (by omega) (by omega)
  have q2 := wrapI (x := (C : Int) + W - 1) (by omega) (by omega)
  have q3 : ((C : Int) + W - 1).tdiv W = (nWin C W : Int) := by
    rw [Int.tdiv_eq_ediv_of_nonneg (by omega)]
    unfold nWin
    rw [Int.natCast_ediv, Int.natCast_sub (by omega)]
    simp
  have hlast : Hid (∀ k : Nat, k ≤ C - 1 → k / W < nWin C W) := fun k hk => by
    unfold nWin
    have h1 : k / W ≤ (C - 1) / W := Nat.div_le_div_right hk
    have h2 : (C + W - 1) / W = (C - 1) / W + 1 := by rw [show C + W - 1 = C - 1 + W by omega, Nat.add_div_right _ (by omega)]
    omega
  have hman : Hid (manL C W l = rowL (nWin C W) W l) := rfl
  have hCW : Hid (1 ≤ W ∧ W ≤ C ∧ C ≤ 512) := ⟨by omega, by omega, by omega⟩
  have hbd : Hid (∀ x ∈ l, (0 ≤ x.lba ∧ 1 ≤ x.len) ∧ x.lba + x.len ≤ C) := fun x hx => ⟨⟨(hF.bd hx).1, (hF.bd hx).2.1⟩, hend x hx⟩
  have q5 : ¬ (W : Int) = 0 := by omega
  generalize nWin C W = n at *
  have q4 := wrapI (x := (n : Int)) (by omega) (by omega)
  obtain ⟨m, hm⟩ : ∃ m, m = l.length := ⟨_, rfl⟩
  have hm' : Hid (m = l.length) := hm
  rw [← hm] at hlc hml hfm ⊢
  have hnn : Hid (n ≤ 512) := by show n ≤ 512; omega
  clear hm hC hW hfit hF hfo hend c1 c2 hfmt hf
  go_enter Try.func10, Try.ntmps10
  go_wp2_with fail
  refine (hw1 _).mono ?_
  rintro e w1 ⟨rfl, e0⟩
  subst e0
  go_wp2_with fail
  refine (hw2 _).mono ?_
  rintro e w1 ⟨rfl, e0⟩
  subst e0
  go_wp2_with fail
  refine hfm.mono ?_
  rintro e w2 ⟨rfl, k2⟩
  clear hfm hw1 hw2
  have hmk := make_ints n (by have : n ≤ 512 := hnn; omega) w2
  have R0 := ri_made w2 n (by have : n ≤ 512 := hnn; omega)
  rw [← rowL_nil n W] at R0
  go_upto_region 4 with fail
  clear hmk
  generalize w2.alloc (.cells (madeCells #[.int .i64 0] n) 3) = w3 at R0 ⊢
  generalize w2.heap.size = gv at R0 ⊢
  have R0 : Ri w2 w3 (some ⟨gv, 0, none⟩) n (rowL n W (l.take 0)) := R0
  have hR := hR.more k2
  clear q1 q2 q3 q4
  go_wp2_with fail
  go_loopw [37] (fun iv wx => ∃ i : Nat, i ≤ m ∧ iv = .int .i64 (i : Int) ∧ Ri w2 wx (some ⟨gv, 0, none⟩) n (rowL n W (l.take i))) (fun iv _ => m - (intOf iv).toNat)
  case atStart => exact ⟨0, by omega, rfl, R0⟩
  case round =>
    clear R0
    obtain ⟨i, hi, rfl, R1⟩ := hrel
    by_cases hlt : i < m
    · obtain ⟨x, hx⟩ : ∃ x, l[i]? = some x := ⟨_, List.getElem?_eq_getElem (by rw [← show m = _ from hm']; exact hlt)⟩
      have hbx := (show ∀ x ∈ l, (0 ≤ x.lba ∧ 1 ≤ x.len) ∧ x.lba + x.len ≤ C from hbd) x (List.mem_of_getElem? hx)
      obtain ⟨h1, h2, h3⟩ : 1 ≤ W ∧ W ≤ C ∧ C ≤ 512 := hCW
      obtain ⟨g, o, rfl, u0, u1, u2⟩ := (hR.more R1.keep).at hx
      have di : (i : Int) < (m : Int) := by omega
      have dwi := wrapI (x := (i : Int) + 1) (by omega) (by omega)
      have s1 := wrapI (x := x.lba + x.len) (by omega) (by omega)
      have s2 := wrapI (x := x.lba + x.len - 1) (by omega) (by omega)
      have hie := irow_end (n := n) hx h1 hbx.1.1 hbx.1.2
      have s3 : (x.lba + x.len - 1).tdiv W = (((x.lba + x.len - 1).toNat / W : Nat) : Int) := by
        rw [Int.tdiv_eq_ediv_of_nonneg (by omega), Int.natCast_ediv, Int.toNat_of_nonneg (by omega)]
      have s4 : x.lba.tdiv W = ((x.lba.toNat / W : Nat) : Int) := by
        rw [Int.tdiv_eq_ediv_of_nonneg (by omega), Int.natCast_ediv, Int.toNat_of_nonneg (by omega)]
      have hhi := (show ∀ k : Nat, k ≤ C - 1 → k / W < n from hlast) (x.lba + x.len - 1).toNat (by omega)
      have hlh : x.lba.toNat / W ≤ (x.lba + x.len - 1).toNat / W := Nat.div_le_div_right (by omega)
      have hli' : Hid (i < m) := hlt
      generalize (x.lba + x.len - 1).toNat / W = hi2 at hie s3 hhi hlh
      generalize x.lba.toNat / W = lo at hie s4 hlh
      have s5 := wrapI (x := (hi2 : Int)) (by have : n ≤ 512 := hnn; omega) (by have : n ≤ 512 := hnn; omega)
      have s6 := wrapI (x := (lo : Int)) (by have : n ≤ 512 := hnn; omega) (by have : n ≤ 512 := hnn; omega)
      have hie : Hid (irow n W (l.take i) lo (hi2 + 1) = rowL n W (l.take (i + 1))) := hie
      have hhi : Hid (hi2 < n) := hhi
      have hlh : Hid (lo ≤ hi2) := hlh
      have hCW : Hid (1 ≤ W ∧ W ≤ C ∧ C ≤ 512) := ⟨h1, h2, h3⟩
      have R2 : Ri w2 (wr.alloc (.cells #[.int .i64 x.lba, .int .i64 x.len, .int .i64 x.phys] 39)) (some ⟨gv, 0, none⟩) n (irow n W (l.take i) lo lo) := by
        rw [irow_start]; exact R1.more ((Keep.refl _ _).alloc _)
      have hcn : Hid (∀ k, 0 ≤ mcnt W (l.take i) k ∧ mcnt W (l.take i) k ≤ 512) := fun k => by
        have := mcnt_le W (l.take i) k
        have h2 : (l.take i).length ≤ 512 := by rw [List.length_take]; omega
        omega
      clear hlt hx hbx h1 h2 h3 R1
      generalize x.lba = x0 at *
      generalize x.len = x1 at *
      generalize x.phys = x2 at *
      go_wp2_with fail
      clear s1 s2 s3 s4 s5 s6 u0 u1 u2
      go_loopw [12] (fun jv wx => ∃ j : Nat, lo ≤ j ∧ j ≤ hi2 + 1 ∧ jv = .int .i64 (j : Int) ∧ Ri w2 wx (some ⟨gv, 0, none⟩) n (irow n W (l.take i) lo j)) (fun jv _ => hi2 + 1 - (intOf jv).toNat)
      case atStart => exact ⟨lo, by omega, by have : lo ≤ hi2 := hlh; omega, rfl, R2⟩
      case round =>
        clear R2
        obtain ⟨j, hj1, hj2, rfl, R3⟩ := hrel
        have hj1 : Hid (lo ≤ j) := hj1
        by_cases hlj : j ≤ hi2
        · have hjn : j < n := Nat.lt_of_le_of_lt hlj hhi
          obtain ⟨gg, eg, cj⟩ := R3.is.at (i := j) (by rw [irow_len]; exact hjn)
          injection eg with eg; injection eg with eg; subst eg
          rw [irow_get hjn] at cj
          have zj := R3.fz j
          have R4 := R3.set j (mcnt W (l.take i) j + 1)
          rw [irow_set hjn hj1] at R4
          have hcj := (show ∀ k, 0 ≤ mcnt W (l.take i) k ∧ mcnt W (l.take i) k ≤ 512 from hcn) j
          have dj : (j : Int) ≤ (hi2 : Int) := by omega
          have djn : (j : Int) < (n : Int) := by omega
          have dwj := wrapI (x := (j : Int) + 1) (by have : n ≤ 512 := hnn; omega) (by have : n ≤ 512 := hnn; omega)
          have f4 := wrapI (x := mcnt W (l.take i) j + 1) (by omega) (by omega)
          have hlj' : Hid (j ≤ hi2) := hlj
          generalize mcnt W (l.take i) j = V at *
          clear hlj hj2 R3 hcj hcn
          go_wp2_with fail
          go_roundw
          case rel => exact ⟨j + 1, by have : lo ≤ j := hj1; omega, by have : j ≤ hi2 := hlj'; omega, by go_num, R4⟩
          case measure => have : j ≤ hi2 := hlj'; simp [intOf]; omega
        · have dj : ¬ (j : Int) ≤ (hi2 : Int) := by omega
          obtain rfl : j = hi2 + 1 := by omega
          rw [show irow n W (l.take i) lo (hi2 + 1) = _ from hie] at R3
          clear hlj hj2 hcn
          go_wp2_with fail
          go_roundw
          case rel => exact ⟨i + 1, hli', by go_num, R3⟩
          case measure => have : i < m := hli'; simp [intOf]; omega
    · have di : ¬ (i : Int) < (m : Int) := by omega
      rw [List.take_of_length_le (by rw [← show m = _ from hm']; omega), ← show manL C W l = _ from hman] at R1
      have K := k2.trans R1.keep
      have I1 := R1.is.iz
      clear hlt
      go_wp2_with fail
      go_ret2
      exact ⟨⟨_, _, rfl, I1⟩, K⟩
theorem many_ok : ManyOk := by
  intro w a cap l C W hR hf hC hW
  by_cases h : mOkB l C W = true
  · have h' := h
    rw [mOk_eq] at h'
    obtain ⟨c1, c2, -⟩ := and3 h'
    have hC : 1 ≤ C ∧ C ≤ 512 := by simpa using c1
    have hW : 1 ≤ W ∧ W ≤ C := by simpa using c2
    obtain ⟨C, rfl⟩ : ∃ n : Nat, C = n := ⟨C.toNat, by omega⟩
    obtain ⟨W, rfl⟩ : ∃ n : Nat, W = n := ⟨W.toNat, by omega⟩
    refine (many_yes hR hf h).mono ?_
    rintro e w' ⟨⟨a', c', rfl, hI⟩, k⟩
    exact ⟨by rw [if_pos h]; exact ⟨a', c', rfl, hI⟩, k⟩
  · refine (manyF_no hR hf (by simpa using h)).mono ?_
    rintro e w' ⟨h1, k⟩
    exact ⟨by rw [if_neg h]; exact h1, k⟩
end Tg
end Go.Proofs.Ytojkiambkgkecaa
