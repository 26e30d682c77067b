/-
  The landed addHole and Holes, walked.
-/
import Derived.Test.YtojkiambkgkecaaXb
import Derived.Test.YtojkiambkgkecaaWo
namespace Go.Proofs.Ytojkiambkgkecaa
open Go.ChangeShapes Go.WideShapes Go.ChangeAt Go.RowKit
namespace Tg
/-- A hole from a sector up to another one, if there is one between. -/
def gap1 (s t : Int) : List Rn := if s < t then [⟨s, t - s, -1⟩] else []
theorem gap1_len (s t : Int) : (gap1 s t).length ≤ 1 := by unfold gap1; split <;> simp
set_option maxRecDepth 100000 in
set_option maxHeartbeats 1000000 in
theorem addHole_any {w0 w : World} {a : Option Addr} {cap : Nat} {m : List Rn} (R : Rq w0 w a cap m) (hl : m.length ≤ 100000) {s t : Int} (h0 : 0 ≤ s) (h1 : t ≤ 512) :
    Calls Try.prog 19 #[.slice a m.length cap, .int .i64 s, .int .i64 t] w fun e w' => ∃ a' c', e = .returned (.slice a' (m ++ gap1 s t).length c') ∧ Rq w0 w' a' c' (m ++ gap1 s t) ∧ Keep (fun b => a = some ⟨b, 0, none⟩) w w' := by
  unfold gap1
  by_cases c : s < t
  · have dc : ¬ t ≤ s := by omega
    have dw := wrapI (x := t - s) (by omega) (by omega)
    rw [if_pos c]
    obtain ⟨a4, c4, w4, happ, R4, K4, -⟩ := R.appS hl ⟨s, t - s, -1⟩
    have hln : Hid ((m ++ [(⟨s, t - s, -1⟩ : Rn)]).length = m.length + 1) := by show _ = _; simp
    generalize m ++ [(⟨s, t - s, -1⟩ : Rn)] = m' at R4 hln ⊢
    simp only at happ
    generalize m.length = k at happ hln ⊢
    clear R c h0 h1 hl
    go_enter Try.func19, Try.ntmps19
    go_wp2_with (at_builtin; refine wpList_append_run rfl (.tmp 11) (.tmp 17) 23 rfl (by rfl) (by rfl) happ ?_)
    go_ret
    exact ⟨a4, c4, by rw [show m'.length = _ from hln]; rfl, R4, K4⟩
  · have dc : t ≤ s := by omega
    rw [if_neg c, List.append_nil]
    clear c h0 h1 hl
    go_enter Try.func19, Try.ntmps19
    go_wp2_with fail
    go_ret
    exact ⟨a, cap, rfl, R, Keep.refl _ _⟩
theorem gap_cons (hi s : Int) (x : Rn) (m : List Rn) : gapL hi s (x :: m) = gap1 s (min x.lba hi) ++ gapL hi (max s x.fin) m := rfl
theorem gap_nil (hi s : Int) : gapL hi s [] = gap1 s hi := rfl
set_option maxRecDepth 100000 in
set_option maxHeartbeats 1000000 in
theorem holes_no {w : World} {a : Option Addr} {cap : Nat} {l : List Rn} {lba n : Int} (hR : Rz w a cap l) (hf : Fits l) (hlb : I64 lba) (h : hOkB l lba n = false) :
    Calls Try.prog 8 #[.slice a l.length cap, .int .i64 lba, .int .i64 n] w fun e w' => (∃ a' c', e = .returned (.tuple #[.slice a' 0 c', .int .i64 1])) ∧ Keep (fun _ => False) w w' := by
  have K0 := Keep.refl (fun _ => False) w
  rw [hOk_eq] at h
  obtain ⟨hlb1, hlb2⟩ := hlb
  by_cases c1 : 0 ≤ lba
  · have d1 : ¬ lba < 0 := by omega
    have dw := wrapI (x := 512 - lba) (by omega) (by omega)
    by_cases c2 : 1 ≤ n
    · have d2 : ¬ n < 1 := by omega
      by_cases c3 : n ≤ 512 - lba
      · have d3 : ¬ 512 - lba < n := by omega
        rw [decide_eq_true c1, decide_eq_true c2, decide_eq_true c3] at h
        simp only [Bool.true_and] at h
        have hfm := formed_any hR hf (C := 512) (by omega)
        rw [h] at hfm
        clear h hR hf c1 c2 c3 hlb1 hlb2
        go_enter Try.func8, Try.ntmps8
        go_wp2_with fail
        refine hfm.mono ?_
        rintro e w2 ⟨rfl, k2⟩
        clear hfm
        go_wp2_with fail
        go_ret2
        exact ⟨⟨_, _, rfl⟩, k2⟩
      · have d3 : 512 - lba < n := by omega
        clear h hR hf c1 c2 c3 hlb1 hlb2
        go_enter Try.func8, Try.ntmps8
        go_wp2_with fail
        go_ret2
        exact ⟨⟨_, _, rfl⟩, K0⟩
    · have d2 : n < 1 := by omega
      clear h hR hf c1 c2 hlb1 hlb2
      go_enter Try.func8, Try.ntmps8
      go_wp2_with fail
      go_ret2
      exact ⟨⟨_, _, rfl⟩, K0⟩
  · have d1 : lba < 0 := by omega
    clear h hR hf c1 hlb1 hlb2
    go_enter Try.func8, Try.ntmps8
    go_wp2_with fail
    go_ret2
    exact ⟨⟨_, _, rfl⟩, K0⟩
set_option maxRecDepth 100000 in
set_option maxHeartbeats 2000000 in
theorem holes_yes {w : World} {a : Option Addr} {cap : Nat} {l : List Rn} {lba n : Int} (hR : Rz w a cap l) (hf : Fits l) (h : hOkB l lba n = true) :
    Calls Try.prog 8 #[.slice a l.length cap, .int .i64 lba, .int .i64 n] w fun e w' => (∃ a' c', e = .returned (.tuple #[.slice a' (holL l lba n).length c', .int .i64 0]) ∧ Rz w' a' c' (holL l lba n)) ∧ Keep (fun _ => False) w w' := by
  have h' := h
  rw [hOk_eq, Bool.and_eq_true, Bool.and_eq_true, Bool.and_eq_true, decide_eq_true_iff, decide_eq_true_iff, decide_eq_true_iff] at h'
  obtain ⟨c1, c2, c3, hfmt⟩ := h'
  have hfit : fit13 l = true := by rw [← fm_512]; exact hfmt
  have hF := Ft13.of hfit
  have hfo : Form l := (formP_form (by have := hfit; unfold fit13 at this; rw [Bool.and_eq_true, Bool.and_eq_true] at this; exact this.2.1)).1
  have hfm := formed_any hR hf (C := 512) (by omega)
  rw [hfmt] at hfm
  rw [holL_gap hfo]
  have h0 : Hid ([] ++ gapL (lba + n) lba (l.drop 0) = gapL (lba + n) lba l) := rfl
  generalize gapL (lba + n) lba l = G at h0 ⊢
  have d1 : ¬ lba < 0 := by omega
  have d2 : ¬ n < 1 := by omega
  have d3 : ¬ 512 - lba < n := by omega
  have dw := wrapI (x := 512 - lba) (by omega) (by omega)
  have dn := wrapI (x := lba + n) (by omega) (by omega)
  have hlc := hR.1
  have hml : l.length ≤ 512 := hF.len
  have hbd : Hid (∀ x ∈ l, (0 ≤ x.lba ∧ 1 ≤ x.len) ∧ x.lba + x.len ≤ 512) := fun x hx => ⟨⟨(hF.bd hx).1, (hF.bd hx).2.1⟩, (hF.bd hx).2.2.1⟩
  obtain ⟨m, hm⟩ : ∃ m, m = l.length := ⟨_, rfl⟩
  have hm' : Hid (m = l.length) := hm
  rw [← hm] at hlc hml hfm ⊢
  have hlb : Hid (0 ≤ lba ∧ lba ≤ 512) := ⟨by omega, by omega⟩
  have hhi : Hid (lba + n ≤ 512 ∧ 0 ≤ lba + n) := ⟨by omega, by omega⟩
  clear hm h c1 c2 c3 hfmt hfit hF hfo hf
  go_enter Try.func8, Try.ntmps8
  go_wp2_with fail
  refine hfm.mono ?_
  rintro e w2 ⟨rfl, k2⟩
  clear hfm
  have hR := hR.more k2
  have R0 := Rq.nil w2
  go_wp2_with fail
  clear d1 d2 d3 dw dn
  generalize lba + n = hi at *
  go_loopw [8, 9, 36] (fun hv sv iv wx => ∃ (i : Nat) (s : Int) (hs : List Rn) (a3 : Option Addr) (c3 : Nat), i ≤ m ∧ iv = .int .i64 (i : Int) ∧ sv = .int .i64 s ∧ hv = .slice a3 hs.length c3 ∧ Hid (0 ≤ s ∧ s ≤ 512) ∧ Hid (hs.length ≤ i) ∧ Hid (hs ++ gapL hi s (l.drop i) = G) ∧ Rq w2 wx a3 c3 hs) (fun _ _ iv _ => m - (intOf iv).toNat)
  case atStart => exact ⟨0, lba, [], none, 0, by omega, rfl, rfl, rfl, hlb, Nat.le_refl _, h0, R0⟩
  case round =>
    clear R0 h0
    obtain ⟨i, s, hs, a3, c3, hi1, rfl, rfl, rfl, hs1, hs2, hs3, R3⟩ := hrel
    by_cases hlt : i < m
    · obtain ⟨x, hx⟩ : ∃ x, l[i]? = some x := ⟨_, List.getElem?_eq_getElem (by rw [← show m = _ from hm']; exact hlt)⟩
      have hbx := (show ∀ x ∈ l, (0 ≤ x.lba ∧ 1 ≤ x.len) ∧ x.lba + x.len ≤ 512 from hbd) x (List.mem_of_getElem? hx)
      obtain ⟨g, o, rfl, u0, u1, u2⟩ := (hR.more R3.keep).at hx
      have di : (i : Int) < (m : Int) := by omega
      have dwi := wrapI (x := (i : Int) + 1) (by omega) (by omega)
      have ds := wrapI (x := x.lba + x.len) (by omega) (by omega)
      have hlt' : Hid (i < m) := hlt
      obtain ⟨b1, b2⟩ : 0 ≤ s ∧ s ≤ 512 := hs1
      obtain ⟨b3, b4⟩ : hi ≤ 512 ∧ 0 ≤ hi := hhi
      have hs2' : hs.length ≤ i := hs2
      have R4 : Rq w2 (wr.alloc (.cells #[.int .i64 x.lba, .int .i64 x.len, .int .i64 x.phys] 39)) a3 c3 hs := R3.more ((Keep.refl _ _).alloc _)
      have hca := addHole_any R4 (by omega) b1 (t := min x.lba hi) (by omega)
      have hg : Hid ((hs ++ gap1 s (min x.lba hi)) ++ gapL hi (max s x.fin) (l.drop (i + 1)) = G) := by
        show _ = _
        rw [← show hs ++ gapL hi s (l.drop i) = G from hs3, drop_at hx, gap_cons, List.append_assoc]
      have hg2 : Hid ((hs ++ gap1 s (min x.lba hi)).length ≤ i + 1) := by
        show _ ≤ _
        rw [List.length_append]
        have := gap1_len s (min x.lba hi)
        omega
      have L1 : Blk (wr.alloc (.cells #[.int .i64 x.lba, .int .i64 x.len, .int .i64 x.phys] 39)) wr.heap.size 3 (rcell x) := blk_alloc wr _ 39 3 _ (fun i hi => by
        have : i = 0 ∨ i = 1 ∨ i = 2 := by omega
        rcases this with rfl | rfl | rfl <;> rfl)
      have hL : Hid (∀ w', Keep (fun b => a3 = some ⟨b, 0, none⟩) (wr.alloc (.cells #[.int .i64 x.lba, .int .i64 x.len, .int .i64 x.phys] 39)) w' → w'.cell? ⟨wr.heap.size, 0, none⟩ = some (.int .i64 x.lba) ∧ w'.cell? ⟨wr.heap.size, 1, none⟩ = some (.int .i64 x.len)) := fun w' hk => by
        have L2 := Blk.keep L1 hk (fun e => by have := (R3.block e).2; omega)
        exact ⟨(L2 0 (by omega)).1, (L2 1 (by omega)).1⟩
      generalize hs ++ gap1 s (min x.lba hi) = hs' at hca hg hg2
      have hfin : Hid (x.fin = x.lba + x.len) := rfl
      generalize x.fin = xf at hg hfin
      have hb5 : Hid (0 ≤ max s (x.lba + x.len) ∧ max s (x.lba + x.len) ≤ 512) := by constructor <;> omega
      rw [show xf = _ from hfin] at hg
      clear hbx hx hs3 R3 hs2' hlt hfin L1 b1 b2 b3 b4
      generalize x.phys = x2 at *
      by_cases e1 : hi < x.lba
      · rw [show min x.lba hi = hi by omega] at hca
        by_cases e2 : s < x.lba + x.len
        · rw [show max s (x.lba + x.len) = x.lba + x.len by omega] at hg hb5
          generalize x.lba = x0 at *
          generalize x.len = x1 at *
          go_wp2_with fail
          refine hca.mono ?_
          rintro e w5 ⟨a5, c5, rfl, R5, k5⟩
          obtain ⟨v0, v1⟩ := (show ∀ w', Keep (fun b => a3 = some ⟨b, 0, none⟩) _ w' → _ from hL) w5 k5
          clear hca R4 hL
          go_wp2_with fail
          go_roundw
          case rel => exact ⟨i + 1, x0 + x1, hs', a5, c5, hlt', by go_num, rfl, rfl, hb5, hg2, hg, R5⟩
          case measure => have : i < m := hlt'; simp [intOf]; omega
        · rw [show max s (x.lba + x.len) = s by omega] at hg hb5
          generalize x.lba = x0 at *
          generalize x.len = x1 at *
          go_wp2_with fail
          refine hca.mono ?_
          rintro e w5 ⟨a5, c5, rfl, R5, k5⟩
          obtain ⟨v0, v1⟩ := (show ∀ w', Keep (fun b => a3 = some ⟨b, 0, none⟩) _ w' → _ from hL) w5 k5
          clear hca R4 hL
          go_wp2_with fail
          go_roundw
          case rel => exact ⟨i + 1, s, hs', a5, c5, hlt', by go_num, rfl, rfl, hb5, hg2, hg, R5⟩
          case measure => have : i < m := hlt'; simp [intOf]; omega
      · rw [show min x.lba hi = x.lba by omega] at hca
        by_cases e2 : s < x.lba + x.len
        · rw [show max s (x.lba + x.len) = x.lba + x.len by omega] at hg hb5
          generalize x.lba = x0 at *
          generalize x.len = x1 at *
          go_wp2_with fail
          refine hca.mono ?_
          rintro e w5 ⟨a5, c5, rfl, R5, k5⟩
          obtain ⟨v0, v1⟩ := (show ∀ w', Keep (fun b => a3 = some ⟨b, 0, none⟩) _ w' → _ from hL) w5 k5
          clear hca R4 hL
          go_wp2_with fail
          go_roundw
          case rel => exact ⟨i + 1, x0 + x1, hs', a5, c5, hlt', by go_num, rfl, rfl, hb5, hg2, hg, R5⟩
          case measure => have : i < m := hlt'; simp [intOf]; omega
        · rw [show max s (x.lba + x.len) = s by omega] at hg hb5
          generalize x.lba = x0 at *
          generalize x.len = x1 at *
          go_wp2_with fail
          refine hca.mono ?_
          rintro e w5 ⟨a5, c5, rfl, R5, k5⟩
          obtain ⟨v0, v1⟩ := (show ∀ w', Keep (fun b => a3 = some ⟨b, 0, none⟩) _ w' → _ from hL) w5 k5
          clear hca R4 hL
          go_wp2_with fail
          go_roundw
          case rel => exact ⟨i + 1, s, hs', a5, c5, hlt', by go_num, rfl, rfl, hb5, hg2, hg, R5⟩
          case measure => have : i < m := hlt'; simp [intOf]; omega
    · have di : ¬ (i : Int) < (m : Int) := by omega
      have hbb : 0 ≤ s ∧ s ≤ 512 := hs1
      have hbh : hi ≤ 512 ∧ 0 ≤ hi := hhi
      have hs2' : hs.length ≤ i := hs2
      have hca := addHole_any R3 (by omega) hbb.1 hbh.1
      have hg : hs ++ gap1 s hi = G := by rw [← show hs ++ gapL hi s (l.drop i) = G from hs3, List.drop_of_length_le (by rw [← show m = _ from hm']; omega), gap_nil]
      rw [hg] at hca
      clear hlt hbb hbh hs2' hg hs3
      go_wp2_with fail
      refine hca.mono ?_
      rintro e w5 ⟨a5, c5, rfl, R5, -⟩
      have K5 := k2.trans R5.keep
      have Z5 := R5.rs.rz
      clear hca
      go_wp2_with fail
      go_ret2
      exact ⟨⟨a5, c5, rfl, Z5⟩, K5⟩
theorem holes_ok : HolesOk := by
  intro w a cap l lba n hR hf hC hW
  by_cases h : hOkB l lba n = true
  · refine (holes_yes hR hf h).mono ?_
    rintro e w' ⟨h1, k⟩
    exact ⟨by rw [if_pos h]; exact h1, k⟩
  · refine (holes_no hR hf hC (by simpa using h)).mono ?_
    rintro e w' ⟨h1, k⟩
    exact ⟨by rw [if_neg h]; exact h1, k⟩
end Tg
end Go.Proofs.Ytojkiambkgkecaa
