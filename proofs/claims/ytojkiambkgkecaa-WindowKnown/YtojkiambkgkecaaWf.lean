/-
  The document's own Holes and Ends at any capacity, walked.
-/
import Derived.Test.YtojkiambkgkecaaWe
namespace Go.Proofs.Ytojkiambkgkecaa
open Go.ChangeShapes Go.WideShapes Go.ChangeAt Go.RowKit
namespace Tg
def hol (x : Rn) : Bool := decide (x.phys < 0)
/-- What of a range no run has. -/
def holL (l : List Rn) (lba n : Int) : List Rn := (cutL (lba + n) lba l).filter hol
theorem filter_snoc {l : List Rn} {i : Nat} {x : Rn} (h : l[i]? = some x) : (l.take (i + 1)).filter hol = if x.phys < 0 then (l.take i).filter hol ++ [x] else (l.take i).filter hol := by
  rw [take_snoc h, List.filter_append]
  unfold hol
  by_cases c : x.phys < 0
  · rw [if_pos c]; simp [c]
  · rw [if_neg c]; simp [c]
theorem filter_len (l : List Rn) (i : Nat) : ((l.take i).filter hol).length ≤ i := Nat.le_trans (List.length_filter_le _ _) (by rw [List.length_take]; omega)
theorem Rq.older {w0 w1 w : World} {a : Option Addr} {cap : Nat} {m : List Rn} (h : Rq w1 w a cap m) (k : Keep (fun _ => False) w0 w1) : Rq w0 w a cap m := by
  refine ⟨⟨h.own.1, h.own.2.imp id ?_⟩, k.trans h.keep⟩
  rintro ⟨g, c, cur, e, hb, hh, h1, h2, h3, h4⟩
  exact ⟨g, c, cur, e, by have := k.size; omega, hh, h1, h2, h3, h4⟩
set_option maxRecDepth 100000 in
set_option maxHeartbeats 1000000 in
theorem rholes {w : World} {a : Option Addr} {cap : Nat} {l : List Rn} (hR : Rz w a cap l) (hF : Ft13 l) {lba n : Nat} (hr : lba + n ≤ 512) :
    Calls Try.prog 25 #[.slice a l.length cap, .int .i64 (lba : Int), .int .i64 (n : Int)] w fun e w' => ∃ a' c', e = .returned (.slice a' (holL l lba n).length c') ∧ Rq w w' a' c' (holL l lba n) := by
  have ht := table9 hR hF
  have hra := fun {w1 : World} {a1 : Option Addr} {c1 : Nat} (h : Is w1 a1 c1 (tabL l)) => range9 h (by rw [tabL_len]; omega) (tabL_tab hF) (lba := lba) (n := n) (by rw [tabL_len]; exact hr)
  have hcl := (tabL_of hF).cutL (lba := lba) (n := n) (by rw [tabL_len]; exact hr)
  rw [← hcl, tabL_len] at hra
  have hpl : (cutL ((lba : Int) + n) lba l).length ≤ 512 := by rw [hcl]; exact Nat.le_trans (refP_len _ _ _) (by omega)
  unfold holL
  generalize cutL ((lba : Int) + n) lba l = P at hra hpl ⊢
  clear hcl hr hF hR
  obtain ⟨k, hk⟩ : ∃ k, k = P.length := ⟨_, rfl⟩
  have hk' : Hid (k = P.length) := hk
  rw [← hk] at hra hpl
  clear hk
  go_enter Try.func25, Try.ntmps25
  go_wp2_with fail
  refine ht.mono ?_
  rintro e w1 ⟨a1, c1, rfl, R1⟩
  have hra := hra R1.is
  clear ht
  go_wp2_with fail
  refine hra.mono ?_
  rintro e w2 ⟨a2, c2, rfl, R2⟩
  have K2 := R1.keep.trans R2.keep
  have P2 := R2.rs
  have hkc : k ≤ c2 := by rw [show k = _ from hk']; exact P2.1
  obtain ⟨hmk, R3⟩ := rq_made w2
  have P2 : Hid (Rs w2 a2 c2 P) := P2
  clear hra R1 R2
  go_upto_region 4 with fail
  clear hmk
  generalize w2.alloc (.cells #[] 38) = w3 at R3 ⊢
  generalize w2.heap.size = G at R3 ⊢
  have R3 : Rq w2 w3 (some ⟨G, 0, none⟩) 0 ((P.take 0).filter hol) := R3
  go_wp2_with fail
  go_loopw [9, 10] (fun ov iv wx => ∃ (i : Nat) (a3 : Option Addr) (c3 : Nat), i ≤ k ∧ iv = .int .i64 (i : Int) ∧ ov = .slice a3 ((P.take i).filter hol).length c3 ∧ Rq w2 wx a3 c3 ((P.take i).filter hol)) (fun _ iv _ => k - (intOf iv).toNat)
  case atStart => exact ⟨0, _, _, by omega, rfl, rfl, R3⟩
  case round =>
    clear R3
    obtain ⟨i, a3, c3, hi, rfl, rfl, R3⟩ := hrel
    by_cases hlt : i < k
    · obtain ⟨x, hx⟩ : ∃ x, P[i]? = some x := ⟨_, List.getElem?_eq_getElem (by rw [← show k = _ from hk']; exact hlt)⟩
      have P3 := (show Rs w2 a2 c2 P from P2).more R3.keep
      obtain ⟨g, rfl, u0, u1, u2⟩ := P3.at hx
      have hfs := filter_snoc hx
      have hfl := filter_len P i
      have di : (i : Int) < (k : Int) := by omega
      have dw := wrapI (x := (i : Int) + 1) (by omega) (by omega)
      have hlt' : Hid (i < k) := hlt
      by_cases cx : x.phys < 0
      · rw [if_pos cx] at hfs
        obtain ⟨a4, c4, w4, happ, R4⟩ := R3.app1 (by omega) x
        have hfs' : Hid ((P.take (i + 1)).filter hol = (P.take i).filter hol ++ [x]) := hfs
        have hln : Hid (((P.take (i + 1)).filter hol).length = ((P.take i).filter hol).length + 1) := by show _ = _; rw [hfs]; simp
        rw [← hfs] at R4
        generalize ((P.take i).filter hol).length = m at happ hln ⊢
        clear hlt hx hfs hfl R3 P3
        generalize x.lba = x0 at *
        generalize x.len = x1 at *
        generalize x.phys = x2 at *
        go_wp2_with (at_builtin; refine wpList_append_run rfl (.tmp 30) (.tmp 35) 23 rfl (by rfl) (by rfl) happ ?_)
        go_roundw
        case rel => exact ⟨i + 1, a4, c4, hlt', by go_num, by rw [show ((P.take (i + 1)).filter hol).length = _ from hln], R4⟩
        case measure => have : i < k := hlt'; simp [intOf]; omega
      · rw [if_neg cx] at hfs
        have R4 := R3
        rw [← hfs] at R4 ⊢
        generalize hq : ((P.take (i + 1)).filter hol).length = m
        have hq : Hid (((P.take (i + 1)).filter hol).length = m) := hq
        clear hlt hx hfs hfl R3 P3
        generalize x.lba = x0 at *
        generalize x.len = x1 at *
        generalize x.phys = x2 at *
        go_wp2_with fail
        go_roundw
        case rel => exact ⟨i + 1, _, _, hlt', by go_num, by rw [show ((P.take (i + 1)).filter hol).length = _ from hq], R4⟩
        case measure => have : i < k := hlt'; simp [intOf]; omega
    · have di : ¬ (i : Int) < (k : Int) := by omega
      rw [List.take_of_length_le (by rw [← show k = _ from hk']; omega)] at R3 ⊢
      have R4 := R3.older K2
      clear hlt R3
      go_wp2_with fail
      go_ret
      exact ⟨a3, c3, rfl, R4⟩
end Tg
end Go.Proofs.Ytojkiambkgkecaa
