/-
  The statement of two maps held against each other, walked: it returns true, and whatever was in memory is as it was.
-/
import Derived.Test.YtkddonmddgfpnaaAwS
import Derived.Test.YtkddonmddgfpnaaOpen
namespace Go.Proofs.Ytkddonmddgfpnaa
open Go.ChangeShapes Go.WideShapes Go.ChangeAt Go.RowKit
namespace Tg

theorem sameL_self (m : List Rn) : sameL m m = true := sameL_iff.2 rfl
/-- One of a row. -/
theorem Rz.one {w : World} {g o cap : Nat} {l : List Rn} (h : Rz w (some ⟨g, o, none⟩) cap l) {i : Nat} {x : Rn} (hx : l[i]? = some x) : Rz w (some ⟨g, o + i * 3, none⟩) (cap - i) [x] := by
  obtain ⟨g', o', e, h1, h2, h3⟩ := h.at hx
  injection e with e; injection e with e1 e2; subst e1; subst e2
  have hi := (List.getElem?_eq_some_iff.1 hx).1
  have hl := h.1
  have hc := h.2.1
  refine ⟨by simp; omega, by omega, Or.inr ⟨g, o + i * 3, rfl, fun j y hy => ?_⟩⟩
  have hj : j = 0 := by
    have := (List.getElem?_eq_some_iff.1 hy).1
    simp at this
    exact this
  subst hj
  simp at hy
  subst hy
  rw [Nat.zero_mul, Nat.add_zero]
  exact ⟨h1, h2, h3⟩
theorem Fits.one {l : List Rn} (h : Fits l) {i : Nat} {x : Rn} (hx : l[i]? = some x) : Fits [x] := fun y hy => by
  simp at hy
  subst hy
  exact h y (List.mem_of_getElem? hx)
set_option maxRecDepth 100000 in
set_option maxHeartbeats 4000000 in
theorem sameW {W : World} {c d : Int} {ak al : Option Addr} {ck cl : Nat} {k l : List Rn} (hk : Rz W ak ck k) (hfk : Fits k) (hl : Rz W al cl l) (hfl : Fits l) (fl : Bool) :
    Calls Try.prog 5 #[.int .i64 c, .int .i64 d, .slice ak k.length ck, .slice al l.length cl, .bool fl] W fun e w' => e = .returned (.bool true) ∧ Keep (fun _ => False) W w' := by
  have haw := awake_any W
  have hkc := hk.1
  have hkc2 := hk.2.1
  have hlc := hl.1
  have hlc2 := hl.2.1
  by_cases hc : c < 1 ∨ 512 < c
  · have n1 := fun w => newS_no fl (w := w) (c := c) (n := 512) (by omega)
    by_cases hd : d < 1 ∨ 512 < d
    · have n2 := fun w => newS_no false (w := w) (c := d) (n := 512) (by omega)
      clear hk hfk hl hfl hc hd
      go_enter Try.func5, Try.ntmps5
      go_upto_region 3 with (go_at_call 9; refine haw.mono ?_; rintro e w1 ⟨rfl, k1⟩)
      go_wp2_with fail
      refine (n1 _).mono ?_
      rintro e w2 ⟨rfl, k2⟩
      go_wp2_with fail
      refine (n2 _).mono ?_
      rintro e w3 ⟨rfl, k3⟩
      have HK := k1.trans (k2.trans k3)
      clear n1 n2 haw
      go_wp2_with fail
      go_ret
      exact ⟨rfl, HK⟩
    · obtain ⟨D, rfl⟩ : ∃ D : Nat, d = (D : Int) := ⟨d.toNat, by omega⟩
      have n2 := fun w => newS false (w := w) (C := D) (N := 512) (by omega) (by omega) (by omega) (by omega)
      rw [show ((512 : Nat) : Int) = 512 from rfl] at n2
      clear hk hfk hl hfl hc hd
      go_enter Try.func5, Try.ntmps5
      go_upto_region 3 with (go_at_call 9; refine haw.mono ?_; rintro e w1 ⟨rfl, k1⟩)
      go_wp2_with fail
      refine (n1 _).mono ?_
      rintro e w2 ⟨rfl, k2⟩
      go_wp2_with fail
      refine (n2 _).mono ?_
      rintro e w3 ⟨qb, Sb, rfl, M3⟩
      have HK := k1.trans (k2.trans M3.keep)
      clear n1 n2 haw
      go_wp2_with fail
      go_ret
      exact ⟨rfl, HK⟩
  obtain ⟨C, rfl⟩ : ∃ C : Nat, c = (C : Int) := ⟨c.toNat, by omega⟩
  have n1 := fun w => newS fl (w := w) (C := C) (N := 512) (by omega) (by omega) (by omega) (by omega)
  rw [show ((512 : Nat) : Int) = 512 from rfl] at n1
  by_cases hd : d < 1 ∨ 512 < d
  · have n2 := fun w => newS_no false (w := w) (c := d) (n := 512) (by omega)
    clear hk hfk hl hfl hc hd
    go_enter Try.func5, Try.ntmps5
    go_upto_region 3 with (go_at_call 9; refine haw.mono ?_; rintro e w1 ⟨rfl, k1⟩)
    go_wp2_with fail
    refine (n1 _).mono ?_
    rintro e w2 ⟨qa, Sa, rfl, M2⟩
    go_wp2_with fail
    refine (n2 _).mono ?_
    rintro e w3 ⟨rfl, k3⟩
    have HK := k1.trans (M2.keep.trans k3)
    clear n1 n2 haw
    go_wp2_with fail
    go_ret
    exact ⟨rfl, HK⟩
  obtain ⟨D, rfl⟩ : ∃ D : Nat, d = (D : Int) := ⟨d.toNat, by omega⟩
  have n2 := fun w => newS false (w := w) (C := D) (N := 512) (by omega) (by omega) (by omega) (by omega)
  rw [show ((512 : Nat) : Int) = 512 from rfl] at n2
  clear hc hd
  go_enter Try.func5, Try.ntmps5
  go_upto_region 3 with (go_at_call 9; refine haw.mono ?_; rintro e w1 ⟨rfl, k1⟩)
  go_wp2_with fail
  refine (n1 _).mono ?_
  rintro e w2 ⟨qa, Sa, rfl, M2⟩
  go_wp2_with fail
  refine (n2 _).mono ?_
  rintro e w3 ⟨qb, Sb, rfl, M3⟩
  have D3 := Two.new (M2.older k1) M3
  clear n1 n2 haw k1 M2 M3
  generalize List.replicate C (-1 : Int) = ta at D3
  generalize List.replicate D (-1 : Int) = tb at D3
  by_cases h1 : (20 : Int) < (k.length : Int)
  · have HK := D3.a.keep
    clear D3 hk hfk hl hfl
    go_wp2_with fail
    go_ret
    exact ⟨rfl, HK⟩
  by_cases h2 : (20 : Int) < (l.length : Int)
  · have HK := D3.a.keep
    clear D3 hk hfk hl hfl
    go_wp2_with fail
    go_ret
    exact ⟨rfl, HK⟩
  go_wp2_with fail
  go_loopw [15] (fun v wx => ∃ (i : Nat) (ta tb : List Int), i ≤ k.length ∧ v = .int .i64 (i : Int) ∧ Two W wx fl qa Sa 512 C ta false qb Sb 512 D tb) (fun v _ => k.length - (intOf v).toNat)
  case atStart => exact ⟨0, _, _, by omega, rfl, D3⟩
  case round =>
    clear D3
    obtain ⟨i, ta, tb, hi, rfl, D3⟩ := hrel
    by_cases hlt : i < k.length
    · obtain ⟨x, hx⟩ := get_rn hlt
      have Rk := hk.more D3.a.keep
      obtain ⟨g, o, rfl, -, -, -⟩ := Rk.at hx
      have hg : g < W.heap.size := hk.block (fun e => by rw [e] at hx; simp at hx)
      have c1 := apply_any D3.a (Rk.one hx) (hfk.one hx) (fun g' o' e _ hs => by
        injection e with e; injection e with e1 e2; subst e1
        have := (D3.a.sw _ hs).1; omega)
      rw [show [x].length = 1 from rfl] at c1
      unfold Apd at c1
      have di : (i : Int) < (k.length : Int) := by omega
      have dw := wrapI (x := (i : Int) + 1) (by omega) (by omega)
      have dk1 : ¬ ck = i := by omega
      have dk2 : (i : Int) + 1 ≤ (ck : Int) := by omega
      have dk3 : ((i : Int) + 1 - i).toNat = 1 := by omega
      have dk4 : ((ck : Int) - i).toNat = ck - i := by omega
      have hlt' : Hid (i < k.length) := hlt
      clear hlt hx Rk
      go_wp2_with fail
      refine c1.mono ?_
      rintro e w4 ⟨rfl, A4, k4⟩
      have D4 := D3.setA A4 k4
      clear c1 D3 A4 k4
      go_wp2_with fail
      go_roundw
      case rel => exact ⟨i + 1, _, _, hlt', by go_num, D4⟩
      case measure => have : i < k.length := hlt'; simp [intOf]; omega
    · have di : ¬ (i : Int) < (k.length : Int) := by omega
      clear hlt hi
      clear hk hfk
      go_wp2_with fail
      go_loopw [16] (fun v wx => ∃ (i : Nat) (ta tb : List Int), i ≤ l.length ∧ v = .int .i64 (i : Int) ∧ Two W wx fl qa Sa 512 C ta false qb Sb 512 D tb) (fun v _ => l.length - (intOf v).toNat)
      case atStart => exact ⟨0, _, _, by omega, rfl, D3⟩
      case round =>
        clear D3
        obtain ⟨i, ta, tb, hi, rfl, D3⟩ := hrel
        by_cases hlt : i < l.length
        · obtain ⟨x, hx⟩ := get_rn hlt
          have Rk := hl.more D3.a.keep
          obtain ⟨g, o, rfl, -, -, -⟩ := Rk.at hx
          have hg : g < W.heap.size := hl.block (fun e => by rw [e] at hx; simp at hx)
          have c1 := apply_any D3.b (Rk.one hx) (hfl.one hx) (fun g' o' e _ hs => by
            injection e with e; injection e with e1 e2; subst e1
            have := (D3.b.sw _ hs).1; omega)
          rw [show [x].length = 1 from rfl] at c1
          unfold Apd at c1
          have di : (i : Int) < (l.length : Int) := by omega
          have dw := wrapI (x := (i : Int) + 1) (by omega) (by omega)
          have dk1 : ¬ cl = i := by omega
          have dk2 : (i : Int) + 1 ≤ (cl : Int) := by omega
          have dk3 : ((i : Int) + 1 - i).toNat = 1 := by omega
          have dk4 : ((cl : Int) - i).toNat = cl - i := by omega
          have hlt' : Hid (i < l.length) := hlt
          clear hlt hx Rk
          go_wp2_with fail
          refine c1.mono ?_
          rintro e w4 ⟨rfl, A4, k4⟩
          have D4 := D3.setB A4 k4
          clear c1 D3 A4 k4
          go_wp2_with fail
          go_roundw
          case rel => exact ⟨i + 1, _, _, hlt', by go_num, D4⟩
          case measure => have : i < l.length := hlt'; simp [intOf]; omega
        · have di : ¬ (i : Int) < (l.length : Int) := by omega
          clear hlt hi
          go_upto_region 15 with fail
          have c1 := sameS D3.a D3.b
          have c4 := fun w1 (k : Keep (fun _ => False) wr w1) => sameS (D3.a.more k) (D3.a.more k)
          have r1 := fun w1 (k : Keep (fun _ => False) wr w1) => (D3.a.more k).runs
          have r2 := fun w1 (k : Keep (fun _ => False) wr w1) => (D3.b.more k).runs
          have hlm := D3.a.len512
          have HW := D3.a.keep
          clear D3 hl hfl di
          generalize refR ta C = ma at c1 c4 r1 hlm
          generalize refR tb D = mb at c1 r2
          rw [sameL_self, show decide (C = C) = true from decide_eq_true rfl] at c4
          rw [show (true && true) = true from rfl] at c4
          by_cases hC : C = D
          · have hCb : ((C : Int) == (D : Int)) = true := by simp [hC]
            rw [show decide (C = D) = true from decide_eq_true hC, Bool.true_and] at c1
            clear hC
            cases fl with
            | false =>
              unfold mapV at c1 c4 ⊢
              unfold fRuns at r1 r2
              have m1 := mRuns44 qa
              have m2 := mRuns44 qb
              go_wp2_with fail
              refine c1.mono ?_
              rintro e w4 ⟨rfl, k4⟩
              have r1' := r1 w4 k4
              clear c1 r1
              go_wp2_with fail
              refine r1'.mono ?_
              rintro e w5 ⟨a5, d5, rfl, R5, k5', -⟩
              have k5 := k4.trans k5'
              have r2' := r2 w5 k5
              clear r1' r2 k5'
              go_wp2_with fail
              refine r2'.mono ?_
              rintro e w6 ⟨a6, d6, rfl, R6, k6', -⟩
              have k6 := k5.trans k6'
              have c5 := same9 (R5.more k6') R6 (by omega)
              clear r2' R5 k6'
              generalize sameL ma mb = sb at c5 ⊢
              go_wp2_with fail
              refine c5.mono ?_
              rintro e w7 ⟨rfl, k7'⟩
              have k7 := k6.trans k7'
              have c6 := c4 w7 k7
              clear c5 c4 k7' R6
              cases sb with
              | true =>
                go_wp2_with fail
                refine c6.mono ?_
                rintro e w8 ⟨rfl, k8⟩
                have HK := HW.trans (k7.trans k8)
                clear c6
                go_wp2_with fail
                go_ret
                exact ⟨rfl, HK⟩
              | false =>
                go_wp2_with fail
                refine c6.mono ?_
                rintro e w8 ⟨rfl, k8⟩
                have HK := HW.trans (k7.trans k8)
                clear c6
                go_wp2_with fail
                go_ret
                exact ⟨rfl, HK⟩
            | true =>
              unfold mapV at c1 c4 ⊢
              unfold fRuns at r1 r2
              have m1 := mRuns47 qa
              have m2 := mRuns44 qb
              go_wp2_with fail
              refine c1.mono ?_
              rintro e w4 ⟨rfl, k4⟩
              have r1' := r1 w4 k4
              clear c1 r1
              go_wp2_with fail
              refine r1'.mono ?_
              rintro e w5 ⟨a5, d5, rfl, R5, k5', -⟩
              have k5 := k4.trans k5'
              have r2' := r2 w5 k5
              clear r1' r2 k5'
              go_wp2_with fail
              refine r2'.mono ?_
              rintro e w6 ⟨a6, d6, rfl, R6, k6', -⟩
              have k6 := k5.trans k6'
              have c5 := same9 (R5.more k6') R6 (by omega)
              clear r2' R5 k6'
              generalize sameL ma mb = sb at c5 ⊢
              go_wp2_with fail
              refine c5.mono ?_
              rintro e w7 ⟨rfl, k7'⟩
              have k7 := k6.trans k7'
              have c6 := c4 w7 k7
              clear c5 c4 k7' R6
              cases sb with
              | true =>
                go_wp2_with fail
                refine c6.mono ?_
                rintro e w8 ⟨rfl, k8⟩
                have HK := HW.trans (k7.trans k8)
                clear c6
                go_wp2_with fail
                go_ret
                exact ⟨rfl, HK⟩
              | false =>
                go_wp2_with fail
                refine c6.mono ?_
                rintro e w8 ⟨rfl, k8⟩
                have HK := HW.trans (k7.trans k8)
                clear c6
                go_wp2_with fail
                go_ret
                exact ⟨rfl, HK⟩
          · have hCb : ((C : Int) == (D : Int)) = false := by simp; omega
            rw [show decide (C = D) = false from decide_eq_false hC, Bool.false_and] at c1
            clear hC r1 r2
            cases fl with
            | false =>
              unfold mapV at c1 c4 ⊢
              go_wp2_with fail
              refine c1.mono ?_
              rintro e w4 ⟨rfl, k4⟩
              have c6 := c4 w4 k4
              clear c1 c4
              go_wp2_with fail
              refine c6.mono ?_
              rintro e w8 ⟨rfl, k8⟩
              have HK := HW.trans (k4.trans k8)
              clear c6
              go_wp2_with fail
              go_ret
              exact ⟨rfl, HK⟩
            | true =>
              unfold mapV at c1 c4 ⊢
              go_wp2_with fail
              refine c1.mono ?_
              rintro e w4 ⟨rfl, k4⟩
              have c6 := c4 w4 k4
              clear c1 c4
              go_wp2_with fail
              refine c6.mono ?_
              rintro e w8 ⟨rfl, k8⟩
              have HK := HW.trans (k4.trans k8)
              clear c6
              go_wp2_with fail
              go_ret
              exact ⟨rfl, HK⟩
theorem same_walk {W : World} (c d : Int) {ak al : Option Addr} {nk nl ck cl : Nat} (hk : Rows3 W ak nk ck) (hl : Rows3 W al nl cl) (fl : Bool) :
    Calls Try.prog 5 #[.int .i64 c, .int .i64 d, .slice ak nk ck, .slice al nl cl, .bool fl] W fun e w' => e = .returned (.bool true) ∧ Below W.heap.size W w' := by
  obtain ⟨k, rfl, h1, h2⟩ := hk
  obtain ⟨l, rfl, h3, h4⟩ := hl
  exact (sameW h1 h2 h3 h4 fl).mono fun _ _ ⟨h1, h2⟩ => ⟨h1, h2.below (Nat.le_refl _) (fun _ e => e.elim)⟩
end Tg
end Go.Proofs.Ytkddonmddgfpnaa
