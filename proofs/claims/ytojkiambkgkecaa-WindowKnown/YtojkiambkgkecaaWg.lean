/-
  The document's own Ends at any capacity, and Many, walked.
-/
import Derived.Test.YtojkiambkgkecaaWf
namespace Go.Proofs.Ytojkiambkgkecaa
open Go.ChangeShapes Go.WideShapes Go.ChangeAt Go.RowKit
namespace Tg
def endC (C : Int) (l : List Rn) : Bool := match l.getLast? with
  | none => true
  | some x => decide (x.fin ≤ C)
theorem endC_iff {C : Int} {l : List Rn} (h : Form l) : endC C l = true ↔ ∀ x ∈ l, x.fin ≤ C := by
  unfold endC
  cases hl : l.getLast? with
  | none =>
    simp only [List.getLast?_eq_none_iff] at hl
    subst hl
    simp
  | some x =>
    obtain ⟨m, rfl⟩ := List.getLast?_eq_some_iff.1 hl
    simp only [decide_eq_true_iff]
    constructor
    · intro hx y hy
      rcases List.mem_append.1 hy with hy | hy
      · have h2 := (Form.app.1 h).2.2 y hy x (by simp)
        have h3 := (h.1 x (by simp)).2.1
        unfold Rn.fin at *
        omega
      · simp at hy; subst hy; exact hx
    · intro hx
      exact hx x (by simp)
set_option maxHeartbeats 600000 in
set_option maxRecDepth 100000 in
theorem ends_cap {w : World} {a : Option Addr} {cap : Nat} {l : List Rn} (hR : Rz w a cap l) (hb : ∀ x ∈ l, inB x = true) (C : Int) :
    Calls Try.prog 26 #[.slice a l.length cap, .int .i64 C] w fun e w' => e = .returned (.bool (endC C l)) ∧ Keep (fun _ => False) w w' := by
  have K0 := Keep.refl (fun _ => False) w
  have hlc := hR.1
  have hlc2 := hR.2.1
  unfold endC
  cases hl : l.getLast? with
  | none =>
    simp only [List.getLast?_eq_none_iff] at hl
    subst hl
    go_enter Try.func26, Try.ntmps26
    go_wp2_with fail
    go_quiet (fail)
    go_wp2_with fail
    go_ret
    exact ⟨rfl, K0.drewN _⟩
  | some x =>
    obtain ⟨m, rfl⟩ := List.getLast?_eq_some_iff.1 hl
    have hm : (m ++ [x]).length = m.length + 1 := by simp
    obtain ⟨g, o, rfl, c0, c1, c2⟩ := hR.at (i := m.length) (x := x) (by simp)
    have hx := inB_iff.1 (hb x (by simp))
    clear hb hR hl
    generalize (m ++ [x]).length = n at hm hlc ⊢
    generalize m.length = k at c0 c1 c2 hm
    have f1 : IntKind.i64.wrap ((n : Int) - 1) = (k : Int) := by rw [wrapI (by omega) (by omega)]; omega
    have f2 := wrapI (x := x.lba + x.len) (by omega) (by omega)
    have f3 : ((n : Int) == 0) = false := beq_eq_false_iff_ne.2 (by omega)
    have f4 : (k : Int) < (n : Int) := by omega
    have f5 : k < n := by omega
    clear hm
    unfold Rn.fin
    go_enter Try.func26, Try.ntmps26
    go_wp2_with fail
    go_quiet (fail)
    go_wp2_with fail
    go_ret
    exact ⟨rfl, K0.drewN _⟩
/-- How many windows there are. -/
def nWin (C W : Nat) : Nat := (C + W - 1) / W
/-- Has a run a sector in a window? -/
def inW (W w : Nat) (x : Rn) : Bool := decide (x.lba < (((w + 1) * W : Nat) : Int)) && decide (((w * W : Nat) : Int) < x.lba + x.len)
def mcnt (W : Nat) (l : List Rn) (w : Nat) : Int := ((l.filter (inW W w)).length : Int)
/-- Each window's runs. -/
def manL (C W : Nat) (l : List Rn) : List Int := (List.range (nWin C W)).map (mcnt W l)
theorem manL_len (C W : Nat) (l : List Rn) : (manL C W l).length = nWin C W := by simp [manL]
theorem nWin_le {C W : Nat} (h1 : 1 ≤ W) (h2 : W ≤ C) : 1 ≤ nWin C W ∧ nWin C W ≤ C := by
  unfold nWin
  constructor
  · rw [Nat.le_div_iff_mul_le (by omega)]; omega
  · have : (C + W - 1) / W * W ≤ C + W - 1 := Nat.div_mul_le_self _ _
    by_cases h : (C + W - 1) / W ≤ C
    · exact h
    · have h3 : (C + 1) * W ≤ (C + W - 1) / W * W := Nat.mul_le_mul_right W (by omega)
      have h4 : (C + 1) * W = C * W + W := by rw [Nat.add_mul, Nat.one_mul]
      have h5 : C * 1 ≤ C * W := Nat.mul_le_mul_left C h1
      omega
theorem nWin_mul {C W w : Nat} (h1 : 1 ≤ W) (hw : w < nWin C W) : w * W + 1 ≤ C := by
  unfold nWin at hw
  have : (w + 1) * W ≤ C + W - 1 := (Nat.le_div_iff_mul_le (by omega)).1 hw
  rw [Nat.add_mul, Nat.one_mul] at this
  omega
/-- The row in the midst of it. -/
def mrow (n W : Nat) (l : List Rn) (w i : Nat) : List Int := (List.range n).map (fun j => if j < w then mcnt W l j else if j = w then mcnt W (l.take i) j else 0)
theorem mrow_len (n W : Nat) (l : List Rn) (w i : Nat) : (mrow n W l w i).length = n := by simp [mrow]
theorem mrow_start (n W : Nat) (l : List Rn) : mrow n W l 0 0 = List.replicate n 0 := by
  unfold mrow
  refine List.ext_getElem? (fun j => ?_)
  rw [List.getElem?_map]
  by_cases hj : j < n
  · rw [List.getElem?_range hj, List.getElem?_replicate, if_pos hj]
    simp only [Option.map_some, Nat.not_lt_zero, if_false]
    split
    · simp [mcnt]
    · rfl
  · rw [List.getElem?_eq_none (by simp; omega), List.getElem?_eq_none (by simp; omega)]; rfl
theorem mrow_turn (n W : Nat) (l : List Rn) (w : Nat) : mrow n W l w l.length = mrow n W l (w + 1) 0 := by
  unfold mrow
  refine List.map_congr_left (fun j _ => ?_)
  rw [List.take_length]
  by_cases h1 : j < w
  · rw [if_pos h1, if_pos (by omega)]
  · rw [if_neg h1]
    by_cases h2 : j = w
    · rw [if_pos h2, if_pos (show j < w + 1 by omega)]
    · rw [if_neg h2, if_neg (show ¬ j < w + 1 by omega)]
      split
      · simp [mcnt]
      · rfl
theorem mrow_end (C W : Nat) (l : List Rn) : mrow (nWin C W) W l (nWin C W) 0 = manL C W l := by
  unfold mrow manL
  refine List.map_congr_left (fun j hj => ?_)
  rw [List.mem_range] at hj
  rw [if_pos hj]
theorem mrow_get {n W : Nat} {l : List Rn} {w i : Nat} (hw : w < n) : (mrow n W l w i).getD w (-1) = mcnt W (l.take i) w := by
  unfold mrow
  rw [List.getD_eq_getElem?_getD, List.getElem?_map, List.getElem?_range hw]
  simp
theorem mrow_set {n W : Nat} {l : List Rn} {w i : Nat} {x : Rn} (hw : w < n) (hx : l[i]? = some x) (hi : inW W w x = true) : (mrow n W l w i).set w (mcnt W (l.take i) w + 1) = mrow n W l w (i + 1) := by
  refine List.ext_getElem? (fun j => ?_)
  rw [List.getElem?_set, mrow_len]
  unfold mrow
  rw [List.getElem?_map, List.getElem?_map]
  by_cases e : w = j
  · subst e
    rw [if_pos rfl, if_pos hw, List.getElem?_range hw]
    simp only [Option.map_some, Nat.lt_irrefl, if_false, if_true]
    rw [take_snoc hx]
    unfold mcnt
    rw [List.filter_append]
    simp [hi]
  · rw [if_neg e]
    by_cases hj : j < n
    · rw [List.getElem?_range hj]
      simp only [Option.map_some]
      by_cases h1 : j < w
      · rw [if_pos h1, if_pos h1]
      · rw [if_neg h1, if_neg h1, if_neg (fun h => e h.symm), if_neg (fun h => e h.symm)]
    · rw [List.getElem?_eq_none (by simp; omega)]; rfl
theorem mrow_skip {n W : Nat} {l : List Rn} {w i : Nat} {x : Rn} (hx : l[i]? = some x) (hi : inW W w x = false) : mrow n W l w i = mrow n W l w (i + 1) := by
  unfold mrow
  refine List.map_congr_left (fun j _ => ?_)
  by_cases h1 : j < w
  · rw [if_pos h1, if_pos h1]
  · rw [if_neg h1, if_neg h1]
    by_cases h2 : j = w
    · subst h2
      rw [if_pos rfl, if_pos rfl, take_snoc hx]
      unfold mcnt
      rw [List.filter_append]
      simp [hi]
    · rw [if_neg h2, if_neg h2]
theorem mcnt_le (W : Nat) (l : List Rn) (w : Nat) : 0 ≤ mcnt W l w ∧ mcnt W l w ≤ (l.length : Int) := by
  unfold mcnt
  have := List.length_filter_le (inW W w) l
  omega
set_option maxRecDepth 100000 in
set_option maxHeartbeats 2000000 in
theorem rmany {w : World} {a : Option Addr} {cap : Nat} {l : List Rn} (hR : Rz w a cap l) (hF : Ft13 l) {C W : Nat} (h1 : 1 ≤ W) (h2 : W ≤ C) (h3 : C ≤ 512) :
    Calls Try.prog 27 #[.slice a l.length cap, .int .i64 (C : Int), .int .i64 (W : Int)] w fun e w' => ∃ g, e = .returned (.slice (some ⟨g, 0, none⟩) (nWin C W) (nWin C W)) ∧ Ri w w' (some ⟨g, 0, none⟩) (nWin C W) (manL C W l) := by
  have hnw := nWin_le h1 h2
  have hlc := hR.1
  have hlc2 := hR.2.1
  have hml : l.length ≤ 512 := hF.len
  have q1 := wrapI (x := (C : Int) + W) (by omega) (by omega)
  have q2 := wrapI (x := (C : Int) + W - 1) (by omega) (by omega)
  have q3 : ((C : Int) + W - 1).tdiv W = (nWin C W : Int) := by
    rw [Int.tdiv_eq_ediv_of_nonneg (by omega)]
    unfold nWin
    rw [Int.natCast_ediv, Int.natCast_sub (by omega)]
    simp
  have hmul : Hid (∀ j, j < nWin C W → j * W + 1 ≤ C) := fun j hj => nWin_mul h1 hj
  have hend := mrow_end C W l
  generalize nWin C W = n at *
  have q4 := wrapI (x := (n : Int)) (by omega) (by omega)
  have q5 : ¬ (W : Int) = 0 := by omega
  have hmk := make_ints n (by omega) w
  have R0 := ri_made w n (by omega)
  rw [← mrow_start n W l] at R0
  have hend' : Hid (mrow n W l n 0 = manL C W l) := hend
  obtain ⟨m, hm⟩ : ∃ m, m = l.length := ⟨_, rfl⟩
  have hm' : Hid (m = l.length) := hm
  rw [← hm] at hlc hml ⊢
  clear hend hm
  have h12 : Hid (1 ≤ W ∧ W ≤ C ∧ C ≤ 512) := ⟨h1, h2, h3⟩
  clear h1 h2 h3
  go_enter Try.func27, Try.ntmps27
  go_upto_region 2 with fail
  clear hmk
  generalize w.alloc (.cells (madeCells #[.int .i64 0] n) 3) = w1 at R0 ⊢
  generalize w.heap.size = gv at R0 ⊢
  go_wp2_with fail
  clear q1 q2 q3 q4 q5
  go_loopw [8, 9] (fun wv _ wx => ∃ j : Nat, j ≤ n ∧ wv = .int .i64 (j : Int) ∧ Ri w wx (some ⟨gv, 0, none⟩) n (mrow n W l j 0)) (fun wv _ _ => n - (intOf wv).toNat)
  case atStart => exact ⟨0, by omega, rfl, R0⟩
  case round =>
    clear R0
    obtain ⟨j, hj, rfl, R1⟩ := hrel
    by_cases hlt : j < n
    · have hj1 := (show ∀ j, j < n → j * W + 1 ≤ C from hmul) j hlt
      obtain ⟨h1, h2, h3⟩ : 1 ≤ W ∧ W ≤ C ∧ C ≤ 512 := h12
      have eB : (j + 1) * W = j * W + W := by rw [Nat.add_mul, Nat.one_mul]
      have dj : (j : Int) < (n : Int) := by omega
      have dwj := wrapI (x := (j : Int) + 1) (by omega) (by omega)
      have dA : IntKind.i64.wrap ((j : Int) * (W : Int)) = ((j * W : Nat) : Int) := by rw [← Int.natCast_mul]; exact wrapI (by omega) (by omega)
      have dB : IntKind.i64.wrap (((j : Int) + 1) * (W : Int)) = (((j + 1) * W : Nat) : Int) := by
        rw [show ((j : Int) + 1) * (W : Int) = (((j + 1) * W : Nat) : Int) by rw [Int.natCast_mul]; rfl]
        exact wrapI (by omega) (by omega)
      have hlt' : Hid (j < n) := hlt
      have hturn : Hid (mrow n W l j m = mrow n W l (j + 1) 0) := by show _ = _; rw [show m = l.length from hm']; exact mrow_turn n W l j
      have hin : Hid (∀ x, inW W j x = (decide (x.lba < (((j + 1) * W : Nat) : Int)) && decide (((j * W : Nat) : Int) < x.lba + x.len))) := fun x => rfl
      generalize (j + 1) * W = B at dB hin eB
      generalize j * W = A at dA hin eB hj1
      have h12 : Hid (1 ≤ W ∧ W ≤ C ∧ C ≤ 512) := ⟨h1, h2, h3⟩
      clear hlt h1 h2 h3 eB hj1
      go_wp2_with fail
      go_loopw [9] (fun iv wx => ∃ i : Nat, i ≤ m ∧ iv = .int .i64 (i : Int) ∧ Ri w wx (some ⟨gv, 0, none⟩) n (mrow n W l j i)) (fun iv _ => m - (intOf iv).toNat)
      case atStart => exact ⟨0, by omega, rfl, R1⟩
      case round =>
        clear R1
        obtain ⟨i, hi, rfl, R⟩ := hrel
        by_cases hli : i < m
        · obtain ⟨x, hx⟩ : ∃ x, l[i]? = some x := ⟨_, List.getElem?_eq_getElem (by rw [← show m = _ from hm']; exact hli)⟩
          have hbx := hF.bd (List.mem_of_getElem? hx)
          obtain ⟨g, o, rfl, u0, u1, u2⟩ := (hR.more R.keep).at hx
          have di : (i : Int) < (m : Int) := by omega
          have dwi := wrapI (x := (i : Int) + 1) (by omega) (by omega)
          have ds := wrapI (x := x.lba + x.len) (by omega) (by omega)
          have hli' : Hid (i < m) := hli
          obtain ⟨gg, eg, cj⟩ := R.is.at (i := j) (by rw [mrow_len]; exact hlt')
          injection eg with eg; injection eg with eg; subst eg
          rw [mrow_get hlt'] at cj
          have zj := R.fz j
          have hcl := mcnt_le W (l.take i) j
          have hcl2 : ((l.take i).length : Int) ≤ 512 := by rw [List.length_take]; omega
          have f4 := wrapI (x := mcnt W (l.take i) j + 1) (by omega) (by omega)
          have hix := (show ∀ x, _ from hin) x
          have hS : Hid (inW W j x = true → ∀ wq, Keep (fun _ => False) wr wq → Ri w (wq.setCell ⟨gv, j, none⟩ (.int .i64 (mcnt W (l.take i) j + 1))) (some ⟨gv, 0, none⟩) n (mrow n W l j (i + 1)) ∧ wq.cell? ⟨gv, j, none⟩ = some (.int .i64 (mcnt W (l.take i) j)) ∧ wq.frozen? ⟨gv, j, none⟩ = false) := fun hx1 wq k => by
            have Rq := R.more k
            refine ⟨?_, k.cell cj, Rq.fz j⟩
            have := Rq.set j (mcnt W (l.take i) j + 1)
            rwa [mrow_set hlt' hx hx1] at this
          have hN : Hid (inW W j x = false → ∀ wq, Keep (fun _ => False) wr wq → Ri w wq (some ⟨gv, 0, none⟩) n (mrow n W l j (i + 1))) := fun hx1 wq k => by
            have Rq := R.more k
            rwa [mrow_skip hx hx1] at Rq
          generalize mcnt W (l.take i) j = V at *
          clear R hx hbx hcl hcl2 hli cj zj
          generalize x.phys = x2 at *
          by_cases b1 : x.lba < (B : Int)
          · have b1' : decide (x.lba < (B : Int)) = true := decide_eq_true b1
            by_cases b2 : (A : Int) < x.lba + x.len
            · rw [decide_eq_true b1, decide_eq_true b2, Bool.and_self] at hix
              have b2' : decide ((A : Int) < x.lba + x.len) = true := decide_eq_true b2
              have hS := (show inW W j x = true → ∀ wq, Keep (fun _ => False) wr wq → _ from hS) hix
              have hS : Hid (∀ wq, Keep (fun _ => False) wr wq → Ri w (wq.setCell ⟨gv, j, none⟩ (.int .i64 (V + 1))) (some ⟨gv, 0, none⟩) n (mrow n W l j (i + 1)) ∧ wq.cell? ⟨gv, j, none⟩ = some (.int .i64 V) ∧ wq.frozen? ⟨gv, j, none⟩ = false) := hS
              clear hix hN
              generalize x.lba = x0 at *
              generalize x.len = x1 at *
              go_wp2_with fail
              go_quiet (fail)
              have kd := (Keep.refl (fun _ => False) wr).drewN nq
              generalize wr.drewN nq = wq at kd ⊢
              obtain ⟨R2, cj, zj⟩ := (show ∀ wq, Keep (fun _ => False) wr wq → _ from hS) wq kd
              clear u0 u1 u2 kd
              go_wp2_with fail
              go_roundw
              case rel => exact ⟨i + 1, hli', by go_num, R2⟩
              case measure => have : i < m := hli'; simp [intOf]; omega
            · rw [decide_eq_true b1, decide_eq_false b2, Bool.and_false] at hix
              have b2' : decide ((A : Int) < x.lba + x.len) = false := decide_eq_false b2
              have hN := (show inW W j x = false → ∀ wq, Keep (fun _ => False) wr wq → _ from hN) hix
              have hN : Hid (∀ wq, Keep (fun _ => False) wr wq → Ri w wq (some ⟨gv, 0, none⟩) n (mrow n W l j (i + 1))) := hN
              clear hix hS
              generalize x.lba = x0 at *
              generalize x.len = x1 at *
              go_wp2_with fail
              go_quiet (fail)
              have R2 := (show ∀ wq, Keep (fun _ => False) wr wq → _ from hN) _ ((Keep.refl (fun _ => False) wr).drewN nq)
              go_wp2_with fail
              go_roundw
              case rel => exact ⟨i + 1, hli', by go_num, R2⟩
              case measure => have : i < m := hli'; simp [intOf]; omega
          · have b1' : decide (x.lba < (B : Int)) = false := decide_eq_false b1
            rw [decide_eq_false b1, Bool.false_and] at hix
            have hN := (show inW W j x = false → ∀ wq, Keep (fun _ => False) wr wq → _ from hN) hix
            have hN : Hid (∀ wq, Keep (fun _ => False) wr wq → Ri w wq (some ⟨gv, 0, none⟩) n (mrow n W l j (i + 1))) := hN
            clear hix hS
            generalize x.lba = x0 at *
            generalize x.len = x1 at *
            go_wp2_with fail
            go_quiet (fail)
            have R2 := (show ∀ wq, Keep (fun _ => False) wr wq → _ from hN) _ ((Keep.refl (fun _ => False) wr).drewN nq)
            go_wp2_with fail
            go_roundw
            case rel => exact ⟨i + 1, hli', by go_num, R2⟩
            case measure => have : i < m := hli'; simp [intOf]; omega
        · have di : ¬ (i : Int) < (m : Int) := by omega
          obtain rfl : i = m := by omega
          have R2 := R
          rw [show mrow n W l j i = _ from hturn] at R2
          clear R hli hi
          go_wp2_with fail
          go_roundw
          case rel => exact ⟨j + 1, hlt', by go_num, R2⟩
          case measure => have : j < n := hlt'; simp [intOf]; omega
    · have dj : ¬ (j : Int) < (n : Int) := by omega
      obtain rfl : j = n := by omega
      rw [show mrow j W l j 0 = _ from hend'] at R1
      clear hlt
      go_wp2_with fail
      go_ret
      exact ⟨gv, rfl, R1⟩
end Tg
end Go.Proofs.Ytojkiambkgkecaa
