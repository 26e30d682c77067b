/-
  The document's own Valid, walked.
-/
import Derived.Test.YtkddonmddgfpnabBr
namespace Go.Proofs.Ytkddonmddgfpnab
open Go.ChangeShapes Go.WideShapes Go.ChangeAt Go.RowKit
namespace Tg
/-- Valid pages, as far as k pages of a run that stands behind others. -/
def valK (pages phys : Int) (l : List Rn) (n k : Nat) : List Int := (List.range n).map (fun b : Nat => cnt pages (b : Int) l + cntK pages phys (b : Int) k)
theorem valK_len (pages phys : Int) (l : List Rn) (n k : Nat) : (valK pages phys l n k).length = n := by simp [valK]
theorem valK_get (pages phys : Int) (l : List Rn) {n b : Nat} (k : Nat) (hb : b < n) : (valK pages phys l n k)[b]? = some (cnt pages (b : Int) l + cntK pages phys (b : Int) k) := by simp [valK, hb]
theorem cntK_succ (pages phys b : Int) (k : Nat) : cntK pages phys b (k + 1) = cntK pages phys b k + (if (phys + (k : Int)) / pages = b then 1 else 0) := rfl
theorem valK_next {pages phys : Int} {l : List Rn} {n k j : Nat} (hj : j < n) (h : (phys + (k : Int)) / pages = (j : Int)) : (valK pages phys l n k).set j (cnt pages (j : Int) l + cntK pages phys (j : Int) k + 1) = valK pages phys l n (k + 1) := by
  refine List.ext_getElem? (fun b => ?_)
  by_cases hb : b < n
  · rw [List.getElem?_set, valK_get _ _ _ _ hb, valK_get _ _ _ _ hb, valK_len]
    rw [cntK_succ]
    by_cases e : j = b
    · subst e
      rw [if_pos rfl, if_pos hj, if_pos h]
      congr 1
      omega
    · rw [if_neg e, if_neg (by omega)]
      congr 1
      omega
  · rw [List.getElem?_eq_none (by rw [List.length_set, valK_len]; omega), List.getElem?_eq_none (by rw [valK_len]; omega)]
theorem valK_zero (pages phys : Int) (l : List Rn) (n : Nat) : valK pages phys l n 0 = valL pages l n := by
  unfold valK valL
  apply List.map_congr_left
  intro b _
  simp [cntK]
theorem valK_end {pages : Int} {l : List Rn} {x : Rn} (n : Nat) : valK pages x.phys l n x.len.toNat = valL pages (l ++ [x]) n := by
  unfold valK valL
  apply List.map_congr_left
  intro b _
  rw [cnt_app]
  simp [cnt]
theorem valL_nil (pages : Int) (n : Nat) : valL pages [] n = List.replicate n 0 := by
  refine List.ext_getElem? (fun b => ?_)
  by_cases hb : b < n
  · simp [valL, hb, cnt]
  · rw [List.getElem?_eq_none (by rw [valL_len]; omega), List.getElem?_eq_none (by simp; omega)]
set_option maxRecDepth 100000 in
set_option maxHeartbeats 1000000 in
theorem rvalid {w : World} {a : Option Addr} {cap : Nat} {l : List Rn} (hR : Rz w a cap l) (hF : Ft13 l) {n : Nat} {pages : Int} (hn : 1 ≤ n ∧ n ≤ 64) (hp : 1 ≤ pages ∧ pages ≤ 32) (hin : ∀ x ∈ l, x.phys + x.len ≤ (n : Int) * pages) :
    Calls Try.prog 26 #[.slice a l.length cap, .int .i64 (n : Int), .int .i64 pages] w fun e w' => ∃ g, e = .returned (.slice (some ⟨g, 0, none⟩) n n) ∧ Ri w w' (some ⟨g, 0, none⟩) n (valL pages l n) := by
  have hlc := hR.1
  have hlc2 := hR.2.1
  have hl5 := hF.len
  obtain ⟨m, hm⟩ : ∃ m, m = l.length := ⟨_, rfl⟩
  have hm' : Hid (m = l.length) := hm
  rw [← hm] at hlc hl5 ⊢
  clear hm
  have hmk := make_ints n (by omega) w
  have R0 : Ri w (w.alloc (.cells (madeCells #[.int .i64 0] n) 3)) (some ⟨w.heap.size, 0, none⟩) n (valL pages (l.take 0) n) := by
    rw [List.take_zero, valL_nil]
    exact ri_made w n (by omega)
  generalize w.alloc (.cells (madeCells #[.int .i64 0] n) 3) = w1 at hmk R0
  generalize hG : w.heap.size = gv at hmk R0
  have hp0 : ¬ pages = 0 := by omega
  go_enter Try.func26, Try.ntmps26
  go_wp2_with fail
  clear hmk
  go_loopw [8] (fun v wx => ∃ i : Nat, i ≤ m ∧ v = .int .i64 (i : Int) ∧ Ri w wx (some ⟨gv, 0, none⟩) n (valL pages (l.take i) n)) (fun v _ => m - (intOf v).toNat)
  case atStart => exact ⟨0, by omega, rfl, R0⟩
  case round =>
    clear R0
    obtain ⟨i, hi, rfl, R1⟩ := hrel
    by_cases hlt : i < m
    · obtain ⟨x, hx⟩ := get_rn (m := l) (i := i) (by rw [← show m = l.length from hm']; exact hlt)
      have hb := hF.bd (List.mem_of_getElem? hx)
      have hix := hin x (List.mem_of_getElem? hx)
      obtain ⟨g, o, rfl, -⟩ := hR.at hx
      have hcell : Hid (∀ wx, Keep (fun _ => False) w wx → wx.cell? ⟨g, o + i * 3 + 1, none⟩ = some (.int .i64 x.len) ∧ wx.cell? ⟨g, o + i * 3 + 2, none⟩ = some (.int .i64 x.phys)) := fun wx k => by
        obtain ⟨g', o', e, c0, c1, c2⟩ := (hR.more k).at hx
        injection e with e
        injection e with e1 e2
        subst e1 e2
        exact ⟨c1, c2⟩
      have hnx : l.take (i + 1) = l.take i ++ [x] := take_next hx
      have di : (i : Int) < (m : Int) := by omega
      have dw := wrapI (x := (i : Int) + 1) (by omega) (by omega)
      have hlt' : Hid (i < m) := hlt
      have hcl : Hid (∀ b, 0 ≤ cnt pages b (l.take i) ∧ cnt pages b (l.take i) ≤ 262144) := fun b => by
        have := cnt_le (pages := pages) (b := b) (l := l.take i) (fun y hy => by have := hF.bd (List.mem_of_mem_take hy); omega)
        have h2 : (l.take i).length ≤ 512 := Nat.le_trans (List.length_take_le _ _) (by omega)
        omega
      obtain ⟨L, hL⟩ : ∃ L : Nat, x.len = (L : Int) := ⟨x.len.toNat, by omega⟩
      have hend : Hid (valK pages x.phys (l.take i) n L = valL pages (l.take (i + 1)) n) := by
        show _ = _
        rw [hnx, ← valK_end, hL, Int.toNat_natCast]
      rw [← valK_zero pages x.phys] at R1
      clear hlt hx hnx
      go_wp2_with fail
      go_loopw [9] (fun v wx => ∃ k : Nat, k ≤ L ∧ v = .int .i64 (k : Int) ∧ Ri w wx (some ⟨gv, 0, none⟩) n (valK pages x.phys (l.take i) n k)) (fun v _ => L - (intOf v).toNat)
      case atStart => exact ⟨0, by omega, rfl, R1⟩
      case round =>
        clear R1
        obtain ⟨k, hk, rfl, R⟩ := hrel
        obtain ⟨c1, c2⟩ := (show ∀ wx, _ → _ from hcell) wr R.keep
        rw [hL] at c1
        by_cases hlt2 : k < L
        · have dk : (k : Int) < (L : Int) := by omega
          have dw2 := wrapI (x := (k : Int) + 1) (by omega) (by omega)
          have f1 : IntKind.i64.wrap (x.phys + (k : Int)) = x.phys + (k : Int) := wrapI (by omega) (by omega)
          have hq0 : 0 ≤ (x.phys + (k : Int)) / pages := Int.ediv_nonneg (by omega) (by omega)
          have hqn : (x.phys + (k : Int)) / pages < (n : Int) := Int.ediv_lt_of_lt_mul (by omega) (by omega)
          obtain ⟨j, hj⟩ : ∃ j : Nat, (x.phys + (k : Int)) / pages = (j : Int) := ⟨((x.phys + (k : Int)) / pages).toNat, by omega⟩
          have hjn : j < n := by omega
          have f2 : (x.phys + (k : Int)).tdiv pages = (j : Int) := by rw [Int.tdiv_eq_ediv_of_nonneg (by omega)]; exact hj
          have f3 : IntKind.i64.wrap (j : Int) = (j : Int) := wrapI (by omega) (by omega)
          have djn : (j : Int) < (n : Int) := by omega
          obtain ⟨g2, eg, cj⟩ := R.is.at (i := j) (by rw [valK_len]; exact hjn)
          injection eg with eg; injection eg with eg; subst eg
          have zj := R.fz j
          have hget : (valK pages x.phys (l.take i) n k).getD j (-1) = cnt pages (j : Int) (l.take i) + cntK pages x.phys (j : Int) k := by
            rw [List.getD_eq_getElem?_getD, valK_get _ _ _ _ hjn]
            rfl
          rw [hget] at cj
          have R2 := R.set j (cnt pages (j : Int) (l.take i) + cntK pages x.phys (j : Int) k + 1)
          rw [valK_next hjn hj] at R2
          have hc1 := (show ∀ b, _ from hcl) (j : Int)
          have hc2 := cntK_le pages x.phys (j : Int) k
          have f4 : IntKind.i64.wrap (cnt pages (j : Int) (l.take i) + cntK pages x.phys (j : Int) k + 1) = cnt pages (j : Int) (l.take i) + cntK pages x.phys (j : Int) k + 1 := wrapI (by omega) (by omega)
          have hlt2' : Hid (k < L) := hlt2
          clear hlt2 R hget hq0 hqn hj hc1 hc2
          generalize cnt pages (j : Int) (l.take i) + cntK pages x.phys (j : Int) k = V at cj R2 f4
          go_wp2_with fail
          go_roundw
          case rel => exact ⟨k + 1, hlt2', by go_num, R2⟩
          case measure => have : k < L := hlt2'; simp [intOf]; omega
        · have dk : ¬ (k : Int) < (L : Int) := by omega
          obtain rfl : k = L := by omega
          rw [show valK pages x.phys (l.take i) n k = _ from hend] at R
          clear hlt2
          go_wp2_with fail
          go_roundw
          case rel => exact ⟨i + 1, hlt', by go_num, R⟩
          case measure => have : i < m := hlt'; simp [intOf]; omega
    · have di : ¬ (i : Int) < (m : Int) := by omega
      rw [List.take_of_length_le (by rw [← show m = l.length from hm']; omega)] at R1
      clear hlt
      go_wp2_with fail
      go_ret
      exact ⟨gv, rfl, R1⟩
end Tg
end Go.Proofs.Ytkddonmddgfpnab
