/-
  The program's New, walked.
-/
import Derived.Test.YthfbfepaoknmfaaPa
namespace Go.Proofs.Ythfbfepaoknmfaa
open Go.ChangeShapes Go.WideShapes Go.ChangeAt Go.RowKit
namespace Tg
/-- A detector's memory, whatever its cells. -/
structure Dr (w0 w : World) (p g h n : Nat) (F H : Nat → Value) : Prop where
  top : Blk w p 2 (tc g h n)
  st : Blk w g (n * 2) F
  od : Blk w h n H
  pg : p ≠ g
  ph : p ≠ h
  gh : g ≠ h
  oldp : w0.heap.size ≤ p
  oldg : w0.heap.size ≤ g
  oldh : w0.heap.size ≤ h
  keep : Keep (fun _ => False) w0 w
theorem Dr.dt {w0 w : World} {p g h n : Nat} {F H : Nat → Value} {s : St} (d : Dr w0 w p g h n F H) (hs : s.Ok n) (hF : ∀ i, i < n * 2 → F i = sc s i) (hH : ∀ i, i < n → H i = oc s i) : Dt w0 w p g h n s :=
  ⟨d.top, d.st.congr hF, d.od.congr hH, d.pg, d.ph, d.gh, d.oldp, d.oldg, d.oldh, d.keep, hs⟩
theorem Dt.dr {w0 w : World} {p g h n : Nat} {s : St} (d : Dt w0 w p g h n s) : Dr w0 w p g h n (sc s) (oc s) := ⟨d.top, d.st, d.od, d.pg, d.ph, d.gh, d.oldp, d.oldg, d.oldh, d.keep⟩
theorem Dr.setG {w0 w : World} {p g h n : Nat} {F H : Nat → Value} (d : Dr w0 w p g h n F H) (j : Nat) (v : Value) : Dr w0 (w.setCell ⟨g, j, none⟩ v) p g h n (fun i => if i = j then v else F i) H :=
  ⟨Blk.other d.top (a := ⟨g, j, none⟩) d.pg v, Blk.set d.st j v, Blk.other d.od (a := ⟨g, j, none⟩) d.gh.symm v, d.pg, d.ph, d.gh, d.oldp, d.oldg, d.oldh, d.keep.setCell (p := ⟨g, j, none⟩) (Or.inr d.oldg) v⟩
theorem Dr.setH {w0 w : World} {p g h n : Nat} {F H : Nat → Value} (d : Dr w0 w p g h n F H) (j : Nat) (v : Value) : Dr w0 (w.setCell ⟨h, j, none⟩ v) p g h n F (fun i => if i = j then v else H i) :=
  ⟨Blk.other d.top (a := ⟨h, j, none⟩) d.ph v, Blk.other d.st (a := ⟨h, j, none⟩) d.gh v, Blk.set d.od j v, d.pg, d.ph, d.gh, d.oldp, d.oldg, d.oldh, d.keep.setCell (p := ⟨h, j, none⟩) (Or.inr d.oldh) v⟩
theorem Dr.copyH {w0 w : World} {p g h n : Nat} {F H : Nat → Value} (d : Dr w0 w p g h n F H) (o m : Nat) (f : Nat → Value) (hm : o + m ≤ n) : Dr w0 (w.setCells h o ((List.range m).map f)) p g h n F (fun i => if o ≤ i ∧ i < o + m then f (i - o) else H i) :=
  ⟨Blk.otherCells d.top d.ph _ _, Blk.otherCells d.st d.gh _ _, Blk.setCells d.od o m f hm, d.pg, d.ph, d.gh, d.oldp, d.oldg, d.oldh, d.keep.setCells (Or.inr d.oldh) _ _⟩
theorem Dr.more {w0 w w' : World} {p g h n : Nat} {F H : Nat → Value} (d : Dr w0 w p g h n F H) (k : Keep (fun _ => False) w w') : Dr w0 w' p g h n F H :=
  ⟨Blk.keep d.top k (fun e => e), Blk.keep d.st k (fun e => e), Blk.keep d.od k (fun e => e), d.pg, d.ph, d.gh, d.oldp, d.oldg, d.oldh, d.keep.trans k⟩
theorem Dr.congr {w0 w : World} {p g h n : Nat} {F H F' H' : Nat → Value} (d : Dr w0 w p g h n F H) (hF : ∀ i, i < n * 2 → F i = F' i) (hH : ∀ i, i < n → H i = H' i) : Dr w0 w p g h n F' H' :=
  ⟨d.top, d.st.congr hF, d.od.congr hH, d.pg, d.ph, d.gh, d.oldp, d.oldg, d.oldh, d.keep⟩
set_option maxRecDepth 100000 in
theorem info47 : (Try.prog.info? 47).map (fun i => (i.zero, i.size, i.bytes)) = some (some (.agg #[.int .i64 0, .int .i64 0]), 2, 16) := by kernel_rfl
theorem make_streams (n : Nat) (hn : n ≤ 512) (w : World) : (Instr.makeSlice 43 (.int .i64 (n : Int)) (.int .i64 (n : Int))).run Try.prog w =
    .ok (.slice (some ⟨w.heap.size, 0, none⟩) n n) (w.alloc (.cells (madeCells #[.int .i64 0, .int .i64 0] (n * 2)) 47)) := by
  obtain ⟨i, hi, hz0, hz1, hz2⟩ := info_parts info47
  have := run_make (P := Try.prog) w 43 47 i _ Try.underlying43 hi hz0 .i64 .i64 n n (by omega) (by omega) (by rw [hz2]; omega) (by omega)
  rw [hz1] at this
  exact this
theorem made2 {n c : Nat} (hc : c < n * 2) : (madeCells #[Value.int .i64 0, Value.int .i64 0] (n * 2))[c]? = some (.int .i64 0) := by
  unfold madeCells
  rw [Array.getElem?_map, Array.getElem?_range, if_pos hc, Option.map_some]
  have : c % 2 = 0 ∨ c % 2 = 1 := by omega
  show some (#[Value.int .i64 0, Value.int .i64 0][c % 2]!) = _
  rcases this with e | e <;> rw [e] <;> rfl
theorem made1 {n c : Nat} (hc : c < n) : (madeCells #[Value.int .i64 0] n)[c]? = some (.int .i64 0) := by
  rw [← Array.getElem?_toList, toList_madeCells_one]
  simp [hc]
/-- Its memory at first, either row made first. -/
theorem Dr.gh0 (w : World) (n : Nat) : Dr w (((w.alloc (.cells (madeCells #[.int .i64 0, .int .i64 0] (n * 2)) 47)).alloc (.cells (madeCells #[.int .i64 0] n) 3)).alloc (.cells #[.slice (some ⟨w.heap.size, 0, none⟩) n n, .slice (some ⟨w.heap.size + 1, 0, none⟩) n n] 45)) (w.heap.size + 2) w.heap.size (w.heap.size + 1) n (fun _ => .int .i64 0) (fun _ => .int .i64 0) := by
  have B1 : Blk (w.alloc (.cells (madeCells #[.int .i64 0, .int .i64 0] (n * 2)) 47)) w.heap.size (n * 2) (fun _ => .int .i64 0) := blk_alloc w _ 47 (n * 2) _ (fun i hi => made2 hi)
  have K1 := (Keep.refl (fun _ => False) w).alloc (.cells (madeCells #[.int .i64 0, .int .i64 0] (n * 2)) 47)
  have e1 : (w.alloc (.cells (madeCells #[.int .i64 0, .int .i64 0] (n * 2)) 47)).heap.size = w.heap.size + 1 := by simp
  generalize w.alloc (.cells (madeCells #[.int .i64 0, .int .i64 0] (n * 2)) 47) = w1 at *
  have B2 : Blk (w1.alloc (.cells (madeCells #[.int .i64 0] n) 3)) w1.heap.size n (fun _ => .int .i64 0) := blk_alloc w1 _ 3 n _ (fun i hi => made1 hi)
  have B1 := B1.alloc (.cells (madeCells #[.int .i64 0] n) 3)
  have K2 := K1.alloc (.cells (madeCells #[.int .i64 0] n) 3)
  have e2 : (w1.alloc (.cells (madeCells #[.int .i64 0] n) 3)).heap.size = w.heap.size + 2 := by simp; omega
  rw [e1] at B2
  generalize w1.alloc (.cells (madeCells #[.int .i64 0] n) 3) = w2 at *
  have B3 : Blk (w2.alloc (.cells #[.slice (some ⟨w.heap.size, 0, none⟩) n n, .slice (some ⟨w.heap.size + 1, 0, none⟩) n n] 45)) w2.heap.size 2 (tc w.heap.size (w.heap.size + 1) n) := blk_alloc w2 _ 45 2 _ (fun i hi => by rcases (by omega : i = 0 ∨ i = 1) with rfl | rfl <;> rfl)
  rw [e2] at B3
  exact ⟨B3, B1.alloc _, B2.alloc _, by omega, by omega, by omega, by omega, by omega, by omega, K2.alloc _⟩
theorem Dr.hg0 (w : World) (n : Nat) : Dr w (((w.alloc (.cells (madeCells #[.int .i64 0] n) 3)).alloc (.cells (madeCells #[.int .i64 0, .int .i64 0] (n * 2)) 47)).alloc (.cells #[.slice (some ⟨w.heap.size + 1, 0, none⟩) n n, .slice (some ⟨w.heap.size, 0, none⟩) n n] 45)) (w.heap.size + 2) (w.heap.size + 1) w.heap.size n (fun _ => .int .i64 0) (fun _ => .int .i64 0) := by
  have B1 : Blk (w.alloc (.cells (madeCells #[.int .i64 0] n) 3)) w.heap.size n (fun _ => .int .i64 0) := blk_alloc w _ 3 n _ (fun i hi => made1 hi)
  have K1 := (Keep.refl (fun _ => False) w).alloc (.cells (madeCells #[.int .i64 0] n) 3)
  have e1 : (w.alloc (.cells (madeCells #[.int .i64 0] n) 3)).heap.size = w.heap.size + 1 := by simp
  generalize w.alloc (.cells (madeCells #[.int .i64 0] n) 3) = w1 at *
  have B2 : Blk (w1.alloc (.cells (madeCells #[.int .i64 0, .int .i64 0] (n * 2)) 47)) w1.heap.size (n * 2) (fun _ => .int .i64 0) := blk_alloc w1 _ 47 (n * 2) _ (fun i hi => made2 hi)
  have B1 := B1.alloc (.cells (madeCells #[.int .i64 0, .int .i64 0] (n * 2)) 47)
  have K2 := K1.alloc (.cells (madeCells #[.int .i64 0, .int .i64 0] (n * 2)) 47)
  have e2 : (w1.alloc (.cells (madeCells #[.int .i64 0, .int .i64 0] (n * 2)) 47)).heap.size = w.heap.size + 2 := by simp; omega
  rw [e1] at B2
  generalize w1.alloc (.cells (madeCells #[.int .i64 0, .int .i64 0] (n * 2)) 47) = w2 at *
  have B3 : Blk (w2.alloc (.cells #[.slice (some ⟨w.heap.size + 1, 0, none⟩) n n, .slice (some ⟨w.heap.size, 0, none⟩) n n] 45)) w2.heap.size 2 (tc (w.heap.size + 1) w.heap.size n) := blk_alloc w2 _ 45 2 _ (fun i hi => by rcases (by omega : i = 0 ∨ i = 1) with rfl | rfl <;> rfl)
  rw [e2] at B3
  exact ⟨B3, B2.alloc _, B1.alloc _, by omega, by omega, by omega, by omega, by omega, by omega, K2.alloc _⟩
/-- The rows behind i rounds. -/
def nF (i : Nat) : Nat → Value := fun c => .int .i64 (if c % 2 = 0 ∧ c / 2 < i then -1 else 0)
def nH (i : Nat) : Nat → Value := fun c => .int .i64 (if c < i then (c : Int) else 0)
theorem nF_zero (c : Nat) : nF 0 c = .int .i64 0 := by unfold nF; rw [if_neg (by omega)]
theorem nH_zero (c : Nat) : nH 0 c = .int .i64 0 := by unfold nH; rw [if_neg (by omega)]
theorem nF_succ (i c : Nat) : (if c = i * 2 then Value.int .i64 (-1) else nF i c) = nF (i + 1) c := by
  unfold nF
  by_cases e : c = i * 2
  · rw [if_pos e, if_pos (by omega)]
  · rw [if_neg e]
    by_cases e2 : c % 2 = 0 ∧ c / 2 < i
    · rw [if_pos e2, if_pos (by omega)]
    · rw [if_neg e2, if_neg (by omega)]
theorem nH_succ (i c : Nat) : (if c = i then Value.int .i64 (i : Int) else nH i c) = nH (i + 1) c := by
  unfold nH
  by_cases e : c = i
  · rw [if_pos e, if_pos (by omega), e]
  · rw [if_neg e]
    by_cases e2 : c < i
    · rw [if_pos e2, if_pos (by omega)]
    · rw [if_neg e2, if_neg (by omega)]
theorem nF_end {n c : Nat} (hc : c < n * 2) : nF n c = sc (St.new n) c := by
  unfold nF sc St.new
  by_cases e : c % 2 = 0
  · rw [if_pos (by omega), if_pos e, List.getD_eq_getElem?_getD, List.getElem?_replicate, if_pos (by omega)]; rfl
  · rw [if_neg (by omega), if_neg e, getD_rep]
theorem nH_end {n c : Nat} (hc : c < n) : nH n c = oc (St.new n) c := by
  unfold nH oc St.new
  rw [if_pos hc, List.getD_eq_getElem?_getD, List.getElem?_range hc]; rfl
set_option maxRecDepth 100000 in
set_option maxHeartbeats 1000000 in
theorem new_no {k : Int} (hk : k < 1 ∨ 16 < k) (w : World) :
    Calls Try.prog 8 #[.int .i64 k] w fun e w' => e = .returned (.tuple #[.pointer none, .int .i64 1]) ∧ w' = w := by
  go_enter Try.func8, Try.ntmps8
  by_cases h1 : k < 1
  · clear hk
    go_wp2_with fail
    go_ret2
    exact ⟨rfl, rfl⟩
  · have h2 : 16 < k := hk.resolve_left h1
    clear hk
    go_wp2_with fail
    go_ret2
    exact ⟨rfl, rfl⟩
set_option maxRecDepth 100000 in
set_option maxHeartbeats 1000000 in
theorem new_ok {w : World} {n : Nat} (h1 : 1 ≤ n) (hn : n ≤ 16) :
    Calls Try.prog 8 #[.int .i64 (n : Int)] w fun e w' => ∃ p g h, e = .returned (.tuple #[.pointer (some ⟨p, 0, none⟩), .int .i64 0]) ∧ Dt w w' p g h n (St.new n) := by
  have d1 : ¬ (n : Int) < 1 := by omega
  have d2 : ¬ (16 : Int) < (n : Int) := by omega
  have m1 := make_streams n (by omega)
  have m2 := make_ints n (by omega)
  have G0 := Dr.gh0 w n
  have H0 := Dr.hg0 w n
  go_enter Try.func8, Try.ntmps8
  go_upto_region 3 with fail
  go_cut [4] from 12 to 17 (fun v wx => ∃ p g h, v = .pointer (some ⟨p, 0, none⟩) ∧ Dr w wx p g h n (fun _ => .int .i64 0) (fun _ => .int .i64 0))
  case first =>
    go_region
    all_goals go_wp2_with fail
    all_goals go_meet
    · exact ⟨_, _, _, rfl, G0.more ((Keep.refl _ _).drew)⟩
    · exact ⟨_, _, _, rfl, H0.more ((Keep.refl _ _).drew)⟩
  case rest =>
    clear G0 H0 m1 m2
    obtain ⟨p, g, h, rfl, D0⟩ := hcut
    go_wp2_with fail
    go_loopw [5, 19] (fun _ v wx => ∃ i : Nat, i ≤ n ∧ v = .int .i64 (i : Int) ∧ Dr w wx p g h n (nF i) (nH i)) (fun _ v _ => n - (intOf v).toNat)
    case atStart => exact ⟨0, by omega, rfl, D0.congr (fun i _ => (nF_zero i).symm) (fun i _ => (nH_zero i).symm)⟩
    case round =>
      clear D0
      obtain ⟨i, hi, rfl, D⟩ := hrel
      by_cases hlt : i < n
      · have di : (i : Int) < (n : Int) := by omega
        have dw := wrapI (x := (i : Int) + 1) (by omega) (by omega)
        have hlt' : Hid (i < n) := hlt
        have t0 : wr.cell? ⟨p, 0, none⟩ = some (.slice (some ⟨g, 0, none⟩) n n) := (D.top 0 (by omega)).1
        obtain ⟨c0, f0⟩ := D.st (i * 2) (by omega)
        have D1 := D.setG (i * 2) (.int .i64 (-1))
        generalize nF i (i * 2) = x0 at c0
        clear D
        go_upto_region 8 with fail
        generalize wr.setCell ⟨g, i * 2, none⟩ (.int .i64 (-1)) = w1 at D1 ⊢
        have t1 : w1.cell? ⟨p, 1, none⟩ = some (.slice (some ⟨h, 0, none⟩) n n) := (D1.top 1 (by omega)).1
        obtain ⟨c1, f1⟩ := D1.od i hlt
        have D2 := D1.setH i (.int .i64 (i : Int))
        generalize nH i i = x1 at c1
        clear D1 t0 c0 f0 x0 hlt
        go_wp2_with fail
        go_roundw
        case rel => exact ⟨i + 1, hlt', by go_num, D2.congr (fun k _ => nF_succ i k) (fun k _ => nH_succ i k)⟩
        case measure => have : i < n := hlt'; simp [intOf]; omega
      · have di : ¬ (i : Int) < (n : Int) := by omega
        obtain rfl : i = n := by omega
        clear hlt
        have D2 := D.dt (new_okS h1) (fun k hk => nF_end hk) (fun k hk => nH_end hk)
        clear D
        go_wp2_with fail
        go_ret2
        exact ⟨p, rfl, g, h, D2⟩
end Tg
end Go.Proofs.Ythfbfepaoknmfaa
