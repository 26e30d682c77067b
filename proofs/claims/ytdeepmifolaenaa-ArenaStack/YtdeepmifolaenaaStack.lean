/-
  The statement ArenaStack at any size and any number: it returns true, and whatever was in memory is as it was.
-/
import Derived.Test.YtdeepmifolaenaaAwake
namespace Go.Proofs.Ytdeepmifolaenaa
open Go.ChangeShapes Go.WideShapes Go.ChangeAt Go.RowKit
namespace Tg

/-- The free list where the nodes 1 to q were given back, in this order, and those from m + 1 on were never taken. -/
def back (N m q : Nat) : List Nat := (List.range' 1 q).reverse ++ List.range' (m + 1) (N - m)
theorem back_succ (N m q : Nat) : back N m (q + 1) = (q + 1) :: back N m q := by
  unfold back
  rw [List.range'_concat]
  simp
  omega
theorem not_back {N m q : Nat} (h : q < m) : q + 1 ∉ back N m q := by
  unfold back
  simp [List.mem_range'_1]
  omega
theorem range_cons {N q : Nat} (h : q < N) : List.range' (q + 1) (N - q) = (q + 1) :: List.range' (q + 2) (N - (q + 1)) := by
  rw [show N - q = N - (q + 1) + 1 by omega, List.range'_succ]

/-- The node that ArenaStack sets. -/
def hgt (v : Int) (j : Nat) : Int := if j = 2 then v else 0
theorem hgt_eq (v : Int) : nodeA (hgt v) = #[.int .u32 0, .int .u32 0, .int .i64 v, .int .i64 0, .int .i64 0, .int .i64 0] := rfl
theorem take_zero (s : Ar) (x : Nat) (h : s.first = x) : nodeA (s.take.fld x) = nodeA (fun _ => 0) := nodeA_congr (fun j _ => by simp [Ar.take, Ar.wipe, h])

theorem stack_no (w : World) (n m : Int) (h : n < 1 ∨ 200 < n ∨ m < 1 ∨ n < m) :
    Calls Try.prog 5 #[.int .i64 n, .int .i64 m] w fun e w' => e = .returned (.bool true) ∧ Keep (fun _ => False) w w' := by
  by_cases h1 : n < 1
  · go_enter Try.func5, Try.ntmps5
    go_wp2_with fail
    refine (awake_any w).mono ?_
    rintro e w1 ⟨rfl, hk1⟩
    go_wp2_with fail
    go_ret
    exact ⟨rfl, hk1⟩
  by_cases h2 : 200 < n
  · go_enter Try.func5, Try.ntmps5
    go_wp2_with fail
    refine (awake_any w).mono ?_
    rintro e w1 ⟨rfl, hk1⟩
    go_wp2_with fail
    go_ret
    exact ⟨rfl, hk1⟩
  by_cases h3 : m < 1
  · go_enter Try.func5, Try.ntmps5
    go_wp2_with fail
    refine (awake_any w).mono ?_
    rintro e w1 ⟨rfl, hk1⟩
    go_wp2_with fail
    go_ret
    exact ⟨rfl, hk1⟩
  have h4 : n < m := by omega
  go_enter Try.func5, Try.ntmps5
  go_wp2_with fail
  refine (awake_any w).mono ?_
  rintro e w1 ⟨rfl, hk1⟩
  go_wp2_with fail
  go_ret
  exact ⟨rfl, hk1⟩

set_option maxHeartbeats 2000000 in
theorem stack_yes (w : World) (N m : Nat) (h1 : 1 ≤ N) (h2 : N ≤ 200) (h3 : 1 ≤ m) (h4 : m ≤ N) :
    Calls Try.prog 5 #[.int .i64 (N : Int), .int .i64 (m : Int)] w fun e w' => e = .returned (.bool true) ∧ Keep (fun _ => False) w w' := by
  have n1 : ¬ (N : Int) < 1 := by omega
  have n2 : ¬ (200 : Int) < N := by omega
  have n3 : ¬ (m : Int) < 1 := by omega
  have n4 : ¬ (N : Int) < m := by omega
  go_enter Try.func5, Try.ntmps5
  go_wp2_with fail
  refine (awake_any w).mono ?_
  rintro e w1 ⟨rfl, hk1⟩
  go_wp2_with fail
  refine (Mk.new w1 h1 (by omega)).mono ?_
  rintro e w2 ⟨p, k, rfl, hm⟩
  go_wp2_with fail
  go_loopw [7] (fun i wr => ∃ (q : Nat) (s : Ar), q ≤ m ∧ i = .int .i64 ((q : Int) + 1) ∧ Hid (s.N = N) ∧ Mk w1 wr p k s (List.range' (q + 1) (N - q))) (fun i _ => m + 1 - (intOf i).toNat)
  case atStart => exact ⟨0, Ar.new N, by omega, rfl, rfl, hm⟩
  case round =>
    obtain ⟨q, s, hq, rfl, hsN, hM⟩ := hrel
    clear hm
    by_cases hlt : q < m
    · rw [range_cons (by omega)] at hM
      have ht := hM.take
      rw [show ((q + 1 : Nat) : Int) = (q : Int) + 1 from rfl] at ht
      have dq : (q : Int) + 1 ≤ m := by omega
      have dq1 : IntKind.i64.wrap ((q : Int) + 1 + 1) = (q : Int) + 1 + 1 := by rw [IntKind.wrap_i64]; omega
      clear hM
      go_wp2_with fail
      refine ht.mono ?_
      rintro e w3 ⟨rfl, hM3, -⟩
      have hlv : s.take.live (q + 1) = true := (hM3.ok.live (q + 1) (by omega) (by rw [show s.take.N = s.N from rfl, hsN]; omega)).2 (by simp [List.mem_range'_1])
      have hpt := hM3.put (q := q) (by rw [show s.take.N = s.N from rfl, hsN]; omega) hlv (hgt ((q : Int) + 1))
      rw [hgt_eq] at hpt
      clear ht hM3 hlv
      go_wp2_with fail
      refine hpt.mono ?_
      rintro e w4 ⟨rfl, hM4, -⟩
      clear hpt
      go_wp2_with fail
      go_roundw
      case rel => exact ⟨q + 1, s.take.set (q + 1) (hgt ((q : Int) + 1)), by omega, by go_num, hsN, hM4⟩
      case measure => simp [intOf]; omega
    · obtain rfl : q = m := by omega
      have dq : ¬ (q : Int) + 1 ≤ q := by omega
      clear hlt hq
      go_wp2_with fail
      go_loopw [10] (fun i wr => ∃ (x : Nat) (s : Ar), x ≤ q ∧ i = .int .i64 ((x : Int) + 1) ∧ Hid (s.N = N) ∧ Mk w1 wr p k s (back N q x)) (fun i _ => q + 1 - (intOf i).toNat)
      case atStart => exact ⟨0, s, by omega, rfl, hsN, hM⟩
      case round =>
        clear hM hsN
        obtain ⟨x, s, hx, rfl, hsN, hM⟩ := hrel
        by_cases hlt : x < q
        · have hlv : s.live (x + 1) = true := (hM.ok.live (x + 1) (by omega) (by rw [hsN]; omega)).2 (not_back hlt)
          have hg := hM.give (q := x) (by rw [hsN]; omega) hlv
          have dx : (x : Int) + 1 ≤ q := by omega
          have dx1 : IntKind.i64.wrap ((x : Int) + 1 + 1) = (x : Int) + 1 + 1 := by rw [IntKind.wrap_i64]; omega
          clear hM hlv dq
          go_wp2_with fail
          refine hg.mono ?_
          rintro e w3 ⟨rfl, hM3, -⟩
          rw [← back_succ] at hM3
          clear hg
          go_wp2_with fail
          go_roundw
          case rel => exact ⟨x + 1, s.give (x + 1), by omega, by go_num, hsN, hM3⟩
          case measure => simp [intOf]; omega
        · obtain rfl : x = q := by omega
          clear hlt hx
          go_wp2_with fail
          go_loopw [11] (fun i wr => ∃ (y : Nat) (s : Ar), y ≤ x ∧ i = .int .i64 (y : Int) ∧ Hid (s.N = N) ∧ Mk w1 wr p k s (back N x y)) (fun i _ => (intOf i).toNat)
          case atStart => exact ⟨x, s, by omega, rfl, hsN, hM⟩
          case round =>
            clear hM hsN
            obtain ⟨y, s, hy, rfl, hsN, hM⟩ := hrel
            cases y with
            | zero =>
              have hcnt := hM.ok.count
              have hc : s.count = x := by
                have e : s.N = N := hsN
                simp [back] at hcnt
                omega
              have hl := live_any hM.mem
              rw [hc] at hl
              have HK := hk1.trans hM.keep
              rw [show ((0 : Nat) : Int) = 0 from rfl]
              clear hM hcnt hc dq
              go_wp2_with fail
              refine hl.mono ?_
              rintro e w4 ⟨rfl, rfl⟩
              clear hl
              go_wp2_with fail
              go_ret
              exact ⟨ret_bool (by simp), HK⟩
            | succ y =>
              rw [back_succ] at hM
              have hfi : s.first = y + 1 := hM.ok.lnk.1
              have ht := hM.take
              rw [show ((y + 1 : Nat) : Int) = (y : Int) + 1 from rfl] at ht ⊢
              have dy : (1 : Int) ≤ (y : Int) + 1 := by omega
              have HF : Hid (s.first = y + 1) := hfi
              clear hM hfi dq
              go_wp2_with fail
              refine ht.mono ?_
              rintro e w4 ⟨rfl, hM4, -⟩
              clear ht
              have hlv : s.take.live (y + 1) = true := (hM4.ok.live (y + 1) (by omega) (by rw [show s.take.N = s.N from rfl, hsN]; omega)).2 (not_back (by omega))
              have hgt := get_any hM4.mem (q := y) (by rw [show s.take.N = s.N from rfl, hsN]; omega) hM4.ok.small hlv
              rw [take_zero s (y + 1) HF] at hgt
              clear hlv
              go_wp2_with fail
              refine hgt.mono ?_
              rintro e w5 ⟨rfl, hk5⟩
              obtain ⟨w6, hst6, hb6, hk6⟩ := new_node w5 (fun _ => 0)
              have hM6 := (hM4.more hk5).more hk6
              have hld6 := loadAt_node hb6 (o := 0) (by omega) (n := fun _ => 0) (fun i _ => by rw [Nat.zero_add])
              clear hgt hk5 hk6 hb6 hM4
              rw [node0] at hst6 hld6 ⊢
              go_wp2_with (first | (guard_target =~ wpList _ _ _ (Oper.mk _ (Op.store 40 _ _) _ _ _ _ :: _) _ _; refine wpList_store_run rfl 40 (.tmp 14) (.tmp 90) rfl (by rfl) (by rfl) hst6 ?_) | (guard_target =~ wpList _ _ _ (Oper.mk _ (Op.load 40 _) _ _ _ _ :: _) _ _; refine wpList_load_run rfl 40 (.tmp 14) rfl (by rfl) hld6 ?_))
              clear hst6 hld6
              go_roundw
              case rel => exact ⟨y, s.take, by omega, by go_num, hsN, hM6⟩
              case measure => simp [intOf]

theorem stack_any (w : World) (n m : Int) :
    Calls Try.prog 5 #[.int .i64 n, .int .i64 m] w fun e w' => e = .returned (.bool true) ∧ Below w.heap.size w w' := by
  by_cases h : n < 1 ∨ 200 < n ∨ m < 1 ∨ n < m
  · refine (stack_no w n m h).mono ?_
    rintro e w' ⟨rfl, hk⟩
    exact ⟨rfl, hk.below (Nat.le_refl _) (fun _ e => e.elim)⟩
  · obtain ⟨N, rfl⟩ : ∃ N : Nat, n = (N : Int) := ⟨n.toNat, by omega⟩
    obtain ⟨M, rfl⟩ : ∃ M : Nat, m = (M : Int) := ⟨m.toNat, by omega⟩
    refine (stack_yes w N M (by omega) (by omega) (by omega) (by omega)).mono ?_
    rintro e w' ⟨rfl, hk⟩
    exact ⟨rfl, hk.below (Nat.le_refl _) (fun _ e => e.elim)⟩
end Tg
end Go.Proofs.Ytdeepmifolaenaa
