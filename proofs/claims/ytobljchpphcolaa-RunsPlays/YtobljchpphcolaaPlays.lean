/-
  The map of runs is always what one entry a sector would be.
-/
import Derived.Test.YtobljchpphcolaaPl
namespace Go.Proofs.Ytobljchpphcolaa
open Go.ChangeShapes Go.WideShapes Go.ChangeAt Go.RowKit
namespace Tg

set_option maxRecDepth 100000 in
set_option maxHeartbeats 4000000 in
theorem plays_any {W : World} {cap most : Int} {a : Option Addr} {len c : Nat} (hA : Acts W a len c) {lba : Int} (hlb : -9223372036854775808 ≤ lba ∧ lba ≤ 9223372036854775807) (n : Int) :
    Calls Try.prog 4 #[.int .i64 cap, .int .i64 most, .slice a len c, .int .i64 lba, .int .i64 n] W fun e w' => e = .returned (.bool true) ∧ Keep (fun _ => False) W w' := by
  have haw := awake_any W
  have hlc := hA.1
  have hlc2 := hA.2.1
  by_cases hcap : cap < 1 ∨ 512 < cap ∨ most < 1 ∨ 512 < most
  · have hn := fun w => newMap_no (w := w) (c := cap) (n := most) hcap
    clear hA
    by_cases c1 : cap < 1
    · clear hcap
      go_enter Try.func4, Try.ntmps4
      go_wp2_with (first | (go_at_call 8; refine haw.mono ?_; rintro e w2 ⟨rfl, k2⟩) | (go_at_call 9; refine (hn _).mono ?_; rintro e w3 ⟨rfl, k3⟩))
      go_ret
      exact ⟨rfl, k2.trans k3⟩
    by_cases c2 : 512 < cap
    · clear hcap
      go_enter Try.func4, Try.ntmps4
      go_wp2_with (first | (go_at_call 8; refine haw.mono ?_; rintro e w2 ⟨rfl, k2⟩) | (go_at_call 9; refine (hn _).mono ?_; rintro e w3 ⟨rfl, k3⟩))
      go_ret
      exact ⟨rfl, k2.trans k3⟩
    by_cases c3 : most < 1
    · clear hcap
      go_enter Try.func4, Try.ntmps4
      go_wp2_with (first | (go_at_call 8; refine haw.mono ?_; rintro e w2 ⟨rfl, k2⟩) | (go_at_call 9; refine (hn _).mono ?_; rintro e w3 ⟨rfl, k3⟩))
      go_ret
      exact ⟨rfl, k2.trans k3⟩
    have c4 : 512 < most := by omega
    clear hcap
    go_enter Try.func4, Try.ntmps4
    go_wp2_with (first | (go_at_call 8; refine haw.mono ?_; rintro e w2 ⟨rfl, k2⟩) | (go_at_call 9; refine (hn _).mono ?_; rintro e w3 ⟨rfl, k3⟩))
    go_ret
    exact ⟨rfl, k2.trans k3⟩
  obtain ⟨C, rfl⟩ : ∃ C : Nat, cap = (C : Int) := ⟨cap.toNat, by omega⟩
  obtain ⟨N, rfl⟩ : ∃ N : Nat, most = (N : Int) := ⟨most.toNat, by omega⟩
  have hC1 : 1 ≤ C := by omega
  have hC2 : C ≤ 512 := by omega
  have hN1 : 1 ≤ N := by omega
  have hN2 : N ≤ 512 := by omega
  have n1 := fun w => newMap_any (w := w) (cap := C) (N := N) hC1 hC2 hN1 hN2
  have b1 : ¬ (C : Int) < 1 := by omega
  have b2 : ¬ (512 : Int) < C := by omega
  have b3 : ¬ (N : Int) < 1 := by omega
  have b4 : ¬ (512 : Int) < N := by omega
  clear hcap
  go_enter Try.func4, Try.ntmps4
  go_upto_region 6 with (first | (go_at_call 8; refine haw.mono ?_; rintro e w2 ⟨rfl, k2⟩) | (go_at_call 9; refine (n1 _).mono ?_; rintro e w3 ⟨q, b, p, k, rfl, M3⟩))
  clear haw n1
  have M4 := M3.older k2
  clear M3
  by_cases c1 : (40 : Int) < len
  · have HK := M4.keep
    clear hA M4
    go_wp2_with fail
    go_ret
    exact ⟨rfl, HK⟩
  by_cases c2 : (64 : Int) < C
  · have HK := M4.keep
    clear hA M4
    go_wp2_with fail
    go_ret
    exact ⟨rfl, HK⟩
  have hl40 : len ≤ 40 := by omega
  have hnew := new9 (w := w3) (C := C) hC2
  go_wp2_with (go_at_call 13; refine hnew.mono ?_; rintro e w4 ⟨ta, tc, rfl, R4⟩)
  have P4 := Pl.new M4 R4
  clear hnew R4 M4 c1 c2 b1 b2 b3 b4
  go_loopw [13, 14] (fun tv v wx => ∃ (i : Nat) (ta : Option Addr) (tc : Nat), i ≤ len ∧ tv = .slice ta C tc ∧ v = .int .i64 (i : Int) ∧ Pl W wx q b p k N C ta tc) (fun _ v _ => len - (intOf v).toNat)
  case atStart => exact ⟨0, ta, tc, by omega, rfl, rfl, P4⟩
  case round =>
    clear P4
    obtain ⟨i, ta, tc, hi, rfl, rfl, P1⟩ := hrel
    by_cases hlt : i < len
    · obtain ⟨ab, ao, rfl, h, hh, y0, y1, y2, y3⟩ := hA.at hlt
      have KX := P1.keep
      have e0 := KX.cell y0
      have e1 := KX.cell y1
      have e2 := KX.cell y2
      have e3 := KX.cell y3
      have di : (i : Int) < (len : Int) := by omega
      have dw := wrapI (x := (i : Int) + 1) (by omega) (by omega)
      have hlt' : Hid (i < len) := hlt
      have K2 : Keep (fun _ => False) wr (wr.alloc (.cells (actA h) 34)) := (Keep.refl _ _).alloc _
      have L2 := Lact.new wr h
      have P2 := P1.more K2
      have oG : ¬ Own3 b p k wr.heap.size := by obtain ⟨t, m, hm, -⟩ := P1.ex; exact hm.out (Nat.le_refl _)
      unfold actA at K2 L2 P2
      clear hlt KX hA y0 y1 y2 y3 P1
      go_upto_region 13 with fail
      generalize wr.alloc (.cells #[.int .i64 (h 0), .int .i64 (h 1), .int .i64 (h 2), .int .i64 (h 3)] 34) = w2 at K2 L2 P2 ⊢
      generalize wr.heap.size = g at L2 oG ⊢
      obtain ⟨f0, f1, f2, f3⟩ := L2.c
      clear e0 e1 e2 e3
      by_cases c0 : h 0 = 0
      · have cb : (h 0 == 0) = true := by simp [c0]
        clear c0
        obtain ⟨bad, hB⟩ := P2.set h hh
        unfold Both at hB
        clear P2
        go_upto_region 16 with (go_at_call 14; refine hB.mono ?_; rintro e w5 ⟨ta', tc', rfl, k5, hC⟩)
        have L5 := L2.more k5
        obtain ⟨f0, f1, f2, f3⟩ := L5.c
        clear hB k5 L2
        go_upto_region 24 with (go_at_call 10; refine hC.mono ?_; rintro e w6 ⟨rfl, P6, k6⟩)
        have L6 : Lact w6 g h := Blk.keep L5 k6 oG
        clear hC L5 k6 f0 f1 f2 f3
        have i1 := P6.is (h 2) (hh 1)
        obtain ⟨f0, f1, f2, f3⟩ := L6.c
        go_wp2_with fail
        refine i1.mono ?_
        rintro e w7 ⟨rfl, k7⟩
        have P7 := P6.more k7
        have i2 := P7.is n hlb
        clear i1 P6 L6 f0 f1 f2 f3
        go_wp2_with fail
        refine i2.mono ?_
        rintro e w8 ⟨rfl, k8⟩
        have P8 := P7.more k8
        clear i2 P7
        go_wp2_with fail
        go_roundw
        case rel => exact ⟨i + 1, ta', tc', hlt', rfl, by go_num, P8⟩
        case measure => have : i < len := hlt'; simp [intOf]; omega
      · have cb : (h 0 == 0) = false := by simp [c0]
        by_cases c1 : h 0 = 1
        · have cb1 : (h 0 == 1) = true := by simp [c1]
          clear c0 c1
          obtain ⟨bad, hB⟩ := P2.clear h hh
          unfold Both at hB
          clear P2
          go_upto_region 21 with (go_at_call 14; refine hB.mono ?_; rintro e w5 ⟨ta', tc', rfl, k5, hC⟩)
          have L5 := L2.more k5
          obtain ⟨f0, f1, f2, f3⟩ := L5.c
          clear hB k5 L2
          go_upto_region 24 with (go_at_call 11; refine hC.mono ?_; rintro e w6 ⟨rfl, P6, k6⟩)
          have L6 : Lact w6 g h := Blk.keep L5 k6 oG
          clear hC L5 k6 f0 f1 f2 f3
          have i1 := P6.is (h 2) (hh 1)
          obtain ⟨f0, f1, f2, f3⟩ := L6.c
          go_wp2_with fail
          refine i1.mono ?_
          rintro e w7 ⟨rfl, k7⟩
          have P7 := P6.more k7
          have i2 := P7.is n hlb
          clear i1 P6 L6 f0 f1 f2 f3
          go_wp2_with fail
          refine i2.mono ?_
          rintro e w8 ⟨rfl, k8⟩
          have P8 := P7.more k8
          clear i2 P7
          go_wp2_with fail
          go_roundw
          case rel => exact ⟨i + 1, ta', tc', hlt', rfl, by go_num, P8⟩
          case measure => have : i < len := hlt'; simp [intOf]; omega
        · have cb1 : (h 0 == 1) = false := by simp [c1]
          clear c0 c1
          go_upto_region 24 with fail
          have P6 := P2
          have L6 := L2
          clear P2 L2 f0 f1 f2 f3
          have i1 := P6.is (h 2) (hh 1)
          obtain ⟨f0, f1, f2, f3⟩ := L6.c
          go_wp2_with fail
          refine i1.mono ?_
          rintro e w7 ⟨rfl, k7⟩
          have P7 := P6.more k7
          have i2 := P7.is n hlb
          clear i1 P6 L6 f0 f1 f2 f3
          go_wp2_with fail
          refine i2.mono ?_
          rintro e w8 ⟨rfl, k8⟩
          have P8 := P7.more k8
          clear i2 P7
          go_wp2_with fail
          go_roundw
          case rel => exact ⟨i + 1, ta, tc, hlt', rfl, by go_num, P8⟩
          case measure => have : i < len := hlt'; simp [intOf]; omega
    · have di : ¬ (i : Int) < (len : Int) := by omega
      have HK := P1.keep
      clear hA hlt P1
      go_wp2_with fail
      go_ret
      exact ⟨rfl, HK⟩
theorem plays_walk (W : World) (cap most : Int) {a : Option Addr} {len c : Nat} (hA : Acts W a len c) {lba : Int} (hl : (Lit.int .i64 lba).wf = true) (n : Int) :
    Calls Try.prog 4 #[.int .i64 cap, .int .i64 most, .slice a len c, .int .i64 lba, .int .i64 n] W fun e w' => e = .returned (.bool true) ∧ Below W.heap.size W w' :=
  (plays_any hA (int_fits hl) n).mono (by rintro e w' ⟨h1, h2⟩; exact ⟨h1, h2.below (Nat.le_refl _) (fun _ e => e.elim)⟩)
end Tg
end Go.Proofs.Ytobljchpphcolaa
