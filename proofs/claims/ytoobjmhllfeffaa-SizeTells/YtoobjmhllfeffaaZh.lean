/-
  SizeGreatest's and SizeLess' bodies, given what the program's calls answer.
-/
import Derived.Test.YtoobjmhllfeffaaZf
namespace Go.Proofs.Ytoobjmhllfeffaa
open Go.ChangeShapes Go.WideShapes Go.ChangeAt Go.RowKit
namespace Tg
theorem gr_w {c : Cf} {n : Int} (h : ¬ c.w ≤ n) : goodB (c.at n) = false := by
  rw [Bool.eq_false_iff]
  intro e
  exact h (good_iff.1 e).1.w3
set_option maxRecDepth 100000 in
set_option maxHeartbeats 2000000 in
theorem greatest_yes (w : World) {c : Cf} (hAw : ∀ w : World, Calls Try.prog 8 #[] w fun e w' => e = .returned (.bool true) ∧ Keep (fun _ => False) w w') (hGr : ∀ w : World, Calls Try.prog 20 #[.agg #[.int .i64 c.b, .int .i64 c.p, .int .i64 c.c, .int .i64 c.s, .int .i64 c.m, .int .i64 c.w, .bool c.f]] w fun e w' => e = .returned (.tuple #[.int .i64 (grK c 512), .int .i64 0]) ∧ Keep (fun _ => False) w w') (hRg : ∀ n : Int, ∀ w : World, Calls Try.prog 16 #[.agg #[.int .i64 c.b, .int .i64 c.p, .int .i64 (n), .int .i64 c.s, .int .i64 c.m, .int .i64 c.w, .bool c.f]] w fun e w' => e = .returned (.bool (goodB (c.at n))) ∧ Keep (fun _ => False) w w') (hz : grK c 512 ≠ 0) :
    Calls Try.prog 5 #[.agg #[.int .i64 c.b, .int .i64 c.p, .int .i64 c.c, .int .i64 c.s, .int .i64 c.m, .int .i64 c.w, .bool c.f]] w fun e w' => e = .returned (.bool true) ∧ Keep (fun _ => False) w w' := by
  have hz0 : Hid (grK c 512 ≠ 0) := hz
  clear hz
  have B1 : Blk (w.alloc (.cells #[.int .i64 c.b, .int .i64 c.p, .int .i64 c.c, .int .i64 c.s, .int .i64 c.m, .int .i64 c.w, .bool c.f] 29)) w.heap.size 7 (ccell c) := blk_cf w c
  have K1 : Keep (fun _ => False) w (w.alloc (.cells #[.int .i64 c.b, .int .i64 c.p, .int .i64 c.c, .int .i64 c.s, .int .i64 c.m, .int .i64 c.w, .bool c.f] 29)) := (Keep.refl _ _).alloc _
  go_enter Try.func5, Try.ntmps5
  go_upto_region 1 with fail
  generalize w.alloc (.cells #[.int .i64 c.b, .int .i64 c.p, .int .i64 c.c, .int .i64 c.s, .int .i64 c.m, .int .i64 c.w, .bool c.f] 29) = v1 at B1 K1 ⊢
  generalize w.heap.size = g at B1 ⊢
  go_wp2_with fail
  refine (hAw _).mono ?_
  rintro e v2 ⟨rfl, k2⟩
  clear hAw
  have B2 := B1.keep k2 (fun e => e)
  have K2 := K1.trans k2
  clear B1 k2
  have cc0 : v2.cell? ⟨g, 0, none⟩ = some (.int .i64 c.b) := (B2 0 (by omega)).1
  have cc1 : v2.cell? ⟨g, 1, none⟩ = some (.int .i64 c.p) := (B2 1 (by omega)).1
  have cc2 : v2.cell? ⟨g, 2, none⟩ = some (.int .i64 c.c) := (B2 2 (by omega)).1
  have cc3 : v2.cell? ⟨g, 3, none⟩ = some (.int .i64 c.s) := (B2 3 (by omega)).1
  have cc4 : v2.cell? ⟨g, 4, none⟩ = some (.int .i64 c.m) := (B2 4 (by omega)).1
  have cc5 : v2.cell? ⟨g, 5, none⟩ = some (.int .i64 c.w) := (B2 5 (by omega)).1
  have cc6 : v2.cell? ⟨g, 6, none⟩ = some (.bool c.f) := (B2 6 (by omega)).1
  go_wp2_with fail
  refine (hGr _).mono ?_
  rintro e v3 ⟨rfl, k3⟩
  clear cc0 cc1 cc2 cc3 cc4 cc5 cc6
  clear hGr
  have B3 := B2.keep k3 (fun e => e)
  have K3 := K2.trans k3
  clear B2 k3
  obtain ⟨Gv, hGv⟩ : ∃ Gv : Int, Gv = grK c 512 := ⟨_, rfl⟩
  go_wp2_with fail
  go_loopw [5, 6] (fun bv nv wx => ∃ k : Nat, k ≤ 512 ∧ nv = .int .i64 ((k : Int) + 1) ∧ bv = .int .i64 (grK c k) ∧ Keep (fun _ => False) v3 wx) (fun _ nv _ => 513 - (intOf nv).toNat)
  case atStart => exact ⟨0, by omega, by go_num, rfl, Keep.refl _ _⟩
  case round =>
    obtain ⟨k, hk, rfl, rfl, k9⟩ := hrel
    have B9 := B3.keep k9 (fun e => e)
    by_cases hlt : k < 512
    · have di : (k : Int) + 1 ≤ 512 := by omega
      have dw := wrapI (x := (k : Int) + 1 + 1) (by omega) (by omega)
      have hlt' : Hid (k < 512) := hlt
      have hs : Hid (grK c (k + 1) = if goodB (c.at ((k + 1 : Nat) : Int)) = true then ((k + 1 : Nat) : Int) else grK c k) := rfl
      obtain ⟨n, hn⟩ : ∃ n : Int, n = (k : Int) + 1 := ⟨_, rfl⟩
      have hn' : Hid (n = (k : Int) + 1) := hn
      have hs : Hid (grK c (k + 1) = if goodB (c.at n) = true then n else grK c k) := by show _ = _; rw [show grK c (k + 1) = _ from hs, hn]; rfl
      rw [← hn] at di dw ⊢
      clear hn hlt
      have hg1 : g < wr.heap.size := B9.lt (by omega)
      have hg2 : ¬ g = wr.heap.size := by omega
      have KD : Keep (fun _ => False) v3 (wr.alloc (.cells #[.int .i64 c.b, .int .i64 c.p, .int .i64 (n), .int .i64 c.s, .int .i64 c.m, .int .i64 c.w, .bool c.f] 29)) := k9.alloc _
      have cc0 : wr.cell? ⟨g, 0, none⟩ = some (.int .i64 c.b) := (B9 0 (by omega)).1
      have cc1 : wr.cell? ⟨g, 1, none⟩ = some (.int .i64 c.p) := (B9 1 (by omega)).1
      have cc2 : wr.cell? ⟨g, 2, none⟩ = some (.int .i64 c.c) := (B9 2 (by omega)).1
      have cc3 : wr.cell? ⟨g, 3, none⟩ = some (.int .i64 c.s) := (B9 3 (by omega)).1
      have cc4 : wr.cell? ⟨g, 4, none⟩ = some (.int .i64 c.m) := (B9 4 (by omega)).1
      have cc5 : wr.cell? ⟨g, 5, none⟩ = some (.int .i64 c.w) := (B9 5 (by omega)).1
      have cc6 : wr.cell? ⟨g, 6, none⟩ = some (.bool c.f) := (B9 6 (by omega)).1
      by_cases hw : c.w ≤ n
      · have hrg := hRg n
        cases hg : goodB (c.at n) with
        | true =>
          rw [hg] at hrg
          have hs : Hid (grK c (k + 1) = n) := by show _ = _; rw [show grK c (k + 1) = _ from hs, if_pos hg]
          clear hg
          go_wp2_with fail
          refine (hrg _).mono ?_
          rintro e y1 ⟨rfl, j1⟩
          clear hrg
          go_wp2_with fail
          go_roundw
          case rel => exact ⟨k + 1, hlt', by rw [show n = _ from hn']; go_num, by rw [show grK c (k + 1) = n from hs], KD.trans j1⟩
          case measure => have : k < 512 := hlt'; simp [intOf]; have := show n = (k : Int) + 1 from hn'; omega
        | false =>
          rw [hg] at hrg
          have hs : Hid (grK c (k + 1) = grK c k) := by show _ = _; rw [show grK c (k + 1) = _ from hs, hg]; rfl
          clear hg
          go_wp2_with fail
          refine (hrg _).mono ?_
          rintro e y1 ⟨rfl, j1⟩
          clear hrg
          go_wp2_with fail
          go_roundw
          case rel => exact ⟨k + 1, hlt', by rw [show n = _ from hn']; go_num, by rw [show grK c (k + 1) = grK c k from hs], KD.trans j1⟩
          case measure => have : k < 512 := hlt'; simp [intOf]; have := show n = (k : Int) + 1 from hn'; omega
      · have hs : Hid (grK c (k + 1) = grK c k) := by show _ = _; rw [show grK c (k + 1) = _ from hs, gr_w hw]; rfl
        go_wp2_with fail
        go_roundw
        case rel => exact ⟨k + 1, hlt', by rw [show n = _ from hn']; go_num, by rw [show grK c (k + 1) = grK c k from hs], KD⟩
        case measure => have : k < 512 := hlt'; simp [intOf]; have := show n = (k : Int) + 1 from hn'; omega
    · obtain rfl : k = 512 := by omega
      have hz1 : grK c 512 ≠ 0 := hz0
      have db : (grK c 512 == 0) = false := by simp [hz1]
      have HK := K3.trans k9
      clear B9 hGv hlt hk
      generalize grK c 512 = G at *
      go_wp2_with fail
      go_ret
      exact ⟨rfl, HK⟩
set_option maxRecDepth 100000 in
set_option maxHeartbeats 2000000 in
theorem greatest_no (w : World) {c : Cf} (hAw : ∀ w : World, Calls Try.prog 8 #[] w fun e w' => e = .returned (.bool true) ∧ Keep (fun _ => False) w w') (hGr : ∀ w : World, Calls Try.prog 20 #[.agg #[.int .i64 c.b, .int .i64 c.p, .int .i64 c.c, .int .i64 c.s, .int .i64 c.m, .int .i64 c.w, .bool c.f]] w fun e w' => e = .returned (.tuple #[.int .i64 0, .int .i64 1]) ∧ Keep (fun _ => False) w w') (hRg : ∀ n : Int, ∀ w : World, Calls Try.prog 16 #[.agg #[.int .i64 c.b, .int .i64 c.p, .int .i64 (n), .int .i64 c.s, .int .i64 c.m, .int .i64 c.w, .bool c.f]] w fun e w' => e = .returned (.bool (goodB (c.at n))) ∧ Keep (fun _ => False) w w') (hz : grK c 512 = 0) :
    Calls Try.prog 5 #[.agg #[.int .i64 c.b, .int .i64 c.p, .int .i64 c.c, .int .i64 c.s, .int .i64 c.m, .int .i64 c.w, .bool c.f]] w fun e w' => e = .returned (.bool true) ∧ Keep (fun _ => False) w w' := by
  have hz0 : Hid (grK c 512 = 0) := hz
  clear hz
  have B1 : Blk (w.alloc (.cells #[.int .i64 c.b, .int .i64 c.p, .int .i64 c.c, .int .i64 c.s, .int .i64 c.m, .int .i64 c.w, .bool c.f] 29)) w.heap.size 7 (ccell c) := blk_cf w c
  have K1 : Keep (fun _ => False) w (w.alloc (.cells #[.int .i64 c.b, .int .i64 c.p, .int .i64 c.c, .int .i64 c.s, .int .i64 c.m, .int .i64 c.w, .bool c.f] 29)) := (Keep.refl _ _).alloc _
  go_enter Try.func5, Try.ntmps5
  go_upto_region 1 with fail
  generalize w.alloc (.cells #[.int .i64 c.b, .int .i64 c.p, .int .i64 c.c, .int .i64 c.s, .int .i64 c.m, .int .i64 c.w, .bool c.f] 29) = v1 at B1 K1 ⊢
  generalize w.heap.size = g at B1 ⊢
  go_wp2_with fail
  refine (hAw _).mono ?_
  rintro e v2 ⟨rfl, k2⟩
  clear hAw
  have B2 := B1.keep k2 (fun e => e)
  have K2 := K1.trans k2
  clear B1 k2
  have cc0 : v2.cell? ⟨g, 0, none⟩ = some (.int .i64 c.b) := (B2 0 (by omega)).1
  have cc1 : v2.cell? ⟨g, 1, none⟩ = some (.int .i64 c.p) := (B2 1 (by omega)).1
  have cc2 : v2.cell? ⟨g, 2, none⟩ = some (.int .i64 c.c) := (B2 2 (by omega)).1
  have cc3 : v2.cell? ⟨g, 3, none⟩ = some (.int .i64 c.s) := (B2 3 (by omega)).1
  have cc4 : v2.cell? ⟨g, 4, none⟩ = some (.int .i64 c.m) := (B2 4 (by omega)).1
  have cc5 : v2.cell? ⟨g, 5, none⟩ = some (.int .i64 c.w) := (B2 5 (by omega)).1
  have cc6 : v2.cell? ⟨g, 6, none⟩ = some (.bool c.f) := (B2 6 (by omega)).1
  go_wp2_with fail
  refine (hGr _).mono ?_
  rintro e v3 ⟨rfl, k3⟩
  clear cc0 cc1 cc2 cc3 cc4 cc5 cc6
  clear hGr
  have B3 := B2.keep k3 (fun e => e)
  have K3 := K2.trans k3
  clear B2 k3
  obtain ⟨Gv, hGv⟩ : ∃ Gv : Int, Gv = grK c 512 := ⟨_, rfl⟩
  go_wp2_with fail
  go_loopw [5, 6] (fun bv nv wx => ∃ k : Nat, k ≤ 512 ∧ nv = .int .i64 ((k : Int) + 1) ∧ bv = .int .i64 (grK c k) ∧ Keep (fun _ => False) v3 wx) (fun _ nv _ => 513 - (intOf nv).toNat)
  case atStart => exact ⟨0, by omega, by go_num, rfl, Keep.refl _ _⟩
  case round =>
    obtain ⟨k, hk, rfl, rfl, k9⟩ := hrel
    have B9 := B3.keep k9 (fun e => e)
    by_cases hlt : k < 512
    · have di : (k : Int) + 1 ≤ 512 := by omega
      have dw := wrapI (x := (k : Int) + 1 + 1) (by omega) (by omega)
      have hlt' : Hid (k < 512) := hlt
      have hs : Hid (grK c (k + 1) = if goodB (c.at ((k + 1 : Nat) : Int)) = true then ((k + 1 : Nat) : Int) else grK c k) := rfl
      obtain ⟨n, hn⟩ : ∃ n : Int, n = (k : Int) + 1 := ⟨_, rfl⟩
      have hn' : Hid (n = (k : Int) + 1) := hn
      have hs : Hid (grK c (k + 1) = if goodB (c.at n) = true then n else grK c k) := by show _ = _; rw [show grK c (k + 1) = _ from hs, hn]; rfl
      rw [← hn] at di dw ⊢
      clear hn hlt
      have hg1 : g < wr.heap.size := B9.lt (by omega)
      have hg2 : ¬ g = wr.heap.size := by omega
      have KD : Keep (fun _ => False) v3 (wr.alloc (.cells #[.int .i64 c.b, .int .i64 c.p, .int .i64 (n), .int .i64 c.s, .int .i64 c.m, .int .i64 c.w, .bool c.f] 29)) := k9.alloc _
      have cc0 : wr.cell? ⟨g, 0, none⟩ = some (.int .i64 c.b) := (B9 0 (by omega)).1
      have cc1 : wr.cell? ⟨g, 1, none⟩ = some (.int .i64 c.p) := (B9 1 (by omega)).1
      have cc2 : wr.cell? ⟨g, 2, none⟩ = some (.int .i64 c.c) := (B9 2 (by omega)).1
      have cc3 : wr.cell? ⟨g, 3, none⟩ = some (.int .i64 c.s) := (B9 3 (by omega)).1
      have cc4 : wr.cell? ⟨g, 4, none⟩ = some (.int .i64 c.m) := (B9 4 (by omega)).1
      have cc5 : wr.cell? ⟨g, 5, none⟩ = some (.int .i64 c.w) := (B9 5 (by omega)).1
      have cc6 : wr.cell? ⟨g, 6, none⟩ = some (.bool c.f) := (B9 6 (by omega)).1
      by_cases hw : c.w ≤ n
      · have hrg := hRg n
        cases hg : goodB (c.at n) with
        | true =>
          rw [hg] at hrg
          have hs : Hid (grK c (k + 1) = n) := by show _ = _; rw [show grK c (k + 1) = _ from hs, if_pos hg]
          clear hg
          go_wp2_with fail
          refine (hrg _).mono ?_
          rintro e y1 ⟨rfl, j1⟩
          clear hrg
          go_wp2_with fail
          go_roundw
          case rel => exact ⟨k + 1, hlt', by rw [show n = _ from hn']; go_num, by rw [show grK c (k + 1) = n from hs], KD.trans j1⟩
          case measure => have : k < 512 := hlt'; simp [intOf]; have := show n = (k : Int) + 1 from hn'; omega
        | false =>
          rw [hg] at hrg
          have hs : Hid (grK c (k + 1) = grK c k) := by show _ = _; rw [show grK c (k + 1) = _ from hs, hg]; rfl
          clear hg
          go_wp2_with fail
          refine (hrg _).mono ?_
          rintro e y1 ⟨rfl, j1⟩
          clear hrg
          go_wp2_with fail
          go_roundw
          case rel => exact ⟨k + 1, hlt', by rw [show n = _ from hn']; go_num, by rw [show grK c (k + 1) = grK c k from hs], KD.trans j1⟩
          case measure => have : k < 512 := hlt'; simp [intOf]; have := show n = (k : Int) + 1 from hn'; omega
      · have hs : Hid (grK c (k + 1) = grK c k) := by show _ = _; rw [show grK c (k + 1) = _ from hs, gr_w hw]; rfl
        go_wp2_with fail
        go_roundw
        case rel => exact ⟨k + 1, hlt', by rw [show n = _ from hn']; go_num, by rw [show grK c (k + 1) = grK c k from hs], KD⟩
        case measure => have : k < 512 := hlt'; simp [intOf]; have := show n = (k : Int) + 1 from hn'; omega
    · obtain rfl : k = 512 := by omega
      have hz1 : grK c 512 = 0 := hz0
      have db : (grK c 512 == 0) = true := by simp [hz1]
      have HK := K3.trans k9
      clear B9 hGv hlt hk
      generalize grK c 512 = G at *
      go_wp2_with fail
      go_ret
      exact ⟨rfl, HK⟩
end Tg
end Go.Proofs.Ytoobjmhllfeffaa
