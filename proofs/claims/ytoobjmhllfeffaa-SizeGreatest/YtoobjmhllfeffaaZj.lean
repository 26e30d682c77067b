/-
  SizeRoom's body, given what the program's calls answer.
-/
import Derived.Test.YtoobjmhllfeffaaZf
namespace Go.Proofs.Ytoobjmhllfeffaa
open Go.ChangeShapes Go.WideShapes Go.ChangeAt Go.RowKit
namespace Tg
theorem gr_yes {c : Cf} (h : grK c 512 ≠ 0) : goodB (c.at (grK c 512)) = true := (grK_good c 512).resolve_left h
theorem gr_past {c : Cf} {n : Int} (h1 : grK c 512 < n) (h2 : n ≤ 512) : goodB (c.at n) = false := by
  rw [Bool.eq_false_iff]
  intro e
  have h0 := grK_le c 512
  have := grK_most c 512 n (by omega) (by omega) e
  omega
theorem gr_bad {c : Cf} (h : grK c 512 = 0) : goodB c = false := by
  rw [Bool.eq_false_iff]
  intro e
  have hs := (good_iff.1 e).1
  have h1 := hs.c1
  have h2 := hs.c2
  have := grK_none c 512 h c.c h1 (by omega)
  rw [show c.at c.c = c from rfl, e] at this
  cases this
theorem gr_spare {c : Cf} (h : grK c 512 ≠ 0) : grK ((c.at (grK c 512)).sp) 512 ≤ grK c 512 := by
  have hs := (good_iff.1 (gr_yes h)).1
  rcases grK_good ((c.at (grK c 512)).sp) 512 with h1 | h1
  · have := grK_le c 512; omega
  · have hb := grK_le ((c.at (grK c 512)).sp) 512
    generalize grK ((c.at (grK c 512)).sp) 512 = m at *
    have h2 : goodB ((c.at m).sp) = true := h1
    have hs2 := (good_iff.1 h2).1
    have hs3 : Span (c.at m) := ⟨hs2.b1, hs2.b2, hs2.p1, hs2.p2, hs.s1, hs.s2, hs2.c1, hs2.c2, hs2.w1, hs2.w2, hs2.w3, hs2.m1, hs2.m2⟩
    have h3 := good_spare hs3 h2
    exact grK_most c 512 m hs3.c1 (by omega) h3
set_option maxRecDepth 100000 in
set_option maxHeartbeats 2000000 in
theorem room_none (w : World) {c : Cf} {o : Int} (hAw : ∀ w : World, Calls Try.prog 8 #[] w fun e w' => e = .returned (.bool true) ∧ Keep (fun _ => False) w w') (hGr : ∀ w : World, Calls Try.prog 20 #[.agg #[.int .i64 c.b, .int .i64 c.p, .int .i64 c.c, .int .i64 c.s, .int .i64 c.m, .int .i64 c.w, .bool c.f]] w fun e w' => e = .returned (.tuple #[.int .i64 0, .int .i64 1]) ∧ Keep (fun _ => False) w w') (hGo : ∀ w : World, Calls Try.prog 12 #[.agg #[.int .i64 c.b, .int .i64 c.p, .int .i64 c.c, .int .i64 c.s, .int .i64 c.m, .int .i64 c.w, .bool c.f]] w fun e w' => e = .returned (.bool false) ∧ Keep (fun _ => False) w w') :
    Calls Try.prog 7 #[.agg #[.int .i64 c.b, .int .i64 c.p, .int .i64 c.c, .int .i64 c.s, .int .i64 c.m, .int .i64 c.w, .bool c.f], .int .i64 o] w fun e w' => e = .returned (.bool true) ∧ Keep (fun _ => False) w w' := by
  have B1 : Blk (w.alloc (.cells #[.int .i64 c.b, .int .i64 c.p, .int .i64 c.c, .int .i64 c.s, .int .i64 c.m, .int .i64 c.w, .bool c.f] 29)) w.heap.size 7 (ccell c) := blk_cf w c
  have K1 : Keep (fun _ => False) w (w.alloc (.cells #[.int .i64 c.b, .int .i64 c.p, .int .i64 c.c, .int .i64 c.s, .int .i64 c.m, .int .i64 c.w, .bool c.f] 29)) := (Keep.refl _ _).alloc _
  go_enter Try.func7, Try.ntmps7
  go_upto_region 1 with fail
  generalize w.alloc (.cells #[.int .i64 c.b, .int .i64 c.p, .int .i64 c.c, .int .i64 c.s, .int .i64 c.m, .int .i64 c.w, .bool c.f] 29) = v1 at B1 K1 ⊢
  generalize w.heap.size = g at B1 ⊢
  go_wp2_with fail
  refine (hAw _).mono ?_
  rintro e v2 ⟨rfl, k2⟩
  clear hAw
  have B2 := B1.keep k2 (fun e => e)
  have K2 := K1.trans k2
  clear B1 k2
  have cc0 : v2.cell? ⟨g, 0, none⟩ = some (.int .i64 c.b) := (B2 0 (by omega)).1
  have cc1 : v2.cell? ⟨g, 1, none⟩ = some (.int .i64 c.p) := (B2 1 (by omega)).1
  have cc2 : v2.cell? ⟨g, 2, none⟩ = some (.int .i64 c.c) := (B2 2 (by omega)).1
  have cc3 : v2.cell? ⟨g, 3, none⟩ = some (.int .i64 c.s) := (B2 3 (by omega)).1
  have cc4 : v2.cell? ⟨g, 4, none⟩ = some (.int .i64 c.m) := (B2 4 (by omega)).1
  have cc5 : v2.cell? ⟨g, 5, none⟩ = some (.int .i64 c.w) := (B2 5 (by omega)).1
  have cc6 : v2.cell? ⟨g, 6, none⟩ = some (.bool c.f) := (B2 6 (by omega)).1
  go_wp2_with fail
  refine (hGr _).mono ?_
  rintro e v3 ⟨rfl, k3⟩
  clear cc0 cc1 cc2 cc3 cc4 cc5 cc6
  clear hGr
  have B3 := B2.keep k3 (fun e => e)
  have K3 := K2.trans k3
  clear B2 k3
  have cc0 : v3.cell? ⟨g, 0, none⟩ = some (.int .i64 c.b) := (B3 0 (by omega)).1
  have cc1 : v3.cell? ⟨g, 1, none⟩ = some (.int .i64 c.p) := (B3 1 (by omega)).1
  have cc2 : v3.cell? ⟨g, 2, none⟩ = some (.int .i64 c.c) := (B3 2 (by omega)).1
  have cc3 : v3.cell? ⟨g, 3, none⟩ = some (.int .i64 c.s) := (B3 3 (by omega)).1
  have cc4 : v3.cell? ⟨g, 4, none⟩ = some (.int .i64 c.m) := (B3 4 (by omega)).1
  have cc5 : v3.cell? ⟨g, 5, none⟩ = some (.int .i64 c.w) := (B3 5 (by omega)).1
  have cc6 : v3.cell? ⟨g, 6, none⟩ = some (.bool c.f) := (B3 6 (by omega)).1
  go_wp2_with fail
  refine (hGo _).mono ?_
  rintro e v4 ⟨rfl, k4⟩
  clear cc0 cc1 cc2 cc3 cc4 cc5 cc6
  clear hGo
  have B4 := B3.keep k4 (fun e => e)
  have K4 := K3.trans k4
  clear B3 k4
  go_wp2_with fail
  go_ret
  exact ⟨rfl, K4⟩
set_option maxRecDepth 100000 in
set_option maxHeartbeats 4000000 in
theorem room_y_lt (w : World) {c : Cf} {k o m : Int} (hAw : ∀ w : World, Calls Try.prog 8 #[] w fun e w' => e = .returned (.bool true) ∧ Keep (fun _ => False) w w') (hGr : ∀ w : World, Calls Try.prog 20 #[.agg #[.int .i64 c.b, .int .i64 c.p, .int .i64 c.c, .int .i64 c.s, .int .i64 c.m, .int .i64 c.w, .bool c.f]] w fun e w' => e = .returned (.tuple #[.int .i64 k, .int .i64 0]) ∧ Keep (fun _ => False) w w') (hGo : ∀ w : World, Calls Try.prog 12 #[.agg #[.int .i64 c.b, .int .i64 c.p, .int .i64 (k), .int .i64 c.s, .int .i64 c.m, .int .i64 c.w, .bool c.f]] w fun e w' => e = .returned (.bool true) ∧ Keep (fun _ => False) w w') (hGn : ∀ n : Int, k < n → n ≤ 512 → ∀ w : World, Calls Try.prog 12 #[.agg #[.int .i64 c.b, .int .i64 c.p, .int .i64 (n), .int .i64 c.s, .int .i64 c.m, .int .i64 c.w, .bool c.f]] w fun e w' => e = .returned (.bool false) ∧ Keep (fun _ => False) w w') (hG2 : ∀ w : World, Calls Try.prog 20 #[.agg #[.int .i64 c.b, .int .i64 c.p, .int .i64 (k), .int .i64 (c.s + 1), .int .i64 c.m, .int .i64 c.w, .bool c.f]] w fun e w' => e = .returned (.tuple #[.int .i64 m, .int .i64 0]) ∧ Keep (fun _ => False) w w') (hk : 1 ≤ k ∧ k ≤ 512) (hs : 0 ≤ c.s ∧ c.s ≤ 4) (t1 : ¬ k < m) (d1 : o < 1) :
    Calls Try.prog 7 #[.agg #[.int .i64 c.b, .int .i64 c.p, .int .i64 c.c, .int .i64 c.s, .int .i64 c.m, .int .i64 c.w, .bool c.f], .int .i64 o] w fun e w' => e = .returned (.bool true) ∧ Keep (fun _ => False) w w' := by
  have r1 := wrapI (x := k + 1) (by omega) (by omega)
  have r2 := wrapI (x := c.s + 1) (by omega) (by omega)
  have hkk : Hid (1 ≤ k ∧ k ≤ 512) := hk
  clear hk hs
  have B1 : Blk (w.alloc (.cells #[.int .i64 c.b, .int .i64 c.p, .int .i64 c.c, .int .i64 c.s, .int .i64 c.m, .int .i64 c.w, .bool c.f] 29)) w.heap.size 7 (ccell c) := blk_cf w c
  have K1 : Keep (fun _ => False) w (w.alloc (.cells #[.int .i64 c.b, .int .i64 c.p, .int .i64 c.c, .int .i64 c.s, .int .i64 c.m, .int .i64 c.w, .bool c.f] 29)) := (Keep.refl _ _).alloc _
  go_enter Try.func7, Try.ntmps7
  go_upto_region 1 with fail
  generalize w.alloc (.cells #[.int .i64 c.b, .int .i64 c.p, .int .i64 c.c, .int .i64 c.s, .int .i64 c.m, .int .i64 c.w, .bool c.f] 29) = v1 at B1 K1 ⊢
  obtain ⟨g, hg⟩ : ∃ g, g = w.heap.size := ⟨_, rfl⟩
  rw [← hg] at B1 ⊢
  have hlo : Hid (w.heap.size ≤ g) := by show w.heap.size ≤ g; omega
  clear hg
  go_wp2_with fail
  refine (hAw _).mono ?_
  rintro e v2 ⟨rfl, k2⟩
  clear hAw
  have B2 := B1.keep k2 (fun e => e)
  have K2 := K1.trans k2
  clear B1 k2
  have cc0 : v2.cell? ⟨g, 0, none⟩ = some (.int .i64 c.b) := (B2 0 (by omega)).1
  have cc1 : v2.cell? ⟨g, 1, none⟩ = some (.int .i64 c.p) := (B2 1 (by omega)).1
  have cc2 : v2.cell? ⟨g, 2, none⟩ = some (.int .i64 c.c) := (B2 2 (by omega)).1
  have cc3 : v2.cell? ⟨g, 3, none⟩ = some (.int .i64 c.s) := (B2 3 (by omega)).1
  have cc4 : v2.cell? ⟨g, 4, none⟩ = some (.int .i64 c.m) := (B2 4 (by omega)).1
  have cc5 : v2.cell? ⟨g, 5, none⟩ = some (.int .i64 c.w) := (B2 5 (by omega)).1
  have cc6 : v2.cell? ⟨g, 6, none⟩ = some (.bool c.f) := (B2 6 (by omega)).1
  go_wp2_with fail
  refine (hGr _).mono ?_
  rintro e v3 ⟨rfl, k3⟩
  clear cc0 cc1 cc2 cc3 cc4 cc5 cc6
  clear hGr
  have B3 := B2.keep k3 (fun e => e)
  have K3 := K2.trans k3
  clear B2 k3
  have c2 : v3.cell? ⟨g, 2, none⟩ = some (.int .i64 c.c) := (B3 2 (by omega)).1
  have f2 : v3.frozen? ⟨g, 2, none⟩ = false := (B3 2 (by omega)).2
  go_upto_region 7 with fail
  clear c2 f2
  have B4 : Blk (v3.setCell ⟨g, 2, none⟩ (.int .i64 k)) g 7 (ccell (c.at k)) := Blk.congr (B3.set 2 (.int .i64 k)) (fun i hi => by
    have : i = 0 ∨ i = 1 ∨ i = 2 ∨ i = 3 ∨ i = 4 ∨ i = 5 ∨ i = 6 := by omega
    rcases this with rfl | rfl | rfl | rfl | rfl | rfl | rfl <;> rfl)
  have K4 := K3.setCell (p := ⟨g, 2, none⟩) (Or.inr hlo) (.int .i64 k)
  generalize v3.setCell ⟨g, 2, none⟩ (.int .i64 k) = v4 at B4 K4 ⊢
  clear B3
  have cc0 : v4.cell? ⟨g, 0, none⟩ = some (.int .i64 c.b) := (B4 0 (by omega)).1
  have cc1 : v4.cell? ⟨g, 1, none⟩ = some (.int .i64 c.p) := (B4 1 (by omega)).1
  have cc2 : v4.cell? ⟨g, 2, none⟩ = some (.int .i64 (k)) := (B4 2 (by omega)).1
  have cc3 : v4.cell? ⟨g, 3, none⟩ = some (.int .i64 c.s) := (B4 3 (by omega)).1
  have cc4 : v4.cell? ⟨g, 4, none⟩ = some (.int .i64 c.m) := (B4 4 (by omega)).1
  have cc5 : v4.cell? ⟨g, 5, none⟩ = some (.int .i64 c.w) := (B4 5 (by omega)).1
  have cc6 : v4.cell? ⟨g, 6, none⟩ = some (.bool c.f) := (B4 6 (by omega)).1
  go_wp2_with fail
  refine (hGo _).mono ?_
  rintro e v5 ⟨rfl, k5⟩
  clear cc0 cc1 cc2 cc3 cc4 cc5 cc6
  clear hGo
  have B5 := B4.keep k5 (fun e => e)
  have K5 := K4.trans k5
  clear B4 k5
  go_wp2_with fail
  go_loopw [7] (fun nv wx => ∃ n : Int, k + 1 ≤ n ∧ n ≤ 513 ∧ nv = .int .i64 n ∧ Keep (fun _ => False) v5 wx) (fun nv _ => 513 - (intOf nv).toNat)
  case atStart => exact ⟨k + 1, by omega, by have : 1 ≤ k ∧ k ≤ 512 := hkk; omega, rfl, Keep.refl _ _⟩
  case round =>
    obtain ⟨n, hn1, hn2, rfl, k9⟩ := hrel
    have B9 := B5.keep k9 (fun e => e)
    by_cases hlt : n ≤ 512
    · have hgn := hGn n (by omega) hlt
      have dw := wrapI (x := n + 1) (by have : 1 ≤ k ∧ k ≤ 512 := hkk; omega) (by omega)
      have hb : Hid (k + 1 ≤ n ∧ n ≤ 512) := ⟨hn1, hlt⟩
      have hg1 : g < wr.heap.size := B9.lt (by omega)
      have hg2 : ¬ g = wr.heap.size := by omega
      have KD : Keep (fun _ => False) v5 (wr.alloc (.cells #[.int .i64 c.b, .int .i64 c.p, .int .i64 (n), .int .i64 c.s, .int .i64 c.m, .int .i64 c.w, .bool c.f] 29)) := k9.alloc _
      clear hn1 hn2
      have cc0 : wr.cell? ⟨g, 0, none⟩ = some (.int .i64 c.b) := (B9 0 (by omega)).1
      have cc1 : wr.cell? ⟨g, 1, none⟩ = some (.int .i64 c.p) := (B9 1 (by omega)).1
      have cc2 : wr.cell? ⟨g, 2, none⟩ = some (.int .i64 (k)) := (B9 2 (by omega)).1
      have cc3 : wr.cell? ⟨g, 3, none⟩ = some (.int .i64 c.s) := (B9 3 (by omega)).1
      have cc4 : wr.cell? ⟨g, 4, none⟩ = some (.int .i64 c.m) := (B9 4 (by omega)).1
      have cc5 : wr.cell? ⟨g, 5, none⟩ = some (.int .i64 c.w) := (B9 5 (by omega)).1
      have cc6 : wr.cell? ⟨g, 6, none⟩ = some (.bool c.f) := (B9 6 (by omega)).1
      go_wp2_with fail
      refine (hgn _).mono ?_
      rintro e y1 ⟨rfl, j1⟩
      clear hgn
      go_wp2_with fail
      go_roundw
      case rel => exact ⟨n + 1, by have : k + 1 ≤ n ∧ n ≤ 512 := hb; omega, by have : k + 1 ≤ n ∧ n ≤ 512 := hb; omega, rfl, KD.trans j1⟩
      case measure => have h1 : k + 1 ≤ n ∧ n ≤ 512 := hb; have h2 : 1 ≤ k ∧ k ≤ 512 := hkk; simp [intOf]; omega
    · have KK := K5.trans k9
      clear hn1 hn2 hGn
      have cc0 : wr.cell? ⟨g, 0, none⟩ = some (.int .i64 c.b) := (B9 0 (by omega)).1
      have cc1 : wr.cell? ⟨g, 1, none⟩ = some (.int .i64 c.p) := (B9 1 (by omega)).1
      have cc2 : wr.cell? ⟨g, 2, none⟩ = some (.int .i64 (k)) := (B9 2 (by omega)).1
      have cc3 : wr.cell? ⟨g, 3, none⟩ = some (.int .i64 c.s) := (B9 3 (by omega)).1
      have cc4 : wr.cell? ⟨g, 4, none⟩ = some (.int .i64 c.m) := (B9 4 (by omega)).1
      have cc5 : wr.cell? ⟨g, 5, none⟩ = some (.int .i64 c.w) := (B9 5 (by omega)).1
      have cc6 : wr.cell? ⟨g, 6, none⟩ = some (.bool c.f) := (B9 6 (by omega)).1
      have D : Blk (wr.alloc (.cells #[.int .i64 c.b, .int .i64 c.p, .int .i64 (k), .int .i64 (c.s + 1), .int .i64 c.m, .int .i64 c.w, .bool c.f] 29)) wr.heap.size 7 (ccell ((c.at k).sp)) := blk_cf wr ((c.at k).sp)
      have B21 := B9.alloc (.cells #[.int .i64 c.b, .int .i64 c.p, .int .i64 (k), .int .i64 (c.s + 1), .int .i64 c.m, .int .i64 c.w, .bool c.f] 29)
      have K21 := KK.alloc (.cells #[.int .i64 c.b, .int .i64 c.p, .int .i64 (k), .int .i64 (c.s + 1), .int .i64 c.m, .int .i64 c.w, .bool c.f] 29)
      have hgd : g < wr.heap.size := B9.lt (by omega)
      go_upto_region 18 with fail
      generalize wr.alloc (.cells #[.int .i64 c.b, .int .i64 c.p, .int .i64 (k), .int .i64 (c.s + 1), .int .i64 c.m, .int .i64 c.w, .bool c.f] 29) = v21 at D B21 K21 ⊢
      obtain ⟨h, hh⟩ : ∃ h, h = wr.heap.size := ⟨_, rfl⟩
      rw [← hh] at D hgd ⊢
      have hne : ¬ g = h := by omega
      have hlh : Hid (w.heap.size ≤ h) := by have h1 : w.heap.size ≤ g := hlo; show w.heap.size ≤ h; omega
      clear hh cc0 cc1 cc2 cc3 cc4 cc5 cc6 B9 hgd
      have cd0 : v21.cell? ⟨h, 0, none⟩ = some (.int .i64 c.b) := (D 0 (by omega)).1
      have cd1 : v21.cell? ⟨h, 1, none⟩ = some (.int .i64 c.p) := (D 1 (by omega)).1
      have cd2 : v21.cell? ⟨h, 2, none⟩ = some (.int .i64 (k)) := (D 2 (by omega)).1
      have cd3 : v21.cell? ⟨h, 3, none⟩ = some (.int .i64 (c.s + 1)) := (D 3 (by omega)).1
      have cd4 : v21.cell? ⟨h, 4, none⟩ = some (.int .i64 c.m) := (D 4 (by omega)).1
      have cd5 : v21.cell? ⟨h, 5, none⟩ = some (.int .i64 c.w) := (D 5 (by omega)).1
      have cd6 : v21.cell? ⟨h, 6, none⟩ = some (.bool c.f) := (D 6 (by omega)).1
      go_wp2_with fail
      refine (hG2 _).mono ?_
      rintro e v22 ⟨rfl, k22⟩
      clear hG2
      have B22 := B21.keep k22 (fun e => e)
      have K22 := K21.trans k22
      have Dn := D.keep k22 (fun e => e)
      clear B21 k22
      clear D
      have D := Dn
      clear Dn
      clear cd0 cd1 cd2 cd3 cd4 cd5 cd6
      have cc4 : v22.cell? ⟨g, 4, none⟩ = some (.int .i64 c.m) := (B22 4 (by omega)).1
      go_wp2_with fail
      go_ret
      exact ⟨rfl, K22⟩
set_option maxRecDepth 100000 in
set_option maxHeartbeats 4000000 in
theorem room_y_gt (w : World) {c : Cf} {k o m : Int} (hAw : ∀ w : World, Calls Try.prog 8 #[] w fun e w' => e = .returned (.bool true) ∧ Keep (fun _ => False) w w') (hGr : ∀ w : World, Calls Try.prog 20 #[.agg #[.int .i64 c.b, .int .i64 c.p, .int .i64 c.c, .int .i64 c.s, .int .i64 c.m, .int .i64 c.w, .bool c.f]] w fun e w' => e = .returned (.tuple #[.int .i64 k, .int .i64 0]) ∧ Keep (fun _ => False) w w') (hGo : ∀ w : World, Calls Try.prog 12 #[.agg #[.int .i64 c.b, .int .i64 c.p, .int .i64 (k), .int .i64 c.s, .int .i64 c.m, .int .i64 c.w, .bool c.f]] w fun e w' => e = .returned (.bool true) ∧ Keep (fun _ => False) w w') (hGn : ∀ n : Int, k < n → n ≤ 512 → ∀ w : World, Calls Try.prog 12 #[.agg #[.int .i64 c.b, .int .i64 c.p, .int .i64 (n), .int .i64 c.s, .int .i64 c.m, .int .i64 c.w, .bool c.f]] w fun e w' => e = .returned (.bool false) ∧ Keep (fun _ => False) w w') (hG2 : ∀ w : World, Calls Try.prog 20 #[.agg #[.int .i64 c.b, .int .i64 c.p, .int .i64 (k), .int .i64 (c.s + 1), .int .i64 c.m, .int .i64 c.w, .bool c.f]] w fun e w' => e = .returned (.tuple #[.int .i64 m, .int .i64 0]) ∧ Keep (fun _ => False) w w') (hk : 1 ≤ k ∧ k ≤ 512) (hs : 0 ≤ c.s ∧ c.s ≤ 4) (t1 : ¬ k < m) (d1 : ¬ o < 1) (d2 : 100 < o) :
    Calls Try.prog 7 #[.agg #[.int .i64 c.b, .int .i64 c.p, .int .i64 c.c, .int .i64 c.s, .int .i64 c.m, .int .i64 c.w, .bool c.f], .int .i64 o] w fun e w' => e = .returned (.bool true) ∧ Keep (fun _ => False) w w' := by
  have r1 := wrapI (x := k + 1) (by omega) (by omega)
  have r2 := wrapI (x := c.s + 1) (by omega) (by omega)
  have hkk : Hid (1 ≤ k ∧ k ≤ 512) := hk
  clear hk hs
  have B1 : Blk (w.alloc (.cells #[.int .i64 c.b, .int .i64 c.p, .int .i64 c.c, .int .i64 c.s, .int .i64 c.m, .int .i64 c.w, .bool c.f] 29)) w.heap.size 7 (ccell c) := blk_cf w c
  have K1 : Keep (fun _ => False) w (w.alloc (.cells #[.int .i64 c.b, .int .i64 c.p, .int .i64 c.c, .int .i64 c.s, .int .i64 c.m, .int .i64 c.w, .bool c.f] 29)) := (Keep.refl _ _).alloc _
  go_enter Try.func7, Try.ntmps7
  go_upto_region 1 with fail
  generalize w.alloc (.cells #[.int .i64 c.b, .int .i64 c.p, .int .i64 c.c, .int .i64 c.s, .int .i64 c.m, .int .i64 c.w, .bool c.f] 29) = v1 at B1 K1 ⊢
  obtain ⟨g, hg⟩ : ∃ g, g = w.heap.size := ⟨_, rfl⟩
  rw [← hg] at B1 ⊢
  have hlo : Hid (w.heap.size ≤ g) := by show w.heap.size ≤ g; omega
  clear hg
  go_wp2_with fail
  refine (hAw _).mono ?_
  rintro e v2 ⟨rfl, k2⟩
  clear hAw
  have B2 := B1.keep k2 (fun e => e)
  have K2 := K1.trans k2
  clear B1 k2
  have cc0 : v2.cell? ⟨g, 0, none⟩ = some (.int .i64 c.b) := (B2 0 (by omega)).1
  have cc1 : v2.cell? ⟨g, 1, none⟩ = some (.int .i64 c.p) := (B2 1 (by omega)).1
  have cc2 : v2.cell? ⟨g, 2, none⟩ = some (.int .i64 c.c) := (B2 2 (by omega)).1
  have cc3 : v2.cell? ⟨g, 3, none⟩ = some (.int .i64 c.s) := (B2 3 (by omega)).1
  have cc4 : v2.cell? ⟨g, 4, none⟩ = some (.int .i64 c.m) := (B2 4 (by omega)).1
  have cc5 : v2.cell? ⟨g, 5, none⟩ = some (.int .i64 c.w) := (B2 5 (by omega)).1
  have cc6 : v2.cell? ⟨g, 6, none⟩ = some (.bool c.f) := (B2 6 (by omega)).1
  go_wp2_with fail
  refine (hGr _).mono ?_
  rintro e v3 ⟨rfl, k3⟩
  clear cc0 cc1 cc2 cc3 cc4 cc5 cc6
  clear hGr
  have B3 := B2.keep k3 (fun e => e)
  have K3 := K2.trans k3
  clear B2 k3
  have c2 : v3.cell? ⟨g, 2, none⟩ = some (.int .i64 c.c) := (B3 2 (by omega)).1
  have f2 : v3.frozen? ⟨g, 2, none⟩ = false := (B3 2 (by omega)).2
  go_upto_region 7 with fail
  clear c2 f2
  have B4 : Blk (v3.setCell ⟨g, 2, none⟩ (.int .i64 k)) g 7 (ccell (c.at k)) := Blk.congr (B3.set 2 (.int .i64 k)) (fun i hi => by
    have : i = 0 ∨ i = 1 ∨ i = 2 ∨ i = 3 ∨ i = 4 ∨ i = 5 ∨ i = 6 := by omega
    rcases this with rfl | rfl | rfl | rfl | rfl | rfl | rfl <;> rfl)
  have K4 := K3.setCell (p := ⟨g, 2, none⟩) (Or.inr hlo) (.int .i64 k)
  generalize v3.setCell ⟨g, 2, none⟩ (.int .i64 k) = v4 at B4 K4 ⊢
  clear B3
  have cc0 : v4.cell? ⟨g, 0, none⟩ = some (.int .i64 c.b) := (B4 0 (by omega)).1
  have cc1 : v4.cell? ⟨g, 1, none⟩ = some (.int .i64 c.p) := (B4 1 (by omega)).1
  have cc2 : v4.cell? ⟨g, 2, none⟩ = some (.int .i64 (k)) := (B4 2 (by omega)).1
  have cc3 : v4.cell? ⟨g, 3, none⟩ = some (.int .i64 c.s) := (B4 3 (by omega)).1
  have cc4 : v4.cell? ⟨g, 4, none⟩ = some (.int .i64 c.m) := (B4 4 (by omega)).1
  have cc5 : v4.cell? ⟨g, 5, none⟩ = some (.int .i64 c.w) := (B4 5 (by omega)).1
  have cc6 : v4.cell? ⟨g, 6, none⟩ = some (.bool c.f) := (B4 6 (by omega)).1
  go_wp2_with fail
  refine (hGo _).mono ?_
  rintro e v5 ⟨rfl, k5⟩
  clear cc0 cc1 cc2 cc3 cc4 cc5 cc6
  clear hGo
  have B5 := B4.keep k5 (fun e => e)
  have K5 := K4.trans k5
  clear B4 k5
  go_wp2_with fail
  go_loopw [7] (fun nv wx => ∃ n : Int, k + 1 ≤ n ∧ n ≤ 513 ∧ nv = .int .i64 n ∧ Keep (fun _ => False) v5 wx) (fun nv _ => 513 - (intOf nv).toNat)
  case atStart => exact ⟨k + 1, by omega, by have : 1 ≤ k ∧ k ≤ 512 := hkk; omega, rfl, Keep.refl _ _⟩
  case round =>
    obtain ⟨n, hn1, hn2, rfl, k9⟩ := hrel
    have B9 := B5.keep k9 (fun e => e)
    by_cases hlt : n ≤ 512
    · have hgn := hGn n (by omega) hlt
      have dw := wrapI (x := n + 1) (by have : 1 ≤ k ∧ k ≤ 512 := hkk; omega) (by omega)
      have hb : Hid (k + 1 ≤ n ∧ n ≤ 512) := ⟨hn1, hlt⟩
      have hg1 : g < wr.heap.size := B9.lt (by omega)
      have hg2 : ¬ g = wr.heap.size := by omega
      have KD : Keep (fun _ => False) v5 (wr.alloc (.cells #[.int .i64 c.b, .int .i64 c.p, .int .i64 (n), .int .i64 c.s, .int .i64 c.m, .int .i64 c.w, .bool c.f] 29)) := k9.alloc _
      clear hn1 hn2
      have cc0 : wr.cell? ⟨g, 0, none⟩ = some (.int .i64 c.b) := (B9 0 (by omega)).1
      have cc1 : wr.cell? ⟨g, 1, none⟩ = some (.int .i64 c.p) := (B9 1 (by omega)).1
      have cc2 : wr.cell? ⟨g, 2, none⟩ = some (.int .i64 (k)) := (B9 2 (by omega)).1
      have cc3 : wr.cell? ⟨g, 3, none⟩ = some (.int .i64 c.s) := (B9 3 (by omega)).1
      have cc4 : wr.cell? ⟨g, 4, none⟩ = some (.int .i64 c.m) := (B9 4 (by omega)).1
      have cc5 : wr.cell? ⟨g, 5, none⟩ = some (.int .i64 c.w) := (B9 5 (by omega)).1
      have cc6 : wr.cell? ⟨g, 6, none⟩ = some (.bool c.f) := (B9 6 (by omega)).1
      go_wp2_with fail
      refine (hgn _).mono ?_
      rintro e y1 ⟨rfl, j1⟩
      clear hgn
      go_wp2_with fail
      go_roundw
      case rel => exact ⟨n + 1, by have : k + 1 ≤ n ∧ n ≤ 512 := hb; omega, by have : k + 1 ≤ n ∧ n ≤ 512 := hb; omega, rfl, KD.trans j1⟩
      case measure => have h1 : k + 1 ≤ n ∧ n ≤ 512 := hb; have h2 : 1 ≤ k ∧ k ≤ 512 := hkk; simp [intOf]; omega
    · have KK := K5.trans k9
      clear hn1 hn2 hGn
      have cc0 : wr.cell? ⟨g, 0, none⟩ = some (.int .i64 c.b) := (B9 0 (by omega)).1
      have cc1 : wr.cell? ⟨g, 1, none⟩ = some (.int .i64 c.p) := (B9 1 (by omega)).1
      have cc2 : wr.cell? ⟨g, 2, none⟩ = some (.int .i64 (k)) := (B9 2 (by omega)).1
      have cc3 : wr.cell? ⟨g, 3, none⟩ = some (.int .i64 c.s) := (B9 3 (by omega)).1
      have cc4 : wr.cell? ⟨g, 4, none⟩ = some (.int .i64 c.m) := (B9 4 (by omega)).1
      have cc5 : wr.cell? ⟨g, 5, none⟩ = some (.int .i64 c.w) := (B9 5 (by omega)).1
      have cc6 : wr.cell? ⟨g, 6, none⟩ = some (.bool c.f) := (B9 6 (by omega)).1
      have D : Blk (wr.alloc (.cells #[.int .i64 c.b, .int .i64 c.p, .int .i64 (k), .int .i64 (c.s + 1), .int .i64 c.m, .int .i64 c.w, .bool c.f] 29)) wr.heap.size 7 (ccell ((c.at k).sp)) := blk_cf wr ((c.at k).sp)
      have B21 := B9.alloc (.cells #[.int .i64 c.b, .int .i64 c.p, .int .i64 (k), .int .i64 (c.s + 1), .int .i64 c.m, .int .i64 c.w, .bool c.f] 29)
      have K21 := KK.alloc (.cells #[.int .i64 c.b, .int .i64 c.p, .int .i64 (k), .int .i64 (c.s + 1), .int .i64 c.m, .int .i64 c.w, .bool c.f] 29)
      have hgd : g < wr.heap.size := B9.lt (by omega)
      go_upto_region 18 with fail
      generalize wr.alloc (.cells #[.int .i64 c.b, .int .i64 c.p, .int .i64 (k), .int .i64 (c.s + 1), .int .i64 c.m, .int .i64 c.w, .bool c.f] 29) = v21 at D B21 K21 ⊢
      obtain ⟨h, hh⟩ : ∃ h, h = wr.heap.size := ⟨_, rfl⟩
      rw [← hh] at D hgd ⊢
      have hne : ¬ g = h := by omega
      have hlh : Hid (w.heap.size ≤ h) := by have h1 : w.heap.size ≤ g := hlo; show w.heap.size ≤ h; omega
      clear hh cc0 cc1 cc2 cc3 cc4 cc5 cc6 B9 hgd
      have cd0 : v21.cell? ⟨h, 0, none⟩ = some (.int .i64 c.b) := (D 0 (by omega)).1
      have cd1 : v21.cell? ⟨h, 1, none⟩ = some (.int .i64 c.p) := (D 1 (by omega)).1
      have cd2 : v21.cell? ⟨h, 2, none⟩ = some (.int .i64 (k)) := (D 2 (by omega)).1
      have cd3 : v21.cell? ⟨h, 3, none⟩ = some (.int .i64 (c.s + 1)) := (D 3 (by omega)).1
      have cd4 : v21.cell? ⟨h, 4, none⟩ = some (.int .i64 c.m) := (D 4 (by omega)).1
      have cd5 : v21.cell? ⟨h, 5, none⟩ = some (.int .i64 c.w) := (D 5 (by omega)).1
      have cd6 : v21.cell? ⟨h, 6, none⟩ = some (.bool c.f) := (D 6 (by omega)).1
      go_wp2_with fail
      refine (hG2 _).mono ?_
      rintro e v22 ⟨rfl, k22⟩
      clear hG2
      have B22 := B21.keep k22 (fun e => e)
      have K22 := K21.trans k22
      have Dn := D.keep k22 (fun e => e)
      clear B21 k22
      clear D
      have D := Dn
      clear Dn
      clear cd0 cd1 cd2 cd3 cd4 cd5 cd6
      have cc4 : v22.cell? ⟨g, 4, none⟩ = some (.int .i64 c.m) := (B22 4 (by omega)).1
      go_wp2_with fail
      go_ret
      exact ⟨rfl, K22⟩
set_option maxRecDepth 100000 in
set_option maxHeartbeats 4000000 in
theorem room_y_runs (w : World) {c : Cf} {k o m : Int} (hAw : ∀ w : World, Calls Try.prog 8 #[] w fun e w' => e = .returned (.bool true) ∧ Keep (fun _ => False) w w') (hGr : ∀ w : World, Calls Try.prog 20 #[.agg #[.int .i64 c.b, .int .i64 c.p, .int .i64 c.c, .int .i64 c.s, .int .i64 c.m, .int .i64 c.w, .bool c.f]] w fun e w' => e = .returned (.tuple #[.int .i64 k, .int .i64 0]) ∧ Keep (fun _ => False) w w') (hGo : ∀ w : World, Calls Try.prog 12 #[.agg #[.int .i64 c.b, .int .i64 c.p, .int .i64 (k), .int .i64 c.s, .int .i64 c.m, .int .i64 c.w, .bool c.f]] w fun e w' => e = .returned (.bool true) ∧ Keep (fun _ => False) w w') (hGn : ∀ n : Int, k < n → n ≤ 512 → ∀ w : World, Calls Try.prog 12 #[.agg #[.int .i64 c.b, .int .i64 c.p, .int .i64 (n), .int .i64 c.s, .int .i64 c.m, .int .i64 c.w, .bool c.f]] w fun e w' => e = .returned (.bool false) ∧ Keep (fun _ => False) w w') (hG2 : ∀ w : World, Calls Try.prog 20 #[.agg #[.int .i64 c.b, .int .i64 c.p, .int .i64 (k), .int .i64 (c.s + 1), .int .i64 c.m, .int .i64 c.w, .bool c.f]] w fun e w' => e = .returned (.tuple #[.int .i64 m, .int .i64 0]) ∧ Keep (fun _ => False) w w') (hk : 1 ≤ k ∧ k ≤ 512) (hs : 0 ≤ c.s ∧ c.s ≤ 4) (hm : 1 ≤ c.m ∧ c.m ≤ 512) (t1 : ¬ k < m) (d1 : ¬ o < 1) (d2 : ¬ 100 < o) (d3 : 512 < c.m + o) :
    Calls Try.prog 7 #[.agg #[.int .i64 c.b, .int .i64 c.p, .int .i64 c.c, .int .i64 c.s, .int .i64 c.m, .int .i64 c.w, .bool c.f], .int .i64 o] w fun e w' => e = .returned (.bool true) ∧ Keep (fun _ => False) w w' := by
  have r1 := wrapI (x := k + 1) (by omega) (by omega)
  have r2 := wrapI (x := c.s + 1) (by omega) (by omega)
  have r3 := wrapI (x := c.m + o) (by omega) (by omega)
  have hkk : Hid (1 ≤ k ∧ k ≤ 512) := hk
  clear hk hs hm
  have B1 : Blk (w.alloc (.cells #[.int .i64 c.b, .int .i64 c.p, .int .i64 c.c, .int .i64 c.s, .int .i64 c.m, .int .i64 c.w, .bool c.f] 29)) w.heap.size 7 (ccell c) := blk_cf w c
  have K1 : Keep (fun _ => False) w (w.alloc (.cells #[.int .i64 c.b, .int .i64 c.p, .int .i64 c.c, .int .i64 c.s, .int .i64 c.m, .int .i64 c.w, .bool c.f] 29)) := (Keep.refl _ _).alloc _
  go_enter Try.func7, Try.ntmps7
  go_upto_region 1 with fail
  generalize w.alloc (.cells #[.int .i64 c.b, .int .i64 c.p, .int .i64 c.c, .int .i64 c.s, .int .i64 c.m, .int .i64 c.w, .bool c.f] 29) = v1 at B1 K1 ⊢
  obtain ⟨g, hg⟩ : ∃ g, g = w.heap.size := ⟨_, rfl⟩
  rw [← hg] at B1 ⊢
  have hlo : Hid (w.heap.size ≤ g) := by show w.heap.size ≤ g; omega
  clear hg
  go_wp2_with fail
  refine (hAw _).mono ?_
  rintro e v2 ⟨rfl, k2⟩
  clear hAw
  have B2 := B1.keep k2 (fun e => e)
  have K2 := K1.trans k2
  clear B1 k2
  have cc0 : v2.cell? ⟨g, 0, none⟩ = some (.int .i64 c.b) := (B2 0 (by omega)).1
  have cc1 : v2.cell? ⟨g, 1, none⟩ = some (.int .i64 c.p) := (B2 1 (by omega)).1
  have cc2 : v2.cell? ⟨g, 2, none⟩ = some (.int .i64 c.c) := (B2 2 (by omega)).1
  have cc3 : v2.cell? ⟨g, 3, none⟩ = some (.int .i64 c.s) := (B2 3 (by omega)).1
  have cc4 : v2.cell? ⟨g, 4, none⟩ = some (.int .i64 c.m) := (B2 4 (by omega)).1
  have cc5 : v2.cell? ⟨g, 5, none⟩ = some (.int .i64 c.w) := (B2 5 (by omega)).1
  have cc6 : v2.cell? ⟨g, 6, none⟩ = some (.bool c.f) := (B2 6 (by omega)).1
  go_wp2_with fail
  refine (hGr _).mono ?_
  rintro e v3 ⟨rfl, k3⟩
  clear cc0 cc1 cc2 cc3 cc4 cc5 cc6
  clear hGr
  have B3 := B2.keep k3 (fun e => e)
  have K3 := K2.trans k3
  clear B2 k3
  have c2 : v3.cell? ⟨g, 2, none⟩ = some (.int .i64 c.c) := (B3 2 (by omega)).1
  have f2 : v3.frozen? ⟨g, 2, none⟩ = false := (B3 2 (by omega)).2
  go_upto_region 7 with fail
  clear c2 f2
  have B4 : Blk (v3.setCell ⟨g, 2, none⟩ (.int .i64 k)) g 7 (ccell (c.at k)) := Blk.congr (B3.set 2 (.int .i64 k)) (fun i hi => by
    have : i = 0 ∨ i = 1 ∨ i = 2 ∨ i = 3 ∨ i = 4 ∨ i = 5 ∨ i = 6 := by omega
    rcases this with rfl | rfl | rfl | rfl | rfl | rfl | rfl <;> rfl)
  have K4 := K3.setCell (p := ⟨g, 2, none⟩) (Or.inr hlo) (.int .i64 k)
  generalize v3.setCell ⟨g, 2, none⟩ (.int .i64 k) = v4 at B4 K4 ⊢
  clear B3
  have cc0 : v4.cell? ⟨g, 0, none⟩ = some (.int .i64 c.b) := (B4 0 (by omega)).1
  have cc1 : v4.cell? ⟨g, 1, none⟩ = some (.int .i64 c.p) := (B4 1 (by omega)).1
  have cc2 : v4.cell? ⟨g, 2, none⟩ = some (.int .i64 (k)) := (B4 2 (by omega)).1
  have cc3 : v4.cell? ⟨g, 3, none⟩ = some (.int .i64 c.s) := (B4 3 (by omega)).1
  have cc4 : v4.cell? ⟨g, 4, none⟩ = some (.int .i64 c.m) := (B4 4 (by omega)).1
  have cc5 : v4.cell? ⟨g, 5, none⟩ = some (.int .i64 c.w) := (B4 5 (by omega)).1
  have cc6 : v4.cell? ⟨g, 6, none⟩ = some (.bool c.f) := (B4 6 (by omega)).1
  go_wp2_with fail
  refine (hGo _).mono ?_
  rintro e v5 ⟨rfl, k5⟩
  clear cc0 cc1 cc2 cc3 cc4 cc5 cc6
  clear hGo
  have B5 := B4.keep k5 (fun e => e)
  have K5 := K4.trans k5
  clear B4 k5
  go_wp2_with fail
  go_loopw [7] (fun nv wx => ∃ n : Int, k + 1 ≤ n ∧ n ≤ 513 ∧ nv = .int .i64 n ∧ Keep (fun _ => False) v5 wx) (fun nv _ => 513 - (intOf nv).toNat)
  case atStart => exact ⟨k + 1, by omega, by have : 1 ≤ k ∧ k ≤ 512 := hkk; omega, rfl, Keep.refl _ _⟩
  case round =>
    obtain ⟨n, hn1, hn2, rfl, k9⟩ := hrel
    have B9 := B5.keep k9 (fun e => e)
    by_cases hlt : n ≤ 512
    · have hgn := hGn n (by omega) hlt
      have dw := wrapI (x := n + 1) (by have : 1 ≤ k ∧ k ≤ 512 := hkk; omega) (by omega)
      have hb : Hid (k + 1 ≤ n ∧ n ≤ 512) := ⟨hn1, hlt⟩
      have hg1 : g < wr.heap.size := B9.lt (by omega)
      have hg2 : ¬ g = wr.heap.size := by omega
      have KD : Keep (fun _ => False) v5 (wr.alloc (.cells #[.int .i64 c.b, .int .i64 c.p, .int .i64 (n), .int .i64 c.s, .int .i64 c.m, .int .i64 c.w, .bool c.f] 29)) := k9.alloc _
      clear hn1 hn2
      have cc0 : wr.cell? ⟨g, 0, none⟩ = some (.int .i64 c.b) := (B9 0 (by omega)).1
      have cc1 : wr.cell? ⟨g, 1, none⟩ = some (.int .i64 c.p) := (B9 1 (by omega)).1
      have cc2 : wr.cell? ⟨g, 2, none⟩ = some (.int .i64 (k)) := (B9 2 (by omega)).1
      have cc3 : wr.cell? ⟨g, 3, none⟩ = some (.int .i64 c.s) := (B9 3 (by omega)).1
      have cc4 : wr.cell? ⟨g, 4, none⟩ = some (.int .i64 c.m) := (B9 4 (by omega)).1
      have cc5 : wr.cell? ⟨g, 5, none⟩ = some (.int .i64 c.w) := (B9 5 (by omega)).1
      have cc6 : wr.cell? ⟨g, 6, none⟩ = some (.bool c.f) := (B9 6 (by omega)).1
      go_wp2_with fail
      refine (hgn _).mono ?_
      rintro e y1 ⟨rfl, j1⟩
      clear hgn
      go_wp2_with fail
      go_roundw
      case rel => exact ⟨n + 1, by have : k + 1 ≤ n ∧ n ≤ 512 := hb; omega, by have : k + 1 ≤ n ∧ n ≤ 512 := hb; omega, rfl, KD.trans j1⟩
      case measure => have h1 : k + 1 ≤ n ∧ n ≤ 512 := hb; have h2 : 1 ≤ k ∧ k ≤ 512 := hkk; simp [intOf]; omega
    · have KK := K5.trans k9
      clear hn1 hn2 hGn
      have cc0 : wr.cell? ⟨g, 0, none⟩ = some (.int .i64 c.b) := (B9 0 (by omega)).1
      have cc1 : wr.cell? ⟨g, 1, none⟩ = some (.int .i64 c.p) := (B9 1 (by omega)).1
      have cc2 : wr.cell? ⟨g, 2, none⟩ = some (.int .i64 (k)) := (B9 2 (by omega)).1
      have cc3 : wr.cell? ⟨g, 3, none⟩ = some (.int .i64 c.s) := (B9 3 (by omega)).1
      have cc4 : wr.cell? ⟨g, 4, none⟩ = some (.int .i64 c.m) := (B9 4 (by omega)).1
      have cc5 : wr.cell? ⟨g, 5, none⟩ = some (.int .i64 c.w) := (B9 5 (by omega)).1
      have cc6 : wr.cell? ⟨g, 6, none⟩ = some (.bool c.f) := (B9 6 (by omega)).1
      have D : Blk (wr.alloc (.cells #[.int .i64 c.b, .int .i64 c.p, .int .i64 (k), .int .i64 (c.s + 1), .int .i64 c.m, .int .i64 c.w, .bool c.f] 29)) wr.heap.size 7 (ccell ((c.at k).sp)) := blk_cf wr ((c.at k).sp)
      have B21 := B9.alloc (.cells #[.int .i64 c.b, .int .i64 c.p, .int .i64 (k), .int .i64 (c.s + 1), .int .i64 c.m, .int .i64 c.w, .bool c.f] 29)
      have K21 := KK.alloc (.cells #[.int .i64 c.b, .int .i64 c.p, .int .i64 (k), .int .i64 (c.s + 1), .int .i64 c.m, .int .i64 c.w, .bool c.f] 29)
      have hgd : g < wr.heap.size := B9.lt (by omega)
      go_upto_region 18 with fail
      generalize wr.alloc (.cells #[.int .i64 c.b, .int .i64 c.p, .int .i64 (k), .int .i64 (c.s + 1), .int .i64 c.m, .int .i64 c.w, .bool c.f] 29) = v21 at D B21 K21 ⊢
      obtain ⟨h, hh⟩ : ∃ h, h = wr.heap.size := ⟨_, rfl⟩
      rw [← hh] at D hgd ⊢
      have hne : ¬ g = h := by omega
      have hlh : Hid (w.heap.size ≤ h) := by have h1 : w.heap.size ≤ g := hlo; show w.heap.size ≤ h; omega
      clear hh cc0 cc1 cc2 cc3 cc4 cc5 cc6 B9 hgd
      have cd0 : v21.cell? ⟨h, 0, none⟩ = some (.int .i64 c.b) := (D 0 (by omega)).1
      have cd1 : v21.cell? ⟨h, 1, none⟩ = some (.int .i64 c.p) := (D 1 (by omega)).1
      have cd2 : v21.cell? ⟨h, 2, none⟩ = some (.int .i64 (k)) := (D 2 (by omega)).1
      have cd3 : v21.cell? ⟨h, 3, none⟩ = some (.int .i64 (c.s + 1)) := (D 3 (by omega)).1
      have cd4 : v21.cell? ⟨h, 4, none⟩ = some (.int .i64 c.m) := (D 4 (by omega)).1
      have cd5 : v21.cell? ⟨h, 5, none⟩ = some (.int .i64 c.w) := (D 5 (by omega)).1
      have cd6 : v21.cell? ⟨h, 6, none⟩ = some (.bool c.f) := (D 6 (by omega)).1
      go_wp2_with fail
      refine (hG2 _).mono ?_
      rintro e v22 ⟨rfl, k22⟩
      clear hG2
      have B22 := B21.keep k22 (fun e => e)
      have K22 := K21.trans k22
      have Dn := D.keep k22 (fun e => e)
      clear B21 k22
      clear D
      have D := Dn
      clear Dn
      clear cd0 cd1 cd2 cd3 cd4 cd5 cd6
      have cc4 : v22.cell? ⟨g, 4, none⟩ = some (.int .i64 c.m) := (B22 4 (by omega)).1
      go_wp2_with fail
      go_ret
      exact ⟨rfl, K22⟩
set_option maxRecDepth 100000 in
set_option maxHeartbeats 4000000 in
theorem room_y_ne (w : World) {c : Cf} {k o m : Int} (hAw : ∀ w : World, Calls Try.prog 8 #[] w fun e w' => e = .returned (.bool true) ∧ Keep (fun _ => False) w w') (hGr : ∀ w : World, Calls Try.prog 20 #[.agg #[.int .i64 c.b, .int .i64 c.p, .int .i64 c.c, .int .i64 c.s, .int .i64 c.m, .int .i64 c.w, .bool c.f]] w fun e w' => e = .returned (.tuple #[.int .i64 k, .int .i64 0]) ∧ Keep (fun _ => False) w w') (hGo : ∀ w : World, Calls Try.prog 12 #[.agg #[.int .i64 c.b, .int .i64 c.p, .int .i64 (k), .int .i64 c.s, .int .i64 c.m, .int .i64 c.w, .bool c.f]] w fun e w' => e = .returned (.bool true) ∧ Keep (fun _ => False) w w') (hGn : ∀ n : Int, k < n → n ≤ 512 → ∀ w : World, Calls Try.prog 12 #[.agg #[.int .i64 c.b, .int .i64 c.p, .int .i64 (n), .int .i64 c.s, .int .i64 c.m, .int .i64 c.w, .bool c.f]] w fun e w' => e = .returned (.bool false) ∧ Keep (fun _ => False) w w') (hG2 : ∀ w : World, Calls Try.prog 20 #[.agg #[.int .i64 c.b, .int .i64 c.p, .int .i64 (k), .int .i64 (c.s + 1), .int .i64 c.m, .int .i64 c.w, .bool c.f]] w fun e w' => e = .returned (.tuple #[.int .i64 m, .int .i64 0]) ∧ Keep (fun _ => False) w w') (hO1 : ∀ w : World, Calls Try.prog 9 #[.agg #[.int .i64 c.b, .int .i64 c.p, .int .i64 (k), .int .i64 c.s, .int .i64 c.m, .int .i64 c.w, .bool c.f]] w fun e w' => e = .returned (.tuple #[.agg #[.int .i64 (rbI (c.at k)), .int .i64 (spI (c.at k)), .int .i64 (omI (c.at k)), .int .i64 (obI (c.at k)), .int .i64 (rpI (c.at k)), .int .i64 (lpI (c.at k)), .int .i64 (ebI (c.at k)), .int .i64 (mbI (c.at k)), .int .i64 (wnI (c.at k)), .int .i64 (slI (c.at k)), .int .i64 (mrI (c.at k))], .int .i64 0]) ∧ Keep (fun _ => False) w w') (hO2 : ∀ w : World, Calls Try.prog 9 #[.agg #[.int .i64 c.b, .int .i64 c.p, .int .i64 (k), .int .i64 c.s, .int .i64 (c.m + o), .int .i64 c.w, .bool c.f]] w fun e w' => e = .returned (.tuple #[.agg #[.int .i64 (rbI ((c.at k).mo o)), .int .i64 (spI ((c.at k).mo o)), .int .i64 (omI ((c.at k).mo o)), .int .i64 (obI ((c.at k).mo o)), .int .i64 (rpI ((c.at k).mo o)), .int .i64 (lpI ((c.at k).mo o)), .int .i64 (ebI ((c.at k).mo o)), .int .i64 (mbI ((c.at k).mo o)), .int .i64 (wnI ((c.at k).mo o)), .int .i64 (slI ((c.at k).mo o)), .int .i64 (mrI ((c.at k).mo o))], .int .i64 0]) ∧ Keep (fun _ => False) w w') (hk : 1 ≤ k ∧ k ≤ 512) (hs : 0 ≤ c.s ∧ c.s ≤ 4) (hm : 1 ≤ c.m ∧ c.m ≤ 512) (t1 : ¬ k < m) (d1 : ¬ o < 1) (d2 : ¬ 100 < o) (d3 : ¬ 512 < c.m + o) (d4 : ¬ spI (c.at k) = spI ((c.at k).mo o)) :
    Calls Try.prog 7 #[.agg #[.int .i64 c.b, .int .i64 c.p, .int .i64 c.c, .int .i64 c.s, .int .i64 c.m, .int .i64 c.w, .bool c.f], .int .i64 o] w fun e w' => e = .returned (.bool true) ∧ Keep (fun _ => False) w w' := by
  have r1 := wrapI (x := k + 1) (by omega) (by omega)
  have r2 := wrapI (x := c.s + 1) (by omega) (by omega)
  have r3 := wrapI (x := c.m + o) (by omega) (by omega)
  have d4b : (spI (c.at k) != spI ((c.at k).mo o)) = true := by simp [d4]
  clear d4
  have hkk : Hid (1 ≤ k ∧ k ≤ 512) := hk
  clear hk hs hm
  have B1 : Blk (w.alloc (.cells #[.int .i64 c.b, .int .i64 c.p, .int .i64 c.c, .int .i64 c.s, .int .i64 c.m, .int .i64 c.w, .bool c.f] 29)) w.heap.size 7 (ccell c) := blk_cf w c
  have K1 : Keep (fun _ => False) w (w.alloc (.cells #[.int .i64 c.b, .int .i64 c.p, .int .i64 c.c, .int .i64 c.s, .int .i64 c.m, .int .i64 c.w, .bool c.f] 29)) := (Keep.refl _ _).alloc _
  go_enter Try.func7, Try.ntmps7
  go_upto_region 1 with fail
  generalize w.alloc (.cells #[.int .i64 c.b, .int .i64 c.p, .int .i64 c.c, .int .i64 c.s, .int .i64 c.m, .int .i64 c.w, .bool c.f] 29) = v1 at B1 K1 ⊢
  obtain ⟨g, hg⟩ : ∃ g, g = w.heap.size := ⟨_, rfl⟩
  rw [← hg] at B1 ⊢
  have hlo : Hid (w.heap.size ≤ g) := by show w.heap.size ≤ g; omega
  clear hg
  go_wp2_with fail
  refine (hAw _).mono ?_
  rintro e v2 ⟨rfl, k2⟩
  clear hAw
  have B2 := B1.keep k2 (fun e => e)
  have K2 := K1.trans k2
  clear B1 k2
  have cc0 : v2.cell? ⟨g, 0, none⟩ = some (.int .i64 c.b) := (B2 0 (by omega)).1
  have cc1 : v2.cell? ⟨g, 1, none⟩ = some (.int .i64 c.p) := (B2 1 (by omega)).1
  have cc2 : v2.cell? ⟨g, 2, none⟩ = some (.int .i64 c.c) := (B2 2 (by omega)).1
  have cc3 : v2.cell? ⟨g, 3, none⟩ = some (.int .i64 c.s) := (B2 3 (by omega)).1
  have cc4 : v2.cell? ⟨g, 4, none⟩ = some (.int .i64 c.m) := (B2 4 (by omega)).1
  have cc5 : v2.cell? ⟨g, 5, none⟩ = some (.int .i64 c.w) := (B2 5 (by omega)).1
  have cc6 : v2.cell? ⟨g, 6, none⟩ = some (.bool c.f) := (B2 6 (by omega)).1
  go_wp2_with fail
  refine (hGr _).mono ?_
  rintro e v3 ⟨rfl, k3⟩
  clear cc0 cc1 cc2 cc3 cc4 cc5 cc6
  clear hGr
  have B3 := B2.keep k3 (fun e => e)
  have K3 := K2.trans k3
  clear B2 k3
  have c2 : v3.cell? ⟨g, 2, none⟩ = some (.int .i64 c.c) := (B3 2 (by omega)).1
  have f2 : v3.frozen? ⟨g, 2, none⟩ = false := (B3 2 (by omega)).2
  go_upto_region 7 with fail
  clear c2 f2
  have B4 : Blk (v3.setCell ⟨g, 2, none⟩ (.int .i64 k)) g 7 (ccell (c.at k)) := Blk.congr (B3.set 2 (.int .i64 k)) (fun i hi => by
    have : i = 0 ∨ i = 1 ∨ i = 2 ∨ i = 3 ∨ i = 4 ∨ i = 5 ∨ i = 6 := by omega
    rcases this with rfl | rfl | rfl | rfl | rfl | rfl | rfl <;> rfl)
  have K4 := K3.setCell (p := ⟨g, 2, none⟩) (Or.inr hlo) (.int .i64 k)
  generalize v3.setCell ⟨g, 2, none⟩ (.int .i64 k) = v4 at B4 K4 ⊢
  clear B3
  have cc0 : v4.cell? ⟨g, 0, none⟩ = some (.int .i64 c.b) := (B4 0 (by omega)).1
  have cc1 : v4.cell? ⟨g, 1, none⟩ = some (.int .i64 c.p) := (B4 1 (by omega)).1
  have cc2 : v4.cell? ⟨g, 2, none⟩ = some (.int .i64 (k)) := (B4 2 (by omega)).1
  have cc3 : v4.cell? ⟨g, 3, none⟩ = some (.int .i64 c.s) := (B4 3 (by omega)).1
  have cc4 : v4.cell? ⟨g, 4, none⟩ = some (.int .i64 c.m) := (B4 4 (by omega)).1
  have cc5 : v4.cell? ⟨g, 5, none⟩ = some (.int .i64 c.w) := (B4 5 (by omega)).1
  have cc6 : v4.cell? ⟨g, 6, none⟩ = some (.bool c.f) := (B4 6 (by omega)).1
  go_wp2_with fail
  refine (hGo _).mono ?_
  rintro e v5 ⟨rfl, k5⟩
  clear cc0 cc1 cc2 cc3 cc4 cc5 cc6
  clear hGo
  have B5 := B4.keep k5 (fun e => e)
  have K5 := K4.trans k5
  clear B4 k5
  go_wp2_with fail
  go_loopw [7] (fun nv wx => ∃ n : Int, k + 1 ≤ n ∧ n ≤ 513 ∧ nv = .int .i64 n ∧ Keep (fun _ => False) v5 wx) (fun nv _ => 513 - (intOf nv).toNat)
  case atStart => exact ⟨k + 1, by omega, by have : 1 ≤ k ∧ k ≤ 512 := hkk; omega, rfl, Keep.refl _ _⟩
  case round =>
    obtain ⟨n, hn1, hn2, rfl, k9⟩ := hrel
    have B9 := B5.keep k9 (fun e => e)
    by_cases hlt : n ≤ 512
    · have hgn := hGn n (by omega) hlt
      have dw := wrapI (x := n + 1) (by have : 1 ≤ k ∧ k ≤ 512 := hkk; omega) (by omega)
      have hb : Hid (k + 1 ≤ n ∧ n ≤ 512) := ⟨hn1, hlt⟩
      have hg1 : g < wr.heap.size := B9.lt (by omega)
      have hg2 : ¬ g = wr.heap.size := by omega
      have KD : Keep (fun _ => False) v5 (wr.alloc (.cells #[.int .i64 c.b, .int .i64 c.p, .int .i64 (n), .int .i64 c.s, .int .i64 c.m, .int .i64 c.w, .bool c.f] 29)) := k9.alloc _
      clear hn1 hn2
      have cc0 : wr.cell? ⟨g, 0, none⟩ = some (.int .i64 c.b) := (B9 0 (by omega)).1
      have cc1 : wr.cell? ⟨g, 1, none⟩ = some (.int .i64 c.p) := (B9 1 (by omega)).1
      have cc2 : wr.cell? ⟨g, 2, none⟩ = some (.int .i64 (k)) := (B9 2 (by omega)).1
      have cc3 : wr.cell? ⟨g, 3, none⟩ = some (.int .i64 c.s) := (B9 3 (by omega)).1
      have cc4 : wr.cell? ⟨g, 4, none⟩ = some (.int .i64 c.m) := (B9 4 (by omega)).1
      have cc5 : wr.cell? ⟨g, 5, none⟩ = some (.int .i64 c.w) := (B9 5 (by omega)).1
      have cc6 : wr.cell? ⟨g, 6, none⟩ = some (.bool c.f) := (B9 6 (by omega)).1
      go_wp2_with fail
      refine (hgn _).mono ?_
      rintro e y1 ⟨rfl, j1⟩
      clear hgn
      go_wp2_with fail
      go_roundw
      case rel => exact ⟨n + 1, by have : k + 1 ≤ n ∧ n ≤ 512 := hb; omega, by have : k + 1 ≤ n ∧ n ≤ 512 := hb; omega, rfl, KD.trans j1⟩
      case measure => have h1 : k + 1 ≤ n ∧ n ≤ 512 := hb; have h2 : 1 ≤ k ∧ k ≤ 512 := hkk; simp [intOf]; omega
    · have KK := K5.trans k9
      clear hn1 hn2 hGn
      have cc0 : wr.cell? ⟨g, 0, none⟩ = some (.int .i64 c.b) := (B9 0 (by omega)).1
      have cc1 : wr.cell? ⟨g, 1, none⟩ = some (.int .i64 c.p) := (B9 1 (by omega)).1
      have cc2 : wr.cell? ⟨g, 2, none⟩ = some (.int .i64 (k)) := (B9 2 (by omega)).1
      have cc3 : wr.cell? ⟨g, 3, none⟩ = some (.int .i64 c.s) := (B9 3 (by omega)).1
      have cc4 : wr.cell? ⟨g, 4, none⟩ = some (.int .i64 c.m) := (B9 4 (by omega)).1
      have cc5 : wr.cell? ⟨g, 5, none⟩ = some (.int .i64 c.w) := (B9 5 (by omega)).1
      have cc6 : wr.cell? ⟨g, 6, none⟩ = some (.bool c.f) := (B9 6 (by omega)).1
      have D : Blk (wr.alloc (.cells #[.int .i64 c.b, .int .i64 c.p, .int .i64 (k), .int .i64 (c.s + 1), .int .i64 c.m, .int .i64 c.w, .bool c.f] 29)) wr.heap.size 7 (ccell ((c.at k).sp)) := blk_cf wr ((c.at k).sp)
      have B21 := B9.alloc (.cells #[.int .i64 c.b, .int .i64 c.p, .int .i64 (k), .int .i64 (c.s + 1), .int .i64 c.m, .int .i64 c.w, .bool c.f] 29)
      have K21 := KK.alloc (.cells #[.int .i64 c.b, .int .i64 c.p, .int .i64 (k), .int .i64 (c.s + 1), .int .i64 c.m, .int .i64 c.w, .bool c.f] 29)
      have hgd : g < wr.heap.size := B9.lt (by omega)
      go_upto_region 18 with fail
      generalize wr.alloc (.cells #[.int .i64 c.b, .int .i64 c.p, .int .i64 (k), .int .i64 (c.s + 1), .int .i64 c.m, .int .i64 c.w, .bool c.f] 29) = v21 at D B21 K21 ⊢
      obtain ⟨h, hh⟩ : ∃ h, h = wr.heap.size := ⟨_, rfl⟩
      rw [← hh] at D hgd ⊢
      have hne : ¬ g = h := by omega
      have hlh : Hid (w.heap.size ≤ h) := by have h1 : w.heap.size ≤ g := hlo; show w.heap.size ≤ h; omega
      clear hh cc0 cc1 cc2 cc3 cc4 cc5 cc6 B9 hgd
      have cd0 : v21.cell? ⟨h, 0, none⟩ = some (.int .i64 c.b) := (D 0 (by omega)).1
      have cd1 : v21.cell? ⟨h, 1, none⟩ = some (.int .i64 c.p) := (D 1 (by omega)).1
      have cd2 : v21.cell? ⟨h, 2, none⟩ = some (.int .i64 (k)) := (D 2 (by omega)).1
      have cd3 : v21.cell? ⟨h, 3, none⟩ = some (.int .i64 (c.s + 1)) := (D 3 (by omega)).1
      have cd4 : v21.cell? ⟨h, 4, none⟩ = some (.int .i64 c.m) := (D 4 (by omega)).1
      have cd5 : v21.cell? ⟨h, 5, none⟩ = some (.int .i64 c.w) := (D 5 (by omega)).1
      have cd6 : v21.cell? ⟨h, 6, none⟩ = some (.bool c.f) := (D 6 (by omega)).1
      go_wp2_with fail
      refine (hG2 _).mono ?_
      rintro e v22 ⟨rfl, k22⟩
      clear hG2
      have B22 := B21.keep k22 (fun e => e)
      have K22 := K21.trans k22
      have Dn := D.keep k22 (fun e => e)
      clear B21 k22
      clear D
      have D := Dn
      clear Dn
      clear cd0 cd1 cd2 cd3 cd4 cd5 cd6
      have cc0 : v22.cell? ⟨g, 0, none⟩ = some (.int .i64 c.b) := (B22 0 (by omega)).1
      have cc1 : v22.cell? ⟨g, 1, none⟩ = some (.int .i64 c.p) := (B22 1 (by omega)).1
      have cc2 : v22.cell? ⟨g, 2, none⟩ = some (.int .i64 (k)) := (B22 2 (by omega)).1
      have cc3 : v22.cell? ⟨g, 3, none⟩ = some (.int .i64 c.s) := (B22 3 (by omega)).1
      have cc4 : v22.cell? ⟨g, 4, none⟩ = some (.int .i64 c.m) := (B22 4 (by omega)).1
      have cc5 : v22.cell? ⟨g, 5, none⟩ = some (.int .i64 c.w) := (B22 5 (by omega)).1
      have cc6 : v22.cell? ⟨g, 6, none⟩ = some (.bool c.f) := (B22 6 (by omega)).1
      have cd0 : v22.cell? ⟨h, 0, none⟩ = some (.int .i64 c.b) := (D 0 (by omega)).1
      have fd0 : v22.frozen? ⟨h, 0, none⟩ = false := (D 0 (by omega)).2
      have cd1 : v22.cell? ⟨h, 1, none⟩ = some (.int .i64 c.p) := (D 1 (by omega)).1
      have fd1 : v22.frozen? ⟨h, 1, none⟩ = false := (D 1 (by omega)).2
      have cd2 : v22.cell? ⟨h, 2, none⟩ = some (.int .i64 (k)) := (D 2 (by omega)).1
      have fd2 : v22.frozen? ⟨h, 2, none⟩ = false := (D 2 (by omega)).2
      have cd3 : v22.cell? ⟨h, 3, none⟩ = some (.int .i64 (c.s + 1)) := (D 3 (by omega)).1
      have fd3 : v22.frozen? ⟨h, 3, none⟩ = false := (D 3 (by omega)).2
      have cd4 : v22.cell? ⟨h, 4, none⟩ = some (.int .i64 c.m) := (D 4 (by omega)).1
      have fd4 : v22.frozen? ⟨h, 4, none⟩ = false := (D 4 (by omega)).2
      have cd5 : v22.cell? ⟨h, 5, none⟩ = some (.int .i64 c.w) := (D 5 (by omega)).1
      have fd5 : v22.frozen? ⟨h, 5, none⟩ = false := (D 5 (by omega)).2
      have cd6 : v22.cell? ⟨h, 6, none⟩ = some (.bool c.f) := (D 6 (by omega)).1
      have fd6 : v22.frozen? ⟨h, 6, none⟩ = false := (D 6 (by omega)).2
      go_upto_region 24 with fail
      have D2 : Blk (((((((v22.setCell ⟨h, 0, none⟩ (.int .i64 c.b)).setCell ⟨h, 1, none⟩ (.int .i64 c.p)).setCell ⟨h, 2, none⟩ (.int .i64 (k))).setCell ⟨h, 3, none⟩ (.int .i64 c.s)).setCell ⟨h, 4, none⟩ (.int .i64 c.m)).setCell ⟨h, 5, none⟩ (.int .i64 c.w)).setCell ⟨h, 6, none⟩ (.bool c.f)) h 7 (ccell (c.at k)) := Blk.congr (((((((D.set 0 (.int .i64 c.b)).set 1 (.int .i64 c.p)).set 2 (.int .i64 (k))).set 3 (.int .i64 c.s)).set 4 (.int .i64 c.m)).set 5 (.int .i64 c.w)).set 6 (.bool c.f)) (fun i hi => by
        have : i = 0 ∨ i = 1 ∨ i = 2 ∨ i = 3 ∨ i = 4 ∨ i = 5 ∨ i = 6 := by omega
        rcases this with rfl | rfl | rfl | rfl | rfl | rfl | rfl <;> rfl)
      have B30 := (Blk.other (Blk.other (Blk.other (Blk.other (Blk.other (Blk.other (Blk.other B22 (a := ⟨h, 0, none⟩) hne (.int .i64 c.b)) (a := ⟨h, 1, none⟩) hne (.int .i64 c.p)) (a := ⟨h, 2, none⟩) hne (.int .i64 (k))) (a := ⟨h, 3, none⟩) hne (.int .i64 c.s)) (a := ⟨h, 4, none⟩) hne (.int .i64 c.m)) (a := ⟨h, 5, none⟩) hne (.int .i64 c.w)) (a := ⟨h, 6, none⟩) hne (.bool c.f))
      have K30 := (((((((K22.setCell (p := ⟨h, 0, none⟩) (Or.inr hlh) (.int .i64 c.b)).setCell (p := ⟨h, 1, none⟩) (Or.inr hlh) (.int .i64 c.p)).setCell (p := ⟨h, 2, none⟩) (Or.inr hlh) (.int .i64 (k))).setCell (p := ⟨h, 3, none⟩) (Or.inr hlh) (.int .i64 c.s)).setCell (p := ⟨h, 4, none⟩) (Or.inr hlh) (.int .i64 c.m)).setCell (p := ⟨h, 5, none⟩) (Or.inr hlh) (.int .i64 c.w)).setCell (p := ⟨h, 6, none⟩) (Or.inr hlh) (.bool c.f))
      clear cc0 cd0 fd0 cc1 cd1 fd1 cc2 cd2 fd2 cc3 cd3 fd3 cc4 cd4 fd4 cc5 cd5 fd5 cc6 cd6 fd6
      generalize (((((((v22.setCell ⟨h, 0, none⟩ (.int .i64 c.b)).setCell ⟨h, 1, none⟩ (.int .i64 c.p)).setCell ⟨h, 2, none⟩ (.int .i64 (k))).setCell ⟨h, 3, none⟩ (.int .i64 c.s)).setCell ⟨h, 4, none⟩ (.int .i64 c.m)).setCell ⟨h, 5, none⟩ (.int .i64 c.w)).setCell ⟨h, 6, none⟩ (.bool c.f)) = v30 at D2 B30 K30 ⊢
      clear D B22
      have cc4 : v30.cell? ⟨g, 4, none⟩ = some (.int .i64 c.m) := (B30 4 (by omega)).1
      have cd4 : v30.cell? ⟨h, 4, none⟩ = some (.int .i64 c.m) := (D2 4 (by omega)).1
      have fd4 : v30.frozen? ⟨h, 4, none⟩ = false := (D2 4 (by omega)).2
      go_upto_region 25 with fail
      clear cc4 cd4 fd4
      have D : Blk (v30.setCell ⟨h, 4, none⟩ (.int .i64 (c.m + o))) h 7 (ccell ((c.at k).mo o)) := Blk.congr (D2.set 4 (.int .i64 (c.m + o))) (fun i hi => by
        have : i = 0 ∨ i = 1 ∨ i = 2 ∨ i = 3 ∨ i = 4 ∨ i = 5 ∨ i = 6 := by omega
        rcases this with rfl | rfl | rfl | rfl | rfl | rfl | rfl <;> rfl)
      have B31 := B30.other (a := ⟨h, 4, none⟩) hne (.int .i64 (c.m + o))
      have K31 := K30.setCell (p := ⟨h, 4, none⟩) (Or.inr hlh) (.int .i64 (c.m + o))
      generalize v30.setCell ⟨h, 4, none⟩ (.int .i64 (c.m + o)) = v31 at D B31 K31 ⊢
      clear D2 B30
      have cc0 : v31.cell? ⟨g, 0, none⟩ = some (.int .i64 c.b) := (B31 0 (by omega)).1
      have cc1 : v31.cell? ⟨g, 1, none⟩ = some (.int .i64 c.p) := (B31 1 (by omega)).1
      have cc2 : v31.cell? ⟨g, 2, none⟩ = some (.int .i64 (k)) := (B31 2 (by omega)).1
      have cc3 : v31.cell? ⟨g, 3, none⟩ = some (.int .i64 c.s) := (B31 3 (by omega)).1
      have cc4 : v31.cell? ⟨g, 4, none⟩ = some (.int .i64 c.m) := (B31 4 (by omega)).1
      have cc5 : v31.cell? ⟨g, 5, none⟩ = some (.int .i64 c.w) := (B31 5 (by omega)).1
      have cc6 : v31.cell? ⟨g, 6, none⟩ = some (.bool c.f) := (B31 6 (by omega)).1
      go_wp2_with fail
      refine (hO1 _).mono ?_
      rintro e v32 ⟨rfl, k32⟩
      clear cc0 cc1 cc2 cc3 cc4 cc5 cc6
      clear hO1
      have B32 := B31.keep k32 (fun e => e)
      have K32 := K31.trans k32
      have Dn := D.keep k32 (fun e => e)
      clear B31 k32
      clear D
      have D := Dn
      clear Dn
      have Y : Blk (v32.alloc (.cells #[.int .i64 (rbI (c.at k)), .int .i64 (spI (c.at k)), .int .i64 (omI (c.at k)), .int .i64 (obI (c.at k)), .int .i64 (rpI (c.at k)), .int .i64 (lpI (c.at k)), .int .i64 (ebI (c.at k)), .int .i64 (mbI (c.at k)), .int .i64 (wnI (c.at k)), .int .i64 (slI (c.at k)), .int .i64 (mrI (c.at k))] 24)) v32.heap.size 11 (scell [rbI (c.at k), spI (c.at k), omI (c.at k), obI (c.at k), rpI (c.at k), lpI (c.at k), ebI (c.at k), mbI (c.at k), wnI (c.at k), slI (c.at k), mrI (c.at k)]) := blk_alloc v32 _ 24 11 _ (fun i hi => by
        have : i = 0 ∨ i = 1 ∨ i = 2 ∨ i = 3 ∨ i = 4 ∨ i = 5 ∨ i = 6 ∨ i = 7 ∨ i = 8 ∨ i = 9 ∨ i = 10 := by omega
        rcases this with rfl | rfl | rfl | rfl | rfl | rfl | rfl | rfl | rfl | rfl | rfl <;> rfl)
      have B33 := B32.alloc (.cells #[.int .i64 (rbI (c.at k)), .int .i64 (spI (c.at k)), .int .i64 (omI (c.at k)), .int .i64 (obI (c.at k)), .int .i64 (rpI (c.at k)), .int .i64 (lpI (c.at k)), .int .i64 (ebI (c.at k)), .int .i64 (mbI (c.at k)), .int .i64 (wnI (c.at k)), .int .i64 (slI (c.at k)), .int .i64 (mrI (c.at k))] 24)
      have K33 := K32.alloc (.cells #[.int .i64 (rbI (c.at k)), .int .i64 (spI (c.at k)), .int .i64 (omI (c.at k)), .int .i64 (obI (c.at k)), .int .i64 (rpI (c.at k)), .int .i64 (lpI (c.at k)), .int .i64 (ebI (c.at k)), .int .i64 (mbI (c.at k)), .int .i64 (wnI (c.at k)), .int .i64 (slI (c.at k)), .int .i64 (mrI (c.at k))] 24)
      have Dn := D.alloc (.cells #[.int .i64 (rbI (c.at k)), .int .i64 (spI (c.at k)), .int .i64 (omI (c.at k)), .int .i64 (obI (c.at k)), .int .i64 (rpI (c.at k)), .int .i64 (lpI (c.at k)), .int .i64 (ebI (c.at k)), .int .i64 (mbI (c.at k)), .int .i64 (wnI (c.at k)), .int .i64 (slI (c.at k)), .int .i64 (mrI (c.at k))] 24)
      go_upto_region 26 with fail
      generalize v32.alloc (.cells #[.int .i64 (rbI (c.at k)), .int .i64 (spI (c.at k)), .int .i64 (omI (c.at k)), .int .i64 (obI (c.at k)), .int .i64 (rpI (c.at k)), .int .i64 (lpI (c.at k)), .int .i64 (ebI (c.at k)), .int .i64 (mbI (c.at k)), .int .i64 (wnI (c.at k)), .int .i64 (slI (c.at k)), .int .i64 (mrI (c.at k))] 24) = v33 at Y B33 K33 Dn ⊢
      generalize v32.heap.size = ha at Y ⊢
      clear B32
      clear D
      have D := Dn
      clear Dn
      have cd0 : v33.cell? ⟨h, 0, none⟩ = some (.int .i64 c.b) := (D 0 (by omega)).1
      have cd1 : v33.cell? ⟨h, 1, none⟩ = some (.int .i64 c.p) := (D 1 (by omega)).1
      have cd2 : v33.cell? ⟨h, 2, none⟩ = some (.int .i64 (k)) := (D 2 (by omega)).1
      have cd3 : v33.cell? ⟨h, 3, none⟩ = some (.int .i64 c.s) := (D 3 (by omega)).1
      have cd4 : v33.cell? ⟨h, 4, none⟩ = some (.int .i64 (c.m + o)) := (D 4 (by omega)).1
      have cd5 : v33.cell? ⟨h, 5, none⟩ = some (.int .i64 c.w) := (D 5 (by omega)).1
      have cd6 : v33.cell? ⟨h, 6, none⟩ = some (.bool c.f) := (D 6 (by omega)).1
      go_wp2_with fail
      refine (hO2 _).mono ?_
      rintro e v34 ⟨rfl, k34⟩
      clear hO2
      have B34 := B33.keep k34 (fun e => e)
      have K34 := K33.trans k34
      have Dn := D.keep k34 (fun e => e)
      have Yn := Y.keep k34 (fun e => e)
      clear B33 k34
      clear D
      have D := Dn
      clear Dn
      clear Y
      have Y := Yn
      clear Yn
      clear cd0 cd1 cd2 cd3 cd4 cd5 cd6
      have X : Blk (v34.alloc (.cells #[.int .i64 (rbI ((c.at k).mo o)), .int .i64 (spI ((c.at k).mo o)), .int .i64 (omI ((c.at k).mo o)), .int .i64 (obI ((c.at k).mo o)), .int .i64 (rpI ((c.at k).mo o)), .int .i64 (lpI ((c.at k).mo o)), .int .i64 (ebI ((c.at k).mo o)), .int .i64 (mbI ((c.at k).mo o)), .int .i64 (wnI ((c.at k).mo o)), .int .i64 (slI ((c.at k).mo o)), .int .i64 (mrI ((c.at k).mo o))] 24)) v34.heap.size 11 (scell [rbI ((c.at k).mo o), spI ((c.at k).mo o), omI ((c.at k).mo o), obI ((c.at k).mo o), rpI ((c.at k).mo o), lpI ((c.at k).mo o), ebI ((c.at k).mo o), mbI ((c.at k).mo o), wnI ((c.at k).mo o), slI ((c.at k).mo o), mrI ((c.at k).mo o)]) := blk_alloc v34 _ 24 11 _ (fun i hi => by
        have : i = 0 ∨ i = 1 ∨ i = 2 ∨ i = 3 ∨ i = 4 ∨ i = 5 ∨ i = 6 ∨ i = 7 ∨ i = 8 ∨ i = 9 ∨ i = 10 := by omega
        rcases this with rfl | rfl | rfl | rfl | rfl | rfl | rfl | rfl | rfl | rfl | rfl <;> rfl)
      have B35 := B34.alloc (.cells #[.int .i64 (rbI ((c.at k).mo o)), .int .i64 (spI ((c.at k).mo o)), .int .i64 (omI ((c.at k).mo o)), .int .i64 (obI ((c.at k).mo o)), .int .i64 (rpI ((c.at k).mo o)), .int .i64 (lpI ((c.at k).mo o)), .int .i64 (ebI ((c.at k).mo o)), .int .i64 (mbI ((c.at k).mo o)), .int .i64 (wnI ((c.at k).mo o)), .int .i64 (slI ((c.at k).mo o)), .int .i64 (mrI ((c.at k).mo o))] 24)
      have K35 := K34.alloc (.cells #[.int .i64 (rbI ((c.at k).mo o)), .int .i64 (spI ((c.at k).mo o)), .int .i64 (omI ((c.at k).mo o)), .int .i64 (obI ((c.at k).mo o)), .int .i64 (rpI ((c.at k).mo o)), .int .i64 (lpI ((c.at k).mo o)), .int .i64 (ebI ((c.at k).mo o)), .int .i64 (mbI ((c.at k).mo o)), .int .i64 (wnI ((c.at k).mo o)), .int .i64 (slI ((c.at k).mo o)), .int .i64 (mrI ((c.at k).mo o))] 24)
      have Dn := D.alloc (.cells #[.int .i64 (rbI ((c.at k).mo o)), .int .i64 (spI ((c.at k).mo o)), .int .i64 (omI ((c.at k).mo o)), .int .i64 (obI ((c.at k).mo o)), .int .i64 (rpI ((c.at k).mo o)), .int .i64 (lpI ((c.at k).mo o)), .int .i64 (ebI ((c.at k).mo o)), .int .i64 (mbI ((c.at k).mo o)), .int .i64 (wnI ((c.at k).mo o)), .int .i64 (slI ((c.at k).mo o)), .int .i64 (mrI ((c.at k).mo o))] 24)
      have Yn := Y.alloc (.cells #[.int .i64 (rbI ((c.at k).mo o)), .int .i64 (spI ((c.at k).mo o)), .int .i64 (omI ((c.at k).mo o)), .int .i64 (obI ((c.at k).mo o)), .int .i64 (rpI ((c.at k).mo o)), .int .i64 (lpI ((c.at k).mo o)), .int .i64 (ebI ((c.at k).mo o)), .int .i64 (mbI ((c.at k).mo o)), .int .i64 (wnI ((c.at k).mo o)), .int .i64 (slI ((c.at k).mo o)), .int .i64 (mrI ((c.at k).mo o))] 24)
      go_upto_region 27 with fail
      generalize v34.alloc (.cells #[.int .i64 (rbI ((c.at k).mo o)), .int .i64 (spI ((c.at k).mo o)), .int .i64 (omI ((c.at k).mo o)), .int .i64 (obI ((c.at k).mo o)), .int .i64 (rpI ((c.at k).mo o)), .int .i64 (lpI ((c.at k).mo o)), .int .i64 (ebI ((c.at k).mo o)), .int .i64 (mbI ((c.at k).mo o)), .int .i64 (wnI ((c.at k).mo o)), .int .i64 (slI ((c.at k).mo o)), .int .i64 (mrI ((c.at k).mo o))] 24) = v35 at X B35 K35 Dn Yn ⊢
      generalize v34.heap.size = hb at X ⊢
      clear B34
      clear D
      have D := Dn
      clear Dn
      clear Y
      have Y := Yn
      clear Yn
      have y1 : v35.cell? ⟨ha, 1, none⟩ = some (.int .i64 (spI (c.at k))) := (Y 1 (by omega)).1
      have x1 : v35.cell? ⟨hb, 1, none⟩ = some (.int .i64 (spI ((c.at k).mo o))) := (X 1 (by omega)).1
      have cd0 : v35.cell? ⟨h, 0, none⟩ = some (.int .i64 c.b) := (D 0 (by omega)).1
      have cd1 : v35.cell? ⟨h, 1, none⟩ = some (.int .i64 c.p) := (D 1 (by omega)).1
      have cd2 : v35.cell? ⟨h, 2, none⟩ = some (.int .i64 (k)) := (D 2 (by omega)).1
      have cd3 : v35.cell? ⟨h, 3, none⟩ = some (.int .i64 c.s) := (D 3 (by omega)).1
      have cd4 : v35.cell? ⟨h, 4, none⟩ = some (.int .i64 (c.m + o)) := (D 4 (by omega)).1
      have cd5 : v35.cell? ⟨h, 5, none⟩ = some (.int .i64 c.w) := (D 5 (by omega)).1
      have cd6 : v35.cell? ⟨h, 6, none⟩ = some (.bool c.f) := (D 6 (by omega)).1
      go_wp2_with fail
      go_ret
      exact ⟨rfl, K35⟩
set_option maxRecDepth 100000 in
set_option maxHeartbeats 4000000 in
theorem room_y_eq (w : World) {c : Cf} {k o m : Int} (hAw : ∀ w : World, Calls Try.prog 8 #[] w fun e w' => e = .returned (.bool true) ∧ Keep (fun _ => False) w w') (hGr : ∀ w : World, Calls Try.prog 20 #[.agg #[.int .i64 c.b, .int .i64 c.p, .int .i64 c.c, .int .i64 c.s, .int .i64 c.m, .int .i64 c.w, .bool c.f]] w fun e w' => e = .returned (.tuple #[.int .i64 k, .int .i64 0]) ∧ Keep (fun _ => False) w w') (hGo : ∀ w : World, Calls Try.prog 12 #[.agg #[.int .i64 c.b, .int .i64 c.p, .int .i64 (k), .int .i64 c.s, .int .i64 c.m, .int .i64 c.w, .bool c.f]] w fun e w' => e = .returned (.bool true) ∧ Keep (fun _ => False) w w') (hGn : ∀ n : Int, k < n → n ≤ 512 → ∀ w : World, Calls Try.prog 12 #[.agg #[.int .i64 c.b, .int .i64 c.p, .int .i64 (n), .int .i64 c.s, .int .i64 c.m, .int .i64 c.w, .bool c.f]] w fun e w' => e = .returned (.bool false) ∧ Keep (fun _ => False) w w') (hG2 : ∀ w : World, Calls Try.prog 20 #[.agg #[.int .i64 c.b, .int .i64 c.p, .int .i64 (k), .int .i64 (c.s + 1), .int .i64 c.m, .int .i64 c.w, .bool c.f]] w fun e w' => e = .returned (.tuple #[.int .i64 m, .int .i64 0]) ∧ Keep (fun _ => False) w w') (hO1 : ∀ w : World, Calls Try.prog 9 #[.agg #[.int .i64 c.b, .int .i64 c.p, .int .i64 (k), .int .i64 c.s, .int .i64 c.m, .int .i64 c.w, .bool c.f]] w fun e w' => e = .returned (.tuple #[.agg #[.int .i64 (rbI (c.at k)), .int .i64 (spI (c.at k)), .int .i64 (omI (c.at k)), .int .i64 (obI (c.at k)), .int .i64 (rpI (c.at k)), .int .i64 (lpI (c.at k)), .int .i64 (ebI (c.at k)), .int .i64 (mbI (c.at k)), .int .i64 (wnI (c.at k)), .int .i64 (slI (c.at k)), .int .i64 (mrI (c.at k))], .int .i64 0]) ∧ Keep (fun _ => False) w w') (hO2 : ∀ w : World, Calls Try.prog 9 #[.agg #[.int .i64 c.b, .int .i64 c.p, .int .i64 (k), .int .i64 c.s, .int .i64 (c.m + o), .int .i64 c.w, .bool c.f]] w fun e w' => e = .returned (.tuple #[.agg #[.int .i64 (rbI ((c.at k).mo o)), .int .i64 (spI ((c.at k).mo o)), .int .i64 (omI ((c.at k).mo o)), .int .i64 (obI ((c.at k).mo o)), .int .i64 (rpI ((c.at k).mo o)), .int .i64 (lpI ((c.at k).mo o)), .int .i64 (ebI ((c.at k).mo o)), .int .i64 (mbI ((c.at k).mo o)), .int .i64 (wnI ((c.at k).mo o)), .int .i64 (slI ((c.at k).mo o)), .int .i64 (mrI ((c.at k).mo o))], .int .i64 0]) ∧ Keep (fun _ => False) w w') (hG3 : ∀ w : World, Calls Try.prog 12 #[.agg #[.int .i64 c.b, .int .i64 c.p, .int .i64 (k), .int .i64 c.s, .int .i64 (c.m + o), .int .i64 c.w, .bool c.f]] w fun e w' => e = .returned (.bool true) ∧ Keep (fun _ => False) w w') (hk : 1 ≤ k ∧ k ≤ 512) (hs : 0 ≤ c.s ∧ c.s ≤ 4) (hm : 1 ≤ c.m ∧ c.m ≤ 512) (t1 : ¬ k < m) (d1 : ¬ o < 1) (d2 : ¬ 100 < o) (d3 : ¬ 512 < c.m + o) (d4 : spI (c.at k) = spI ((c.at k).mo o)) :
    Calls Try.prog 7 #[.agg #[.int .i64 c.b, .int .i64 c.p, .int .i64 c.c, .int .i64 c.s, .int .i64 c.m, .int .i64 c.w, .bool c.f], .int .i64 o] w fun e w' => e = .returned (.bool true) ∧ Keep (fun _ => False) w w' := by
  have r1 := wrapI (x := k + 1) (by omega) (by omega)
  have r2 := wrapI (x := c.s + 1) (by omega) (by omega)
  have r3 := wrapI (x := c.m + o) (by omega) (by omega)
  have d4b : (spI (c.at k) != spI ((c.at k).mo o)) = false := by simp [d4]
  clear d4
  have hkk : Hid (1 ≤ k ∧ k ≤ 512) := hk
  clear hk hs hm
  have B1 : Blk (w.alloc (.cells #[.int .i64 c.b, .int .i64 c.p, .int .i64 c.c, .int .i64 c.s, .int .i64 c.m, .int .i64 c.w, .bool c.f] 29)) w.heap.size 7 (ccell c) := blk_cf w c
  have K1 : Keep (fun _ => False) w (w.alloc (.cells #[.int .i64 c.b, .int .i64 c.p, .int .i64 c.c, .int .i64 c.s, .int .i64 c.m, .int .i64 c.w, .bool c.f] 29)) := (Keep.refl _ _).alloc _
  go_enter Try.func7, Try.ntmps7
  go_upto_region 1 with fail
  generalize w.alloc (.cells #[.int .i64 c.b, .int .i64 c.p, .int .i64 c.c, .int .i64 c.s, .int .i64 c.m, .int .i64 c.w, .bool c.f] 29) = v1 at B1 K1 ⊢
  obtain ⟨g, hg⟩ : ∃ g, g = w.heap.size := ⟨_, rfl⟩
  rw [← hg] at B1 ⊢
  have hlo : Hid (w.heap.size ≤ g) := by show w.heap.size ≤ g; omega
  clear hg
  go_wp2_with fail
  refine (hAw _).mono ?_
  rintro e v2 ⟨rfl, k2⟩
  clear hAw
  have B2 := B1.keep k2 (fun e => e)
  have K2 := K1.trans k2
  clear B1 k2
  have cc0 : v2.cell? ⟨g, 0, none⟩ = some (.int .i64 c.b) := (B2 0 (by omega)).1
  have cc1 : v2.cell? ⟨g, 1, none⟩ = some (.int .i64 c.p) := (B2 1 (by omega)).1
  have cc2 : v2.cell? ⟨g, 2, none⟩ = some (.int .i64 c.c) := (B2 2 (by omega)).1
  have cc3 : v2.cell? ⟨g, 3, none⟩ = some (.int .i64 c.s) := (B2 3 (by omega)).1
  have cc4 : v2.cell? ⟨g, 4, none⟩ = some (.int .i64 c.m) := (B2 4 (by omega)).1
  have cc5 : v2.cell? ⟨g, 5, none⟩ = some (.int .i64 c.w) := (B2 5 (by omega)).1
  have cc6 : v2.cell? ⟨g, 6, none⟩ = some (.bool c.f) := (B2 6 (by omega)).1
  go_wp2_with fail
  refine (hGr _).mono ?_
  rintro e v3 ⟨rfl, k3⟩
  clear cc0 cc1 cc2 cc3 cc4 cc5 cc6
  clear hGr
  have B3 := B2.keep k3 (fun e => e)
  have K3 := K2.trans k3
  clear B2 k3
  have c2 : v3.cell? ⟨g, 2, none⟩ = some (.int .i64 c.c) := (B3 2 (by omega)).1
  have f2 : v3.frozen? ⟨g, 2, none⟩ = false := (B3 2 (by omega)).2
  go_upto_region 7 with fail
  clear c2 f2
  have B4 : Blk (v3.setCell ⟨g, 2, none⟩ (.int .i64 k)) g 7 (ccell (c.at k)) := Blk.congr (B3.set 2 (.int .i64 k)) (fun i hi => by
    have : i = 0 ∨ i = 1 ∨ i = 2 ∨ i = 3 ∨ i = 4 ∨ i = 5 ∨ i = 6 := by omega
    rcases this with rfl | rfl | rfl | rfl | rfl | rfl | rfl <;> rfl)
  have K4 := K3.setCell (p := ⟨g, 2, none⟩) (Or.inr hlo) (.int .i64 k)
  generalize v3.setCell ⟨g, 2, none⟩ (.int .i64 k) = v4 at B4 K4 ⊢
  clear B3
  have cc0 : v4.cell? ⟨g, 0, none⟩ = some (.int .i64 c.b) := (B4 0 (by omega)).1
  have cc1 : v4.cell? ⟨g, 1, none⟩ = some (.int .i64 c.p) := (B4 1 (by omega)).1
  have cc2 : v4.cell? ⟨g, 2, none⟩ = some (.int .i64 (k)) := (B4 2 (by omega)).1
  have cc3 : v4.cell? ⟨g, 3, none⟩ = some (.int .i64 c.s) := (B4 3 (by omega)).1
  have cc4 : v4.cell? ⟨g, 4, none⟩ = some (.int .i64 c.m) := (B4 4 (by omega)).1
  have cc5 : v4.cell? ⟨g, 5, none⟩ = some (.int .i64 c.w) := (B4 5 (by omega)).1
  have cc6 : v4.cell? ⟨g, 6, none⟩ = some (.bool c.f) := (B4 6 (by omega)).1
  go_wp2_with fail
  refine (hGo _).mono ?_
  rintro e v5 ⟨rfl, k5⟩
  clear cc0 cc1 cc2 cc3 cc4 cc5 cc6
  clear hGo
  have B5 := B4.keep k5 (fun e => e)
  have K5 := K4.trans k5
  clear B4 k5
  go_wp2_with fail
  go_loopw [7] (fun nv wx => ∃ n : Int, k + 1 ≤ n ∧ n ≤ 513 ∧ nv = .int .i64 n ∧ Keep (fun _ => False) v5 wx) (fun nv _ => 513 - (intOf nv).toNat)
  case atStart => exact ⟨k + 1, by omega, by have : 1 ≤ k ∧ k ≤ 512 := hkk; omega, rfl, Keep.refl _ _⟩
  case round =>
    obtain ⟨n, hn1, hn2, rfl, k9⟩ := hrel
    have B9 := B5.keep k9 (fun e => e)
    by_cases hlt : n ≤ 512
    · have hgn := hGn n (by omega) hlt
      have dw := wrapI (x := n + 1) (by have : 1 ≤ k ∧ k ≤ 512 := hkk; omega) (by omega)
      have hb : Hid (k + 1 ≤ n ∧ n ≤ 512) := ⟨hn1, hlt⟩
      have hg1 : g < wr.heap.size := B9.lt (by omega)
      have hg2 : ¬ g = wr.heap.size := by omega
      have KD : Keep (fun _ => False) v5 (wr.alloc (.cells #[.int .i64 c.b, .int .i64 c.p, .int .i64 (n), .int .i64 c.s, .int .i64 c.m, .int .i64 c.w, .bool c.f] 29)) := k9.alloc _
      clear hn1 hn2
      have cc0 : wr.cell? ⟨g, 0, none⟩ = some (.int .i64 c.b) := (B9 0 (by omega)).1
      have cc1 : wr.cell? ⟨g, 1, none⟩ = some (.int .i64 c.p) := (B9 1 (by omega)).1
      have cc2 : wr.cell? ⟨g, 2, none⟩ = some (.int .i64 (k)) := (B9 2 (by omega)).1
      have cc3 : wr.cell? ⟨g, 3, none⟩ = some (.int .i64 c.s) := (B9 3 (by omega)).1
      have cc4 : wr.cell? ⟨g, 4, none⟩ = some (.int .i64 c.m) := (B9 4 (by omega)).1
      have cc5 : wr.cell? ⟨g, 5, none⟩ = some (.int .i64 c.w) := (B9 5 (by omega)).1
      have cc6 : wr.cell? ⟨g, 6, none⟩ = some (.bool c.f) := (B9 6 (by omega)).1
      go_wp2_with fail
      refine (hgn _).mono ?_
      rintro e y1 ⟨rfl, j1⟩
      clear hgn
      go_wp2_with fail
      go_roundw
      case rel => exact ⟨n + 1, by have : k + 1 ≤ n ∧ n ≤ 512 := hb; omega, by have : k + 1 ≤ n ∧ n ≤ 512 := hb; omega, rfl, KD.trans j1⟩
      case measure => have h1 : k + 1 ≤ n ∧ n ≤ 512 := hb; have h2 : 1 ≤ k ∧ k ≤ 512 := hkk; simp [intOf]; omega
    · have KK := K5.trans k9
      clear hn1 hn2 hGn
      have cc0 : wr.cell? ⟨g, 0, none⟩ = some (.int .i64 c.b) := (B9 0 (by omega)).1
      have cc1 : wr.cell? ⟨g, 1, none⟩ = some (.int .i64 c.p) := (B9 1 (by omega)).1
      have cc2 : wr.cell? ⟨g, 2, none⟩ = some (.int .i64 (k)) := (B9 2 (by omega)).1
      have cc3 : wr.cell? ⟨g, 3, none⟩ = some (.int .i64 c.s) := (B9 3 (by omega)).1
      have cc4 : wr.cell? ⟨g, 4, none⟩ = some (.int .i64 c.m) := (B9 4 (by omega)).1
      have cc5 : wr.cell? ⟨g, 5, none⟩ = some (.int .i64 c.w) := (B9 5 (by omega)).1
      have cc6 : wr.cell? ⟨g, 6, none⟩ = some (.bool c.f) := (B9 6 (by omega)).1
      have D : Blk (wr.alloc (.cells #[.int .i64 c.b, .int .i64 c.p, .int .i64 (k), .int .i64 (c.s + 1), .int .i64 c.m, .int .i64 c.w, .bool c.f] 29)) wr.heap.size 7 (ccell ((c.at k).sp)) := blk_cf wr ((c.at k).sp)
      have B21 := B9.alloc (.cells #[.int .i64 c.b, .int .i64 c.p, .int .i64 (k), .int .i64 (c.s + 1), .int .i64 c.m, .int .i64 c.w, .bool c.f] 29)
      have K21 := KK.alloc (.cells #[.int .i64 c.b, .int .i64 c.p, .int .i64 (k), .int .i64 (c.s + 1), .int .i64 c.m, .int .i64 c.w, .bool c.f] 29)
      have hgd : g < wr.heap.size := B9.lt (by omega)
      go_upto_region 18 with fail
      generalize wr.alloc (.cells #[.int .i64 c.b, .int .i64 c.p, .int .i64 (k), .int .i64 (c.s + 1), .int .i64 c.m, .int .i64 c.w, .bool c.f] 29) = v21 at D B21 K21 ⊢
      obtain ⟨h, hh⟩ : ∃ h, h = wr.heap.size := ⟨_, rfl⟩
      rw [← hh] at D hgd ⊢
      have hne : ¬ g = h := by omega
      have hlh : Hid (w.heap.size ≤ h) := by have h1 : w.heap.size ≤ g := hlo; show w.heap.size ≤ h; omega
      clear hh cc0 cc1 cc2 cc3 cc4 cc5 cc6 B9 hgd
      have cd0 : v21.cell? ⟨h, 0, none⟩ = some (.int .i64 c.b) := (D 0 (by omega)).1
      have cd1 : v21.cell? ⟨h, 1, none⟩ = some (.int .i64 c.p) := (D 1 (by omega)).1
      have cd2 : v21.cell? ⟨h, 2, none⟩ = some (.int .i64 (k)) := (D 2 (by omega)).1
      have cd3 : v21.cell? ⟨h, 3, none⟩ = some (.int .i64 (c.s + 1)) := (D 3 (by omega)).1
      have cd4 : v21.cell? ⟨h, 4, none⟩ = some (.int .i64 c.m) := (D 4 (by omega)).1
      have cd5 : v21.cell? ⟨h, 5, none⟩ = some (.int .i64 c.w) := (D 5 (by omega)).1
      have cd6 : v21.cell? ⟨h, 6, none⟩ = some (.bool c.f) := (D 6 (by omega)).1
      go_wp2_with fail
      refine (hG2 _).mono ?_
      rintro e v22 ⟨rfl, k22⟩
      clear hG2
      have B22 := B21.keep k22 (fun e => e)
      have K22 := K21.trans k22
      have Dn := D.keep k22 (fun e => e)
      clear B21 k22
      clear D
      have D := Dn
      clear Dn
      clear cd0 cd1 cd2 cd3 cd4 cd5 cd6
      have cc0 : v22.cell? ⟨g, 0, none⟩ = some (.int .i64 c.b) := (B22 0 (by omega)).1
      have cc1 : v22.cell? ⟨g, 1, none⟩ = some (.int .i64 c.p) := (B22 1 (by omega)).1
      have cc2 : v22.cell? ⟨g, 2, none⟩ = some (.int .i64 (k)) := (B22 2 (by omega)).1
      have cc3 : v22.cell? ⟨g, 3, none⟩ = some (.int .i64 c.s) := (B22 3 (by omega)).1
      have cc4 : v22.cell? ⟨g, 4, none⟩ = some (.int .i64 c.m) := (B22 4 (by omega)).1
      have cc5 : v22.cell? ⟨g, 5, none⟩ = some (.int .i64 c.w) := (B22 5 (by omega)).1
      have cc6 : v22.cell? ⟨g, 6, none⟩ = some (.bool c.f) := (B22 6 (by omega)).1
      have cd0 : v22.cell? ⟨h, 0, none⟩ = some (.int .i64 c.b) := (D 0 (by omega)).1
      have fd0 : v22.frozen? ⟨h, 0, none⟩ = false := (D 0 (by omega)).2
      have cd1 : v22.cell? ⟨h, 1, none⟩ = some (.int .i64 c.p) := (D 1 (by omega)).1
      have fd1 : v22.frozen? ⟨h, 1, none⟩ = false := (D 1 (by omega)).2
      have cd2 : v22.cell? ⟨h, 2, none⟩ = some (.int .i64 (k)) := (D 2 (by omega)).1
      have fd2 : v22.frozen? ⟨h, 2, none⟩ = false := (D 2 (by omega)).2
      have cd3 : v22.cell? ⟨h, 3, none⟩ = some (.int .i64 (c.s + 1)) := (D 3 (by omega)).1
      have fd3 : v22.frozen? ⟨h, 3, none⟩ = false := (D 3 (by omega)).2
      have cd4 : v22.cell? ⟨h, 4, none⟩ = some (.int .i64 c.m) := (D 4 (by omega)).1
      have fd4 : v22.frozen? ⟨h, 4, none⟩ = false := (D 4 (by omega)).2
      have cd5 : v22.cell? ⟨h, 5, none⟩ = some (.int .i64 c.w) := (D 5 (by omega)).1
      have fd5 : v22.frozen? ⟨h, 5, none⟩ = false := (D 5 (by omega)).2
      have cd6 : v22.cell? ⟨h, 6, none⟩ = some (.bool c.f) := (D 6 (by omega)).1
      have fd6 : v22.frozen? ⟨h, 6, none⟩ = false := (D 6 (by omega)).2
      go_upto_region 24 with fail
      have D2 : Blk (((((((v22.setCell ⟨h, 0, none⟩ (.int .i64 c.b)).setCell ⟨h, 1, none⟩ (.int .i64 c.p)).setCell ⟨h, 2, none⟩ (.int .i64 (k))).setCell ⟨h, 3, none⟩ (.int .i64 c.s)).setCell ⟨h, 4, none⟩ (.int .i64 c.m)).setCell ⟨h, 5, none⟩ (.int .i64 c.w)).setCell ⟨h, 6, none⟩ (.bool c.f)) h 7 (ccell (c.at k)) := Blk.congr (((((((D.set 0 (.int .i64 c.b)).set 1 (.int .i64 c.p)).set 2 (.int .i64 (k))).set 3 (.int .i64 c.s)).set 4 (.int .i64 c.m)).set 5 (.int .i64 c.w)).set 6 (.bool c.f)) (fun i hi => by
        have : i = 0 ∨ i = 1 ∨ i = 2 ∨ i = 3 ∨ i = 4 ∨ i = 5 ∨ i = 6 := by omega
        rcases this with rfl | rfl | rfl | rfl | rfl | rfl | rfl <;> rfl)
      have B30 := (Blk.other (Blk.other (Blk.other (Blk.other (Blk.other (Blk.other (Blk.other B22 (a := ⟨h, 0, none⟩) hne (.int .i64 c.b)) (a := ⟨h, 1, none⟩) hne (.int .i64 c.p)) (a := ⟨h, 2, none⟩) hne (.int .i64 (k))) (a := ⟨h, 3, none⟩) hne (.int .i64 c.s)) (a := ⟨h, 4, none⟩) hne (.int .i64 c.m)) (a := ⟨h, 5, none⟩) hne (.int .i64 c.w)) (a := ⟨h, 6, none⟩) hne (.bool c.f))
      have K30 := (((((((K22.setCell (p := ⟨h, 0, none⟩) (Or.inr hlh) (.int .i64 c.b)).setCell (p := ⟨h, 1, none⟩) (Or.inr hlh) (.int .i64 c.p)).setCell (p := ⟨h, 2, none⟩) (Or.inr hlh) (.int .i64 (k))).setCell (p := ⟨h, 3, none⟩) (Or.inr hlh) (.int .i64 c.s)).setCell (p := ⟨h, 4, none⟩) (Or.inr hlh) (.int .i64 c.m)).setCell (p := ⟨h, 5, none⟩) (Or.inr hlh) (.int .i64 c.w)).setCell (p := ⟨h, 6, none⟩) (Or.inr hlh) (.bool c.f))
      clear cc0 cd0 fd0 cc1 cd1 fd1 cc2 cd2 fd2 cc3 cd3 fd3 cc4 cd4 fd4 cc5 cd5 fd5 cc6 cd6 fd6
      generalize (((((((v22.setCell ⟨h, 0, none⟩ (.int .i64 c.b)).setCell ⟨h, 1, none⟩ (.int .i64 c.p)).setCell ⟨h, 2, none⟩ (.int .i64 (k))).setCell ⟨h, 3, none⟩ (.int .i64 c.s)).setCell ⟨h, 4, none⟩ (.int .i64 c.m)).setCell ⟨h, 5, none⟩ (.int .i64 c.w)).setCell ⟨h, 6, none⟩ (.bool c.f)) = v30 at D2 B30 K30 ⊢
      clear D B22
      have cc4 : v30.cell? ⟨g, 4, none⟩ = some (.int .i64 c.m) := (B30 4 (by omega)).1
      have cd4 : v30.cell? ⟨h, 4, none⟩ = some (.int .i64 c.m) := (D2 4 (by omega)).1
      have fd4 : v30.frozen? ⟨h, 4, none⟩ = false := (D2 4 (by omega)).2
      go_upto_region 25 with fail
      clear cc4 cd4 fd4
      have D : Blk (v30.setCell ⟨h, 4, none⟩ (.int .i64 (c.m + o))) h 7 (ccell ((c.at k).mo o)) := Blk.congr (D2.set 4 (.int .i64 (c.m + o))) (fun i hi => by
        have : i = 0 ∨ i = 1 ∨ i = 2 ∨ i = 3 ∨ i = 4 ∨ i = 5 ∨ i = 6 := by omega
        rcases this with rfl | rfl | rfl | rfl | rfl | rfl | rfl <;> rfl)
      have B31 := B30.other (a := ⟨h, 4, none⟩) hne (.int .i64 (c.m + o))
      have K31 := K30.setCell (p := ⟨h, 4, none⟩) (Or.inr hlh) (.int .i64 (c.m + o))
      generalize v30.setCell ⟨h, 4, none⟩ (.int .i64 (c.m + o)) = v31 at D B31 K31 ⊢
      clear D2 B30
      have cc0 : v31.cell? ⟨g, 0, none⟩ = some (.int .i64 c.b) := (B31 0 (by omega)).1
      have cc1 : v31.cell? ⟨g, 1, none⟩ = some (.int .i64 c.p) := (B31 1 (by omega)).1
      have cc2 : v31.cell? ⟨g, 2, none⟩ = some (.int .i64 (k)) := (B31 2 (by omega)).1
      have cc3 : v31.cell? ⟨g, 3, none⟩ = some (.int .i64 c.s) := (B31 3 (by omega)).1
      have cc4 : v31.cell? ⟨g, 4, none⟩ = some (.int .i64 c.m) := (B31 4 (by omega)).1
      have cc5 : v31.cell? ⟨g, 5, none⟩ = some (.int .i64 c.w) := (B31 5 (by omega)).1
      have cc6 : v31.cell? ⟨g, 6, none⟩ = some (.bool c.f) := (B31 6 (by omega)).1
      go_wp2_with fail
      refine (hO1 _).mono ?_
      rintro e v32 ⟨rfl, k32⟩
      clear cc0 cc1 cc2 cc3 cc4 cc5 cc6
      clear hO1
      have B32 := B31.keep k32 (fun e => e)
      have K32 := K31.trans k32
      have Dn := D.keep k32 (fun e => e)
      clear B31 k32
      clear D
      have D := Dn
      clear Dn
      have Y : Blk (v32.alloc (.cells #[.int .i64 (rbI (c.at k)), .int .i64 (spI (c.at k)), .int .i64 (omI (c.at k)), .int .i64 (obI (c.at k)), .int .i64 (rpI (c.at k)), .int .i64 (lpI (c.at k)), .int .i64 (ebI (c.at k)), .int .i64 (mbI (c.at k)), .int .i64 (wnI (c.at k)), .int .i64 (slI (c.at k)), .int .i64 (mrI (c.at k))] 24)) v32.heap.size 11 (scell [rbI (c.at k), spI (c.at k), omI (c.at k), obI (c.at k), rpI (c.at k), lpI (c.at k), ebI (c.at k), mbI (c.at k), wnI (c.at k), slI (c.at k), mrI (c.at k)]) := blk_alloc v32 _ 24 11 _ (fun i hi => by
        have : i = 0 ∨ i = 1 ∨ i = 2 ∨ i = 3 ∨ i = 4 ∨ i = 5 ∨ i = 6 ∨ i = 7 ∨ i = 8 ∨ i = 9 ∨ i = 10 := by omega
        rcases this with rfl | rfl | rfl | rfl | rfl | rfl | rfl | rfl | rfl | rfl | rfl <;> rfl)
      have B33 := B32.alloc (.cells #[.int .i64 (rbI (c.at k)), .int .i64 (spI (c.at k)), .int .i64 (omI (c.at k)), .int .i64 (obI (c.at k)), .int .i64 (rpI (c.at k)), .int .i64 (lpI (c.at k)), .int .i64 (ebI (c.at k)), .int .i64 (mbI (c.at k)), .int .i64 (wnI (c.at k)), .int .i64 (slI (c.at k)), .int .i64 (mrI (c.at k))] 24)
      have K33 := K32.alloc (.cells #[.int .i64 (rbI (c.at k)), .int .i64 (spI (c.at k)), .int .i64 (omI (c.at k)), .int .i64 (obI (c.at k)), .int .i64 (rpI (c.at k)), .int .i64 (lpI (c.at k)), .int .i64 (ebI (c.at k)), .int .i64 (mbI (c.at k)), .int .i64 (wnI (c.at k)), .int .i64 (slI (c.at k)), .int .i64 (mrI (c.at k))] 24)
      have Dn := D.alloc (.cells #[.int .i64 (rbI (c.at k)), .int .i64 (spI (c.at k)), .int .i64 (omI (c.at k)), .int .i64 (obI (c.at k)), .int .i64 (rpI (c.at k)), .int .i64 (lpI (c.at k)), .int .i64 (ebI (c.at k)), .int .i64 (mbI (c.at k)), .int .i64 (wnI (c.at k)), .int .i64 (slI (c.at k)), .int .i64 (mrI (c.at k))] 24)
      go_upto_region 26 with fail
      generalize v32.alloc (.cells #[.int .i64 (rbI (c.at k)), .int .i64 (spI (c.at k)), .int .i64 (omI (c.at k)), .int .i64 (obI (c.at k)), .int .i64 (rpI (c.at k)), .int .i64 (lpI (c.at k)), .int .i64 (ebI (c.at k)), .int .i64 (mbI (c.at k)), .int .i64 (wnI (c.at k)), .int .i64 (slI (c.at k)), .int .i64 (mrI (c.at k))] 24) = v33 at Y B33 K33 Dn ⊢
      generalize v32.heap.size = ha at Y ⊢
      clear B32
      clear D
      have D := Dn
      clear Dn
      have cd0 : v33.cell? ⟨h, 0, none⟩ = some (.int .i64 c.b) := (D 0 (by omega)).1
      have cd1 : v33.cell? ⟨h, 1, none⟩ = some (.int .i64 c.p) := (D 1 (by omega)).1
      have cd2 : v33.cell? ⟨h, 2, none⟩ = some (.int .i64 (k)) := (D 2 (by omega)).1
      have cd3 : v33.cell? ⟨h, 3, none⟩ = some (.int .i64 c.s) := (D 3 (by omega)).1
      have cd4 : v33.cell? ⟨h, 4, none⟩ = some (.int .i64 (c.m + o)) := (D 4 (by omega)).1
      have cd5 : v33.cell? ⟨h, 5, none⟩ = some (.int .i64 c.w) := (D 5 (by omega)).1
      have cd6 : v33.cell? ⟨h, 6, none⟩ = some (.bool c.f) := (D 6 (by omega)).1
      go_wp2_with fail
      refine (hO2 _).mono ?_
      rintro e v34 ⟨rfl, k34⟩
      clear hO2
      have B34 := B33.keep k34 (fun e => e)
      have K34 := K33.trans k34
      have Dn := D.keep k34 (fun e => e)
      have Yn := Y.keep k34 (fun e => e)
      clear B33 k34
      clear D
      have D := Dn
      clear Dn
      clear Y
      have Y := Yn
      clear Yn
      clear cd0 cd1 cd2 cd3 cd4 cd5 cd6
      have X : Blk (v34.alloc (.cells #[.int .i64 (rbI ((c.at k).mo o)), .int .i64 (spI ((c.at k).mo o)), .int .i64 (omI ((c.at k).mo o)), .int .i64 (obI ((c.at k).mo o)), .int .i64 (rpI ((c.at k).mo o)), .int .i64 (lpI ((c.at k).mo o)), .int .i64 (ebI ((c.at k).mo o)), .int .i64 (mbI ((c.at k).mo o)), .int .i64 (wnI ((c.at k).mo o)), .int .i64 (slI ((c.at k).mo o)), .int .i64 (mrI ((c.at k).mo o))] 24)) v34.heap.size 11 (scell [rbI ((c.at k).mo o), spI ((c.at k).mo o), omI ((c.at k).mo o), obI ((c.at k).mo o), rpI ((c.at k).mo o), lpI ((c.at k).mo o), ebI ((c.at k).mo o), mbI ((c.at k).mo o), wnI ((c.at k).mo o), slI ((c.at k).mo o), mrI ((c.at k).mo o)]) := blk_alloc v34 _ 24 11 _ (fun i hi => by
        have : i = 0 ∨ i = 1 ∨ i = 2 ∨ i = 3 ∨ i = 4 ∨ i = 5 ∨ i = 6 ∨ i = 7 ∨ i = 8 ∨ i = 9 ∨ i = 10 := by omega
        rcases this with rfl | rfl | rfl | rfl | rfl | rfl | rfl | rfl | rfl | rfl | rfl <;> rfl)
      have B35 := B34.alloc (.cells #[.int .i64 (rbI ((c.at k).mo o)), .int .i64 (spI ((c.at k).mo o)), .int .i64 (omI ((c.at k).mo o)), .int .i64 (obI ((c.at k).mo o)), .int .i64 (rpI ((c.at k).mo o)), .int .i64 (lpI ((c.at k).mo o)), .int .i64 (ebI ((c.at k).mo o)), .int .i64 (mbI ((c.at k).mo o)), .int .i64 (wnI ((c.at k).mo o)), .int .i64 (slI ((c.at k).mo o)), .int .i64 (mrI ((c.at k).mo o))] 24)
      have K35 := K34.alloc (.cells #[.int .i64 (rbI ((c.at k).mo o)), .int .i64 (spI ((c.at k).mo o)), .int .i64 (omI ((c.at k).mo o)), .int .i64 (obI ((c.at k).mo o)), .int .i64 (rpI ((c.at k).mo o)), .int .i64 (lpI ((c.at k).mo o)), .int .i64 (ebI ((c.at k).mo o)), .int .i64 (mbI ((c.at k).mo o)), .int .i64 (wnI ((c.at k).mo o)), .int .i64 (slI ((c.at k).mo o)), .int .i64 (mrI ((c.at k).mo o))] 24)
      have Dn := D.alloc (.cells #[.int .i64 (rbI ((c.at k).mo o)), .int .i64 (spI ((c.at k).mo o)), .int .i64 (omI ((c.at k).mo o)), .int .i64 (obI ((c.at k).mo o)), .int .i64 (rpI ((c.at k).mo o)), .int .i64 (lpI ((c.at k).mo o)), .int .i64 (ebI ((c.at k).mo o)), .int .i64 (mbI ((c.at k).mo o)), .int .i64 (wnI ((c.at k).mo o)), .int .i64 (slI ((c.at k).mo o)), .int .i64 (mrI ((c.at k).mo o))] 24)
      have Yn := Y.alloc (.cells #[.int .i64 (rbI ((c.at k).mo o)), .int .i64 (spI ((c.at k).mo o)), .int .i64 (omI ((c.at k).mo o)), .int .i64 (obI ((c.at k).mo o)), .int .i64 (rpI ((c.at k).mo o)), .int .i64 (lpI ((c.at k).mo o)), .int .i64 (ebI ((c.at k).mo o)), .int .i64 (mbI ((c.at k).mo o)), .int .i64 (wnI ((c.at k).mo o)), .int .i64 (slI ((c.at k).mo o)), .int .i64 (mrI ((c.at k).mo o))] 24)
      go_upto_region 27 with fail
      generalize v34.alloc (.cells #[.int .i64 (rbI ((c.at k).mo o)), .int .i64 (spI ((c.at k).mo o)), .int .i64 (omI ((c.at k).mo o)), .int .i64 (obI ((c.at k).mo o)), .int .i64 (rpI ((c.at k).mo o)), .int .i64 (lpI ((c.at k).mo o)), .int .i64 (ebI ((c.at k).mo o)), .int .i64 (mbI ((c.at k).mo o)), .int .i64 (wnI ((c.at k).mo o)), .int .i64 (slI ((c.at k).mo o)), .int .i64 (mrI ((c.at k).mo o))] 24) = v35 at X B35 K35 Dn Yn ⊢
      generalize v34.heap.size = hb at X ⊢
      clear B34
      clear D
      have D := Dn
      clear Dn
      clear Y
      have Y := Yn
      clear Yn
      have y1 : v35.cell? ⟨ha, 1, none⟩ = some (.int .i64 (spI (c.at k))) := (Y 1 (by omega)).1
      have x1 : v35.cell? ⟨hb, 1, none⟩ = some (.int .i64 (spI ((c.at k).mo o))) := (X 1 (by omega)).1
      have cd0 : v35.cell? ⟨h, 0, none⟩ = some (.int .i64 c.b) := (D 0 (by omega)).1
      have cd1 : v35.cell? ⟨h, 1, none⟩ = some (.int .i64 c.p) := (D 1 (by omega)).1
      have cd2 : v35.cell? ⟨h, 2, none⟩ = some (.int .i64 (k)) := (D 2 (by omega)).1
      have cd3 : v35.cell? ⟨h, 3, none⟩ = some (.int .i64 c.s) := (D 3 (by omega)).1
      have cd4 : v35.cell? ⟨h, 4, none⟩ = some (.int .i64 (c.m + o)) := (D 4 (by omega)).1
      have cd5 : v35.cell? ⟨h, 5, none⟩ = some (.int .i64 c.w) := (D 5 (by omega)).1
      have cd6 : v35.cell? ⟨h, 6, none⟩ = some (.bool c.f) := (D 6 (by omega)).1
      go_wp2_with fail
      refine (hG3 _).mono ?_
      rintro e v36 ⟨rfl, k36⟩
      clear hG3
      have B36 := B35.keep k36 (fun e => e)
      have K36 := K35.trans k36
      clear B35 k36
      go_wp2_with fail
      go_ret
      exact ⟨rfl, K36⟩
end Tg
end Go.Proofs.Ytoobjmhllfeffaa
