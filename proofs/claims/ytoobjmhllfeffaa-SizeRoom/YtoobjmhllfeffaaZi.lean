/-
  SizeLess' body, given what the program's calls answer.
-/
import Derived.Test.YtoobjmhllfeffaaZf
namespace Go.Proofs.Ytoobjmhllfeffaa
open Go.ChangeShapes Go.WideShapes Go.ChangeAt Go.RowKit
namespace Tg
set_option maxRecDepth 100000 in
set_option maxHeartbeats 2000000 in
theorem less_a (w : World) {c : Cf} {n f : Int} (hAw : ∀ w : World, Calls Try.prog 8 #[] w fun e w' => e = .returned (.bool true) ∧ Keep (fun _ => False) w w') (hOf : ∀ w : World, Calls Try.prog 9 #[.agg #[.int .i64 c.b, .int .i64 c.p, .int .i64 c.c, .int .i64 c.s, .int .i64 c.m, .int .i64 c.w, .bool c.f]] w fun e w' => e = .returned (.tuple #[.agg #[.int .i64 0, .int .i64 0, .int .i64 0, .int .i64 0, .int .i64 0, .int .i64 0, .int .i64 0, .int .i64 0, .int .i64 0, .int .i64 0, .int .i64 0], .int .i64 1]) ∧ Keep (fun _ => False) w w') (hGo : ∀ w : World, Calls Try.prog 12 #[.agg #[.int .i64 c.b, .int .i64 c.p, .int .i64 c.c, .int .i64 c.s, .int .i64 c.m, .int .i64 c.w, .bool c.f]] w fun e w' => e = .returned (.bool false) ∧ Keep (fun _ => False) w w') :
    Calls Try.prog 6 #[.agg #[.int .i64 c.b, .int .i64 c.p, .int .i64 c.c, .int .i64 c.s, .int .i64 c.m, .int .i64 c.w, .bool c.f], .int .i64 n, .int .i64 f] w fun e w' => e = .returned (.bool true) ∧ Keep (fun _ => False) w w' := by
  have B1 : Blk (w.alloc (.cells #[.int .i64 c.b, .int .i64 c.p, .int .i64 c.c, .int .i64 c.s, .int .i64 c.m, .int .i64 c.w, .bool c.f] 29)) w.heap.size 7 (ccell c) := blk_cf w c
  have K1 : Keep (fun _ => False) w (w.alloc (.cells #[.int .i64 c.b, .int .i64 c.p, .int .i64 c.c, .int .i64 c.s, .int .i64 c.m, .int .i64 c.w, .bool c.f] 29)) := (Keep.refl _ _).alloc _
  go_enter Try.func6, Try.ntmps6
  go_upto_region 1 with fail
  generalize w.alloc (.cells #[.int .i64 c.b, .int .i64 c.p, .int .i64 c.c, .int .i64 c.s, .int .i64 c.m, .int .i64 c.w, .bool c.f] 29) = v1 at B1 K1 ⊢
  generalize w.heap.size = g at B1 ⊢
  go_wp2_with fail
  refine (hAw _).mono ?_
  rintro e v2 ⟨rfl, k2⟩
  clear hAw
  have B2 := B1.keep k2 (fun e => e)
  have K2 := K1.trans k2
  clear B1 k2
  have cc0 : v2.cell? ⟨g, 0, none⟩ = some (.int .i64 c.b) := (B2 0 (by omega)).1
  have cc1 : v2.cell? ⟨g, 1, none⟩ = some (.int .i64 c.p) := (B2 1 (by omega)).1
  have cc2 : v2.cell? ⟨g, 2, none⟩ = some (.int .i64 c.c) := (B2 2 (by omega)).1
  have cc3 : v2.cell? ⟨g, 3, none⟩ = some (.int .i64 c.s) := (B2 3 (by omega)).1
  have cc4 : v2.cell? ⟨g, 4, none⟩ = some (.int .i64 c.m) := (B2 4 (by omega)).1
  have cc5 : v2.cell? ⟨g, 5, none⟩ = some (.int .i64 c.w) := (B2 5 (by omega)).1
  have cc6 : v2.cell? ⟨g, 6, none⟩ = some (.bool c.f) := (B2 6 (by omega)).1
  go_wp2_with fail
  refine (hOf _).mono ?_
  rintro e v3 ⟨rfl, k3⟩
  clear cc0 cc1 cc2 cc3 cc4 cc5 cc6
  clear hOf
  have B3 := B2.keep k3 (fun e => e)
  have K3 := K2.trans k3
  clear B2 k3
  have Z : Blk (v3.alloc (.cells #[.int .i64 0, .int .i64 0, .int .i64 0, .int .i64 0, .int .i64 0, .int .i64 0, .int .i64 0, .int .i64 0, .int .i64 0, .int .i64 0, .int .i64 0] 24)) v3.heap.size 11 (scell [0, 0, 0, 0, 0, 0, 0, 0, 0, 0, 0]) := blk_alloc v3 _ 24 11 _ (fun i hi => by
    have : i = 0 ∨ i = 1 ∨ i = 2 ∨ i = 3 ∨ i = 4 ∨ i = 5 ∨ i = 6 ∨ i = 7 ∨ i = 8 ∨ i = 9 ∨ i = 10 := by omega
    rcases this with rfl | rfl | rfl | rfl | rfl | rfl | rfl | rfl | rfl | rfl | rfl <;> rfl)
  have B4 := B3.alloc (.cells #[.int .i64 0, .int .i64 0, .int .i64 0, .int .i64 0, .int .i64 0, .int .i64 0, .int .i64 0, .int .i64 0, .int .i64 0, .int .i64 0, .int .i64 0] 24)
  have K4 := K3.alloc (.cells #[.int .i64 0, .int .i64 0, .int .i64 0, .int .i64 0, .int .i64 0, .int .i64 0, .int .i64 0, .int .i64 0, .int .i64 0, .int .i64 0, .int .i64 0] 24)
  go_upto_region 4 with fail
  generalize v3.alloc (.cells #[.int .i64 0, .int .i64 0, .int .i64 0, .int .i64 0, .int .i64 0, .int .i64 0, .int .i64 0, .int .i64 0, .int .i64 0, .int .i64 0, .int .i64 0] 24) = v4 at Z B4 K4  ⊢
  generalize v3.heap.size = h at Z ⊢
  clear B3
  have cc0 : v4.cell? ⟨g, 0, none⟩ = some (.int .i64 c.b) := (B4 0 (by omega)).1
  have cc1 : v4.cell? ⟨g, 1, none⟩ = some (.int .i64 c.p) := (B4 1 (by omega)).1
  have cc2 : v4.cell? ⟨g, 2, none⟩ = some (.int .i64 c.c) := (B4 2 (by omega)).1
  have cc3 : v4.cell? ⟨g, 3, none⟩ = some (.int .i64 c.s) := (B4 3 (by omega)).1
  have cc4 : v4.cell? ⟨g, 4, none⟩ = some (.int .i64 c.m) := (B4 4 (by omega)).1
  have cc5 : v4.cell? ⟨g, 5, none⟩ = some (.int .i64 c.w) := (B4 5 (by omega)).1
  have cc6 : v4.cell? ⟨g, 6, none⟩ = some (.bool c.f) := (B4 6 (by omega)).1
  go_wp2_with fail
  refine (hGo _).mono ?_
  rintro e v5 ⟨rfl, k5⟩
  clear cc0 cc1 cc2 cc3 cc4 cc5 cc6
  clear hGo
  have B5 := B4.keep k5 (fun e => e)
  have K5 := K4.trans k5
  have Zn := Z.keep k5 (fun e => e)
  clear B4 k5
  clear Z
  have Z := Zn
  clear Zn
  go_wp2_with fail
  go_ret
  exact ⟨rfl, K5⟩
set_option maxRecDepth 100000 in
set_option maxHeartbeats 2000000 in
theorem less_b (w : World) {c : Cf} {n f : Int} (hAw : ∀ w : World, Calls Try.prog 8 #[] w fun e w' => e = .returned (.bool true) ∧ Keep (fun _ => False) w w') (hOf : ∀ w : World, Calls Try.prog 9 #[.agg #[.int .i64 c.b, .int .i64 c.p, .int .i64 c.c, .int .i64 c.s, .int .i64 c.m, .int .i64 c.w, .bool c.f]] w fun e w' => e = .returned (.tuple #[.agg #[.int .i64 (rbI c), .int .i64 (spI c), .int .i64 (omI c), .int .i64 (obI c), .int .i64 (rpI c), .int .i64 (lpI c), .int .i64 (ebI c), .int .i64 (mbI c), .int .i64 (wnI c), .int .i64 (slI c), .int .i64 (mrI c)], .int .i64 0]) ∧ Keep (fun _ => False) w w') (hGo : ∀ w : World, Calls Try.prog 12 #[.agg #[.int .i64 c.b, .int .i64 c.p, .int .i64 c.c, .int .i64 c.s, .int .i64 c.m, .int .i64 c.w, .bool c.f]] w fun e w' => e = .returned (.bool false) ∧ Keep (fun _ => False) w w') :
    Calls Try.prog 6 #[.agg #[.int .i64 c.b, .int .i64 c.p, .int .i64 c.c, .int .i64 c.s, .int .i64 c.m, .int .i64 c.w, .bool c.f], .int .i64 n, .int .i64 f] w fun e w' => e = .returned (.bool true) ∧ Keep (fun _ => False) w w' := by
  have B1 : Blk (w.alloc (.cells #[.int .i64 c.b, .int .i64 c.p, .int .i64 c.c, .int .i64 c.s, .int .i64 c.m, .int .i64 c.w, .bool c.f] 29)) w.heap.size 7 (ccell c) := blk_cf w c
  have K1 : Keep (fun _ => False) w (w.alloc (.cells #[.int .i64 c.b, .int .i64 c.p, .int .i64 c.c, .int .i64 c.s, .int .i64 c.m, .int .i64 c.w, .bool c.f] 29)) := (Keep.refl _ _).alloc _
  go_enter Try.func6, Try.ntmps6
  go_upto_region 1 with fail
  generalize w.alloc (.cells #[.int .i64 c.b, .int .i64 c.p, .int .i64 c.c, .int .i64 c.s, .int .i64 c.m, .int .i64 c.w, .bool c.f] 29) = v1 at B1 K1 ⊢
  generalize w.heap.size = g at B1 ⊢
  go_wp2_with fail
  refine (hAw _).mono ?_
  rintro e v2 ⟨rfl, k2⟩
  clear hAw
  have B2 := B1.keep k2 (fun e => e)
  have K2 := K1.trans k2
  clear B1 k2
  have cc0 : v2.cell? ⟨g, 0, none⟩ = some (.int .i64 c.b) := (B2 0 (by omega)).1
  have cc1 : v2.cell? ⟨g, 1, none⟩ = some (.int .i64 c.p) := (B2 1 (by omega)).1
  have cc2 : v2.cell? ⟨g, 2, none⟩ = some (.int .i64 c.c) := (B2 2 (by omega)).1
  have cc3 : v2.cell? ⟨g, 3, none⟩ = some (.int .i64 c.s) := (B2 3 (by omega)).1
  have cc4 : v2.cell? ⟨g, 4, none⟩ = some (.int .i64 c.m) := (B2 4 (by omega)).1
  have cc5 : v2.cell? ⟨g, 5, none⟩ = some (.int .i64 c.w) := (B2 5 (by omega)).1
  have cc6 : v2.cell? ⟨g, 6, none⟩ = some (.bool c.f) := (B2 6 (by omega)).1
  go_wp2_with fail
  refine (hOf _).mono ?_
  rintro e v3 ⟨rfl, k3⟩
  clear cc0 cc1 cc2 cc3 cc4 cc5 cc6
  clear hOf
  have B3 := B2.keep k3 (fun e => e)
  have K3 := K2.trans k3
  clear B2 k3
  have Z : Blk (v3.alloc (.cells #[.int .i64 (rbI c), .int .i64 (spI c), .int .i64 (omI c), .int .i64 (obI c), .int .i64 (rpI c), .int .i64 (lpI c), .int .i64 (ebI c), .int .i64 (mbI c), .int .i64 (wnI c), .int .i64 (slI c), .int .i64 (mrI c)] 24)) v3.heap.size 11 (scell [rbI c, spI c, omI c, obI c, rpI c, lpI c, ebI c, mbI c, wnI c, slI c, mrI c]) := blk_alloc v3 _ 24 11 _ (fun i hi => by
    have : i = 0 ∨ i = 1 ∨ i = 2 ∨ i = 3 ∨ i = 4 ∨ i = 5 ∨ i = 6 ∨ i = 7 ∨ i = 8 ∨ i = 9 ∨ i = 10 := by omega
    rcases this with rfl | rfl | rfl | rfl | rfl | rfl | rfl | rfl | rfl | rfl | rfl <;> rfl)
  have B4 := B3.alloc (.cells #[.int .i64 (rbI c), .int .i64 (spI c), .int .i64 (omI c), .int .i64 (obI c), .int .i64 (rpI c), .int .i64 (lpI c), .int .i64 (ebI c), .int .i64 (mbI c), .int .i64 (wnI c), .int .i64 (slI c), .int .i64 (mrI c)] 24)
  have K4 := K3.alloc (.cells #[.int .i64 (rbI c), .int .i64 (spI c), .int .i64 (omI c), .int .i64 (obI c), .int .i64 (rpI c), .int .i64 (lpI c), .int .i64 (ebI c), .int .i64 (mbI c), .int .i64 (wnI c), .int .i64 (slI c), .int .i64 (mrI c)] 24)
  go_upto_region 4 with fail
  generalize v3.alloc (.cells #[.int .i64 (rbI c), .int .i64 (spI c), .int .i64 (omI c), .int .i64 (obI c), .int .i64 (rpI c), .int .i64 (lpI c), .int .i64 (ebI c), .int .i64 (mbI c), .int .i64 (wnI c), .int .i64 (slI c), .int .i64 (mrI c)] 24) = v4 at Z B4 K4  ⊢
  generalize v3.heap.size = h at Z ⊢
  clear B3
  have cc0 : v4.cell? ⟨g, 0, none⟩ = some (.int .i64 c.b) := (B4 0 (by omega)).1
  have cc1 : v4.cell? ⟨g, 1, none⟩ = some (.int .i64 c.p) := (B4 1 (by omega)).1
  have cc2 : v4.cell? ⟨g, 2, none⟩ = some (.int .i64 c.c) := (B4 2 (by omega)).1
  have cc3 : v4.cell? ⟨g, 3, none⟩ = some (.int .i64 c.s) := (B4 3 (by omega)).1
  have cc4 : v4.cell? ⟨g, 4, none⟩ = some (.int .i64 c.m) := (B4 4 (by omega)).1
  have cc5 : v4.cell? ⟨g, 5, none⟩ = some (.int .i64 c.w) := (B4 5 (by omega)).1
  have cc6 : v4.cell? ⟨g, 6, none⟩ = some (.bool c.f) := (B4 6 (by omega)).1
  go_wp2_with fail
  refine (hGo _).mono ?_
  rintro e v5 ⟨rfl, k5⟩
  clear cc0 cc1 cc2 cc3 cc4 cc5 cc6
  clear hGo
  have B5 := B4.keep k5 (fun e => e)
  have K5 := K4.trans k5
  have Zn := Z.keep k5 (fun e => e)
  clear B4 k5
  clear Z
  have Z := Zn
  clear Zn
  go_wp2_with fail
  go_ret
  exact ⟨rfl, K5⟩
set_option maxRecDepth 100000 in
set_option maxHeartbeats 2000000 in
theorem less_c (w : World) {c : Cf} {n f : Int} (hAw : ∀ w : World, Calls Try.prog 8 #[] w fun e w' => e = .returned (.bool true) ∧ Keep (fun _ => False) w w') (hOf : ∀ w : World, Calls Try.prog 9 #[.agg #[.int .i64 c.b, .int .i64 c.p, .int .i64 c.c, .int .i64 c.s, .int .i64 c.m, .int .i64 c.w, .bool c.f]] w fun e w' => e = .returned (.tuple #[.agg #[.int .i64 (rbI c), .int .i64 (spI c), .int .i64 (omI c), .int .i64 (obI c), .int .i64 (rpI c), .int .i64 (lpI c), .int .i64 (ebI c), .int .i64 (mbI c), .int .i64 (wnI c), .int .i64 (slI c), .int .i64 (mrI c)], .int .i64 0]) ∧ Keep (fun _ => False) w w') (hGo : ∀ w : World, Calls Try.prog 12 #[.agg #[.int .i64 c.b, .int .i64 c.p, .int .i64 c.c, .int .i64 c.s, .int .i64 c.m, .int .i64 c.w, .bool c.f]] w fun e w' => e = .returned (.bool true) ∧ Keep (fun _ => False) w w') (hS : Span c) (t1 : mrI c < c.b * c.p) (t2 : 3 * c.c ≤ c.b * c.p) (t3 : slI c < c.m) (d1 : n < 2) :
    Calls Try.prog 6 #[.agg #[.int .i64 c.b, .int .i64 c.p, .int .i64 c.c, .int .i64 c.s, .int .i64 c.m, .int .i64 c.w, .bool c.f], .int .i64 n, .int .i64 f] w fun e w' => e = .returned (.bool true) ∧ Keep (fun _ => False) w w' := by
  have hbp := bp_bd hS
  have hsp := sp_bd hS
  have hrp := rp_bd hS
  have hcc := hS.c2
  have hcc1 := hS.c1
  have q1 := wrapI (x := c.b * c.p) (by omega) (by omega)
  have q2 := wrapI (x := 3 * c.c) (by omega) (by omega)
  obtain ⟨BP, hBP⟩ : ∃ x, x = c.b * c.p := ⟨_, rfl⟩
  rw [← hBP] at t1 t2
  replace q1 : IntKind.i64.wrap (c.b * c.p) = BP := by rw [hBP]; exact q1
  have e1 : ¬ BP ≤ mrI c := by omega
  have e2 : ¬ BP < 3 * c.c := by omega
  have e3 : ¬ c.m ≤ slI c := by omega
  have e4 : ¬ spI c < 1 := by omega
  have e5 : ¬ rpI c < 1 := by omega
  clear hBP hbp hsp hrp hcc hcc1 t1 t2 t3 hS
  have B1 : Blk (w.alloc (.cells #[.int .i64 c.b, .int .i64 c.p, .int .i64 c.c, .int .i64 c.s, .int .i64 c.m, .int .i64 c.w, .bool c.f] 29)) w.heap.size 7 (ccell c) := blk_cf w c
  have K1 : Keep (fun _ => False) w (w.alloc (.cells #[.int .i64 c.b, .int .i64 c.p, .int .i64 c.c, .int .i64 c.s, .int .i64 c.m, .int .i64 c.w, .bool c.f] 29)) := (Keep.refl _ _).alloc _
  go_enter Try.func6, Try.ntmps6
  go_upto_region 1 with fail
  generalize w.alloc (.cells #[.int .i64 c.b, .int .i64 c.p, .int .i64 c.c, .int .i64 c.s, .int .i64 c.m, .int .i64 c.w, .bool c.f] 29) = v1 at B1 K1 ⊢
  generalize w.heap.size = g at B1 ⊢
  go_wp2_with fail
  refine (hAw _).mono ?_
  rintro e v2 ⟨rfl, k2⟩
  clear hAw
  have B2 := B1.keep k2 (fun e => e)
  have K2 := K1.trans k2
  clear B1 k2
  have cc0 : v2.cell? ⟨g, 0, none⟩ = some (.int .i64 c.b) := (B2 0 (by omega)).1
  have cc1 : v2.cell? ⟨g, 1, none⟩ = some (.int .i64 c.p) := (B2 1 (by omega)).1
  have cc2 : v2.cell? ⟨g, 2, none⟩ = some (.int .i64 c.c) := (B2 2 (by omega)).1
  have cc3 : v2.cell? ⟨g, 3, none⟩ = some (.int .i64 c.s) := (B2 3 (by omega)).1
  have cc4 : v2.cell? ⟨g, 4, none⟩ = some (.int .i64 c.m) := (B2 4 (by omega)).1
  have cc5 : v2.cell? ⟨g, 5, none⟩ = some (.int .i64 c.w) := (B2 5 (by omega)).1
  have cc6 : v2.cell? ⟨g, 6, none⟩ = some (.bool c.f) := (B2 6 (by omega)).1
  go_wp2_with fail
  refine (hOf _).mono ?_
  rintro e v3 ⟨rfl, k3⟩
  clear cc0 cc1 cc2 cc3 cc4 cc5 cc6
  clear hOf
  have B3 := B2.keep k3 (fun e => e)
  have K3 := K2.trans k3
  clear B2 k3
  have Z : Blk (v3.alloc (.cells #[.int .i64 (rbI c), .int .i64 (spI c), .int .i64 (omI c), .int .i64 (obI c), .int .i64 (rpI c), .int .i64 (lpI c), .int .i64 (ebI c), .int .i64 (mbI c), .int .i64 (wnI c), .int .i64 (slI c), .int .i64 (mrI c)] 24)) v3.heap.size 11 (scell [rbI c, spI c, omI c, obI c, rpI c, lpI c, ebI c, mbI c, wnI c, slI c, mrI c]) := blk_alloc v3 _ 24 11 _ (fun i hi => by
    have : i = 0 ∨ i = 1 ∨ i = 2 ∨ i = 3 ∨ i = 4 ∨ i = 5 ∨ i = 6 ∨ i = 7 ∨ i = 8 ∨ i = 9 ∨ i = 10 := by omega
    rcases this with rfl | rfl | rfl | rfl | rfl | rfl | rfl | rfl | rfl | rfl | rfl <;> rfl)
  have B4 := B3.alloc (.cells #[.int .i64 (rbI c), .int .i64 (spI c), .int .i64 (omI c), .int .i64 (obI c), .int .i64 (rpI c), .int .i64 (lpI c), .int .i64 (ebI c), .int .i64 (mbI c), .int .i64 (wnI c), .int .i64 (slI c), .int .i64 (mrI c)] 24)
  have K4 := K3.alloc (.cells #[.int .i64 (rbI c), .int .i64 (spI c), .int .i64 (omI c), .int .i64 (obI c), .int .i64 (rpI c), .int .i64 (lpI c), .int .i64 (ebI c), .int .i64 (mbI c), .int .i64 (wnI c), .int .i64 (slI c), .int .i64 (mrI c)] 24)
  go_upto_region 4 with fail
  generalize v3.alloc (.cells #[.int .i64 (rbI c), .int .i64 (spI c), .int .i64 (omI c), .int .i64 (obI c), .int .i64 (rpI c), .int .i64 (lpI c), .int .i64 (ebI c), .int .i64 (mbI c), .int .i64 (wnI c), .int .i64 (slI c), .int .i64 (mrI c)] 24) = v4 at Z B4 K4  ⊢
  generalize v3.heap.size = h at Z ⊢
  clear B3
  have cc0 : v4.cell? ⟨g, 0, none⟩ = some (.int .i64 c.b) := (B4 0 (by omega)).1
  have cc1 : v4.cell? ⟨g, 1, none⟩ = some (.int .i64 c.p) := (B4 1 (by omega)).1
  have cc2 : v4.cell? ⟨g, 2, none⟩ = some (.int .i64 c.c) := (B4 2 (by omega)).1
  have cc3 : v4.cell? ⟨g, 3, none⟩ = some (.int .i64 c.s) := (B4 3 (by omega)).1
  have cc4 : v4.cell? ⟨g, 4, none⟩ = some (.int .i64 c.m) := (B4 4 (by omega)).1
  have cc5 : v4.cell? ⟨g, 5, none⟩ = some (.int .i64 c.w) := (B4 5 (by omega)).1
  have cc6 : v4.cell? ⟨g, 6, none⟩ = some (.bool c.f) := (B4 6 (by omega)).1
  go_wp2_with fail
  refine (hGo _).mono ?_
  rintro e v5 ⟨rfl, k5⟩
  clear cc0 cc1 cc2 cc3 cc4 cc5 cc6
  clear hGo
  have B5 := B4.keep k5 (fun e => e)
  have K5 := K4.trans k5
  have Zn := Z.keep k5 (fun e => e)
  clear B4 k5
  clear Z
  have Z := Zn
  clear Zn
  have zz1 : v5.cell? ⟨h, 1, none⟩ = some (.int .i64 (spI c)) := (Z 1 (by omega)).1
  have zz4 : v5.cell? ⟨h, 4, none⟩ = some (.int .i64 (rpI c)) := (Z 4 (by omega)).1
  have zz9 : v5.cell? ⟨h, 9, none⟩ = some (.int .i64 (slI c)) := (Z 9 (by omega)).1
  have zz10 : v5.cell? ⟨h, 10, none⟩ = some (.int .i64 (mrI c)) := (Z 10 (by omega)).1
  have cc0 : v5.cell? ⟨g, 0, none⟩ = some (.int .i64 c.b) := (B5 0 (by omega)).1
  have cc1 : v5.cell? ⟨g, 1, none⟩ = some (.int .i64 c.p) := (B5 1 (by omega)).1
  have cc2 : v5.cell? ⟨g, 2, none⟩ = some (.int .i64 c.c) := (B5 2 (by omega)).1
  have cc4 : v5.cell? ⟨g, 4, none⟩ = some (.int .i64 c.m) := (B5 4 (by omega)).1
  go_wp2_with fail
  go_ret
  exact ⟨rfl, K5⟩
set_option maxRecDepth 100000 in
set_option maxHeartbeats 2000000 in
theorem less_d (w : World) {c : Cf} {n f : Int} (hAw : ∀ w : World, Calls Try.prog 8 #[] w fun e w' => e = .returned (.bool true) ∧ Keep (fun _ => False) w w') (hOf : ∀ w : World, Calls Try.prog 9 #[.agg #[.int .i64 c.b, .int .i64 c.p, .int .i64 c.c, .int .i64 c.s, .int .i64 c.m, .int .i64 c.w, .bool c.f]] w fun e w' => e = .returned (.tuple #[.agg #[.int .i64 (rbI c), .int .i64 (spI c), .int .i64 (omI c), .int .i64 (obI c), .int .i64 (rpI c), .int .i64 (lpI c), .int .i64 (ebI c), .int .i64 (mbI c), .int .i64 (wnI c), .int .i64 (slI c), .int .i64 (mrI c)], .int .i64 0]) ∧ Keep (fun _ => False) w w') (hGo : ∀ w : World, Calls Try.prog 12 #[.agg #[.int .i64 c.b, .int .i64 c.p, .int .i64 c.c, .int .i64 c.s, .int .i64 c.m, .int .i64 c.w, .bool c.f]] w fun e w' => e = .returned (.bool true) ∧ Keep (fun _ => False) w w') (hS : Span c) (t1 : mrI c < c.b * c.p) (t2 : 3 * c.c ≤ c.b * c.p) (t3 : slI c < c.m) (d1 : ¬ n < 2) (d2 : c.c < n) :
    Calls Try.prog 6 #[.agg #[.int .i64 c.b, .int .i64 c.p, .int .i64 c.c, .int .i64 c.s, .int .i64 c.m, .int .i64 c.w, .bool c.f], .int .i64 n, .int .i64 f] w fun e w' => e = .returned (.bool true) ∧ Keep (fun _ => False) w w' := by
  have hbp := bp_bd hS
  have hsp := sp_bd hS
  have hrp := rp_bd hS
  have hcc := hS.c2
  have hcc1 := hS.c1
  have q1 := wrapI (x := c.b * c.p) (by omega) (by omega)
  have q2 := wrapI (x := 3 * c.c) (by omega) (by omega)
  obtain ⟨BP, hBP⟩ : ∃ x, x = c.b * c.p := ⟨_, rfl⟩
  rw [← hBP] at t1 t2
  replace q1 : IntKind.i64.wrap (c.b * c.p) = BP := by rw [hBP]; exact q1
  have e1 : ¬ BP ≤ mrI c := by omega
  have e2 : ¬ BP < 3 * c.c := by omega
  have e3 : ¬ c.m ≤ slI c := by omega
  have e4 : ¬ spI c < 1 := by omega
  have e5 : ¬ rpI c < 1 := by omega
  clear hBP hbp hsp hrp hcc hcc1 t1 t2 t3 hS
  have B1 : Blk (w.alloc (.cells #[.int .i64 c.b, .int .i64 c.p, .int .i64 c.c, .int .i64 c.s, .int .i64 c.m, .int .i64 c.w, .bool c.f] 29)) w.heap.size 7 (ccell c) := blk_cf w c
  have K1 : Keep (fun _ => False) w (w.alloc (.cells #[.int .i64 c.b, .int .i64 c.p, .int .i64 c.c, .int .i64 c.s, .int .i64 c.m, .int .i64 c.w, .bool c.f] 29)) := (Keep.refl _ _).alloc _
  go_enter Try.func6, Try.ntmps6
  go_upto_region 1 with fail
  generalize w.alloc (.cells #[.int .i64 c.b, .int .i64 c.p, .int .i64 c.c, .int .i64 c.s, .int .i64 c.m, .int .i64 c.w, .bool c.f] 29) = v1 at B1 K1 ⊢
  generalize w.heap.size = g at B1 ⊢
  go_wp2_with fail
  refine (hAw _).mono ?_
  rintro e v2 ⟨rfl, k2⟩
  clear hAw
  have B2 := B1.keep k2 (fun e => e)
  have K2 := K1.trans k2
  clear B1 k2
  have cc0 : v2.cell? ⟨g, 0, none⟩ = some (.int .i64 c.b) := (B2 0 (by omega)).1
  have cc1 : v2.cell? ⟨g, 1, none⟩ = some (.int .i64 c.p) := (B2 1 (by omega)).1
  have cc2 : v2.cell? ⟨g, 2, none⟩ = some (.int .i64 c.c) := (B2 2 (by omega)).1
  have cc3 : v2.cell? ⟨g, 3, none⟩ = some (.int .i64 c.s) := (B2 3 (by omega)).1
  have cc4 : v2.cell? ⟨g, 4, none⟩ = some (.int .i64 c.m) := (B2 4 (by omega)).1
  have cc5 : v2.cell? ⟨g, 5, none⟩ = some (.int .i64 c.w) := (B2 5 (by omega)).1
  have cc6 : v2.cell? ⟨g, 6, none⟩ = some (.bool c.f) := (B2 6 (by omega)).1
  go_wp2_with fail
  refine (hOf _).mono ?_
  rintro e v3 ⟨rfl, k3⟩
  clear cc0 cc1 cc2 cc3 cc4 cc5 cc6
  clear hOf
  have B3 := B2.keep k3 (fun e => e)
  have K3 := K2.trans k3
  clear B2 k3
  have Z : Blk (v3.alloc (.cells #[.int .i64 (rbI c), .int .i64 (spI c), .int .i64 (omI c), .int .i64 (obI c), .int .i64 (rpI c), .int .i64 (lpI c), .int .i64 (ebI c), .int .i64 (mbI c), .int .i64 (wnI c), .int .i64 (slI c), .int .i64 (mrI c)] 24)) v3.heap.size 11 (scell [rbI c, spI c, omI c, obI c, rpI c, lpI c, ebI c, mbI c, wnI c, slI c, mrI c]) := blk_alloc v3 _ 24 11 _ (fun i hi => by
    have : i = 0 ∨ i = 1 ∨ i = 2 ∨ i = 3 ∨ i = 4 ∨ i = 5 ∨ i = 6 ∨ i = 7 ∨ i = 8 ∨ i = 9 ∨ i = 10 := by omega
    rcases this with rfl | rfl | rfl | rfl | rfl | rfl | rfl | rfl | rfl | rfl | rfl <;> rfl)
  have B4 := B3.alloc (.cells #[.int .i64 (rbI c), .int .i64 (spI c), .int .i64 (omI c), .int .i64 (obI c), .int .i64 (rpI c), .int .i64 (lpI c), .int .i64 (ebI c), .int .i64 (mbI c), .int .i64 (wnI c), .int .i64 (slI c), .int .i64 (mrI c)] 24)
  have K4 := K3.alloc (.cells #[.int .i64 (rbI c), .int .i64 (spI c), .int .i64 (omI c), .int .i64 (obI c), .int .i64 (rpI c), .int .i64 (lpI c), .int .i64 (ebI c), .int .i64 (mbI c), .int .i64 (wnI c), .int .i64 (slI c), .int .i64 (mrI c)] 24)
  go_upto_region 4 with fail
  generalize v3.alloc (.cells #[.int .i64 (rbI c), .int .i64 (spI c), .int .i64 (omI c), .int .i64 (obI c), .int .i64 (rpI c), .int .i64 (lpI c), .int .i64 (ebI c), .int .i64 (mbI c), .int .i64 (wnI c), .int .i64 (slI c), .int .i64 (mrI c)] 24) = v4 at Z B4 K4  ⊢
  generalize v3.heap.size = h at Z ⊢
  clear B3
  have cc0 : v4.cell? ⟨g, 0, none⟩ = some (.int .i64 c.b) := (B4 0 (by omega)).1
  have cc1 : v4.cell? ⟨g, 1, none⟩ = some (.int .i64 c.p) := (B4 1 (by omega)).1
  have cc2 : v4.cell? ⟨g, 2, none⟩ = some (.int .i64 c.c) := (B4 2 (by omega)).1
  have cc3 : v4.cell? ⟨g, 3, none⟩ = some (.int .i64 c.s) := (B4 3 (by omega)).1
  have cc4 : v4.cell? ⟨g, 4, none⟩ = some (.int .i64 c.m) := (B4 4 (by omega)).1
  have cc5 : v4.cell? ⟨g, 5, none⟩ = some (.int .i64 c.w) := (B4 5 (by omega)).1
  have cc6 : v4.cell? ⟨g, 6, none⟩ = some (.bool c.f) := (B4 6 (by omega)).1
  go_wp2_with fail
  refine (hGo _).mono ?_
  rintro e v5 ⟨rfl, k5⟩
  clear cc0 cc1 cc2 cc3 cc4 cc5 cc6
  clear hGo
  have B5 := B4.keep k5 (fun e => e)
  have K5 := K4.trans k5
  have Zn := Z.keep k5 (fun e => e)
  clear B4 k5
  clear Z
  have Z := Zn
  clear Zn
  have zz1 : v5.cell? ⟨h, 1, none⟩ = some (.int .i64 (spI c)) := (Z 1 (by omega)).1
  have zz4 : v5.cell? ⟨h, 4, none⟩ = some (.int .i64 (rpI c)) := (Z 4 (by omega)).1
  have zz9 : v5.cell? ⟨h, 9, none⟩ = some (.int .i64 (slI c)) := (Z 9 (by omega)).1
  have zz10 : v5.cell? ⟨h, 10, none⟩ = some (.int .i64 (mrI c)) := (Z 10 (by omega)).1
  have cc0 : v5.cell? ⟨g, 0, none⟩ = some (.int .i64 c.b) := (B5 0 (by omega)).1
  have cc1 : v5.cell? ⟨g, 1, none⟩ = some (.int .i64 c.p) := (B5 1 (by omega)).1
  have cc2 : v5.cell? ⟨g, 2, none⟩ = some (.int .i64 c.c) := (B5 2 (by omega)).1
  have cc4 : v5.cell? ⟨g, 4, none⟩ = some (.int .i64 c.m) := (B5 4 (by omega)).1
  go_wp2_with fail
  go_ret
  exact ⟨rfl, K5⟩
set_option maxRecDepth 100000 in
set_option maxHeartbeats 2000000 in
theorem less_e (w : World) {c : Cf} {n f : Int} (hAw : ∀ w : World, Calls Try.prog 8 #[] w fun e w' => e = .returned (.bool true) ∧ Keep (fun _ => False) w w') (hOf : ∀ w : World, Calls Try.prog 9 #[.agg #[.int .i64 c.b, .int .i64 c.p, .int .i64 c.c, .int .i64 c.s, .int .i64 c.m, .int .i64 c.w, .bool c.f]] w fun e w' => e = .returned (.tuple #[.agg #[.int .i64 (rbI c), .int .i64 (spI c), .int .i64 (omI c), .int .i64 (obI c), .int .i64 (rpI c), .int .i64 (lpI c), .int .i64 (ebI c), .int .i64 (mbI c), .int .i64 (wnI c), .int .i64 (slI c), .int .i64 (mrI c)], .int .i64 0]) ∧ Keep (fun _ => False) w w') (hGo : ∀ w : World, Calls Try.prog 12 #[.agg #[.int .i64 c.b, .int .i64 c.p, .int .i64 c.c, .int .i64 c.s, .int .i64 c.m, .int .i64 c.w, .bool c.f]] w fun e w' => e = .returned (.bool true) ∧ Keep (fun _ => False) w w') (hS : Span c) (t1 : mrI c < c.b * c.p) (t2 : 3 * c.c ≤ c.b * c.p) (t3 : slI c < c.m) (d1 : ¬ n < 2) (d2 : ¬ c.c < n) (d3 : f < 1) :
    Calls Try.prog 6 #[.agg #[.int .i64 c.b, .int .i64 c.p, .int .i64 c.c, .int .i64 c.s, .int .i64 c.m, .int .i64 c.w, .bool c.f], .int .i64 n, .int .i64 f] w fun e w' => e = .returned (.bool true) ∧ Keep (fun _ => False) w w' := by
  have hbp := bp_bd hS
  have hsp := sp_bd hS
  have hrp := rp_bd hS
  have hcc := hS.c2
  have hcc1 := hS.c1
  have q1 := wrapI (x := c.b * c.p) (by omega) (by omega)
  have q2 := wrapI (x := 3 * c.c) (by omega) (by omega)
  obtain ⟨BP, hBP⟩ : ∃ x, x = c.b * c.p := ⟨_, rfl⟩
  rw [← hBP] at t1 t2
  replace q1 : IntKind.i64.wrap (c.b * c.p) = BP := by rw [hBP]; exact q1
  have e1 : ¬ BP ≤ mrI c := by omega
  have e2 : ¬ BP < 3 * c.c := by omega
  have e3 : ¬ c.m ≤ slI c := by omega
  have e4 : ¬ spI c < 1 := by omega
  have e5 : ¬ rpI c < 1 := by omega
  clear hBP hbp hsp hrp hcc hcc1 t1 t2 t3 hS
  have B1 : Blk (w.alloc (.cells #[.int .i64 c.b, .int .i64 c.p, .int .i64 c.c, .int .i64 c.s, .int .i64 c.m, .int .i64 c.w, .bool c.f] 29)) w.heap.size 7 (ccell c) := blk_cf w c
  have K1 : Keep (fun _ => False) w (w.alloc (.cells #[.int .i64 c.b, .int .i64 c.p, .int .i64 c.c, .int .i64 c.s, .int .i64 c.m, .int .i64 c.w, .bool c.f] 29)) := (Keep.refl _ _).alloc _
  go_enter Try.func6, Try.ntmps6
  go_upto_region 1 with fail
  generalize w.alloc (.cells #[.int .i64 c.b, .int .i64 c.p, .int .i64 c.c, .int .i64 c.s, .int .i64 c.m, .int .i64 c.w, .bool c.f] 29) = v1 at B1 K1 ⊢
  generalize w.heap.size = g at B1 ⊢
  go_wp2_with fail
  refine (hAw _).mono ?_
  rintro e v2 ⟨rfl, k2⟩
  clear hAw
  have B2 := B1.keep k2 (fun e => e)
  have K2 := K1.trans k2
  clear B1 k2
  have cc0 : v2.cell? ⟨g, 0, none⟩ = some (.int .i64 c.b) := (B2 0 (by omega)).1
  have cc1 : v2.cell? ⟨g, 1, none⟩ = some (.int .i64 c.p) := (B2 1 (by omega)).1
  have cc2 : v2.cell? ⟨g, 2, none⟩ = some (.int .i64 c.c) := (B2 2 (by omega)).1
  have cc3 : v2.cell? ⟨g, 3, none⟩ = some (.int .i64 c.s) := (B2 3 (by omega)).1
  have cc4 : v2.cell? ⟨g, 4, none⟩ = some (.int .i64 c.m) := (B2 4 (by omega)).1
  have cc5 : v2.cell? ⟨g, 5, none⟩ = some (.int .i64 c.w) := (B2 5 (by omega)).1
  have cc6 : v2.cell? ⟨g, 6, none⟩ = some (.bool c.f) := (B2 6 (by omega)).1
  go_wp2_with fail
  refine (hOf _).mono ?_
  rintro e v3 ⟨rfl, k3⟩
  clear cc0 cc1 cc2 cc3 cc4 cc5 cc6
  clear hOf
  have B3 := B2.keep k3 (fun e => e)
  have K3 := K2.trans k3
  clear B2 k3
  have Z : Blk (v3.alloc (.cells #[.int .i64 (rbI c), .int .i64 (spI c), .int .i64 (omI c), .int .i64 (obI c), .int .i64 (rpI c), .int .i64 (lpI c), .int .i64 (ebI c), .int .i64 (mbI c), .int .i64 (wnI c), .int .i64 (slI c), .int .i64 (mrI c)] 24)) v3.heap.size 11 (scell [rbI c, spI c, omI c, obI c, rpI c, lpI c, ebI c, mbI c, wnI c, slI c, mrI c]) := blk_alloc v3 _ 24 11 _ (fun i hi => by
    have : i = 0 ∨ i = 1 ∨ i = 2 ∨ i = 3 ∨ i = 4 ∨ i = 5 ∨ i = 6 ∨ i = 7 ∨ i = 8 ∨ i = 9 ∨ i = 10 := by omega
    rcases this with rfl | rfl | rfl | rfl | rfl | rfl | rfl | rfl | rfl | rfl | rfl <;> rfl)
  have B4 := B3.alloc (.cells #[.int .i64 (rbI c), .int .i64 (spI c), .int .i64 (omI c), .int .i64 (obI c), .int .i64 (rpI c), .int .i64 (lpI c), .int .i64 (ebI c), .int .i64 (mbI c), .int .i64 (wnI c), .int .i64 (slI c), .int .i64 (mrI c)] 24)
  have K4 := K3.alloc (.cells #[.int .i64 (rbI c), .int .i64 (spI c), .int .i64 (omI c), .int .i64 (obI c), .int .i64 (rpI c), .int .i64 (lpI c), .int .i64 (ebI c), .int .i64 (mbI c), .int .i64 (wnI c), .int .i64 (slI c), .int .i64 (mrI c)] 24)
  go_upto_region 4 with fail
  generalize v3.alloc (.cells #[.int .i64 (rbI c), .int .i64 (spI c), .int .i64 (omI c), .int .i64 (obI c), .int .i64 (rpI c), .int .i64 (lpI c), .int .i64 (ebI c), .int .i64 (mbI c), .int .i64 (wnI c), .int .i64 (slI c), .int .i64 (mrI c)] 24) = v4 at Z B4 K4  ⊢
  generalize v3.heap.size = h at Z ⊢
  clear B3
  have cc0 : v4.cell? ⟨g, 0, none⟩ = some (.int .i64 c.b) := (B4 0 (by omega)).1
  have cc1 : v4.cell? ⟨g, 1, none⟩ = some (.int .i64 c.p) := (B4 1 (by omega)).1
  have cc2 : v4.cell? ⟨g, 2, none⟩ = some (.int .i64 c.c) := (B4 2 (by omega)).1
  have cc3 : v4.cell? ⟨g, 3, none⟩ = some (.int .i64 c.s) := (B4 3 (by omega)).1
  have cc4 : v4.cell? ⟨g, 4, none⟩ = some (.int .i64 c.m) := (B4 4 (by omega)).1
  have cc5 : v4.cell? ⟨g, 5, none⟩ = some (.int .i64 c.w) := (B4 5 (by omega)).1
  have cc6 : v4.cell? ⟨g, 6, none⟩ = some (.bool c.f) := (B4 6 (by omega)).1
  go_wp2_with fail
  refine (hGo _).mono ?_
  rintro e v5 ⟨rfl, k5⟩
  clear cc0 cc1 cc2 cc3 cc4 cc5 cc6
  clear hGo
  have B5 := B4.keep k5 (fun e => e)
  have K5 := K4.trans k5
  have Zn := Z.keep k5 (fun e => e)
  clear B4 k5
  clear Z
  have Z := Zn
  clear Zn
  have zz1 : v5.cell? ⟨h, 1, none⟩ = some (.int .i64 (spI c)) := (Z 1 (by omega)).1
  have zz4 : v5.cell? ⟨h, 4, none⟩ = some (.int .i64 (rpI c)) := (Z 4 (by omega)).1
  have zz9 : v5.cell? ⟨h, 9, none⟩ = some (.int .i64 (slI c)) := (Z 9 (by omega)).1
  have zz10 : v5.cell? ⟨h, 10, none⟩ = some (.int .i64 (mrI c)) := (Z 10 (by omega)).1
  have cc0 : v5.cell? ⟨g, 0, none⟩ = some (.int .i64 c.b) := (B5 0 (by omega)).1
  have cc1 : v5.cell? ⟨g, 1, none⟩ = some (.int .i64 c.p) := (B5 1 (by omega)).1
  have cc2 : v5.cell? ⟨g, 2, none⟩ = some (.int .i64 c.c) := (B5 2 (by omega)).1
  have cc4 : v5.cell? ⟨g, 4, none⟩ = some (.int .i64 c.m) := (B5 4 (by omega)).1
  go_wp2_with fail
  go_ret
  exact ⟨rfl, K5⟩
set_option maxRecDepth 100000 in
set_option maxHeartbeats 2000000 in
theorem less_f (w : World) {c : Cf} {n f : Int} (hAw : ∀ w : World, Calls Try.prog 8 #[] w fun e w' => e = .returned (.bool true) ∧ Keep (fun _ => False) w w') (hOf : ∀ w : World, Calls Try.prog 9 #[.agg #[.int .i64 c.b, .int .i64 c.p, .int .i64 c.c, .int .i64 c.s, .int .i64 c.m, .int .i64 c.w, .bool c.f]] w fun e w' => e = .returned (.tuple #[.agg #[.int .i64 (rbI c), .int .i64 (spI c), .int .i64 (omI c), .int .i64 (obI c), .int .i64 (rpI c), .int .i64 (lpI c), .int .i64 (ebI c), .int .i64 (mbI c), .int .i64 (wnI c), .int .i64 (slI c), .int .i64 (mrI c)], .int .i64 0]) ∧ Keep (fun _ => False) w w') (hGo : ∀ w : World, Calls Try.prog 12 #[.agg #[.int .i64 c.b, .int .i64 c.p, .int .i64 c.c, .int .i64 c.s, .int .i64 c.m, .int .i64 c.w, .bool c.f]] w fun e w' => e = .returned (.bool true) ∧ Keep (fun _ => False) w w') (hS : Span c) (t1 : mrI c < c.b * c.p) (t2 : 3 * c.c ≤ c.b * c.p) (t3 : slI c < c.m) (d1 : ¬ n < 2) (d2 : ¬ c.c < n) (d3 : ¬ f < 1) (d4 : 1000 < f) :
    Calls Try.prog 6 #[.agg #[.int .i64 c.b, .int .i64 c.p, .int .i64 c.c, .int .i64 c.s, .int .i64 c.m, .int .i64 c.w, .bool c.f], .int .i64 n, .int .i64 f] w fun e w' => e = .returned (.bool true) ∧ Keep (fun _ => False) w w' := by
  have hbp := bp_bd hS
  have hsp := sp_bd hS
  have hrp := rp_bd hS
  have hcc := hS.c2
  have hcc1 := hS.c1
  have q1 := wrapI (x := c.b * c.p) (by omega) (by omega)
  have q2 := wrapI (x := 3 * c.c) (by omega) (by omega)
  obtain ⟨BP, hBP⟩ : ∃ x, x = c.b * c.p := ⟨_, rfl⟩
  rw [← hBP] at t1 t2
  replace q1 : IntKind.i64.wrap (c.b * c.p) = BP := by rw [hBP]; exact q1
  have e1 : ¬ BP ≤ mrI c := by omega
  have e2 : ¬ BP < 3 * c.c := by omega
  have e3 : ¬ c.m ≤ slI c := by omega
  have e4 : ¬ spI c < 1 := by omega
  have e5 : ¬ rpI c < 1 := by omega
  clear hBP hbp hsp hrp hcc hcc1 t1 t2 t3 hS
  have B1 : Blk (w.alloc (.cells #[.int .i64 c.b, .int .i64 c.p, .int .i64 c.c, .int .i64 c.s, .int .i64 c.m, .int .i64 c.w, .bool c.f] 29)) w.heap.size 7 (ccell c) := blk_cf w c
  have K1 : Keep (fun _ => False) w (w.alloc (.cells #[.int .i64 c.b, .int .i64 c.p, .int .i64 c.c, .int .i64 c.s, .int .i64 c.m, .int .i64 c.w, .bool c.f] 29)) := (Keep.refl _ _).alloc _
  go_enter Try.func6, Try.ntmps6
  go_upto_region 1 with fail
  generalize w.alloc (.cells #[.int .i64 c.b, .int .i64 c.p, .int .i64 c.c, .int .i64 c.s, .int .i64 c.m, .int .i64 c.w, .bool c.f] 29) = v1 at B1 K1 ⊢
  generalize w.heap.size = g at B1 ⊢
  go_wp2_with fail
  refine (hAw _).mono ?_
  rintro e v2 ⟨rfl, k2⟩
  clear hAw
  have B2 := B1.keep k2 (fun e => e)
  have K2 := K1.trans k2
  clear B1 k2
  have cc0 : v2.cell? ⟨g, 0, none⟩ = some (.int .i64 c.b) := (B2 0 (by omega)).1
  have cc1 : v2.cell? ⟨g, 1, none⟩ = some (.int .i64 c.p) := (B2 1 (by omega)).1
  have cc2 : v2.cell? ⟨g, 2, none⟩ = some (.int .i64 c.c) := (B2 2 (by omega)).1
  have cc3 : v2.cell? ⟨g, 3, none⟩ = some (.int .i64 c.s) := (B2 3 (by omega)).1
  have cc4 : v2.cell? ⟨g, 4, none⟩ = some (.int .i64 c.m) := (B2 4 (by omega)).1
  have cc5 : v2.cell? ⟨g, 5, none⟩ = some (.int .i64 c.w) := (B2 5 (by omega)).1
  have cc6 : v2.cell? ⟨g, 6, none⟩ = some (.bool c.f) := (B2 6 (by omega)).1
  go_wp2_with fail
  refine (hOf _).mono ?_
  rintro e v3 ⟨rfl, k3⟩
  clear cc0 cc1 cc2 cc3 cc4 cc5 cc6
  clear hOf
  have B3 := B2.keep k3 (fun e => e)
  have K3 := K2.trans k3
  clear B2 k3
  have Z : Blk (v3.alloc (.cells #[.int .i64 (rbI c), .int .i64 (spI c), .int .i64 (omI c), .int .i64 (obI c), .int .i64 (rpI c), .int .i64 (lpI c), .int .i64 (ebI c), .int .i64 (mbI c), .int .i64 (wnI c), .int .i64 (slI c), .int .i64 (mrI c)] 24)) v3.heap.size 11 (scell [rbI c, spI c, omI c, obI c, rpI c, lpI c, ebI c, mbI c, wnI c, slI c, mrI c]) := blk_alloc v3 _ 24 11 _ (fun i hi => by
    have : i = 0 ∨ i = 1 ∨ i = 2 ∨ i = 3 ∨ i = 4 ∨ i = 5 ∨ i = 6 ∨ i = 7 ∨ i = 8 ∨ i = 9 ∨ i = 10 := by omega
    rcases this with rfl | rfl | rfl | rfl | rfl | rfl | rfl | rfl | rfl | rfl | rfl <;> rfl)
  have B4 := B3.alloc (.cells #[.int .i64 (rbI c), .int .i64 (spI c), .int .i64 (omI c), .int .i64 (obI c), .int .i64 (rpI c), .int .i64 (lpI c), .int .i64 (ebI c), .int .i64 (mbI c), .int .i64 (wnI c), .int .i64 (slI c), .int .i64 (mrI c)] 24)
  have K4 := K3.alloc (.cells #[.int .i64 (rbI c), .int .i64 (spI c), .int .i64 (omI c), .int .i64 (obI c), .int .i64 (rpI c), .int .i64 (lpI c), .int .i64 (ebI c), .int .i64 (mbI c), .int .i64 (wnI c), .int .i64 (slI c), .int .i64 (mrI c)] 24)
  go_upto_region 4 with fail
  generalize v3.alloc (.cells #[.int .i64 (rbI c), .int .i64 (spI c), .int .i64 (omI c), .int .i64 (obI c), .int .i64 (rpI c), .int .i64 (lpI c), .int .i64 (ebI c), .int .i64 (mbI c), .int .i64 (wnI c), .int .i64 (slI c), .int .i64 (mrI c)] 24) = v4 at Z B4 K4  ⊢
  generalize v3.heap.size = h at Z ⊢
  clear B3
  have cc0 : v4.cell? ⟨g, 0, none⟩ = some (.int .i64 c.b) := (B4 0 (by omega)).1
  have cc1 : v4.cell? ⟨g, 1, none⟩ = some (.int .i64 c.p) := (B4 1 (by omega)).1
  have cc2 : v4.cell? ⟨g, 2, none⟩ = some (.int .i64 c.c) := (B4 2 (by omega)).1
  have cc3 : v4.cell? ⟨g, 3, none⟩ = some (.int .i64 c.s) := (B4 3 (by omega)).1
  have cc4 : v4.cell? ⟨g, 4, none⟩ = some (.int .i64 c.m) := (B4 4 (by omega)).1
  have cc5 : v4.cell? ⟨g, 5, none⟩ = some (.int .i64 c.w) := (B4 5 (by omega)).1
  have cc6 : v4.cell? ⟨g, 6, none⟩ = some (.bool c.f) := (B4 6 (by omega)).1
  go_wp2_with fail
  refine (hGo _).mono ?_
  rintro e v5 ⟨rfl, k5⟩
  clear cc0 cc1 cc2 cc3 cc4 cc5 cc6
  clear hGo
  have B5 := B4.keep k5 (fun e => e)
  have K5 := K4.trans k5
  have Zn := Z.keep k5 (fun e => e)
  clear B4 k5
  clear Z
  have Z := Zn
  clear Zn
  have zz1 : v5.cell? ⟨h, 1, none⟩ = some (.int .i64 (spI c)) := (Z 1 (by omega)).1
  have zz4 : v5.cell? ⟨h, 4, none⟩ = some (.int .i64 (rpI c)) := (Z 4 (by omega)).1
  have zz9 : v5.cell? ⟨h, 9, none⟩ = some (.int .i64 (slI c)) := (Z 9 (by omega)).1
  have zz10 : v5.cell? ⟨h, 10, none⟩ = some (.int .i64 (mrI c)) := (Z 10 (by omega)).1
  have cc0 : v5.cell? ⟨g, 0, none⟩ = some (.int .i64 c.b) := (B5 0 (by omega)).1
  have cc1 : v5.cell? ⟨g, 1, none⟩ = some (.int .i64 c.p) := (B5 1 (by omega)).1
  have cc2 : v5.cell? ⟨g, 2, none⟩ = some (.int .i64 c.c) := (B5 2 (by omega)).1
  have cc4 : v5.cell? ⟨g, 4, none⟩ = some (.int .i64 c.m) := (B5 4 (by omega)).1
  go_wp2_with fail
  go_ret
  exact ⟨rfl, K5⟩
set_option maxRecDepth 100000 in
set_option maxHeartbeats 2000000 in
theorem less_g (w : World) {c : Cf} {n f : Int} (hAw : ∀ w : World, Calls Try.prog 8 #[] w fun e w' => e = .returned (.bool true) ∧ Keep (fun _ => False) w w') (hOf : ∀ w : World, Calls Try.prog 9 #[.agg #[.int .i64 c.b, .int .i64 c.p, .int .i64 c.c, .int .i64 c.s, .int .i64 c.m, .int .i64 c.w, .bool c.f]] w fun e w' => e = .returned (.tuple #[.agg #[.int .i64 (rbI c), .int .i64 (spI c), .int .i64 (omI c), .int .i64 (obI c), .int .i64 (rpI c), .int .i64 (lpI c), .int .i64 (ebI c), .int .i64 (mbI c), .int .i64 (wnI c), .int .i64 (slI c), .int .i64 (mrI c)], .int .i64 0]) ∧ Keep (fun _ => False) w w') (hGo : ∀ w : World, Calls Try.prog 12 #[.agg #[.int .i64 c.b, .int .i64 c.p, .int .i64 c.c, .int .i64 c.s, .int .i64 c.m, .int .i64 c.w, .bool c.f]] w fun e w' => e = .returned (.bool true) ∧ Keep (fun _ => False) w w') (hC1 : ∀ w : World, Calls Try.prog 11 #[.agg #[.int .i64 c.b, .int .i64 c.p, .int .i64 c.c, .int .i64 c.s, .int .i64 c.m, .int .i64 c.w, .bool c.f], .int .i64 n, .int .i64 f] w fun e w' => e = .returned (.tuple #[.int .i64 (cpI c n f), .int .i64 0]) ∧ Keep (fun _ => False) w w') (hC2 : ∀ w : World, Calls Try.prog 11 #[.agg #[.int .i64 c.b, .int .i64 c.p, .int .i64 c.c, .int .i64 c.s, .int .i64 c.m, .int .i64 c.w, .bool c.f], .int .i64 (n - 1), .int .i64 f] w fun e w' => e = .returned (.tuple #[.int .i64 (cpI c (n - 1) f), .int .i64 0]) ∧ Keep (fun _ => False) w w') (hC3 : ∀ w : World, Calls Try.prog 11 #[.agg #[.int .i64 c.b, .int .i64 c.p, .int .i64 c.c, .int .i64 c.s, .int .i64 c.m, .int .i64 c.w, .bool c.f], .int .i64 n, .int .i64 (f - 1)] w fun e w' => e = .returned (.tuple #[.int .i64 (cpI c n (f - 1)), .int .i64 0]) ∧ Keep (fun _ => False) w w') (hS : Span c) (t1 : mrI c < c.b * c.p) (t2 : 3 * c.c ≤ c.b * c.p) (t3 : slI c < c.m) (d1 : ¬ n < 2) (d2 : ¬ c.c < n) (d3 : ¬ f < 1) (d4 : ¬ 1000 < f) :
    Calls Try.prog 6 #[.agg #[.int .i64 c.b, .int .i64 c.p, .int .i64 c.c, .int .i64 c.s, .int .i64 c.m, .int .i64 c.w, .bool c.f], .int .i64 n, .int .i64 f] w fun e w' => e = .returned (.bool true) ∧ Keep (fun _ => False) w w' := by
  have hbp := bp_bd hS
  have hsp := sp_bd hS
  have hrp := rp_bd hS
  have hcc := hS.c2
  have hcc1 := hS.c1
  have m1 := cp_more hS n f
  have m2 := cp_fail hS n f
  have m3 := (cp_bd hS (n := n - 1) (f := f) (by omega) (by omega) (by omega) (by omega)).1
  have u1 : ¬ cpI c (n - 1) f < n := by omega
  have u2 : n ≤ cpI c (n - 1) f := by omega
  have r1 := wrapI (x := n - 1) (by omega) (by omega)
  have r2 := wrapI (x := f - 1) (by omega) (by omega)
  clear m3
  have q1 := wrapI (x := c.b * c.p) (by omega) (by omega)
  have q2 := wrapI (x := 3 * c.c) (by omega) (by omega)
  obtain ⟨BP, hBP⟩ : ∃ x, x = c.b * c.p := ⟨_, rfl⟩
  rw [← hBP] at t1 t2
  replace q1 : IntKind.i64.wrap (c.b * c.p) = BP := by rw [hBP]; exact q1
  have e1 : ¬ BP ≤ mrI c := by omega
  have e2 : ¬ BP < 3 * c.c := by omega
  have e3 : ¬ c.m ≤ slI c := by omega
  have e4 : ¬ spI c < 1 := by omega
  have e5 : ¬ rpI c < 1 := by omega
  clear hBP hbp hsp hrp hcc hcc1 t1 t2 t3 hS
  generalize cpI c n f = X1 at *
  generalize cpI c (n - 1) f = X2 at *
  generalize cpI c n (f - 1) = X3 at *
  have B1 : Blk (w.alloc (.cells #[.int .i64 c.b, .int .i64 c.p, .int .i64 c.c, .int .i64 c.s, .int .i64 c.m, .int .i64 c.w, .bool c.f] 29)) w.heap.size 7 (ccell c) := blk_cf w c
  have K1 : Keep (fun _ => False) w (w.alloc (.cells #[.int .i64 c.b, .int .i64 c.p, .int .i64 c.c, .int .i64 c.s, .int .i64 c.m, .int .i64 c.w, .bool c.f] 29)) := (Keep.refl _ _).alloc _
  go_enter Try.func6, Try.ntmps6
  go_upto_region 1 with fail
  generalize w.alloc (.cells #[.int .i64 c.b, .int .i64 c.p, .int .i64 c.c, .int .i64 c.s, .int .i64 c.m, .int .i64 c.w, .bool c.f] 29) = v1 at B1 K1 ⊢
  generalize w.heap.size = g at B1 ⊢
  go_wp2_with fail
  refine (hAw _).mono ?_
  rintro e v2 ⟨rfl, k2⟩
  clear hAw
  have B2 := B1.keep k2 (fun e => e)
  have K2 := K1.trans k2
  clear B1 k2
  have cc0 : v2.cell? ⟨g, 0, none⟩ = some (.int .i64 c.b) := (B2 0 (by omega)).1
  have cc1 : v2.cell? ⟨g, 1, none⟩ = some (.int .i64 c.p) := (B2 1 (by omega)).1
  have cc2 : v2.cell? ⟨g, 2, none⟩ = some (.int .i64 c.c) := (B2 2 (by omega)).1
  have cc3 : v2.cell? ⟨g, 3, none⟩ = some (.int .i64 c.s) := (B2 3 (by omega)).1
  have cc4 : v2.cell? ⟨g, 4, none⟩ = some (.int .i64 c.m) := (B2 4 (by omega)).1
  have cc5 : v2.cell? ⟨g, 5, none⟩ = some (.int .i64 c.w) := (B2 5 (by omega)).1
  have cc6 : v2.cell? ⟨g, 6, none⟩ = some (.bool c.f) := (B2 6 (by omega)).1
  go_wp2_with fail
  refine (hOf _).mono ?_
  rintro e v3 ⟨rfl, k3⟩
  clear cc0 cc1 cc2 cc3 cc4 cc5 cc6
  clear hOf
  have B3 := B2.keep k3 (fun e => e)
  have K3 := K2.trans k3
  clear B2 k3
  have Z : Blk (v3.alloc (.cells #[.int .i64 (rbI c), .int .i64 (spI c), .int .i64 (omI c), .int .i64 (obI c), .int .i64 (rpI c), .int .i64 (lpI c), .int .i64 (ebI c), .int .i64 (mbI c), .int .i64 (wnI c), .int .i64 (slI c), .int .i64 (mrI c)] 24)) v3.heap.size 11 (scell [rbI c, spI c, omI c, obI c, rpI c, lpI c, ebI c, mbI c, wnI c, slI c, mrI c]) := blk_alloc v3 _ 24 11 _ (fun i hi => by
    have : i = 0 ∨ i = 1 ∨ i = 2 ∨ i = 3 ∨ i = 4 ∨ i = 5 ∨ i = 6 ∨ i = 7 ∨ i = 8 ∨ i = 9 ∨ i = 10 := by omega
    rcases this with rfl | rfl | rfl | rfl | rfl | rfl | rfl | rfl | rfl | rfl | rfl <;> rfl)
  have B4 := B3.alloc (.cells #[.int .i64 (rbI c), .int .i64 (spI c), .int .i64 (omI c), .int .i64 (obI c), .int .i64 (rpI c), .int .i64 (lpI c), .int .i64 (ebI c), .int .i64 (mbI c), .int .i64 (wnI c), .int .i64 (slI c), .int .i64 (mrI c)] 24)
  have K4 := K3.alloc (.cells #[.int .i64 (rbI c), .int .i64 (spI c), .int .i64 (omI c), .int .i64 (obI c), .int .i64 (rpI c), .int .i64 (lpI c), .int .i64 (ebI c), .int .i64 (mbI c), .int .i64 (wnI c), .int .i64 (slI c), .int .i64 (mrI c)] 24)
  go_upto_region 4 with fail
  generalize v3.alloc (.cells #[.int .i64 (rbI c), .int .i64 (spI c), .int .i64 (omI c), .int .i64 (obI c), .int .i64 (rpI c), .int .i64 (lpI c), .int .i64 (ebI c), .int .i64 (mbI c), .int .i64 (wnI c), .int .i64 (slI c), .int .i64 (mrI c)] 24) = v4 at Z B4 K4  ⊢
  generalize v3.heap.size = h at Z ⊢
  clear B3
  have cc0 : v4.cell? ⟨g, 0, none⟩ = some (.int .i64 c.b) := (B4 0 (by omega)).1
  have cc1 : v4.cell? ⟨g, 1, none⟩ = some (.int .i64 c.p) := (B4 1 (by omega)).1
  have cc2 : v4.cell? ⟨g, 2, none⟩ = some (.int .i64 c.c) := (B4 2 (by omega)).1
  have cc3 : v4.cell? ⟨g, 3, none⟩ = some (.int .i64 c.s) := (B4 3 (by omega)).1
  have cc4 : v4.cell? ⟨g, 4, none⟩ = some (.int .i64 c.m) := (B4 4 (by omega)).1
  have cc5 : v4.cell? ⟨g, 5, none⟩ = some (.int .i64 c.w) := (B4 5 (by omega)).1
  have cc6 : v4.cell? ⟨g, 6, none⟩ = some (.bool c.f) := (B4 6 (by omega)).1
  go_wp2_with fail
  refine (hGo _).mono ?_
  rintro e v5 ⟨rfl, k5⟩
  clear cc0 cc1 cc2 cc3 cc4 cc5 cc6
  clear hGo
  have B5 := B4.keep k5 (fun e => e)
  have K5 := K4.trans k5
  have Zn := Z.keep k5 (fun e => e)
  clear B4 k5
  clear Z
  have Z := Zn
  clear Zn
  have zz1 : v5.cell? ⟨h, 1, none⟩ = some (.int .i64 (spI c)) := (Z 1 (by omega)).1
  have zz4 : v5.cell? ⟨h, 4, none⟩ = some (.int .i64 (rpI c)) := (Z 4 (by omega)).1
  have zz9 : v5.cell? ⟨h, 9, none⟩ = some (.int .i64 (slI c)) := (Z 9 (by omega)).1
  have zz10 : v5.cell? ⟨h, 10, none⟩ = some (.int .i64 (mrI c)) := (Z 10 (by omega)).1
  have cc0 : v5.cell? ⟨g, 0, none⟩ = some (.int .i64 c.b) := (B5 0 (by omega)).1
  have cc1 : v5.cell? ⟨g, 1, none⟩ = some (.int .i64 c.p) := (B5 1 (by omega)).1
  have cc2 : v5.cell? ⟨g, 2, none⟩ = some (.int .i64 c.c) := (B5 2 (by omega)).1
  have cc4 : v5.cell? ⟨g, 4, none⟩ = some (.int .i64 c.m) := (B5 4 (by omega)).1
  go_upto_region 10 with fail
  clear cc0 cc1 cc2 cc4
  clear zz1 zz4 zz9 zz10 Z
  have cc0 : v5.cell? ⟨g, 0, none⟩ = some (.int .i64 c.b) := (B5 0 (by omega)).1
  have cc1 : v5.cell? ⟨g, 1, none⟩ = some (.int .i64 c.p) := (B5 1 (by omega)).1
  have cc2 : v5.cell? ⟨g, 2, none⟩ = some (.int .i64 c.c) := (B5 2 (by omega)).1
  have cc3 : v5.cell? ⟨g, 3, none⟩ = some (.int .i64 c.s) := (B5 3 (by omega)).1
  have cc4 : v5.cell? ⟨g, 4, none⟩ = some (.int .i64 c.m) := (B5 4 (by omega)).1
  have cc5 : v5.cell? ⟨g, 5, none⟩ = some (.int .i64 c.w) := (B5 5 (by omega)).1
  have cc6 : v5.cell? ⟨g, 6, none⟩ = some (.bool c.f) := (B5 6 (by omega)).1
  go_wp2_with fail
  refine (hC1 _).mono ?_
  rintro e v6 ⟨rfl, k6⟩
  clear cc0 cc1 cc2 cc3 cc4 cc5 cc6
  clear hC1
  have B6 := B5.keep k6 (fun e => e)
  have K6 := K5.trans k6
  clear B5 k6
  have cc0 : v6.cell? ⟨g, 0, none⟩ = some (.int .i64 c.b) := (B6 0 (by omega)).1
  have cc1 : v6.cell? ⟨g, 1, none⟩ = some (.int .i64 c.p) := (B6 1 (by omega)).1
  have cc2 : v6.cell? ⟨g, 2, none⟩ = some (.int .i64 c.c) := (B6 2 (by omega)).1
  have cc3 : v6.cell? ⟨g, 3, none⟩ = some (.int .i64 c.s) := (B6 3 (by omega)).1
  have cc4 : v6.cell? ⟨g, 4, none⟩ = some (.int .i64 c.m) := (B6 4 (by omega)).1
  have cc5 : v6.cell? ⟨g, 5, none⟩ = some (.int .i64 c.w) := (B6 5 (by omega)).1
  have cc6 : v6.cell? ⟨g, 6, none⟩ = some (.bool c.f) := (B6 6 (by omega)).1
  go_wp2_with fail
  refine (hC2 _).mono ?_
  rintro e v7 ⟨rfl, k7⟩
  clear cc0 cc1 cc2 cc3 cc4 cc5 cc6
  clear hC2
  have B7 := B6.keep k7 (fun e => e)
  have K7 := K6.trans k7
  clear B6 k7
  have cc0 : v7.cell? ⟨g, 0, none⟩ = some (.int .i64 c.b) := (B7 0 (by omega)).1
  have cc1 : v7.cell? ⟨g, 1, none⟩ = some (.int .i64 c.p) := (B7 1 (by omega)).1
  have cc2 : v7.cell? ⟨g, 2, none⟩ = some (.int .i64 c.c) := (B7 2 (by omega)).1
  have cc3 : v7.cell? ⟨g, 3, none⟩ = some (.int .i64 c.s) := (B7 3 (by omega)).1
  have cc4 : v7.cell? ⟨g, 4, none⟩ = some (.int .i64 c.m) := (B7 4 (by omega)).1
  have cc5 : v7.cell? ⟨g, 5, none⟩ = some (.int .i64 c.w) := (B7 5 (by omega)).1
  have cc6 : v7.cell? ⟨g, 6, none⟩ = some (.bool c.f) := (B7 6 (by omega)).1
  go_wp2_with fail
  refine (hC3 _).mono ?_
  rintro e v8 ⟨rfl, k8⟩
  clear cc0 cc1 cc2 cc3 cc4 cc5 cc6
  clear hC3
  have B8 := B7.keep k8 (fun e => e)
  have K8 := K7.trans k8
  clear B7 k8
  go_wp2_with fail
  go_ret
  exact ⟨rfl, K8⟩
end Tg
end Go.Proofs.Ytoobjmhllfeffaa
