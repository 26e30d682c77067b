/-
  SizeTells' body, given what the program's calls answer.
-/
import Derived.Test.YtoobjmhllfeffaaZf
namespace Go.Proofs.Ytoobjmhllfeffaa
open Go.ChangeShapes Go.WideShapes Go.ChangeAt Go.RowKit
namespace Tg
theorem call15 (args : Array Value) (w : World) : (callFunc 15 args).run Try.prog w = .ok (.enter 15 args) w := enters Try.func15 (by kernel_rfl) (by kernel_rfl) args w
theorem call14 (args : Array Value) (w : World) : (callFunc 14 args).run Try.prog w = .ok (.enter 14 args) w := enters Try.func14 (by kernel_rfl) (by kernel_rfl) args w
set_option maxRecDepth 100000 in
set_option maxHeartbeats 2000000 in
theorem tells_a (w : World) {c : Cf} {n f : Int} (hAw : ∀ w : World, Calls Try.prog 8 #[] w fun e w' => e = .returned (.bool true) ∧ Keep (fun _ => False) w w') (hOf : ∀ w : World, Calls Try.prog 9 #[.agg #[.int .i64 c.b, .int .i64 c.p, .int .i64 c.c, .int .i64 c.s, .int .i64 c.m, .int .i64 c.w, .bool c.f]] w fun e w' => e = .returned (.tuple #[.agg #[.int .i64 0, .int .i64 0, .int .i64 0, .int .i64 0, .int .i64 0, .int .i64 0, .int .i64 0, .int .i64 0, .int .i64 0, .int .i64 0, .int .i64 0], .int .i64 1]) ∧ Keep (fun _ => False) w w') (hSp : ∀ w : World, Calls Try.prog 13 #[.agg #[.int .i64 c.b, .int .i64 c.p, .int .i64 c.c, .int .i64 c.s, .int .i64 c.m, .int .i64 c.w, .bool c.f]] w fun e w' => e = .returned (.bool false) ∧ Keep (fun _ => False) w w') (hGo : ∀ w : World, Calls Try.prog 12 #[.agg #[.int .i64 c.b, .int .i64 c.p, .int .i64 c.c, .int .i64 c.s, .int .i64 c.m, .int .i64 c.w, .bool c.f]] w fun e w' => e = .returned (.bool false) ∧ Keep (fun _ => False) w w') (hRg : ∀ w : World, Calls Try.prog 16 #[.agg #[.int .i64 c.b, .int .i64 c.p, .int .i64 c.c, .int .i64 c.s, .int .i64 c.m, .int .i64 c.w, .bool c.f]] w fun e w' => e = .returned (.bool false) ∧ Keep (fun _ => False) w w') (hRw : ∀ w : World, Calls Try.prog 17 #[.agg #[.int .i64 c.b, .int .i64 c.p, .int .i64 c.c, .int .i64 c.s, .int .i64 c.m, .int .i64 c.w, .bool c.f], .int .i64 n] w fun e w' => e = .returned (.tuple #[.int .i64 0, .int .i64 1]) ∧ Keep (fun _ => False) w w') (hCp : ∀ w : World, Calls Try.prog 11 #[.agg #[.int .i64 c.b, .int .i64 c.p, .int .i64 c.c, .int .i64 c.s, .int .i64 c.m, .int .i64 c.w, .bool c.f], .int .i64 n, .int .i64 f] w fun e w' => e = .returned (.tuple #[.int .i64 0, .int .i64 1]) ∧ Keep (fun _ => False) w w') :
    Calls Try.prog 4 #[.agg #[.int .i64 c.b, .int .i64 c.p, .int .i64 c.c, .int .i64 c.s, .int .i64 c.m, .int .i64 c.w, .bool c.f], .int .i64 n, .int .i64 f] w fun e w' => e = .returned (.bool true) ∧ Keep (fun _ => False) w w' := by
  have B1 : Blk (w.alloc (.cells #[.int .i64 c.b, .int .i64 c.p, .int .i64 c.c, .int .i64 c.s, .int .i64 c.m, .int .i64 c.w, .bool c.f] 29)) w.heap.size 7 (ccell c) := blk_cf w c
  have K1 : Keep (fun _ => False) w (w.alloc (.cells #[.int .i64 c.b, .int .i64 c.p, .int .i64 c.c, .int .i64 c.s, .int .i64 c.m, .int .i64 c.w, .bool c.f] 29)) := (Keep.refl _ _).alloc _
  go_enter Try.func4, Try.ntmps4
  go_upto_region 1 with fail
  generalize w.alloc (.cells #[.int .i64 c.b, .int .i64 c.p, .int .i64 c.c, .int .i64 c.s, .int .i64 c.m, .int .i64 c.w, .bool c.f] 29) = v1 at B1 K1 ⊢
  generalize w.heap.size = g at B1 ⊢
  go_wp2_with fail
  refine (hAw _).mono ?_
  rintro e v2 ⟨rfl, k2⟩
  clear hAw
  have B2 := B1.keep k2 (fun e => e)
  have K2 := K1.trans k2
  clear B1 k2
  have cc0 : v2.cell? ⟨g, 0, none⟩ = some (.int .i64 c.b) := (B2 0 (by omega)).1
  have cc1 : v2.cell? ⟨g, 1, none⟩ = some (.int .i64 c.p) := (B2 1 (by omega)).1
  have cc2 : v2.cell? ⟨g, 2, none⟩ = some (.int .i64 c.c) := (B2 2 (by omega)).1
  have cc3 : v2.cell? ⟨g, 3, none⟩ = some (.int .i64 c.s) := (B2 3 (by omega)).1
  have cc4 : v2.cell? ⟨g, 4, none⟩ = some (.int .i64 c.m) := (B2 4 (by omega)).1
  have cc5 : v2.cell? ⟨g, 5, none⟩ = some (.int .i64 c.w) := (B2 5 (by omega)).1
  have cc6 : v2.cell? ⟨g, 6, none⟩ = some (.bool c.f) := (B2 6 (by omega)).1
  go_wp2_with fail
  refine (hOf _).mono ?_
  rintro e v3 ⟨rfl, k3⟩
  clear cc0 cc1 cc2 cc3 cc4 cc5 cc6
  clear hOf
  have B3 := B2.keep k3 (fun e => e)
  have K3 := K2.trans k3
  clear B2 k3
  have Z : Blk (v3.alloc (.cells #[.int .i64 0, .int .i64 0, .int .i64 0, .int .i64 0, .int .i64 0, .int .i64 0, .int .i64 0, .int .i64 0, .int .i64 0, .int .i64 0, .int .i64 0] 24)) v3.heap.size 11 (scell [0, 0, 0, 0, 0, 0, 0, 0, 0, 0, 0]) := blk_alloc v3 _ 24 11 _ (fun i hi => by
    have : i = 0 ∨ i = 1 ∨ i = 2 ∨ i = 3 ∨ i = 4 ∨ i = 5 ∨ i = 6 ∨ i = 7 ∨ i = 8 ∨ i = 9 ∨ i = 10 := by omega
    rcases this with rfl | rfl | rfl | rfl | rfl | rfl | rfl | rfl | rfl | rfl | rfl <;> rfl)
  have B4 := B3.alloc (.cells #[.int .i64 0, .int .i64 0, .int .i64 0, .int .i64 0, .int .i64 0, .int .i64 0, .int .i64 0, .int .i64 0, .int .i64 0, .int .i64 0, .int .i64 0] 24)
  have K4 := K3.alloc (.cells #[.int .i64 0, .int .i64 0, .int .i64 0, .int .i64 0, .int .i64 0, .int .i64 0, .int .i64 0, .int .i64 0, .int .i64 0, .int .i64 0, .int .i64 0] 24)
  go_upto_region 4 with fail
  generalize v3.alloc (.cells #[.int .i64 0, .int .i64 0, .int .i64 0, .int .i64 0, .int .i64 0, .int .i64 0, .int .i64 0, .int .i64 0, .int .i64 0, .int .i64 0, .int .i64 0] 24) = v4 at Z B4 K4  ⊢
  generalize v3.heap.size = h at Z ⊢
  clear B3
  have cc0 : v4.cell? ⟨g, 0, none⟩ = some (.int .i64 c.b) := (B4 0 (by omega)).1
  have cc1 : v4.cell? ⟨g, 1, none⟩ = some (.int .i64 c.p) := (B4 1 (by omega)).1
  have cc2 : v4.cell? ⟨g, 2, none⟩ = some (.int .i64 c.c) := (B4 2 (by omega)).1
  have cc3 : v4.cell? ⟨g, 3, none⟩ = some (.int .i64 c.s) := (B4 3 (by omega)).1
  have cc4 : v4.cell? ⟨g, 4, none⟩ = some (.int .i64 c.m) := (B4 4 (by omega)).1
  have cc5 : v4.cell? ⟨g, 5, none⟩ = some (.int .i64 c.w) := (B4 5 (by omega)).1
  have cc6 : v4.cell? ⟨g, 6, none⟩ = some (.bool c.f) := (B4 6 (by omega)).1
  go_wp2_with fail
  refine (hSp _).mono ?_
  rintro e v5 ⟨rfl, k5⟩
  clear cc0 cc1 cc2 cc3 cc4 cc5 cc6
  clear hSp
  have B5 := B4.keep k5 (fun e => e)
  have K5 := K4.trans k5
  have Zn := Z.keep k5 (fun e => e)
  clear B4 k5
  clear Z
  have Z := Zn
  clear Zn
  have zz0 : v5.cell? ⟨h, 0, none⟩ = some (.int .i64 (0)) := (Z 0 (by omega)).1
  have zz1 : v5.cell? ⟨h, 1, none⟩ = some (.int .i64 (0)) := (Z 1 (by omega)).1
  have zz2 : v5.cell? ⟨h, 2, none⟩ = some (.int .i64 (0)) := (Z 2 (by omega)).1
  have zz3 : v5.cell? ⟨h, 3, none⟩ = some (.int .i64 (0)) := (Z 3 (by omega)).1
  have zz4 : v5.cell? ⟨h, 4, none⟩ = some (.int .i64 (0)) := (Z 4 (by omega)).1
  have zz5 : v5.cell? ⟨h, 5, none⟩ = some (.int .i64 (0)) := (Z 5 (by omega)).1
  have zz6 : v5.cell? ⟨h, 6, none⟩ = some (.int .i64 (0)) := (Z 6 (by omega)).1
  have zz7 : v5.cell? ⟨h, 7, none⟩ = some (.int .i64 (0)) := (Z 7 (by omega)).1
  have zz8 : v5.cell? ⟨h, 8, none⟩ = some (.int .i64 (0)) := (Z 8 (by omega)).1
  have zz9 : v5.cell? ⟨h, 9, none⟩ = some (.int .i64 (0)) := (Z 9 (by omega)).1
  have zz10 : v5.cell? ⟨h, 10, none⟩ = some (.int .i64 (0)) := (Z 10 (by omega)).1
  have cc0 : v5.cell? ⟨g, 0, none⟩ = some (.int .i64 c.b) := (B5 0 (by omega)).1
  have cc1 : v5.cell? ⟨g, 1, none⟩ = some (.int .i64 c.p) := (B5 1 (by omega)).1
  have cc2 : v5.cell? ⟨g, 2, none⟩ = some (.int .i64 c.c) := (B5 2 (by omega)).1
  have cc3 : v5.cell? ⟨g, 3, none⟩ = some (.int .i64 c.s) := (B5 3 (by omega)).1
  have cc4 : v5.cell? ⟨g, 4, none⟩ = some (.int .i64 c.m) := (B5 4 (by omega)).1
  have cc5 : v5.cell? ⟨g, 5, none⟩ = some (.int .i64 c.w) := (B5 5 (by omega)).1
  have cc6 : v5.cell? ⟨g, 6, none⟩ = some (.bool c.f) := (B5 6 (by omega)).1
  go_wp2_with fail
  refine (hGo _).mono ?_
  rintro e v6 ⟨rfl, k6⟩
  clear cc0 cc1 cc2 cc3 cc4 cc5 cc6
  have B6 := B5.keep k6 (fun e => e)
  have K6 := K5.trans k6
  have Zn := Z.keep k6 (fun e => e)
  clear B5 k6
  clear Z
  have Z := Zn
  clear Zn
  clear zz0 zz1 zz2 zz3 zz4 zz5 zz6 zz7 zz8 zz9 zz10
  clear Z
  have cc0 : v6.cell? ⟨g, 0, none⟩ = some (.int .i64 c.b) := (B6 0 (by omega)).1
  have cc1 : v6.cell? ⟨g, 1, none⟩ = some (.int .i64 c.p) := (B6 1 (by omega)).1
  have cc2 : v6.cell? ⟨g, 2, none⟩ = some (.int .i64 c.c) := (B6 2 (by omega)).1
  have cc3 : v6.cell? ⟨g, 3, none⟩ = some (.int .i64 c.s) := (B6 3 (by omega)).1
  have cc4 : v6.cell? ⟨g, 4, none⟩ = some (.int .i64 c.m) := (B6 4 (by omega)).1
  have cc5 : v6.cell? ⟨g, 5, none⟩ = some (.int .i64 c.w) := (B6 5 (by omega)).1
  have cc6 : v6.cell? ⟨g, 6, none⟩ = some (.bool c.f) := (B6 6 (by omega)).1
  go_wp2_with fail
  refine (hRg _).mono ?_
  rintro e v7 ⟨rfl, k7⟩
  clear cc0 cc1 cc2 cc3 cc4 cc5 cc6
  clear hRg
  have B7 := B6.keep k7 (fun e => e)
  have K7 := K6.trans k7
  clear B6 k7
  have cc0 : v7.cell? ⟨g, 0, none⟩ = some (.int .i64 c.b) := (B7 0 (by omega)).1
  have cc1 : v7.cell? ⟨g, 1, none⟩ = some (.int .i64 c.p) := (B7 1 (by omega)).1
  have cc2 : v7.cell? ⟨g, 2, none⟩ = some (.int .i64 c.c) := (B7 2 (by omega)).1
  have cc3 : v7.cell? ⟨g, 3, none⟩ = some (.int .i64 c.s) := (B7 3 (by omega)).1
  have cc4 : v7.cell? ⟨g, 4, none⟩ = some (.int .i64 c.m) := (B7 4 (by omega)).1
  have cc5 : v7.cell? ⟨g, 5, none⟩ = some (.int .i64 c.w) := (B7 5 (by omega)).1
  have cc6 : v7.cell? ⟨g, 6, none⟩ = some (.bool c.f) := (B7 6 (by omega)).1
  go_wp2_with fail
  refine (hRw _).mono ?_
  rintro e v8 ⟨rfl, k8⟩
  clear cc0 cc1 cc2 cc3 cc4 cc5 cc6
  clear hRw
  have B8 := B7.keep k8 (fun e => e)
  have K8 := K7.trans k8
  clear B7 k8
  have cc0 : v8.cell? ⟨g, 0, none⟩ = some (.int .i64 c.b) := (B8 0 (by omega)).1
  have cc1 : v8.cell? ⟨g, 1, none⟩ = some (.int .i64 c.p) := (B8 1 (by omega)).1
  have cc2 : v8.cell? ⟨g, 2, none⟩ = some (.int .i64 c.c) := (B8 2 (by omega)).1
  have cc3 : v8.cell? ⟨g, 3, none⟩ = some (.int .i64 c.s) := (B8 3 (by omega)).1
  have cc4 : v8.cell? ⟨g, 4, none⟩ = some (.int .i64 c.m) := (B8 4 (by omega)).1
  have cc5 : v8.cell? ⟨g, 5, none⟩ = some (.int .i64 c.w) := (B8 5 (by omega)).1
  have cc6 : v8.cell? ⟨g, 6, none⟩ = some (.bool c.f) := (B8 6 (by omega)).1
  go_wp2_with fail
  refine (hCp _).mono ?_
  rintro e v9 ⟨rfl, k9⟩
  clear cc0 cc1 cc2 cc3 cc4 cc5 cc6
  clear hCp
  have B9 := B8.keep k9 (fun e => e)
  have K9 := K8.trans k9
  clear B8 k9
  have cc0 : v9.cell? ⟨g, 0, none⟩ = some (.int .i64 c.b) := (B9 0 (by omega)).1
  have cc1 : v9.cell? ⟨g, 1, none⟩ = some (.int .i64 c.p) := (B9 1 (by omega)).1
  have cc2 : v9.cell? ⟨g, 2, none⟩ = some (.int .i64 c.c) := (B9 2 (by omega)).1
  have cc3 : v9.cell? ⟨g, 3, none⟩ = some (.int .i64 c.s) := (B9 3 (by omega)).1
  have cc4 : v9.cell? ⟨g, 4, none⟩ = some (.int .i64 c.m) := (B9 4 (by omega)).1
  have cc5 : v9.cell? ⟨g, 5, none⟩ = some (.int .i64 c.w) := (B9 5 (by omega)).1
  have cc6 : v9.cell? ⟨g, 6, none⟩ = some (.bool c.f) := (B9 6 (by omega)).1
  go_wp2_with fail
  refine (hGo _).mono ?_
  rintro e v10 ⟨rfl, k10⟩
  clear cc0 cc1 cc2 cc3 cc4 cc5 cc6
  clear hGo
  have B10 := B9.keep k10 (fun e => e)
  have K10 := K9.trans k10
  clear B9 k10
  have cc2 : v10.cell? ⟨g, 2, none⟩ = some (.int .i64 c.c) := (B10 2 (by omega)).1
  go_wp2_with fail
  go_ret
  exact ⟨rfl, K10⟩
set_option maxRecDepth 100000 in
set_option maxHeartbeats 2000000 in
theorem tells_b (w : World) {c : Cf} {n f : Int} (hAw : ∀ w : World, Calls Try.prog 8 #[] w fun e w' => e = .returned (.bool true) ∧ Keep (fun _ => False) w w') (hOf : ∀ w : World, Calls Try.prog 9 #[.agg #[.int .i64 c.b, .int .i64 c.p, .int .i64 c.c, .int .i64 c.s, .int .i64 c.m, .int .i64 c.w, .bool c.f]] w fun e w' => e = .returned (.tuple #[.agg #[.int .i64 (rbI c), .int .i64 (spI c), .int .i64 (omI c), .int .i64 (obI c), .int .i64 (rpI c), .int .i64 (lpI c), .int .i64 (ebI c), .int .i64 (mbI c), .int .i64 (wnI c), .int .i64 (slI c), .int .i64 (mrI c)], .int .i64 0]) ∧ Keep (fun _ => False) w w') (hSp : ∀ w : World, Calls Try.prog 13 #[.agg #[.int .i64 c.b, .int .i64 c.p, .int .i64 c.c, .int .i64 c.s, .int .i64 c.m, .int .i64 c.w, .bool c.f]] w fun e w' => e = .returned (.bool true) ∧ Keep (fun _ => False) w w') (hGo : ∀ w : World, Calls Try.prog 12 #[.agg #[.int .i64 c.b, .int .i64 c.p, .int .i64 c.c, .int .i64 c.s, .int .i64 c.m, .int .i64 c.w, .bool c.f]] w fun e w' => e = .returned (.bool false) ∧ Keep (fun _ => False) w w') (hRg : ∀ w : World, Calls Try.prog 16 #[.agg #[.int .i64 c.b, .int .i64 c.p, .int .i64 c.c, .int .i64 c.s, .int .i64 c.m, .int .i64 c.w, .bool c.f]] w fun e w' => e = .returned (.bool false) ∧ Keep (fun _ => False) w w') (hRo : ∀ w : World, Calls Try.prog 15 #[.agg #[.int .i64 c.b, .int .i64 c.p, .int .i64 c.c, .int .i64 c.s, .int .i64 c.m, .int .i64 c.w, .bool c.f]] w fun e w' => e = .returned (.agg #[.int .i64 (rbI c), .int .i64 (spI c), .int .i64 (omI c), .int .i64 (obI c), .int .i64 (rpI c), .int .i64 (lpI c), .int .i64 (ebI c), .int .i64 (mbI c), .int .i64 (wnI c), .int .i64 (slI c), .int .i64 (mrI c)]) ∧ Keep (fun _ => False) w w') (hIs : ∀ w : World, Calls Try.prog 14 #[.agg #[.int .i64 (rbI c), .int .i64 (spI c), .int .i64 (omI c), .int .i64 (obI c), .int .i64 (rpI c), .int .i64 (lpI c), .int .i64 (ebI c), .int .i64 (mbI c), .int .i64 (wnI c), .int .i64 (slI c), .int .i64 (mrI c)], .agg #[.int .i64 (rbI c), .int .i64 (spI c), .int .i64 (omI c), .int .i64 (obI c), .int .i64 (rpI c), .int .i64 (lpI c), .int .i64 (ebI c), .int .i64 (mbI c), .int .i64 (wnI c), .int .i64 (slI c), .int .i64 (mrI c)]] w fun e w' => e = .returned (.bool true) ∧ Keep (fun _ => False) w w') (hRw : ∀ w : World, Calls Try.prog 17 #[.agg #[.int .i64 c.b, .int .i64 c.p, .int .i64 c.c, .int .i64 c.s, .int .i64 c.m, .int .i64 c.w, .bool c.f], .int .i64 n] w fun e w' => e = .returned (.tuple #[.int .i64 0, .int .i64 1]) ∧ Keep (fun _ => False) w w') (hCp : ∀ w : World, Calls Try.prog 11 #[.agg #[.int .i64 c.b, .int .i64 c.p, .int .i64 c.c, .int .i64 c.s, .int .i64 c.m, .int .i64 c.w, .bool c.f], .int .i64 n, .int .i64 f] w fun e w' => e = .returned (.tuple #[.int .i64 0, .int .i64 1]) ∧ Keep (fun _ => False) w w') :
    Calls Try.prog 4 #[.agg #[.int .i64 c.b, .int .i64 c.p, .int .i64 c.c, .int .i64 c.s, .int .i64 c.m, .int .i64 c.w, .bool c.f], .int .i64 n, .int .i64 f] w fun e w' => e = .returned (.bool true) ∧ Keep (fun _ => False) w w' := by
  have B1 : Blk (w.alloc (.cells #[.int .i64 c.b, .int .i64 c.p, .int .i64 c.c, .int .i64 c.s, .int .i64 c.m, .int .i64 c.w, .bool c.f] 29)) w.heap.size 7 (ccell c) := blk_cf w c
  have K1 : Keep (fun _ => False) w (w.alloc (.cells #[.int .i64 c.b, .int .i64 c.p, .int .i64 c.c, .int .i64 c.s, .int .i64 c.m, .int .i64 c.w, .bool c.f] 29)) := (Keep.refl _ _).alloc _
  go_enter Try.func4, Try.ntmps4
  go_upto_region 1 with fail
  generalize w.alloc (.cells #[.int .i64 c.b, .int .i64 c.p, .int .i64 c.c, .int .i64 c.s, .int .i64 c.m, .int .i64 c.w, .bool c.f] 29) = v1 at B1 K1 ⊢
  generalize w.heap.size = g at B1 ⊢
  go_wp2_with fail
  refine (hAw _).mono ?_
  rintro e v2 ⟨rfl, k2⟩
  clear hAw
  have B2 := B1.keep k2 (fun e => e)
  have K2 := K1.trans k2
  clear B1 k2
  have cc0 : v2.cell? ⟨g, 0, none⟩ = some (.int .i64 c.b) := (B2 0 (by omega)).1
  have cc1 : v2.cell? ⟨g, 1, none⟩ = some (.int .i64 c.p) := (B2 1 (by omega)).1
  have cc2 : v2.cell? ⟨g, 2, none⟩ = some (.int .i64 c.c) := (B2 2 (by omega)).1
  have cc3 : v2.cell? ⟨g, 3, none⟩ = some (.int .i64 c.s) := (B2 3 (by omega)).1
  have cc4 : v2.cell? ⟨g, 4, none⟩ = some (.int .i64 c.m) := (B2 4 (by omega)).1
  have cc5 : v2.cell? ⟨g, 5, none⟩ = some (.int .i64 c.w) := (B2 5 (by omega)).1
  have cc6 : v2.cell? ⟨g, 6, none⟩ = some (.bool c.f) := (B2 6 (by omega)).1
  go_wp2_with fail
  refine (hOf _).mono ?_
  rintro e v3 ⟨rfl, k3⟩
  clear cc0 cc1 cc2 cc3 cc4 cc5 cc6
  clear hOf
  have B3 := B2.keep k3 (fun e => e)
  have K3 := K2.trans k3
  clear B2 k3
  have Z : Blk (v3.alloc (.cells #[.int .i64 (rbI c), .int .i64 (spI c), .int .i64 (omI c), .int .i64 (obI c), .int .i64 (rpI c), .int .i64 (lpI c), .int .i64 (ebI c), .int .i64 (mbI c), .int .i64 (wnI c), .int .i64 (slI c), .int .i64 (mrI c)] 24)) v3.heap.size 11 (scell [rbI c, spI c, omI c, obI c, rpI c, lpI c, ebI c, mbI c, wnI c, slI c, mrI c]) := blk_alloc v3 _ 24 11 _ (fun i hi => by
    have : i = 0 ∨ i = 1 ∨ i = 2 ∨ i = 3 ∨ i = 4 ∨ i = 5 ∨ i = 6 ∨ i = 7 ∨ i = 8 ∨ i = 9 ∨ i = 10 := by omega
    rcases this with rfl | rfl | rfl | rfl | rfl | rfl | rfl | rfl | rfl | rfl | rfl <;> rfl)
  have B4 := B3.alloc (.cells #[.int .i64 (rbI c), .int .i64 (spI c), .int .i64 (omI c), .int .i64 (obI c), .int .i64 (rpI c), .int .i64 (lpI c), .int .i64 (ebI c), .int .i64 (mbI c), .int .i64 (wnI c), .int .i64 (slI c), .int .i64 (mrI c)] 24)
  have K4 := K3.alloc (.cells #[.int .i64 (rbI c), .int .i64 (spI c), .int .i64 (omI c), .int .i64 (obI c), .int .i64 (rpI c), .int .i64 (lpI c), .int .i64 (ebI c), .int .i64 (mbI c), .int .i64 (wnI c), .int .i64 (slI c), .int .i64 (mrI c)] 24)
  go_upto_region 4 with fail
  generalize v3.alloc (.cells #[.int .i64 (rbI c), .int .i64 (spI c), .int .i64 (omI c), .int .i64 (obI c), .int .i64 (rpI c), .int .i64 (lpI c), .int .i64 (ebI c), .int .i64 (mbI c), .int .i64 (wnI c), .int .i64 (slI c), .int .i64 (mrI c)] 24) = v4 at Z B4 K4  ⊢
  generalize v3.heap.size = h at Z ⊢
  clear B3
  have cc0 : v4.cell? ⟨g, 0, none⟩ = some (.int .i64 c.b) := (B4 0 (by omega)).1
  have cc1 : v4.cell? ⟨g, 1, none⟩ = some (.int .i64 c.p) := (B4 1 (by omega)).1
  have cc2 : v4.cell? ⟨g, 2, none⟩ = some (.int .i64 c.c) := (B4 2 (by omega)).1
  have cc3 : v4.cell? ⟨g, 3, none⟩ = some (.int .i64 c.s) := (B4 3 (by omega)).1
  have cc4 : v4.cell? ⟨g, 4, none⟩ = some (.int .i64 c.m) := (B4 4 (by omega)).1
  have cc5 : v4.cell? ⟨g, 5, none⟩ = some (.int .i64 c.w) := (B4 5 (by omega)).1
  have cc6 : v4.cell? ⟨g, 6, none⟩ = some (.bool c.f) := (B4 6 (by omega)).1
  go_wp2_with fail
  refine (hSp _).mono ?_
  rintro e v5 ⟨rfl, k5⟩
  clear cc0 cc1 cc2 cc3 cc4 cc5 cc6
  clear hSp
  have B5 := B4.keep k5 (fun e => e)
  have K5 := K4.trans k5
  have Zn := Z.keep k5 (fun e => e)
  clear B4 k5
  clear Z
  have Z := Zn
  clear Zn
  go_upto_region 7 with fail
  refine wp_region_noPanic ?_
  refine wp_region_held_drew (S := fun w' => True ∧ w'.cell? ⟨g, 0, none⟩ = some (.int .i64 c.b) ∧ w'.cell? ⟨g, 1, none⟩ = some (.int .i64 c.p) ∧ w'.cell? ⟨g, 2, none⟩ = some (.int .i64 c.c) ∧ w'.cell? ⟨g, 3, none⟩ = some (.int .i64 c.s) ∧ w'.cell? ⟨g, 4, none⟩ = some (.int .i64 c.m) ∧ w'.cell? ⟨g, 5, none⟩ = some (.int .i64 c.w) ∧ w'.cell? ⟨g, 6, none⟩ = some (.bool c.f) ∧ w'.cell? ⟨h, 0, none⟩ = some (.int .i64 (rbI c)) ∧ w'.cell? ⟨h, 1, none⟩ = some (.int .i64 (spI c)) ∧ w'.cell? ⟨h, 2, none⟩ = some (.int .i64 (omI c)) ∧ w'.cell? ⟨h, 3, none⟩ = some (.int .i64 (obI c)) ∧ w'.cell? ⟨h, 4, none⟩ = some (.int .i64 (rpI c)) ∧ w'.cell? ⟨h, 5, none⟩ = some (.int .i64 (lpI c)) ∧ w'.cell? ⟨h, 6, none⟩ = some (.int .i64 (ebI c)) ∧ w'.cell? ⟨h, 7, none⟩ = some (.int .i64 (mbI c)) ∧ w'.cell? ⟨h, 8, none⟩ = some (.int .i64 (wnI c)) ∧ w'.cell? ⟨h, 9, none⟩ = some (.int .i64 (slI c)) ∧ w'.cell? ⟨h, 10, none⟩ = some (.int .i64 (mrI c))) (by kernel_rfl) (⟨trivial, ((B5.drew) 0 (by omega)).1, ((B5.drew) 1 (by omega)).1, ((B5.drew) 2 (by omega)).1, ((B5.drew) 3 (by omega)).1, ((B5.drew) 4 (by omega)).1, ((B5.drew) 5 (by omega)).1, ((B5.drew) 6 (by omega)).1, ((Z.drew) 0 (by omega)).1, ((Z.drew) 1 (by omega)).1, ((Z.drew) 2 (by omega)).1, ((Z.drew) 3 (by omega)).1, ((Z.drew) 4 (by omega)).1, ((Z.drew) 5 (by omega)).1, ((Z.drew) 6 (by omega)).1, ((Z.drew) 7 (by omega)).1, ((Z.drew) 8 (by omega)).1, ((Z.drew) 9 (by omega)).1, ((Z.drew) 10 (by omega)).1⟩) (fun hH0 => ?_)
  refine' wpAnyH_take (i := 0) (oi := { dst := some 35, op := Op.move (Operand.tmp 8), type := 25, pos := "law.go:53", after := #[], guard := none }) (v := _) rfl (by kernel_rfl) (by kernel_rfl) (by kernel_rfl) (fun _ _ _ h => h) (Or.inl ⟨by rfl, ?hytl0⟩) hH0 ?rtl0
  case hytl0 => (intro w' hSw; clear hSw; go_simp; try with_reducible rfl)
  simp only [Act.put, List.setIfInBounds_toArray, List.set_cons_zero, List.set_cons_succ]
  refine' wpAnyH_take (i := 1) (oi := { dst := some 36, op := Op.binOp BinOp.neq 25 (Operand.tmp 35) (Operand.const (Value.int IntKind.i64 0)) 25, type := 4, pos := "law.go:53", after := #[{ on := 0, ground := Ground.data }], guard := none }) (v := _) rfl (by kernel_rfl) (by kernel_rfl) (by kernel_rfl) (fun _ _ _ h => h) (Or.inl ⟨by rfl, ?hytl1⟩) hH0 ?rtl1
  case hytl1 => (intro w' hSw; clear hSw; go_simp; try with_reducible rfl)
  simp only [Act.put, List.setIfInBounds_toArray, List.set_cons_zero, List.set_cons_succ]
  refine' wpAnyH_take (i := 2) (oi := { dst := some 37, op := Op.move (Operand.tmp 36), type := 4, pos := "law.go:53", after := #[{ on := 1, ground := Ground.data }], guard := none }) (v := _) rfl (by kernel_rfl) (by kernel_rfl) (by kernel_rfl) (fun _ _ _ h => h) (Or.inl ⟨by rfl, ?hytl2⟩) hH0 ?rtl2
  case hytl2 => (intro w' hSw; clear hSw; go_simp; try with_reducible rfl)
  simp only [Act.put, List.setIfInBounds_toArray, List.set_cons_zero, List.set_cons_succ]
  refine' wpAnyH_take (i := 3) (oi := { dst := some 38, op := Op.load 24 (Operand.tmp 7), type := 24, pos := "law.go:53", after := #[{ on := 2, ground := Ground.guard }], guard := some (2, false) }) (v := _) rfl (by kernel_rfl) (by kernel_rfl) (by kernel_rfl) (fun _ _ _ h => h) (Or.inl ⟨by rfl, ?hytl3⟩) hH0 ?rtl3
  case hytl3 => (intro w' hSw; obtain ⟨-, z0, z1, z2, z3, z4, z5, z6, z7, z8, z9, z10, z11, z12, z13, z14, z15, z16, z17⟩ := hSw; go_simp; try with_reducible rfl)
  simp only [Act.put, List.setIfInBounds_toArray, List.set_cons_zero, List.set_cons_succ]
  refine' wpAnyH_take (i := 4) (oi := { dst := some 39, op := Op.load 29 (Operand.tmp 3), type := 29, pos := "law.go:53", after := #[{ on := 2, ground := Ground.guard }], guard := some (2, false) }) (v := _) rfl (by kernel_rfl) (by kernel_rfl) (by kernel_rfl) (fun _ _ _ h => h) (Or.inl ⟨by rfl, ?hytl4⟩) hH0 ?rtl4
  case hytl4 => (intro w' hSw; obtain ⟨-, z0, z1, z2, z3, z4, z5, z6, z7, z8, z9, z10, z11, z12, z13, z14, z15, z16, z17⟩ := hSw; go_simp; try with_reducible rfl)
  simp only [Act.put, List.setIfInBounds_toArray, List.set_cons_zero, List.set_cons_succ]
  refine wpAnyH_ready (rs := [5]) (by kernel_rfl) (by simp) ?_
  refine AllReadyH.cons (o := { dst := some 40, op := Op.call { callee := Callee.value (Operand.func 15), args := #[Operand.tmp 39], argTypes := #[29] }, type := 35, pos := "law.go:53", after := #[{ on := 4, ground := Ground.data }, { on := 2, ground := Ground.chain }, { on := 2, ground := Ground.guard }], guard := some (2, false) }) rfl (fun K hK => ?_) AllReadyH.nil
  refine step_call_want (vs := #[.agg #[.int .i64 c.b, .int .i64 c.p, .int .i64 c.c, .int .i64 c.s, .int .i64 c.m, .int .i64 c.w, .bool c.f]]) (R := fun u wz => u = .agg #[.int .i64 (rbI c), .int .i64 (spI c), .int .i64 (omI c), .int .i64 (obI c), .int .i64 (rpI c), .int .i64 (lpI c), .int .i64 (ebI c), .int .i64 (mbI c), .int .i64 (wnI c), .int .i64 (slI c), .int .i64 (mrI c)] ∧ Keep (fun _ => False) v5.drew wz) (by rfl) 15 #[Operand.tmp 39] #[29] rfl (by simp [Act.eval]) call15 (post_of (hRo _)) ?_
  rintro _ y1 ⟨rfl, j1⟩
  refine hK.out _ _ (⟨trivial, ((Blk.keep (B5.drew) j1 (fun e => e)) 0 (by omega)).1, ((Blk.keep (B5.drew) j1 (fun e => e)) 1 (by omega)).1, ((Blk.keep (B5.drew) j1 (fun e => e)) 2 (by omega)).1, ((Blk.keep (B5.drew) j1 (fun e => e)) 3 (by omega)).1, ((Blk.keep (B5.drew) j1 (fun e => e)) 4 (by omega)).1, ((Blk.keep (B5.drew) j1 (fun e => e)) 5 (by omega)).1, ((Blk.keep (B5.drew) j1 (fun e => e)) 6 (by omega)).1, ((Blk.keep (Z.drew) j1 (fun e => e)) 0 (by omega)).1, ((Blk.keep (Z.drew) j1 (fun e => e)) 1 (by omega)).1, ((Blk.keep (Z.drew) j1 (fun e => e)) 2 (by omega)).1, ((Blk.keep (Z.drew) j1 (fun e => e)) 3 (by omega)).1, ((Blk.keep (Z.drew) j1 (fun e => e)) 4 (by omega)).1, ((Blk.keep (Z.drew) j1 (fun e => e)) 5 (by omega)).1, ((Blk.keep (Z.drew) j1 (fun e => e)) 6 (by omega)).1, ((Blk.keep (Z.drew) j1 (fun e => e)) 7 (by omega)).1, ((Blk.keep (Z.drew) j1 (fun e => e)) 8 (by omega)).1, ((Blk.keep (Z.drew) j1 (fun e => e)) 9 (by omega)).1, ((Blk.keep (Z.drew) j1 (fun e => e)) 10 (by omega)).1⟩) (fun hH1 => ?_)
  clear hK K hH0
  simp only [Act.put, List.setIfInBounds_toArray, List.set_cons_zero, List.set_cons_succ]
  refine wpAnyH_ready (rs := [6]) (by kernel_rfl) (by simp) ?_
  refine AllReadyH.cons (o := { dst := some 41, op := Op.call { callee := Callee.value (Operand.func 14), args := #[Operand.tmp 38, Operand.tmp 40], argTypes := #[24, 35] }, type := 4, pos := "law.go:53", after := #[{ on := 3, ground := Ground.data }, { on := 5, ground := Ground.data }, { on := 5, ground := Ground.chain }, { on := 2, ground := Ground.guard }], guard := some (2, false) }) rfl (fun K hK => ?_) AllReadyH.nil
  refine step_call_want (vs := #[.agg #[.int .i64 (rbI c), .int .i64 (spI c), .int .i64 (omI c), .int .i64 (obI c), .int .i64 (rpI c), .int .i64 (lpI c), .int .i64 (ebI c), .int .i64 (mbI c), .int .i64 (wnI c), .int .i64 (slI c), .int .i64 (mrI c)], .agg #[.int .i64 (rbI c), .int .i64 (spI c), .int .i64 (omI c), .int .i64 (obI c), .int .i64 (rpI c), .int .i64 (lpI c), .int .i64 (ebI c), .int .i64 (mbI c), .int .i64 (wnI c), .int .i64 (slI c), .int .i64 (mrI c)]]) (R := fun u wz => u = .bool true ∧ Keep (fun _ => False) y1 wz) (by rfl) 14 #[Operand.tmp 38, Operand.tmp 40] #[24, 35] rfl (by simp [Act.eval]) call14 (post_of (hIs _)) ?_
  rintro _ y2 ⟨rfl, j2⟩
  refine hK.out _ _ (⟨trivial, ((Blk.keep (B5.drew) (j1.trans j2) (fun e => e)) 0 (by omega)).1, ((Blk.keep (B5.drew) (j1.trans j2) (fun e => e)) 1 (by omega)).1, ((Blk.keep (B5.drew) (j1.trans j2) (fun e => e)) 2 (by omega)).1, ((Blk.keep (B5.drew) (j1.trans j2) (fun e => e)) 3 (by omega)).1, ((Blk.keep (B5.drew) (j1.trans j2) (fun e => e)) 4 (by omega)).1, ((Blk.keep (B5.drew) (j1.trans j2) (fun e => e)) 5 (by omega)).1, ((Blk.keep (B5.drew) (j1.trans j2) (fun e => e)) 6 (by omega)).1, ((Blk.keep (Z.drew) (j1.trans j2) (fun e => e)) 0 (by omega)).1, ((Blk.keep (Z.drew) (j1.trans j2) (fun e => e)) 1 (by omega)).1, ((Blk.keep (Z.drew) (j1.trans j2) (fun e => e)) 2 (by omega)).1, ((Blk.keep (Z.drew) (j1.trans j2) (fun e => e)) 3 (by omega)).1, ((Blk.keep (Z.drew) (j1.trans j2) (fun e => e)) 4 (by omega)).1, ((Blk.keep (Z.drew) (j1.trans j2) (fun e => e)) 5 (by omega)).1, ((Blk.keep (Z.drew) (j1.trans j2) (fun e => e)) 6 (by omega)).1, ((Blk.keep (Z.drew) (j1.trans j2) (fun e => e)) 7 (by omega)).1, ((Blk.keep (Z.drew) (j1.trans j2) (fun e => e)) 8 (by omega)).1, ((Blk.keep (Z.drew) (j1.trans j2) (fun e => e)) 9 (by omega)).1, ((Blk.keep (Z.drew) (j1.trans j2) (fun e => e)) 10 (by omega)).1⟩) (fun hH2 => ?_)
  clear hK K hH1
  simp only [Act.put, List.setIfInBounds_toArray, List.set_cons_zero, List.set_cons_succ]
  refine' wpAnyH_take (i := 7) (oi := { dst := some 42, op := Op.unOp UnOp.not 4 (Operand.tmp 41), type := 4, pos := "law.go:53", after := #[{ on := 6, ground := Ground.data }, { on := 2, ground := Ground.guard }], guard := some (2, false) }) (v := _) rfl (by kernel_rfl) (by kernel_rfl) (by kernel_rfl) (fun _ _ _ h => h) (Or.inl ⟨by rfl, ?hytl7⟩) hH2 ?rtl7
  case hytl7 => (intro w' hSw; clear hSw; go_simp; try with_reducible rfl)
  simp only [Act.put, List.setIfInBounds_toArray, List.set_cons_zero, List.set_cons_succ]
  refine' wpAnyH_take (i := 8) (oi := { dst := some 43, op := Op.pick (Operand.tmp 37) (Operand.const (Value.bool true)) (Operand.tmp 42), type := 4, pos := "law.go:53", after := #[{ on := 2, ground := Ground.data }, { on := 7, ground := Ground.data }], guard := none }) (v := _) rfl (by kernel_rfl) (by kernel_rfl) (by kernel_rfl) (fun _ _ _ h => h) (Or.inl ⟨by rfl, ?hytl8⟩) hH2 ?rtl8
  case hytl8 => (intro w' hSw; clear hSw; go_simp; try with_reducible rfl)
  simp only [Act.put, List.setIfInBounds_toArray, List.set_cons_zero, List.set_cons_succ]
  refine wpAnyH_done (by kernel_rfl) ?_ _
  refine NoPanic.normal ?_
  have kj : Keep (fun _ => False) v5 y2 := (Keep.refl (fun _ => False) v5).drew.trans (j1.trans j2)
  clear j1 j2 hRo hIs
  have B6 := B5.keep kj (fun e => e)
  have K6 := K5.trans kj
  have Zn := Z.keep kj (fun e => e)
  clear B5 kj
  clear Z
  have Z := Zn
  clear Zn
  clear Z
  have cc0 : y2.cell? ⟨g, 0, none⟩ = some (.int .i64 c.b) := (B6 0 (by omega)).1
  have cc1 : y2.cell? ⟨g, 1, none⟩ = some (.int .i64 c.p) := (B6 1 (by omega)).1
  have cc2 : y2.cell? ⟨g, 2, none⟩ = some (.int .i64 c.c) := (B6 2 (by omega)).1
  have cc3 : y2.cell? ⟨g, 3, none⟩ = some (.int .i64 c.s) := (B6 3 (by omega)).1
  have cc4 : y2.cell? ⟨g, 4, none⟩ = some (.int .i64 c.m) := (B6 4 (by omega)).1
  have cc5 : y2.cell? ⟨g, 5, none⟩ = some (.int .i64 c.w) := (B6 5 (by omega)).1
  have cc6 : y2.cell? ⟨g, 6, none⟩ = some (.bool c.f) := (B6 6 (by omega)).1
  go_wp2_with fail
  refine (hRg _).mono ?_
  rintro e v7 ⟨rfl, k7⟩
  clear cc0 cc1 cc2 cc3 cc4 cc5 cc6
  clear hRg
  have B7 := B6.keep k7 (fun e => e)
  have K7 := K6.trans k7
  clear B6 k7
  have cc0 : v7.cell? ⟨g, 0, none⟩ = some (.int .i64 c.b) := (B7 0 (by omega)).1
  have cc1 : v7.cell? ⟨g, 1, none⟩ = some (.int .i64 c.p) := (B7 1 (by omega)).1
  have cc2 : v7.cell? ⟨g, 2, none⟩ = some (.int .i64 c.c) := (B7 2 (by omega)).1
  have cc3 : v7.cell? ⟨g, 3, none⟩ = some (.int .i64 c.s) := (B7 3 (by omega)).1
  have cc4 : v7.cell? ⟨g, 4, none⟩ = some (.int .i64 c.m) := (B7 4 (by omega)).1
  have cc5 : v7.cell? ⟨g, 5, none⟩ = some (.int .i64 c.w) := (B7 5 (by omega)).1
  have cc6 : v7.cell? ⟨g, 6, none⟩ = some (.bool c.f) := (B7 6 (by omega)).1
  go_wp2_with fail
  refine (hRw _).mono ?_
  rintro e v8 ⟨rfl, k8⟩
  clear cc0 cc1 cc2 cc3 cc4 cc5 cc6
  clear hRw
  have B8 := B7.keep k8 (fun e => e)
  have K8 := K7.trans k8
  clear B7 k8
  have cc0 : v8.cell? ⟨g, 0, none⟩ = some (.int .i64 c.b) := (B8 0 (by omega)).1
  have cc1 : v8.cell? ⟨g, 1, none⟩ = some (.int .i64 c.p) := (B8 1 (by omega)).1
  have cc2 : v8.cell? ⟨g, 2, none⟩ = some (.int .i64 c.c) := (B8 2 (by omega)).1
  have cc3 : v8.cell? ⟨g, 3, none⟩ = some (.int .i64 c.s) := (B8 3 (by omega)).1
  have cc4 : v8.cell? ⟨g, 4, none⟩ = some (.int .i64 c.m) := (B8 4 (by omega)).1
  have cc5 : v8.cell? ⟨g, 5, none⟩ = some (.int .i64 c.w) := (B8 5 (by omega)).1
  have cc6 : v8.cell? ⟨g, 6, none⟩ = some (.bool c.f) := (B8 6 (by omega)).1
  go_wp2_with fail
  refine (hCp _).mono ?_
  rintro e v9 ⟨rfl, k9⟩
  clear cc0 cc1 cc2 cc3 cc4 cc5 cc6
  clear hCp
  have B9 := B8.keep k9 (fun e => e)
  have K9 := K8.trans k9
  clear B8 k9
  have cc0 : v9.cell? ⟨g, 0, none⟩ = some (.int .i64 c.b) := (B9 0 (by omega)).1
  have cc1 : v9.cell? ⟨g, 1, none⟩ = some (.int .i64 c.p) := (B9 1 (by omega)).1
  have cc2 : v9.cell? ⟨g, 2, none⟩ = some (.int .i64 c.c) := (B9 2 (by omega)).1
  have cc3 : v9.cell? ⟨g, 3, none⟩ = some (.int .i64 c.s) := (B9 3 (by omega)).1
  have cc4 : v9.cell? ⟨g, 4, none⟩ = some (.int .i64 c.m) := (B9 4 (by omega)).1
  have cc5 : v9.cell? ⟨g, 5, none⟩ = some (.int .i64 c.w) := (B9 5 (by omega)).1
  have cc6 : v9.cell? ⟨g, 6, none⟩ = some (.bool c.f) := (B9 6 (by omega)).1
  go_wp2_with fail
  refine (hGo _).mono ?_
  rintro e v10 ⟨rfl, k10⟩
  clear cc0 cc1 cc2 cc3 cc4 cc5 cc6
  clear hGo
  have B10 := B9.keep k10 (fun e => e)
  have K10 := K9.trans k10
  clear B9 k10
  have cc2 : v10.cell? ⟨g, 2, none⟩ = some (.int .i64 c.c) := (B10 2 (by omega)).1
  go_wp2_with fail
  go_ret
  exact ⟨rfl, K10⟩
set_option maxRecDepth 100000 in
set_option maxHeartbeats 2000000 in
theorem tells_c (w : World) {c : Cf} {n f : Int} (hAw : ∀ w : World, Calls Try.prog 8 #[] w fun e w' => e = .returned (.bool true) ∧ Keep (fun _ => False) w w') (hOf : ∀ w : World, Calls Try.prog 9 #[.agg #[.int .i64 c.b, .int .i64 c.p, .int .i64 c.c, .int .i64 c.s, .int .i64 c.m, .int .i64 c.w, .bool c.f]] w fun e w' => e = .returned (.tuple #[.agg #[.int .i64 (rbI c), .int .i64 (spI c), .int .i64 (omI c), .int .i64 (obI c), .int .i64 (rpI c), .int .i64 (lpI c), .int .i64 (ebI c), .int .i64 (mbI c), .int .i64 (wnI c), .int .i64 (slI c), .int .i64 (mrI c)], .int .i64 0]) ∧ Keep (fun _ => False) w w') (hSp : ∀ w : World, Calls Try.prog 13 #[.agg #[.int .i64 c.b, .int .i64 c.p, .int .i64 c.c, .int .i64 c.s, .int .i64 c.m, .int .i64 c.w, .bool c.f]] w fun e w' => e = .returned (.bool true) ∧ Keep (fun _ => False) w w') (hGo : ∀ w : World, Calls Try.prog 12 #[.agg #[.int .i64 c.b, .int .i64 c.p, .int .i64 c.c, .int .i64 c.s, .int .i64 c.m, .int .i64 c.w, .bool c.f]] w fun e w' => e = .returned (.bool true) ∧ Keep (fun _ => False) w w') (hRg : ∀ w : World, Calls Try.prog 16 #[.agg #[.int .i64 c.b, .int .i64 c.p, .int .i64 c.c, .int .i64 c.s, .int .i64 c.m, .int .i64 c.w, .bool c.f]] w fun e w' => e = .returned (.bool true) ∧ Keep (fun _ => False) w w') (hRo : ∀ w : World, Calls Try.prog 15 #[.agg #[.int .i64 c.b, .int .i64 c.p, .int .i64 c.c, .int .i64 c.s, .int .i64 c.m, .int .i64 c.w, .bool c.f]] w fun e w' => e = .returned (.agg #[.int .i64 (rbI c), .int .i64 (spI c), .int .i64 (omI c), .int .i64 (obI c), .int .i64 (rpI c), .int .i64 (lpI c), .int .i64 (ebI c), .int .i64 (mbI c), .int .i64 (wnI c), .int .i64 (slI c), .int .i64 (mrI c)]) ∧ Keep (fun _ => False) w w') (hIs : ∀ w : World, Calls Try.prog 14 #[.agg #[.int .i64 (rbI c), .int .i64 (spI c), .int .i64 (omI c), .int .i64 (obI c), .int .i64 (rpI c), .int .i64 (lpI c), .int .i64 (ebI c), .int .i64 (mbI c), .int .i64 (wnI c), .int .i64 (slI c), .int .i64 (mrI c)], .agg #[.int .i64 (rbI c), .int .i64 (spI c), .int .i64 (omI c), .int .i64 (obI c), .int .i64 (rpI c), .int .i64 (lpI c), .int .i64 (ebI c), .int .i64 (mbI c), .int .i64 (wnI c), .int .i64 (slI c), .int .i64 (mrI c)]] w fun e w' => e = .returned (.bool true) ∧ Keep (fun _ => False) w w') (hRw : ∀ w : World, Calls Try.prog 17 #[.agg #[.int .i64 c.b, .int .i64 c.p, .int .i64 c.c, .int .i64 c.s, .int .i64 c.m, .int .i64 c.w, .bool c.f], .int .i64 n] w fun e w' => e = .returned (.tuple #[.int .i64 0, .int .i64 1]) ∧ Keep (fun _ => False) w w') (hCp : ∀ w : World, Calls Try.prog 11 #[.agg #[.int .i64 c.b, .int .i64 c.p, .int .i64 c.c, .int .i64 c.s, .int .i64 c.m, .int .i64 c.w, .bool c.f], .int .i64 n, .int .i64 f] w fun e w' => e = .returned (.tuple #[.int .i64 0, .int .i64 1]) ∧ Keep (fun _ => False) w w') (d1 : n < 1) :
    Calls Try.prog 4 #[.agg #[.int .i64 c.b, .int .i64 c.p, .int .i64 c.c, .int .i64 c.s, .int .i64 c.m, .int .i64 c.w, .bool c.f], .int .i64 n, .int .i64 f] w fun e w' => e = .returned (.bool true) ∧ Keep (fun _ => False) w w' := by
  have B1 : Blk (w.alloc (.cells #[.int .i64 c.b, .int .i64 c.p, .int .i64 c.c, .int .i64 c.s, .int .i64 c.m, .int .i64 c.w, .bool c.f] 29)) w.heap.size 7 (ccell c) := blk_cf w c
  have K1 : Keep (fun _ => False) w (w.alloc (.cells #[.int .i64 c.b, .int .i64 c.p, .int .i64 c.c, .int .i64 c.s, .int .i64 c.m, .int .i64 c.w, .bool c.f] 29)) := (Keep.refl _ _).alloc _
  go_enter Try.func4, Try.ntmps4
  go_upto_region 1 with fail
  generalize w.alloc (.cells #[.int .i64 c.b, .int .i64 c.p, .int .i64 c.c, .int .i64 c.s, .int .i64 c.m, .int .i64 c.w, .bool c.f] 29) = v1 at B1 K1 ⊢
  generalize w.heap.size = g at B1 ⊢
  go_wp2_with fail
  refine (hAw _).mono ?_
  rintro e v2 ⟨rfl, k2⟩
  clear hAw
  have B2 := B1.keep k2 (fun e => e)
  have K2 := K1.trans k2
  clear B1 k2
  have cc0 : v2.cell? ⟨g, 0, none⟩ = some (.int .i64 c.b) := (B2 0 (by omega)).1
  have cc1 : v2.cell? ⟨g, 1, none⟩ = some (.int .i64 c.p) := (B2 1 (by omega)).1
  have cc2 : v2.cell? ⟨g, 2, none⟩ = some (.int .i64 c.c) := (B2 2 (by omega)).1
  have cc3 : v2.cell? ⟨g, 3, none⟩ = some (.int .i64 c.s) := (B2 3 (by omega)).1
  have cc4 : v2.cell? ⟨g, 4, none⟩ = some (.int .i64 c.m) := (B2 4 (by omega)).1
  have cc5 : v2.cell? ⟨g, 5, none⟩ = some (.int .i64 c.w) := (B2 5 (by omega)).1
  have cc6 : v2.cell? ⟨g, 6, none⟩ = some (.bool c.f) := (B2 6 (by omega)).1
  go_wp2_with fail
  refine (hOf _).mono ?_
  rintro e v3 ⟨rfl, k3⟩
  clear cc0 cc1 cc2 cc3 cc4 cc5 cc6
  clear hOf
  have B3 := B2.keep k3 (fun e => e)
  have K3 := K2.trans k3
  clear B2 k3
  have Z : Blk (v3.alloc (.cells #[.int .i64 (rbI c), .int .i64 (spI c), .int .i64 (omI c), .int .i64 (obI c), .int .i64 (rpI c), .int .i64 (lpI c), .int .i64 (ebI c), .int .i64 (mbI c), .int .i64 (wnI c), .int .i64 (slI c), .int .i64 (mrI c)] 24)) v3.heap.size 11 (scell [rbI c, spI c, omI c, obI c, rpI c, lpI c, ebI c, mbI c, wnI c, slI c, mrI c]) := blk_alloc v3 _ 24 11 _ (fun i hi => by
    have : i = 0 ∨ i = 1 ∨ i = 2 ∨ i = 3 ∨ i = 4 ∨ i = 5 ∨ i = 6 ∨ i = 7 ∨ i = 8 ∨ i = 9 ∨ i = 10 := by omega
    rcases this with rfl | rfl | rfl | rfl | rfl | rfl | rfl | rfl | rfl | rfl | rfl <;> rfl)
  have B4 := B3.alloc (.cells #[.int .i64 (rbI c), .int .i64 (spI c), .int .i64 (omI c), .int .i64 (obI c), .int .i64 (rpI c), .int .i64 (lpI c), .int .i64 (ebI c), .int .i64 (mbI c), .int .i64 (wnI c), .int .i64 (slI c), .int .i64 (mrI c)] 24)
  have K4 := K3.alloc (.cells #[.int .i64 (rbI c), .int .i64 (spI c), .int .i64 (omI c), .int .i64 (obI c), .int .i64 (rpI c), .int .i64 (lpI c), .int .i64 (ebI c), .int .i64 (mbI c), .int .i64 (wnI c), .int .i64 (slI c), .int .i64 (mrI c)] 24)
  go_upto_region 4 with fail
  generalize v3.alloc (.cells #[.int .i64 (rbI c), .int .i64 (spI c), .int .i64 (omI c), .int .i64 (obI c), .int .i64 (rpI c), .int .i64 (lpI c), .int .i64 (ebI c), .int .i64 (mbI c), .int .i64 (wnI c), .int .i64 (slI c), .int .i64 (mrI c)] 24) = v4 at Z B4 K4  ⊢
  generalize v3.heap.size = h at Z ⊢
  clear B3
  have cc0 : v4.cell? ⟨g, 0, none⟩ = some (.int .i64 c.b) := (B4 0 (by omega)).1
  have cc1 : v4.cell? ⟨g, 1, none⟩ = some (.int .i64 c.p) := (B4 1 (by omega)).1
  have cc2 : v4.cell? ⟨g, 2, none⟩ = some (.int .i64 c.c) := (B4 2 (by omega)).1
  have cc3 : v4.cell? ⟨g, 3, none⟩ = some (.int .i64 c.s) := (B4 3 (by omega)).1
  have cc4 : v4.cell? ⟨g, 4, none⟩ = some (.int .i64 c.m) := (B4 4 (by omega)).1
  have cc5 : v4.cell? ⟨g, 5, none⟩ = some (.int .i64 c.w) := (B4 5 (by omega)).1
  have cc6 : v4.cell? ⟨g, 6, none⟩ = some (.bool c.f) := (B4 6 (by omega)).1
  go_wp2_with fail
  refine (hSp _).mono ?_
  rintro e v5 ⟨rfl, k5⟩
  clear cc0 cc1 cc2 cc3 cc4 cc5 cc6
  clear hSp
  have B5 := B4.keep k5 (fun e => e)
  have K5 := K4.trans k5
  have Zn := Z.keep k5 (fun e => e)
  clear B4 k5
  clear Z
  have Z := Zn
  clear Zn
  go_upto_region 7 with fail
  refine wp_region_noPanic ?_
  refine wp_region_held_drew (S := fun w' => True ∧ w'.cell? ⟨g, 0, none⟩ = some (.int .i64 c.b) ∧ w'.cell? ⟨g, 1, none⟩ = some (.int .i64 c.p) ∧ w'.cell? ⟨g, 2, none⟩ = some (.int .i64 c.c) ∧ w'.cell? ⟨g, 3, none⟩ = some (.int .i64 c.s) ∧ w'.cell? ⟨g, 4, none⟩ = some (.int .i64 c.m) ∧ w'.cell? ⟨g, 5, none⟩ = some (.int .i64 c.w) ∧ w'.cell? ⟨g, 6, none⟩ = some (.bool c.f) ∧ w'.cell? ⟨h, 0, none⟩ = some (.int .i64 (rbI c)) ∧ w'.cell? ⟨h, 1, none⟩ = some (.int .i64 (spI c)) ∧ w'.cell? ⟨h, 2, none⟩ = some (.int .i64 (omI c)) ∧ w'.cell? ⟨h, 3, none⟩ = some (.int .i64 (obI c)) ∧ w'.cell? ⟨h, 4, none⟩ = some (.int .i64 (rpI c)) ∧ w'.cell? ⟨h, 5, none⟩ = some (.int .i64 (lpI c)) ∧ w'.cell? ⟨h, 6, none⟩ = some (.int .i64 (ebI c)) ∧ w'.cell? ⟨h, 7, none⟩ = some (.int .i64 (mbI c)) ∧ w'.cell? ⟨h, 8, none⟩ = some (.int .i64 (wnI c)) ∧ w'.cell? ⟨h, 9, none⟩ = some (.int .i64 (slI c)) ∧ w'.cell? ⟨h, 10, none⟩ = some (.int .i64 (mrI c))) (by kernel_rfl) (⟨trivial, ((B5.drew) 0 (by omega)).1, ((B5.drew) 1 (by omega)).1, ((B5.drew) 2 (by omega)).1, ((B5.drew) 3 (by omega)).1, ((B5.drew) 4 (by omega)).1, ((B5.drew) 5 (by omega)).1, ((B5.drew) 6 (by omega)).1, ((Z.drew) 0 (by omega)).1, ((Z.drew) 1 (by omega)).1, ((Z.drew) 2 (by omega)).1, ((Z.drew) 3 (by omega)).1, ((Z.drew) 4 (by omega)).1, ((Z.drew) 5 (by omega)).1, ((Z.drew) 6 (by omega)).1, ((Z.drew) 7 (by omega)).1, ((Z.drew) 8 (by omega)).1, ((Z.drew) 9 (by omega)).1, ((Z.drew) 10 (by omega)).1⟩) (fun hH0 => ?_)
  refine' wpAnyH_take (i := 0) (oi := { dst := some 35, op := Op.move (Operand.tmp 8), type := 25, pos := "law.go:53", after := #[], guard := none }) (v := _) rfl (by kernel_rfl) (by kernel_rfl) (by kernel_rfl) (fun _ _ _ h => h) (Or.inl ⟨by rfl, ?hytl0⟩) hH0 ?rtl0
  case hytl0 => (intro w' hSw; clear hSw; go_simp; try with_reducible rfl)
  simp only [Act.put, List.setIfInBounds_toArray, List.set_cons_zero, List.set_cons_succ]
  refine' wpAnyH_take (i := 1) (oi := { dst := some 36, op := Op.binOp BinOp.neq 25 (Operand.tmp 35) (Operand.const (Value.int IntKind.i64 0)) 25, type := 4, pos := "law.go:53", after := #[{ on := 0, ground := Ground.data }], guard := none }) (v := _) rfl (by kernel_rfl) (by kernel_rfl) (by kernel_rfl) (fun _ _ _ h => h) (Or.inl ⟨by rfl, ?hytl1⟩) hH0 ?rtl1
  case hytl1 => (intro w' hSw; clear hSw; go_simp; try with_reducible rfl)
  simp only [Act.put, List.setIfInBounds_toArray, List.set_cons_zero, List.set_cons_succ]
  refine' wpAnyH_take (i := 2) (oi := { dst := some 37, op := Op.move (Operand.tmp 36), type := 4, pos := "law.go:53", after := #[{ on := 1, ground := Ground.data }], guard := none }) (v := _) rfl (by kernel_rfl) (by kernel_rfl) (by kernel_rfl) (fun _ _ _ h => h) (Or.inl ⟨by rfl, ?hytl2⟩) hH0 ?rtl2
  case hytl2 => (intro w' hSw; clear hSw; go_simp; try with_reducible rfl)
  simp only [Act.put, List.setIfInBounds_toArray, List.set_cons_zero, List.set_cons_succ]
  refine' wpAnyH_take (i := 3) (oi := { dst := some 38, op := Op.load 24 (Operand.tmp 7), type := 24, pos := "law.go:53", after := #[{ on := 2, ground := Ground.guard }], guard := some (2, false) }) (v := _) rfl (by kernel_rfl) (by kernel_rfl) (by kernel_rfl) (fun _ _ _ h => h) (Or.inl ⟨by rfl, ?hytl3⟩) hH0 ?rtl3
  case hytl3 => (intro w' hSw; obtain ⟨-, z0, z1, z2, z3, z4, z5, z6, z7, z8, z9, z10, z11, z12, z13, z14, z15, z16, z17⟩ := hSw; go_simp; try with_reducible rfl)
  simp only [Act.put, List.setIfInBounds_toArray, List.set_cons_zero, List.set_cons_succ]
  refine' wpAnyH_take (i := 4) (oi := { dst := some 39, op := Op.load 29 (Operand.tmp 3), type := 29, pos := "law.go:53", after := #[{ on := 2, ground := Ground.guard }], guard := some (2, false) }) (v := _) rfl (by kernel_rfl) (by kernel_rfl) (by kernel_rfl) (fun _ _ _ h => h) (Or.inl ⟨by rfl, ?hytl4⟩) hH0 ?rtl4
  case hytl4 => (intro w' hSw; obtain ⟨-, z0, z1, z2, z3, z4, z5, z6, z7, z8, z9, z10, z11, z12, z13, z14, z15, z16, z17⟩ := hSw; go_simp; try with_reducible rfl)
  simp only [Act.put, List.setIfInBounds_toArray, List.set_cons_zero, List.set_cons_succ]
  refine wpAnyH_ready (rs := [5]) (by kernel_rfl) (by simp) ?_
  refine AllReadyH.cons (o := { dst := some 40, op := Op.call { callee := Callee.value (Operand.func 15), args := #[Operand.tmp 39], argTypes := #[29] }, type := 35, pos := "law.go:53", after := #[{ on := 4, ground := Ground.data }, { on := 2, ground := Ground.chain }, { on := 2, ground := Ground.guard }], guard := some (2, false) }) rfl (fun K hK => ?_) AllReadyH.nil
  refine step_call_want (vs := #[.agg #[.int .i64 c.b, .int .i64 c.p, .int .i64 c.c, .int .i64 c.s, .int .i64 c.m, .int .i64 c.w, .bool c.f]]) (R := fun u wz => u = .agg #[.int .i64 (rbI c), .int .i64 (spI c), .int .i64 (omI c), .int .i64 (obI c), .int .i64 (rpI c), .int .i64 (lpI c), .int .i64 (ebI c), .int .i64 (mbI c), .int .i64 (wnI c), .int .i64 (slI c), .int .i64 (mrI c)] ∧ Keep (fun _ => False) v5.drew wz) (by rfl) 15 #[Operand.tmp 39] #[29] rfl (by simp [Act.eval]) call15 (post_of (hRo _)) ?_
  rintro _ y1 ⟨rfl, j1⟩
  refine hK.out _ _ (⟨trivial, ((Blk.keep (B5.drew) j1 (fun e => e)) 0 (by omega)).1, ((Blk.keep (B5.drew) j1 (fun e => e)) 1 (by omega)).1, ((Blk.keep (B5.drew) j1 (fun e => e)) 2 (by omega)).1, ((Blk.keep (B5.drew) j1 (fun e => e)) 3 (by omega)).1, ((Blk.keep (B5.drew) j1 (fun e => e)) 4 (by omega)).1, ((Blk.keep (B5.drew) j1 (fun e => e)) 5 (by omega)).1, ((Blk.keep (B5.drew) j1 (fun e => e)) 6 (by omega)).1, ((Blk.keep (Z.drew) j1 (fun e => e)) 0 (by omega)).1, ((Blk.keep (Z.drew) j1 (fun e => e)) 1 (by omega)).1, ((Blk.keep (Z.drew) j1 (fun e => e)) 2 (by omega)).1, ((Blk.keep (Z.drew) j1 (fun e => e)) 3 (by omega)).1, ((Blk.keep (Z.drew) j1 (fun e => e)) 4 (by omega)).1, ((Blk.keep (Z.drew) j1 (fun e => e)) 5 (by omega)).1, ((Blk.keep (Z.drew) j1 (fun e => e)) 6 (by omega)).1, ((Blk.keep (Z.drew) j1 (fun e => e)) 7 (by omega)).1, ((Blk.keep (Z.drew) j1 (fun e => e)) 8 (by omega)).1, ((Blk.keep (Z.drew) j1 (fun e => e)) 9 (by omega)).1, ((Blk.keep (Z.drew) j1 (fun e => e)) 10 (by omega)).1⟩) (fun hH1 => ?_)
  clear hK K hH0
  simp only [Act.put, List.setIfInBounds_toArray, List.set_cons_zero, List.set_cons_succ]
  refine wpAnyH_ready (rs := [6]) (by kernel_rfl) (by simp) ?_
  refine AllReadyH.cons (o := { dst := some 41, op := Op.call { callee := Callee.value (Operand.func 14), args := #[Operand.tmp 38, Operand.tmp 40], argTypes := #[24, 35] }, type := 4, pos := "law.go:53", after := #[{ on := 3, ground := Ground.data }, { on := 5, ground := Ground.data }, { on := 5, ground := Ground.chain }, { on := 2, ground := Ground.guard }], guard := some (2, false) }) rfl (fun K hK => ?_) AllReadyH.nil
  refine step_call_want (vs := #[.agg #[.int .i64 (rbI c), .int .i64 (spI c), .int .i64 (omI c), .int .i64 (obI c), .int .i64 (rpI c), .int .i64 (lpI c), .int .i64 (ebI c), .int .i64 (mbI c), .int .i64 (wnI c), .int .i64 (slI c), .int .i64 (mrI c)], .agg #[.int .i64 (rbI c), .int .i64 (spI c), .int .i64 (omI c), .int .i64 (obI c), .int .i64 (rpI c), .int .i64 (lpI c), .int .i64 (ebI c), .int .i64 (mbI c), .int .i64 (wnI c), .int .i64 (slI c), .int .i64 (mrI c)]]) (R := fun u wz => u = .bool true ∧ Keep (fun _ => False) y1 wz) (by rfl) 14 #[Operand.tmp 38, Operand.tmp 40] #[24, 35] rfl (by simp [Act.eval]) call14 (post_of (hIs _)) ?_
  rintro _ y2 ⟨rfl, j2⟩
  refine hK.out _ _ (⟨trivial, ((Blk.keep (B5.drew) (j1.trans j2) (fun e => e)) 0 (by omega)).1, ((Blk.keep (B5.drew) (j1.trans j2) (fun e => e)) 1 (by omega)).1, ((Blk.keep (B5.drew) (j1.trans j2) (fun e => e)) 2 (by omega)).1, ((Blk.keep (B5.drew) (j1.trans j2) (fun e => e)) 3 (by omega)).1, ((Blk.keep (B5.drew) (j1.trans j2) (fun e => e)) 4 (by omega)).1, ((Blk.keep (B5.drew) (j1.trans j2) (fun e => e)) 5 (by omega)).1, ((Blk.keep (B5.drew) (j1.trans j2) (fun e => e)) 6 (by omega)).1, ((Blk.keep (Z.drew) (j1.trans j2) (fun e => e)) 0 (by omega)).1, ((Blk.keep (Z.drew) (j1.trans j2) (fun e => e)) 1 (by omega)).1, ((Blk.keep (Z.drew) (j1.trans j2) (fun e => e)) 2 (by omega)).1, ((Blk.keep (Z.drew) (j1.trans j2) (fun e => e)) 3 (by omega)).1, ((Blk.keep (Z.drew) (j1.trans j2) (fun e => e)) 4 (by omega)).1, ((Blk.keep (Z.drew) (j1.trans j2) (fun e => e)) 5 (by omega)).1, ((Blk.keep (Z.drew) (j1.trans j2) (fun e => e)) 6 (by omega)).1, ((Blk.keep (Z.drew) (j1.trans j2) (fun e => e)) 7 (by omega)).1, ((Blk.keep (Z.drew) (j1.trans j2) (fun e => e)) 8 (by omega)).1, ((Blk.keep (Z.drew) (j1.trans j2) (fun e => e)) 9 (by omega)).1, ((Blk.keep (Z.drew) (j1.trans j2) (fun e => e)) 10 (by omega)).1⟩) (fun hH2 => ?_)
  clear hK K hH1
  simp only [Act.put, List.setIfInBounds_toArray, List.set_cons_zero, List.set_cons_succ]
  refine' wpAnyH_take (i := 7) (oi := { dst := some 42, op := Op.unOp UnOp.not 4 (Operand.tmp 41), type := 4, pos := "law.go:53", after := #[{ on := 6, ground := Ground.data }, { on := 2, ground := Ground.guard }], guard := some (2, false) }) (v := _) rfl (by kernel_rfl) (by kernel_rfl) (by kernel_rfl) (fun _ _ _ h => h) (Or.inl ⟨by rfl, ?hytl7⟩) hH2 ?rtl7
  case hytl7 => (intro w' hSw; clear hSw; go_simp; try with_reducible rfl)
  simp only [Act.put, List.setIfInBounds_toArray, List.set_cons_zero, List.set_cons_succ]
  refine' wpAnyH_take (i := 8) (oi := { dst := some 43, op := Op.pick (Operand.tmp 37) (Operand.const (Value.bool true)) (Operand.tmp 42), type := 4, pos := "law.go:53", after := #[{ on := 2, ground := Ground.data }, { on := 7, ground := Ground.data }], guard := none }) (v := _) rfl (by kernel_rfl) (by kernel_rfl) (by kernel_rfl) (fun _ _ _ h => h) (Or.inl ⟨by rfl, ?hytl8⟩) hH2 ?rtl8
  case hytl8 => (intro w' hSw; clear hSw; go_simp; try with_reducible rfl)
  simp only [Act.put, List.setIfInBounds_toArray, List.set_cons_zero, List.set_cons_succ]
  refine wpAnyH_done (by kernel_rfl) ?_ _
  refine NoPanic.normal ?_
  have kj : Keep (fun _ => False) v5 y2 := (Keep.refl (fun _ => False) v5).drew.trans (j1.trans j2)
  clear j1 j2 hRo hIs
  have B6 := B5.keep kj (fun e => e)
  have K6 := K5.trans kj
  have Zn := Z.keep kj (fun e => e)
  clear B5 kj
  clear Z
  have Z := Zn
  clear Zn
  clear Z
  have cc0 : y2.cell? ⟨g, 0, none⟩ = some (.int .i64 c.b) := (B6 0 (by omega)).1
  have cc1 : y2.cell? ⟨g, 1, none⟩ = some (.int .i64 c.p) := (B6 1 (by omega)).1
  have cc2 : y2.cell? ⟨g, 2, none⟩ = some (.int .i64 c.c) := (B6 2 (by omega)).1
  have cc3 : y2.cell? ⟨g, 3, none⟩ = some (.int .i64 c.s) := (B6 3 (by omega)).1
  have cc4 : y2.cell? ⟨g, 4, none⟩ = some (.int .i64 c.m) := (B6 4 (by omega)).1
  have cc5 : y2.cell? ⟨g, 5, none⟩ = some (.int .i64 c.w) := (B6 5 (by omega)).1
  have cc6 : y2.cell? ⟨g, 6, none⟩ = some (.bool c.f) := (B6 6 (by omega)).1
  go_wp2_with fail
  refine (hRg _).mono ?_
  rintro e v7 ⟨rfl, k7⟩
  clear cc0 cc1 cc2 cc3 cc4 cc5 cc6
  clear hRg
  have B7 := B6.keep k7 (fun e => e)
  have K7 := K6.trans k7
  clear B6 k7
  have cc0 : v7.cell? ⟨g, 0, none⟩ = some (.int .i64 c.b) := (B7 0 (by omega)).1
  have cc1 : v7.cell? ⟨g, 1, none⟩ = some (.int .i64 c.p) := (B7 1 (by omega)).1
  have cc2 : v7.cell? ⟨g, 2, none⟩ = some (.int .i64 c.c) := (B7 2 (by omega)).1
  have cc3 : v7.cell? ⟨g, 3, none⟩ = some (.int .i64 c.s) := (B7 3 (by omega)).1
  have cc4 : v7.cell? ⟨g, 4, none⟩ = some (.int .i64 c.m) := (B7 4 (by omega)).1
  have cc5 : v7.cell? ⟨g, 5, none⟩ = some (.int .i64 c.w) := (B7 5 (by omega)).1
  have cc6 : v7.cell? ⟨g, 6, none⟩ = some (.bool c.f) := (B7 6 (by omega)).1
  go_wp2_with fail
  refine (hRw _).mono ?_
  rintro e v8 ⟨rfl, k8⟩
  clear cc0 cc1 cc2 cc3 cc4 cc5 cc6
  clear hRw
  have B8 := B7.keep k8 (fun e => e)
  have K8 := K7.trans k8
  clear B7 k8
  have cc0 : v8.cell? ⟨g, 0, none⟩ = some (.int .i64 c.b) := (B8 0 (by omega)).1
  have cc1 : v8.cell? ⟨g, 1, none⟩ = some (.int .i64 c.p) := (B8 1 (by omega)).1
  have cc2 : v8.cell? ⟨g, 2, none⟩ = some (.int .i64 c.c) := (B8 2 (by omega)).1
  have cc3 : v8.cell? ⟨g, 3, none⟩ = some (.int .i64 c.s) := (B8 3 (by omega)).1
  have cc4 : v8.cell? ⟨g, 4, none⟩ = some (.int .i64 c.m) := (B8 4 (by omega)).1
  have cc5 : v8.cell? ⟨g, 5, none⟩ = some (.int .i64 c.w) := (B8 5 (by omega)).1
  have cc6 : v8.cell? ⟨g, 6, none⟩ = some (.bool c.f) := (B8 6 (by omega)).1
  go_wp2_with fail
  refine (hCp _).mono ?_
  rintro e v9 ⟨rfl, k9⟩
  clear cc0 cc1 cc2 cc3 cc4 cc5 cc6
  clear hCp
  have B9 := B8.keep k9 (fun e => e)
  have K9 := K8.trans k9
  clear B8 k9
  have cc0 : v9.cell? ⟨g, 0, none⟩ = some (.int .i64 c.b) := (B9 0 (by omega)).1
  have cc1 : v9.cell? ⟨g, 1, none⟩ = some (.int .i64 c.p) := (B9 1 (by omega)).1
  have cc2 : v9.cell? ⟨g, 2, none⟩ = some (.int .i64 c.c) := (B9 2 (by omega)).1
  have cc3 : v9.cell? ⟨g, 3, none⟩ = some (.int .i64 c.s) := (B9 3 (by omega)).1
  have cc4 : v9.cell? ⟨g, 4, none⟩ = some (.int .i64 c.m) := (B9 4 (by omega)).1
  have cc5 : v9.cell? ⟨g, 5, none⟩ = some (.int .i64 c.w) := (B9 5 (by omega)).1
  have cc6 : v9.cell? ⟨g, 6, none⟩ = some (.bool c.f) := (B9 6 (by omega)).1
  go_wp2_with fail
  refine (hGo _).mono ?_
  rintro e v10 ⟨rfl, k10⟩
  clear cc0 cc1 cc2 cc3 cc4 cc5 cc6
  clear hGo
  have B10 := B9.keep k10 (fun e => e)
  have K10 := K9.trans k10
  clear B9 k10
  have cc2 : v10.cell? ⟨g, 2, none⟩ = some (.int .i64 c.c) := (B10 2 (by omega)).1
  go_wp2_with fail
  go_ret
  exact ⟨rfl, K10⟩
set_option maxRecDepth 100000 in
set_option maxHeartbeats 2000000 in
theorem tells_d (w : World) {c : Cf} {n f : Int} (hAw : ∀ w : World, Calls Try.prog 8 #[] w fun e w' => e = .returned (.bool true) ∧ Keep (fun _ => False) w w') (hOf : ∀ w : World, Calls Try.prog 9 #[.agg #[.int .i64 c.b, .int .i64 c.p, .int .i64 c.c, .int .i64 c.s, .int .i64 c.m, .int .i64 c.w, .bool c.f]] w fun e w' => e = .returned (.tuple #[.agg #[.int .i64 (rbI c), .int .i64 (spI c), .int .i64 (omI c), .int .i64 (obI c), .int .i64 (rpI c), .int .i64 (lpI c), .int .i64 (ebI c), .int .i64 (mbI c), .int .i64 (wnI c), .int .i64 (slI c), .int .i64 (mrI c)], .int .i64 0]) ∧ Keep (fun _ => False) w w') (hSp : ∀ w : World, Calls Try.prog 13 #[.agg #[.int .i64 c.b, .int .i64 c.p, .int .i64 c.c, .int .i64 c.s, .int .i64 c.m, .int .i64 c.w, .bool c.f]] w fun e w' => e = .returned (.bool true) ∧ Keep (fun _ => False) w w') (hGo : ∀ w : World, Calls Try.prog 12 #[.agg #[.int .i64 c.b, .int .i64 c.p, .int .i64 c.c, .int .i64 c.s, .int .i64 c.m, .int .i64 c.w, .bool c.f]] w fun e w' => e = .returned (.bool true) ∧ Keep (fun _ => False) w w') (hRg : ∀ w : World, Calls Try.prog 16 #[.agg #[.int .i64 c.b, .int .i64 c.p, .int .i64 c.c, .int .i64 c.s, .int .i64 c.m, .int .i64 c.w, .bool c.f]] w fun e w' => e = .returned (.bool true) ∧ Keep (fun _ => False) w w') (hRo : ∀ w : World, Calls Try.prog 15 #[.agg #[.int .i64 c.b, .int .i64 c.p, .int .i64 c.c, .int .i64 c.s, .int .i64 c.m, .int .i64 c.w, .bool c.f]] w fun e w' => e = .returned (.agg #[.int .i64 (rbI c), .int .i64 (spI c), .int .i64 (omI c), .int .i64 (obI c), .int .i64 (rpI c), .int .i64 (lpI c), .int .i64 (ebI c), .int .i64 (mbI c), .int .i64 (wnI c), .int .i64 (slI c), .int .i64 (mrI c)]) ∧ Keep (fun _ => False) w w') (hIs : ∀ w : World, Calls Try.prog 14 #[.agg #[.int .i64 (rbI c), .int .i64 (spI c), .int .i64 (omI c), .int .i64 (obI c), .int .i64 (rpI c), .int .i64 (lpI c), .int .i64 (ebI c), .int .i64 (mbI c), .int .i64 (wnI c), .int .i64 (slI c), .int .i64 (mrI c)], .agg #[.int .i64 (rbI c), .int .i64 (spI c), .int .i64 (omI c), .int .i64 (obI c), .int .i64 (rpI c), .int .i64 (lpI c), .int .i64 (ebI c), .int .i64 (mbI c), .int .i64 (wnI c), .int .i64 (slI c), .int .i64 (mrI c)]] w fun e w' => e = .returned (.bool true) ∧ Keep (fun _ => False) w w') (hRw : ∀ w : World, Calls Try.prog 17 #[.agg #[.int .i64 c.b, .int .i64 c.p, .int .i64 c.c, .int .i64 c.s, .int .i64 c.m, .int .i64 c.w, .bool c.f], .int .i64 n] w fun e w' => e = .returned (.tuple #[.int .i64 0, .int .i64 1]) ∧ Keep (fun _ => False) w w') (hCp : ∀ w : World, Calls Try.prog 11 #[.agg #[.int .i64 c.b, .int .i64 c.p, .int .i64 c.c, .int .i64 c.s, .int .i64 c.m, .int .i64 c.w, .bool c.f], .int .i64 n, .int .i64 f] w fun e w' => e = .returned (.tuple #[.int .i64 0, .int .i64 1]) ∧ Keep (fun _ => False) w w') (d1 : ¬ n < 1) (d2 : c.c < n) :
    Calls Try.prog 4 #[.agg #[.int .i64 c.b, .int .i64 c.p, .int .i64 c.c, .int .i64 c.s, .int .i64 c.m, .int .i64 c.w, .bool c.f], .int .i64 n, .int .i64 f] w fun e w' => e = .returned (.bool true) ∧ Keep (fun _ => False) w w' := by
  have B1 : Blk (w.alloc (.cells #[.int .i64 c.b, .int .i64 c.p, .int .i64 c.c, .int .i64 c.s, .int .i64 c.m, .int .i64 c.w, .bool c.f] 29)) w.heap.size 7 (ccell c) := blk_cf w c
  have K1 : Keep (fun _ => False) w (w.alloc (.cells #[.int .i64 c.b, .int .i64 c.p, .int .i64 c.c, .int .i64 c.s, .int .i64 c.m, .int .i64 c.w, .bool c.f] 29)) := (Keep.refl _ _).alloc _
  go_enter Try.func4, Try.ntmps4
  go_upto_region 1 with fail
  generalize w.alloc (.cells #[.int .i64 c.b, .int .i64 c.p, .int .i64 c.c, .int .i64 c.s, .int .i64 c.m, .int .i64 c.w, .bool c.f] 29) = v1 at B1 K1 ⊢
  generalize w.heap.size = g at B1 ⊢
  go_wp2_with fail
  refine (hAw _).mono ?_
  rintro e v2 ⟨rfl, k2⟩
  clear hAw
  have B2 := B1.keep k2 (fun e => e)
  have K2 := K1.trans k2
  clear B1 k2
  have cc0 : v2.cell? ⟨g, 0, none⟩ = some (.int .i64 c.b) := (B2 0 (by omega)).1
  have cc1 : v2.cell? ⟨g, 1, none⟩ = some (.int .i64 c.p) := (B2 1 (by omega)).1
  have cc2 : v2.cell? ⟨g, 2, none⟩ = some (.int .i64 c.c) := (B2 2 (by omega)).1
  have cc3 : v2.cell? ⟨g, 3, none⟩ = some (.int .i64 c.s) := (B2 3 (by omega)).1
  have cc4 : v2.cell? ⟨g, 4, none⟩ = some (.int .i64 c.m) := (B2 4 (by omega)).1
  have cc5 : v2.cell? ⟨g, 5, none⟩ = some (.int .i64 c.w) := (B2 5 (by omega)).1
  have cc6 : v2.cell? ⟨g, 6, none⟩ = some (.bool c.f) := (B2 6 (by omega)).1
  go_wp2_with fail
  refine (hOf _).mono ?_
  rintro e v3 ⟨rfl, k3⟩
  clear cc0 cc1 cc2 cc3 cc4 cc5 cc6
  clear hOf
  have B3 := B2.keep k3 (fun e => e)
  have K3 := K2.trans k3
  clear B2 k3
  have Z : Blk (v3.alloc (.cells #[.int .i64 (rbI c), .int .i64 (spI c), .int .i64 (omI c), .int .i64 (obI c), .int .i64 (rpI c), .int .i64 (lpI c), .int .i64 (ebI c), .int .i64 (mbI c), .int .i64 (wnI c), .int .i64 (slI c), .int .i64 (mrI c)] 24)) v3.heap.size 11 (scell [rbI c, spI c, omI c, obI c, rpI c, lpI c, ebI c, mbI c, wnI c, slI c, mrI c]) := blk_alloc v3 _ 24 11 _ (fun i hi => by
    have : i = 0 ∨ i = 1 ∨ i = 2 ∨ i = 3 ∨ i = 4 ∨ i = 5 ∨ i = 6 ∨ i = 7 ∨ i = 8 ∨ i = 9 ∨ i = 10 := by omega
    rcases this with rfl | rfl | rfl | rfl | rfl | rfl | rfl | rfl | rfl | rfl | rfl <;> rfl)
  have B4 := B3.alloc (.cells #[.int .i64 (rbI c), .int .i64 (spI c), .int .i64 (omI c), .int .i64 (obI c), .int .i64 (rpI c), .int .i64 (lpI c), .int .i64 (ebI c), .int .i64 (mbI c), .int .i64 (wnI c), .int .i64 (slI c), .int .i64 (mrI c)] 24)
  have K4 := K3.alloc (.cells #[.int .i64 (rbI c), .int .i64 (spI c), .int .i64 (omI c), .int .i64 (obI c), .int .i64 (rpI c), .int .i64 (lpI c), .int .i64 (ebI c), .int .i64 (mbI c), .int .i64 (wnI c), .int .i64 (slI c), .int .i64 (mrI c)] 24)
  go_upto_region 4 with fail
  generalize v3.alloc (.cells #[.int .i64 (rbI c), .int .i64 (spI c), .int .i64 (omI c), .int .i64 (obI c), .int .i64 (rpI c), .int .i64 (lpI c), .int .i64 (ebI c), .int .i64 (mbI c), .int .i64 (wnI c), .int .i64 (slI c), .int .i64 (mrI c)] 24) = v4 at Z B4 K4  ⊢
  generalize v3.heap.size = h at Z ⊢
  clear B3
  have cc0 : v4.cell? ⟨g, 0, none⟩ = some (.int .i64 c.b) := (B4 0 (by omega)).1
  have cc1 : v4.cell? ⟨g, 1, none⟩ = some (.int .i64 c.p) := (B4 1 (by omega)).1
  have cc2 : v4.cell? ⟨g, 2, none⟩ = some (.int .i64 c.c) := (B4 2 (by omega)).1
  have cc3 : v4.cell? ⟨g, 3, none⟩ = some (.int .i64 c.s) := (B4 3 (by omega)).1
  have cc4 : v4.cell? ⟨g, 4, none⟩ = some (.int .i64 c.m) := (B4 4 (by omega)).1
  have cc5 : v4.cell? ⟨g, 5, none⟩ = some (.int .i64 c.w) := (B4 5 (by omega)).1
  have cc6 : v4.cell? ⟨g, 6, none⟩ = some (.bool c.f) := (B4 6 (by omega)).1
  go_wp2_with fail
  refine (hSp _).mono ?_
  rintro e v5 ⟨rfl, k5⟩
  clear cc0 cc1 cc2 cc3 cc4 cc5 cc6
  clear hSp
  have B5 := B4.keep k5 (fun e => e)
  have K5 := K4.trans k5
  have Zn := Z.keep k5 (fun e => e)
  clear B4 k5
  clear Z
  have Z := Zn
  clear Zn
  go_upto_region 7 with fail
  refine wp_region_noPanic ?_
  refine wp_region_held_drew (S := fun w' => True ∧ w'.cell? ⟨g, 0, none⟩ = some (.int .i64 c.b) ∧ w'.cell? ⟨g, 1, none⟩ = some (.int .i64 c.p) ∧ w'.cell? ⟨g, 2, none⟩ = some (.int .i64 c.c) ∧ w'.cell? ⟨g, 3, none⟩ = some (.int .i64 c.s) ∧ w'.cell? ⟨g, 4, none⟩ = some (.int .i64 c.m) ∧ w'.cell? ⟨g, 5, none⟩ = some (.int .i64 c.w) ∧ w'.cell? ⟨g, 6, none⟩ = some (.bool c.f) ∧ w'.cell? ⟨h, 0, none⟩ = some (.int .i64 (rbI c)) ∧ w'.cell? ⟨h, 1, none⟩ = some (.int .i64 (spI c)) ∧ w'.cell? ⟨h, 2, none⟩ = some (.int .i64 (omI c)) ∧ w'.cell? ⟨h, 3, none⟩ = some (.int .i64 (obI c)) ∧ w'.cell? ⟨h, 4, none⟩ = some (.int .i64 (rpI c)) ∧ w'.cell? ⟨h, 5, none⟩ = some (.int .i64 (lpI c)) ∧ w'.cell? ⟨h, 6, none⟩ = some (.int .i64 (ebI c)) ∧ w'.cell? ⟨h, 7, none⟩ = some (.int .i64 (mbI c)) ∧ w'.cell? ⟨h, 8, none⟩ = some (.int .i64 (wnI c)) ∧ w'.cell? ⟨h, 9, none⟩ = some (.int .i64 (slI c)) ∧ w'.cell? ⟨h, 10, none⟩ = some (.int .i64 (mrI c))) (by kernel_rfl) (⟨trivial, ((B5.drew) 0 (by omega)).1, ((B5.drew) 1 (by omega)).1, ((B5.drew) 2 (by omega)).1, ((B5.drew) 3 (by omega)).1, ((B5.drew) 4 (by omega)).1, ((B5.drew) 5 (by omega)).1, ((B5.drew) 6 (by omega)).1, ((Z.drew) 0 (by omega)).1, ((Z.drew) 1 (by omega)).1, ((Z.drew) 2 (by omega)).1, ((Z.drew) 3 (by omega)).1, ((Z.drew) 4 (by omega)).1, ((Z.drew) 5 (by omega)).1, ((Z.drew) 6 (by omega)).1, ((Z.drew) 7 (by omega)).1, ((Z.drew) 8 (by omega)).1, ((Z.drew) 9 (by omega)).1, ((Z.drew) 10 (by omega)).1⟩) (fun hH0 => ?_)
  refine' wpAnyH_take (i := 0) (oi := { dst := some 35, op := Op.move (Operand.tmp 8), type := 25, pos := "law.go:53", after := #[], guard := none }) (v := _) rfl (by kernel_rfl) (by kernel_rfl) (by kernel_rfl) (fun _ _ _ h => h) (Or.inl ⟨by rfl, ?hytl0⟩) hH0 ?rtl0
  case hytl0 => (intro w' hSw; clear hSw; go_simp; try with_reducible rfl)
  simp only [Act.put, List.setIfInBounds_toArray, List.set_cons_zero, List.set_cons_succ]
  refine' wpAnyH_take (i := 1) (oi := { dst := some 36, op := Op.binOp BinOp.neq 25 (Operand.tmp 35) (Operand.const (Value.int IntKind.i64 0)) 25, type := 4, pos := "law.go:53", after := #[{ on := 0, ground := Ground.data }], guard := none }) (v := _) rfl (by kernel_rfl) (by kernel_rfl) (by kernel_rfl) (fun _ _ _ h => h) (Or.inl ⟨by rfl, ?hytl1⟩) hH0 ?rtl1
  case hytl1 => (intro w' hSw; clear hSw; go_simp; try with_reducible rfl)
  simp only [Act.put, List.setIfInBounds_toArray, List.set_cons_zero, List.set_cons_succ]
  refine' wpAnyH_take (i := 2) (oi := { dst := some 37, op := Op.move (Operand.tmp 36), type := 4, pos := "law.go:53", after := #[{ on := 1, ground := Ground.data }], guard := none }) (v := _) rfl (by kernel_rfl) (by kernel_rfl) (by kernel_rfl) (fun _ _ _ h => h) (Or.inl ⟨by rfl, ?hytl2⟩) hH0 ?rtl2
  case hytl2 => (intro w' hSw; clear hSw; go_simp; try with_reducible rfl)
  simp only [Act.put, List.setIfInBounds_toArray, List.set_cons_zero, List.set_cons_succ]
  refine' wpAnyH_take (i := 3) (oi := { dst := some 38, op := Op.load 24 (Operand.tmp 7), type := 24, pos := "law.go:53", after := #[{ on := 2, ground := Ground.guard }], guard := some (2, false) }) (v := _) rfl (by kernel_rfl) (by kernel_rfl) (by kernel_rfl) (fun _ _ _ h => h) (Or.inl ⟨by rfl, ?hytl3⟩) hH0 ?rtl3
  case hytl3 => (intro w' hSw; obtain ⟨-, z0, z1, z2, z3, z4, z5, z6, z7, z8, z9, z10, z11, z12, z13, z14, z15, z16, z17⟩ := hSw; go_simp; try with_reducible rfl)
  simp only [Act.put, List.setIfInBounds_toArray, List.set_cons_zero, List.set_cons_succ]
  refine' wpAnyH_take (i := 4) (oi := { dst := some 39, op := Op.load 29 (Operand.tmp 3), type := 29, pos := "law.go:53", after := #[{ on := 2, ground := Ground.guard }], guard := some (2, false) }) (v := _) rfl (by kernel_rfl) (by kernel_rfl) (by kernel_rfl) (fun _ _ _ h => h) (Or.inl ⟨by rfl, ?hytl4⟩) hH0 ?rtl4
  case hytl4 => (intro w' hSw; obtain ⟨-, z0, z1, z2, z3, z4, z5, z6, z7, z8, z9, z10, z11, z12, z13, z14, z15, z16, z17⟩ := hSw; go_simp; try with_reducible rfl)
  simp only [Act.put, List.setIfInBounds_toArray, List.set_cons_zero, List.set_cons_succ]
  refine wpAnyH_ready (rs := [5]) (by kernel_rfl) (by simp) ?_
  refine AllReadyH.cons (o := { dst := some 40, op := Op.call { callee := Callee.value (Operand.func 15), args := #[Operand.tmp 39], argTypes := #[29] }, type := 35, pos := "law.go:53", after := #[{ on := 4, ground := Ground.data }, { on := 2, ground := Ground.chain }, { on := 2, ground := Ground.guard }], guard := some (2, false) }) rfl (fun K hK => ?_) AllReadyH.nil
  refine step_call_want (vs := #[.agg #[.int .i64 c.b, .int .i64 c.p, .int .i64 c.c, .int .i64 c.s, .int .i64 c.m, .int .i64 c.w, .bool c.f]]) (R := fun u wz => u = .agg #[.int .i64 (rbI c), .int .i64 (spI c), .int .i64 (omI c), .int .i64 (obI c), .int .i64 (rpI c), .int .i64 (lpI c), .int .i64 (ebI c), .int .i64 (mbI c), .int .i64 (wnI c), .int .i64 (slI c), .int .i64 (mrI c)] ∧ Keep (fun _ => False) v5.drew wz) (by rfl) 15 #[Operand.tmp 39] #[29] rfl (by simp [Act.eval]) call15 (post_of (hRo _)) ?_
  rintro _ y1 ⟨rfl, j1⟩
  refine hK.out _ _ (⟨trivial, ((Blk.keep (B5.drew) j1 (fun e => e)) 0 (by omega)).1, ((Blk.keep (B5.drew) j1 (fun e => e)) 1 (by omega)).1, ((Blk.keep (B5.drew) j1 (fun e => e)) 2 (by omega)).1, ((Blk.keep (B5.drew) j1 (fun e => e)) 3 (by omega)).1, ((Blk.keep (B5.drew) j1 (fun e => e)) 4 (by omega)).1, ((Blk.keep (B5.drew) j1 (fun e => e)) 5 (by omega)).1, ((Blk.keep (B5.drew) j1 (fun e => e)) 6 (by omega)).1, ((Blk.keep (Z.drew) j1 (fun e => e)) 0 (by omega)).1, ((Blk.keep (Z.drew) j1 (fun e => e)) 1 (by omega)).1, ((Blk.keep (Z.drew) j1 (fun e => e)) 2 (by omega)).1, ((Blk.keep (Z.drew) j1 (fun e => e)) 3 (by omega)).1, ((Blk.keep (Z.drew) j1 (fun e => e)) 4 (by omega)).1, ((Blk.keep (Z.drew) j1 (fun e => e)) 5 (by omega)).1, ((Blk.keep (Z.drew) j1 (fun e => e)) 6 (by omega)).1, ((Blk.keep (Z.drew) j1 (fun e => e)) 7 (by omega)).1, ((Blk.keep (Z.drew) j1 (fun e => e)) 8 (by omega)).1, ((Blk.keep (Z.drew) j1 (fun e => e)) 9 (by omega)).1, ((Blk.keep (Z.drew) j1 (fun e => e)) 10 (by omega)).1⟩) (fun hH1 => ?_)
  clear hK K hH0
  simp only [Act.put, List.setIfInBounds_toArray, List.set_cons_zero, List.set_cons_succ]
  refine wpAnyH_ready (rs := [6]) (by kernel_rfl) (by simp) ?_
  refine AllReadyH.cons (o := { dst := some 41, op := Op.call { callee := Callee.value (Operand.func 14), args := #[Operand.tmp 38, Operand.tmp 40], argTypes := #[24, 35] }, type := 4, pos := "law.go:53", after := #[{ on := 3, ground := Ground.data }, { on := 5, ground := Ground.data }, { on := 5, ground := Ground.chain }, { on := 2, ground := Ground.guard }], guard := some (2, false) }) rfl (fun K hK => ?_) AllReadyH.nil
  refine step_call_want (vs := #[.agg #[.int .i64 (rbI c), .int .i64 (spI c), .int .i64 (omI c), .int .i64 (obI c), .int .i64 (rpI c), .int .i64 (lpI c), .int .i64 (ebI c), .int .i64 (mbI c), .int .i64 (wnI c), .int .i64 (slI c), .int .i64 (mrI c)], .agg #[.int .i64 (rbI c), .int .i64 (spI c), .int .i64 (omI c), .int .i64 (obI c), .int .i64 (rpI c), .int .i64 (lpI c), .int .i64 (ebI c), .int .i64 (mbI c), .int .i64 (wnI c), .int .i64 (slI c), .int .i64 (mrI c)]]) (R := fun u wz => u = .bool true ∧ Keep (fun _ => False) y1 wz) (by rfl) 14 #[Operand.tmp 38, Operand.tmp 40] #[24, 35] rfl (by simp [Act.eval]) call14 (post_of (hIs _)) ?_
  rintro _ y2 ⟨rfl, j2⟩
  refine hK.out _ _ (⟨trivial, ((Blk.keep (B5.drew) (j1.trans j2) (fun e => e)) 0 (by omega)).1, ((Blk.keep (B5.drew) (j1.trans j2) (fun e => e)) 1 (by omega)).1, ((Blk.keep (B5.drew) (j1.trans j2) (fun e => e)) 2 (by omega)).1, ((Blk.keep (B5.drew) (j1.trans j2) (fun e => e)) 3 (by omega)).1, ((Blk.keep (B5.drew) (j1.trans j2) (fun e => e)) 4 (by omega)).1, ((Blk.keep (B5.drew) (j1.trans j2) (fun e => e)) 5 (by omega)).1, ((Blk.keep (B5.drew) (j1.trans j2) (fun e => e)) 6 (by omega)).1, ((Blk.keep (Z.drew) (j1.trans j2) (fun e => e)) 0 (by omega)).1, ((Blk.keep (Z.drew) (j1.trans j2) (fun e => e)) 1 (by omega)).1, ((Blk.keep (Z.drew) (j1.trans j2) (fun e => e)) 2 (by omega)).1, ((Blk.keep (Z.drew) (j1.trans j2) (fun e => e)) 3 (by omega)).1, ((Blk.keep (Z.drew) (j1.trans j2) (fun e => e)) 4 (by omega)).1, ((Blk.keep (Z.drew) (j1.trans j2) (fun e => e)) 5 (by omega)).1, ((Blk.keep (Z.drew) (j1.trans j2) (fun e => e)) 6 (by omega)).1, ((Blk.keep (Z.drew) (j1.trans j2) (fun e => e)) 7 (by omega)).1, ((Blk.keep (Z.drew) (j1.trans j2) (fun e => e)) 8 (by omega)).1, ((Blk.keep (Z.drew) (j1.trans j2) (fun e => e)) 9 (by omega)).1, ((Blk.keep (Z.drew) (j1.trans j2) (fun e => e)) 10 (by omega)).1⟩) (fun hH2 => ?_)
  clear hK K hH1
  simp only [Act.put, List.setIfInBounds_toArray, List.set_cons_zero, List.set_cons_succ]
  refine' wpAnyH_take (i := 7) (oi := { dst := some 42, op := Op.unOp UnOp.not 4 (Operand.tmp 41), type := 4, pos := "law.go:53", after := #[{ on := 6, ground := Ground.data }, { on := 2, ground := Ground.guard }], guard := some (2, false) }) (v := _) rfl (by kernel_rfl) (by kernel_rfl) (by kernel_rfl) (fun _ _ _ h => h) (Or.inl ⟨by rfl, ?hytl7⟩) hH2 ?rtl7
  case hytl7 => (intro w' hSw; clear hSw; go_simp; try with_reducible rfl)
  simp only [Act.put, List.setIfInBounds_toArray, List.set_cons_zero, List.set_cons_succ]
  refine' wpAnyH_take (i := 8) (oi := { dst := some 43, op := Op.pick (Operand.tmp 37) (Operand.const (Value.bool true)) (Operand.tmp 42), type := 4, pos := "law.go:53", after := #[{ on := 2, ground := Ground.data }, { on := 7, ground := Ground.data }], guard := none }) (v := _) rfl (by kernel_rfl) (by kernel_rfl) (by kernel_rfl) (fun _ _ _ h => h) (Or.inl ⟨by rfl, ?hytl8⟩) hH2 ?rtl8
  case hytl8 => (intro w' hSw; clear hSw; go_simp; try with_reducible rfl)
  simp only [Act.put, List.setIfInBounds_toArray, List.set_cons_zero, List.set_cons_succ]
  refine wpAnyH_done (by kernel_rfl) ?_ _
  refine NoPanic.normal ?_
  have kj : Keep (fun _ => False) v5 y2 := (Keep.refl (fun _ => False) v5).drew.trans (j1.trans j2)
  clear j1 j2 hRo hIs
  have B6 := B5.keep kj (fun e => e)
  have K6 := K5.trans kj
  have Zn := Z.keep kj (fun e => e)
  clear B5 kj
  clear Z
  have Z := Zn
  clear Zn
  clear Z
  have cc0 : y2.cell? ⟨g, 0, none⟩ = some (.int .i64 c.b) := (B6 0 (by omega)).1
  have cc1 : y2.cell? ⟨g, 1, none⟩ = some (.int .i64 c.p) := (B6 1 (by omega)).1
  have cc2 : y2.cell? ⟨g, 2, none⟩ = some (.int .i64 c.c) := (B6 2 (by omega)).1
  have cc3 : y2.cell? ⟨g, 3, none⟩ = some (.int .i64 c.s) := (B6 3 (by omega)).1
  have cc4 : y2.cell? ⟨g, 4, none⟩ = some (.int .i64 c.m) := (B6 4 (by omega)).1
  have cc5 : y2.cell? ⟨g, 5, none⟩ = some (.int .i64 c.w) := (B6 5 (by omega)).1
  have cc6 : y2.cell? ⟨g, 6, none⟩ = some (.bool c.f) := (B6 6 (by omega)).1
  go_wp2_with fail
  refine (hRg _).mono ?_
  rintro e v7 ⟨rfl, k7⟩
  clear cc0 cc1 cc2 cc3 cc4 cc5 cc6
  clear hRg
  have B7 := B6.keep k7 (fun e => e)
  have K7 := K6.trans k7
  clear B6 k7
  have cc0 : v7.cell? ⟨g, 0, none⟩ = some (.int .i64 c.b) := (B7 0 (by omega)).1
  have cc1 : v7.cell? ⟨g, 1, none⟩ = some (.int .i64 c.p) := (B7 1 (by omega)).1
  have cc2 : v7.cell? ⟨g, 2, none⟩ = some (.int .i64 c.c) := (B7 2 (by omega)).1
  have cc3 : v7.cell? ⟨g, 3, none⟩ = some (.int .i64 c.s) := (B7 3 (by omega)).1
  have cc4 : v7.cell? ⟨g, 4, none⟩ = some (.int .i64 c.m) := (B7 4 (by omega)).1
  have cc5 : v7.cell? ⟨g, 5, none⟩ = some (.int .i64 c.w) := (B7 5 (by omega)).1
  have cc6 : v7.cell? ⟨g, 6, none⟩ = some (.bool c.f) := (B7 6 (by omega)).1
  go_wp2_with fail
  refine (hRw _).mono ?_
  rintro e v8 ⟨rfl, k8⟩
  clear cc0 cc1 cc2 cc3 cc4 cc5 cc6
  clear hRw
  have B8 := B7.keep k8 (fun e => e)
  have K8 := K7.trans k8
  clear B7 k8
  have cc0 : v8.cell? ⟨g, 0, none⟩ = some (.int .i64 c.b) := (B8 0 (by omega)).1
  have cc1 : v8.cell? ⟨g, 1, none⟩ = some (.int .i64 c.p) := (B8 1 (by omega)).1
  have cc2 : v8.cell? ⟨g, 2, none⟩ = some (.int .i64 c.c) := (B8 2 (by omega)).1
  have cc3 : v8.cell? ⟨g, 3, none⟩ = some (.int .i64 c.s) := (B8 3 (by omega)).1
  have cc4 : v8.cell? ⟨g, 4, none⟩ = some (.int .i64 c.m) := (B8 4 (by omega)).1
  have cc5 : v8.cell? ⟨g, 5, none⟩ = some (.int .i64 c.w) := (B8 5 (by omega)).1
  have cc6 : v8.cell? ⟨g, 6, none⟩ = some (.bool c.f) := (B8 6 (by omega)).1
  go_wp2_with fail
  refine (hCp _).mono ?_
  rintro e v9 ⟨rfl, k9⟩
  clear cc0 cc1 cc2 cc3 cc4 cc5 cc6
  clear hCp
  have B9 := B8.keep k9 (fun e => e)
  have K9 := K8.trans k9
  clear B8 k9
  have cc0 : v9.cell? ⟨g, 0, none⟩ = some (.int .i64 c.b) := (B9 0 (by omega)).1
  have cc1 : v9.cell? ⟨g, 1, none⟩ = some (.int .i64 c.p) := (B9 1 (by omega)).1
  have cc2 : v9.cell? ⟨g, 2, none⟩ = some (.int .i64 c.c) := (B9 2 (by omega)).1
  have cc3 : v9.cell? ⟨g, 3, none⟩ = some (.int .i64 c.s) := (B9 3 (by omega)).1
  have cc4 : v9.cell? ⟨g, 4, none⟩ = some (.int .i64 c.m) := (B9 4 (by omega)).1
  have cc5 : v9.cell? ⟨g, 5, none⟩ = some (.int .i64 c.w) := (B9 5 (by omega)).1
  have cc6 : v9.cell? ⟨g, 6, none⟩ = some (.bool c.f) := (B9 6 (by omega)).1
  go_wp2_with fail
  refine (hGo _).mono ?_
  rintro e v10 ⟨rfl, k10⟩
  clear cc0 cc1 cc2 cc3 cc4 cc5 cc6
  clear hGo
  have B10 := B9.keep k10 (fun e => e)
  have K10 := K9.trans k10
  clear B9 k10
  have cc2 : v10.cell? ⟨g, 2, none⟩ = some (.int .i64 c.c) := (B10 2 (by omega)).1
  go_wp2_with fail
  go_ret
  exact ⟨rfl, K10⟩
set_option maxRecDepth 100000 in
set_option maxHeartbeats 2000000 in
theorem tells_e (w : World) {c : Cf} {n f : Int} (hAw : ∀ w : World, Calls Try.prog 8 #[] w fun e w' => e = .returned (.bool true) ∧ Keep (fun _ => False) w w') (hOf : ∀ w : World, Calls Try.prog 9 #[.agg #[.int .i64 c.b, .int .i64 c.p, .int .i64 c.c, .int .i64 c.s, .int .i64 c.m, .int .i64 c.w, .bool c.f]] w fun e w' => e = .returned (.tuple #[.agg #[.int .i64 (rbI c), .int .i64 (spI c), .int .i64 (omI c), .int .i64 (obI c), .int .i64 (rpI c), .int .i64 (lpI c), .int .i64 (ebI c), .int .i64 (mbI c), .int .i64 (wnI c), .int .i64 (slI c), .int .i64 (mrI c)], .int .i64 0]) ∧ Keep (fun _ => False) w w') (hSp : ∀ w : World, Calls Try.prog 13 #[.agg #[.int .i64 c.b, .int .i64 c.p, .int .i64 c.c, .int .i64 c.s, .int .i64 c.m, .int .i64 c.w, .bool c.f]] w fun e w' => e = .returned (.bool true) ∧ Keep (fun _ => False) w w') (hGo : ∀ w : World, Calls Try.prog 12 #[.agg #[.int .i64 c.b, .int .i64 c.p, .int .i64 c.c, .int .i64 c.s, .int .i64 c.m, .int .i64 c.w, .bool c.f]] w fun e w' => e = .returned (.bool true) ∧ Keep (fun _ => False) w w') (hRg : ∀ w : World, Calls Try.prog 16 #[.agg #[.int .i64 c.b, .int .i64 c.p, .int .i64 c.c, .int .i64 c.s, .int .i64 c.m, .int .i64 c.w, .bool c.f]] w fun e w' => e = .returned (.bool true) ∧ Keep (fun _ => False) w w') (hRo : ∀ w : World, Calls Try.prog 15 #[.agg #[.int .i64 c.b, .int .i64 c.p, .int .i64 c.c, .int .i64 c.s, .int .i64 c.m, .int .i64 c.w, .bool c.f]] w fun e w' => e = .returned (.agg #[.int .i64 (rbI c), .int .i64 (spI c), .int .i64 (omI c), .int .i64 (obI c), .int .i64 (rpI c), .int .i64 (lpI c), .int .i64 (ebI c), .int .i64 (mbI c), .int .i64 (wnI c), .int .i64 (slI c), .int .i64 (mrI c)]) ∧ Keep (fun _ => False) w w') (hIs : ∀ w : World, Calls Try.prog 14 #[.agg #[.int .i64 (rbI c), .int .i64 (spI c), .int .i64 (omI c), .int .i64 (obI c), .int .i64 (rpI c), .int .i64 (lpI c), .int .i64 (ebI c), .int .i64 (mbI c), .int .i64 (wnI c), .int .i64 (slI c), .int .i64 (mrI c)], .agg #[.int .i64 (rbI c), .int .i64 (spI c), .int .i64 (omI c), .int .i64 (obI c), .int .i64 (rpI c), .int .i64 (lpI c), .int .i64 (ebI c), .int .i64 (mbI c), .int .i64 (wnI c), .int .i64 (slI c), .int .i64 (mrI c)]] w fun e w' => e = .returned (.bool true) ∧ Keep (fun _ => False) w w') (hRw : ∀ w : World, Calls Try.prog 17 #[.agg #[.int .i64 c.b, .int .i64 c.p, .int .i64 c.c, .int .i64 c.s, .int .i64 c.m, .int .i64 c.w, .bool c.f], .int .i64 n] w fun e w' => e = .returned (.tuple #[.int .i64 (rwI c n), .int .i64 0]) ∧ Keep (fun _ => False) w w') (hCp : ∀ w : World, Calls Try.prog 11 #[.agg #[.int .i64 c.b, .int .i64 c.p, .int .i64 c.c, .int .i64 c.s, .int .i64 c.m, .int .i64 c.w, .bool c.f], .int .i64 n, .int .i64 f] w fun e w' => e = .returned (.tuple #[.int .i64 0, .int .i64 1]) ∧ Keep (fun _ => False) w w') (hRr : ∀ w : World, Calls Try.prog 18 #[.agg #[.int .i64 c.b, .int .i64 c.p, .int .i64 c.c, .int .i64 c.s, .int .i64 c.m, .int .i64 c.w, .bool c.f], .int .i64 n] w fun e w' => e = .returned (.int .i64 (rwI c n)) ∧ Keep (fun _ => False) w w') (d1 : ¬ n < 1) (d2 : ¬ c.c < n) (d3 : f < 0) :
    Calls Try.prog 4 #[.agg #[.int .i64 c.b, .int .i64 c.p, .int .i64 c.c, .int .i64 c.s, .int .i64 c.m, .int .i64 c.w, .bool c.f], .int .i64 n, .int .i64 f] w fun e w' => e = .returned (.bool true) ∧ Keep (fun _ => False) w w' := by
  have B1 : Blk (w.alloc (.cells #[.int .i64 c.b, .int .i64 c.p, .int .i64 c.c, .int .i64 c.s, .int .i64 c.m, .int .i64 c.w, .bool c.f] 29)) w.heap.size 7 (ccell c) := blk_cf w c
  have K1 : Keep (fun _ => False) w (w.alloc (.cells #[.int .i64 c.b, .int .i64 c.p, .int .i64 c.c, .int .i64 c.s, .int .i64 c.m, .int .i64 c.w, .bool c.f] 29)) := (Keep.refl _ _).alloc _
  go_enter Try.func4, Try.ntmps4
  go_upto_region 1 with fail
  generalize w.alloc (.cells #[.int .i64 c.b, .int .i64 c.p, .int .i64 c.c, .int .i64 c.s, .int .i64 c.m, .int .i64 c.w, .bool c.f] 29) = v1 at B1 K1 ⊢
  generalize w.heap.size = g at B1 ⊢
  go_wp2_with fail
  refine (hAw _).mono ?_
  rintro e v2 ⟨rfl, k2⟩
  clear hAw
  have B2 := B1.keep k2 (fun e => e)
  have K2 := K1.trans k2
  clear B1 k2
  have cc0 : v2.cell? ⟨g, 0, none⟩ = some (.int .i64 c.b) := (B2 0 (by omega)).1
  have cc1 : v2.cell? ⟨g, 1, none⟩ = some (.int .i64 c.p) := (B2 1 (by omega)).1
  have cc2 : v2.cell? ⟨g, 2, none⟩ = some (.int .i64 c.c) := (B2 2 (by omega)).1
  have cc3 : v2.cell? ⟨g, 3, none⟩ = some (.int .i64 c.s) := (B2 3 (by omega)).1
  have cc4 : v2.cell? ⟨g, 4, none⟩ = some (.int .i64 c.m) := (B2 4 (by omega)).1
  have cc5 : v2.cell? ⟨g, 5, none⟩ = some (.int .i64 c.w) := (B2 5 (by omega)).1
  have cc6 : v2.cell? ⟨g, 6, none⟩ = some (.bool c.f) := (B2 6 (by omega)).1
  go_wp2_with fail
  refine (hOf _).mono ?_
  rintro e v3 ⟨rfl, k3⟩
  clear cc0 cc1 cc2 cc3 cc4 cc5 cc6
  clear hOf
  have B3 := B2.keep k3 (fun e => e)
  have K3 := K2.trans k3
  clear B2 k3
  have Z : Blk (v3.alloc (.cells #[.int .i64 (rbI c), .int .i64 (spI c), .int .i64 (omI c), .int .i64 (obI c), .int .i64 (rpI c), .int .i64 (lpI c), .int .i64 (ebI c), .int .i64 (mbI c), .int .i64 (wnI c), .int .i64 (slI c), .int .i64 (mrI c)] 24)) v3.heap.size 11 (scell [rbI c, spI c, omI c, obI c, rpI c, lpI c, ebI c, mbI c, wnI c, slI c, mrI c]) := blk_alloc v3 _ 24 11 _ (fun i hi => by
    have : i = 0 ∨ i = 1 ∨ i = 2 ∨ i = 3 ∨ i = 4 ∨ i = 5 ∨ i = 6 ∨ i = 7 ∨ i = 8 ∨ i = 9 ∨ i = 10 := by omega
    rcases this with rfl | rfl | rfl | rfl | rfl | rfl | rfl | rfl | rfl | rfl | rfl <;> rfl)
  have B4 := B3.alloc (.cells #[.int .i64 (rbI c), .int .i64 (spI c), .int .i64 (omI c), .int .i64 (obI c), .int .i64 (rpI c), .int .i64 (lpI c), .int .i64 (ebI c), .int .i64 (mbI c), .int .i64 (wnI c), .int .i64 (slI c), .int .i64 (mrI c)] 24)
  have K4 := K3.alloc (.cells #[.int .i64 (rbI c), .int .i64 (spI c), .int .i64 (omI c), .int .i64 (obI c), .int .i64 (rpI c), .int .i64 (lpI c), .int .i64 (ebI c), .int .i64 (mbI c), .int .i64 (wnI c), .int .i64 (slI c), .int .i64 (mrI c)] 24)
  go_upto_region 4 with fail
  generalize v3.alloc (.cells #[.int .i64 (rbI c), .int .i64 (spI c), .int .i64 (omI c), .int .i64 (obI c), .int .i64 (rpI c), .int .i64 (lpI c), .int .i64 (ebI c), .int .i64 (mbI c), .int .i64 (wnI c), .int .i64 (slI c), .int .i64 (mrI c)] 24) = v4 at Z B4 K4  ⊢
  generalize v3.heap.size = h at Z ⊢
  clear B3
  have cc0 : v4.cell? ⟨g, 0, none⟩ = some (.int .i64 c.b) := (B4 0 (by omega)).1
  have cc1 : v4.cell? ⟨g, 1, none⟩ = some (.int .i64 c.p) := (B4 1 (by omega)).1
  have cc2 : v4.cell? ⟨g, 2, none⟩ = some (.int .i64 c.c) := (B4 2 (by omega)).1
  have cc3 : v4.cell? ⟨g, 3, none⟩ = some (.int .i64 c.s) := (B4 3 (by omega)).1
  have cc4 : v4.cell? ⟨g, 4, none⟩ = some (.int .i64 c.m) := (B4 4 (by omega)).1
  have cc5 : v4.cell? ⟨g, 5, none⟩ = some (.int .i64 c.w) := (B4 5 (by omega)).1
  have cc6 : v4.cell? ⟨g, 6, none⟩ = some (.bool c.f) := (B4 6 (by omega)).1
  go_wp2_with fail
  refine (hSp _).mono ?_
  rintro e v5 ⟨rfl, k5⟩
  clear cc0 cc1 cc2 cc3 cc4 cc5 cc6
  clear hSp
  have B5 := B4.keep k5 (fun e => e)
  have K5 := K4.trans k5
  have Zn := Z.keep k5 (fun e => e)
  clear B4 k5
  clear Z
  have Z := Zn
  clear Zn
  go_upto_region 7 with fail
  refine wp_region_noPanic ?_
  refine wp_region_held_drew (S := fun w' => True ∧ w'.cell? ⟨g, 0, none⟩ = some (.int .i64 c.b) ∧ w'.cell? ⟨g, 1, none⟩ = some (.int .i64 c.p) ∧ w'.cell? ⟨g, 2, none⟩ = some (.int .i64 c.c) ∧ w'.cell? ⟨g, 3, none⟩ = some (.int .i64 c.s) ∧ w'.cell? ⟨g, 4, none⟩ = some (.int .i64 c.m) ∧ w'.cell? ⟨g, 5, none⟩ = some (.int .i64 c.w) ∧ w'.cell? ⟨g, 6, none⟩ = some (.bool c.f) ∧ w'.cell? ⟨h, 0, none⟩ = some (.int .i64 (rbI c)) ∧ w'.cell? ⟨h, 1, none⟩ = some (.int .i64 (spI c)) ∧ w'.cell? ⟨h, 2, none⟩ = some (.int .i64 (omI c)) ∧ w'.cell? ⟨h, 3, none⟩ = some (.int .i64 (obI c)) ∧ w'.cell? ⟨h, 4, none⟩ = some (.int .i64 (rpI c)) ∧ w'.cell? ⟨h, 5, none⟩ = some (.int .i64 (lpI c)) ∧ w'.cell? ⟨h, 6, none⟩ = some (.int .i64 (ebI c)) ∧ w'.cell? ⟨h, 7, none⟩ = some (.int .i64 (mbI c)) ∧ w'.cell? ⟨h, 8, none⟩ = some (.int .i64 (wnI c)) ∧ w'.cell? ⟨h, 9, none⟩ = some (.int .i64 (slI c)) ∧ w'.cell? ⟨h, 10, none⟩ = some (.int .i64 (mrI c))) (by kernel_rfl) (⟨trivial, ((B5.drew) 0 (by omega)).1, ((B5.drew) 1 (by omega)).1, ((B5.drew) 2 (by omega)).1, ((B5.drew) 3 (by omega)).1, ((B5.drew) 4 (by omega)).1, ((B5.drew) 5 (by omega)).1, ((B5.drew) 6 (by omega)).1, ((Z.drew) 0 (by omega)).1, ((Z.drew) 1 (by omega)).1, ((Z.drew) 2 (by omega)).1, ((Z.drew) 3 (by omega)).1, ((Z.drew) 4 (by omega)).1, ((Z.drew) 5 (by omega)).1, ((Z.drew) 6 (by omega)).1, ((Z.drew) 7 (by omega)).1, ((Z.drew) 8 (by omega)).1, ((Z.drew) 9 (by omega)).1, ((Z.drew) 10 (by omega)).1⟩) (fun hH0 => ?_)
  refine' wpAnyH_take (i := 0) (oi := { dst := some 35, op := Op.move (Operand.tmp 8), type := 25, pos := "law.go:53", after := #[], guard := none }) (v := _) rfl (by kernel_rfl) (by kernel_rfl) (by kernel_rfl) (fun _ _ _ h => h) (Or.inl ⟨by rfl, ?hytl0⟩) hH0 ?rtl0
  case hytl0 => (intro w' hSw; clear hSw; go_simp; try with_reducible rfl)
  simp only [Act.put, List.setIfInBounds_toArray, List.set_cons_zero, List.set_cons_succ]
  refine' wpAnyH_take (i := 1) (oi := { dst := some 36, op := Op.binOp BinOp.neq 25 (Operand.tmp 35) (Operand.const (Value.int IntKind.i64 0)) 25, type := 4, pos := "law.go:53", after := #[{ on := 0, ground := Ground.data }], guard := none }) (v := _) rfl (by kernel_rfl) (by kernel_rfl) (by kernel_rfl) (fun _ _ _ h => h) (Or.inl ⟨by rfl, ?hytl1⟩) hH0 ?rtl1
  case hytl1 => (intro w' hSw; clear hSw; go_simp; try with_reducible rfl)
  simp only [Act.put, List.setIfInBounds_toArray, List.set_cons_zero, List.set_cons_succ]
  refine' wpAnyH_take (i := 2) (oi := { dst := some 37, op := Op.move (Operand.tmp 36), type := 4, pos := "law.go:53", after := #[{ on := 1, ground := Ground.data }], guard := none }) (v := _) rfl (by kernel_rfl) (by kernel_rfl) (by kernel_rfl) (fun _ _ _ h => h) (Or.inl ⟨by rfl, ?hytl2⟩) hH0 ?rtl2
  case hytl2 => (intro w' hSw; clear hSw; go_simp; try with_reducible rfl)
  simp only [Act.put, List.setIfInBounds_toArray, List.set_cons_zero, List.set_cons_succ]
  refine' wpAnyH_take (i := 3) (oi := { dst := some 38, op := Op.load 24 (Operand.tmp 7), type := 24, pos := "law.go:53", after := #[{ on := 2, ground := Ground.guard }], guard := some (2, false) }) (v := _) rfl (by kernel_rfl) (by kernel_rfl) (by kernel_rfl) (fun _ _ _ h => h) (Or.inl ⟨by rfl, ?hytl3⟩) hH0 ?rtl3
  case hytl3 => (intro w' hSw; obtain ⟨-, z0, z1, z2, z3, z4, z5, z6, z7, z8, z9, z10, z11, z12, z13, z14, z15, z16, z17⟩ := hSw; go_simp; try with_reducible rfl)
  simp only [Act.put, List.setIfInBounds_toArray, List.set_cons_zero, List.set_cons_succ]
  refine' wpAnyH_take (i := 4) (oi := { dst := some 39, op := Op.load 29 (Operand.tmp 3), type := 29, pos := "law.go:53", after := #[{ on := 2, ground := Ground.guard }], guard := some (2, false) }) (v := _) rfl (by kernel_rfl) (by kernel_rfl) (by kernel_rfl) (fun _ _ _ h => h) (Or.inl ⟨by rfl, ?hytl4⟩) hH0 ?rtl4
  case hytl4 => (intro w' hSw; obtain ⟨-, z0, z1, z2, z3, z4, z5, z6, z7, z8, z9, z10, z11, z12, z13, z14, z15, z16, z17⟩ := hSw; go_simp; try with_reducible rfl)
  simp only [Act.put, List.setIfInBounds_toArray, List.set_cons_zero, List.set_cons_succ]
  refine wpAnyH_ready (rs := [5]) (by kernel_rfl) (by simp) ?_
  refine AllReadyH.cons (o := { dst := some 40, op := Op.call { callee := Callee.value (Operand.func 15), args := #[Operand.tmp 39], argTypes := #[29] }, type := 35, pos := "law.go:53", after := #[{ on := 4, ground := Ground.data }, { on := 2, ground := Ground.chain }, { on := 2, ground := Ground.guard }], guard := some (2, false) }) rfl (fun K hK => ?_) AllReadyH.nil
  refine step_call_want (vs := #[.agg #[.int .i64 c.b, .int .i64 c.p, .int .i64 c.c, .int .i64 c.s, .int .i64 c.m, .int .i64 c.w, .bool c.f]]) (R := fun u wz => u = .agg #[.int .i64 (rbI c), .int .i64 (spI c), .int .i64 (omI c), .int .i64 (obI c), .int .i64 (rpI c), .int .i64 (lpI c), .int .i64 (ebI c), .int .i64 (mbI c), .int .i64 (wnI c), .int .i64 (slI c), .int .i64 (mrI c)] ∧ Keep (fun _ => False) v5.drew wz) (by rfl) 15 #[Operand.tmp 39] #[29] rfl (by simp [Act.eval]) call15 (post_of (hRo _)) ?_
  rintro _ y1 ⟨rfl, j1⟩
  refine hK.out _ _ (⟨trivial, ((Blk.keep (B5.drew) j1 (fun e => e)) 0 (by omega)).1, ((Blk.keep (B5.drew) j1 (fun e => e)) 1 (by omega)).1, ((Blk.keep (B5.drew) j1 (fun e => e)) 2 (by omega)).1, ((Blk.keep (B5.drew) j1 (fun e => e)) 3 (by omega)).1, ((Blk.keep (B5.drew) j1 (fun e => e)) 4 (by omega)).1, ((Blk.keep (B5.drew) j1 (fun e => e)) 5 (by omega)).1, ((Blk.keep (B5.drew) j1 (fun e => e)) 6 (by omega)).1, ((Blk.keep (Z.drew) j1 (fun e => e)) 0 (by omega)).1, ((Blk.keep (Z.drew) j1 (fun e => e)) 1 (by omega)).1, ((Blk.keep (Z.drew) j1 (fun e => e)) 2 (by omega)).1, ((Blk.keep (Z.drew) j1 (fun e => e)) 3 (by omega)).1, ((Blk.keep (Z.drew) j1 (fun e => e)) 4 (by omega)).1, ((Blk.keep (Z.drew) j1 (fun e => e)) 5 (by omega)).1, ((Blk.keep (Z.drew) j1 (fun e => e)) 6 (by omega)).1, ((Blk.keep (Z.drew) j1 (fun e => e)) 7 (by omega)).1, ((Blk.keep (Z.drew) j1 (fun e => e)) 8 (by omega)).1, ((Blk.keep (Z.drew) j1 (fun e => e)) 9 (by omega)).1, ((Blk.keep (Z.drew) j1 (fun e => e)) 10 (by omega)).1⟩) (fun hH1 => ?_)
  clear hK K hH0
  simp only [Act.put, List.setIfInBounds_toArray, List.set_cons_zero, List.set_cons_succ]
  refine wpAnyH_ready (rs := [6]) (by kernel_rfl) (by simp) ?_
  refine AllReadyH.cons (o := { dst := some 41, op := Op.call { callee := Callee.value (Operand.func 14), args := #[Operand.tmp 38, Operand.tmp 40], argTypes := #[24, 35] }, type := 4, pos := "law.go:53", after := #[{ on := 3, ground := Ground.data }, { on := 5, ground := Ground.data }, { on := 5, ground := Ground.chain }, { on := 2, ground := Ground.guard }], guard := some (2, false) }) rfl (fun K hK => ?_) AllReadyH.nil
  refine step_call_want (vs := #[.agg #[.int .i64 (rbI c), .int .i64 (spI c), .int .i64 (omI c), .int .i64 (obI c), .int .i64 (rpI c), .int .i64 (lpI c), .int .i64 (ebI c), .int .i64 (mbI c), .int .i64 (wnI c), .int .i64 (slI c), .int .i64 (mrI c)], .agg #[.int .i64 (rbI c), .int .i64 (spI c), .int .i64 (omI c), .int .i64 (obI c), .int .i64 (rpI c), .int .i64 (lpI c), .int .i64 (ebI c), .int .i64 (mbI c), .int .i64 (wnI c), .int .i64 (slI c), .int .i64 (mrI c)]]) (R := fun u wz => u = .bool true ∧ Keep (fun _ => False) y1 wz) (by rfl) 14 #[Operand.tmp 38, Operand.tmp 40] #[24, 35] rfl (by simp [Act.eval]) call14 (post_of (hIs _)) ?_
  rintro _ y2 ⟨rfl, j2⟩
  refine hK.out _ _ (⟨trivial, ((Blk.keep (B5.drew) (j1.trans j2) (fun e => e)) 0 (by omega)).1, ((Blk.keep (B5.drew) (j1.trans j2) (fun e => e)) 1 (by omega)).1, ((Blk.keep (B5.drew) (j1.trans j2) (fun e => e)) 2 (by omega)).1, ((Blk.keep (B5.drew) (j1.trans j2) (fun e => e)) 3 (by omega)).1, ((Blk.keep (B5.drew) (j1.trans j2) (fun e => e)) 4 (by omega)).1, ((Blk.keep (B5.drew) (j1.trans j2) (fun e => e)) 5 (by omega)).1, ((Blk.keep (B5.drew) (j1.trans j2) (fun e => e)) 6 (by omega)).1, ((Blk.keep (Z.drew) (j1.trans j2) (fun e => e)) 0 (by omega)).1, ((Blk.keep (Z.drew) (j1.trans j2) (fun e => e)) 1 (by omega)).1, ((Blk.keep (Z.drew) (j1.trans j2) (fun e => e)) 2 (by omega)).1, ((Blk.keep (Z.drew) (j1.trans j2) (fun e => e)) 3 (by omega)).1, ((Blk.keep (Z.drew) (j1.trans j2) (fun e => e)) 4 (by omega)).1, ((Blk.keep (Z.drew) (j1.trans j2) (fun e => e)) 5 (by omega)).1, ((Blk.keep (Z.drew) (j1.trans j2) (fun e => e)) 6 (by omega)).1, ((Blk.keep (Z.drew) (j1.trans j2) (fun e => e)) 7 (by omega)).1, ((Blk.keep (Z.drew) (j1.trans j2) (fun e => e)) 8 (by omega)).1, ((Blk.keep (Z.drew) (j1.trans j2) (fun e => e)) 9 (by omega)).1, ((Blk.keep (Z.drew) (j1.trans j2) (fun e => e)) 10 (by omega)).1⟩) (fun hH2 => ?_)
  clear hK K hH1
  simp only [Act.put, List.setIfInBounds_toArray, List.set_cons_zero, List.set_cons_succ]
  refine' wpAnyH_take (i := 7) (oi := { dst := some 42, op := Op.unOp UnOp.not 4 (Operand.tmp 41), type := 4, pos := "law.go:53", after := #[{ on := 6, ground := Ground.data }, { on := 2, ground := Ground.guard }], guard := some (2, false) }) (v := _) rfl (by kernel_rfl) (by kernel_rfl) (by kernel_rfl) (fun _ _ _ h => h) (Or.inl ⟨by rfl, ?hytl7⟩) hH2 ?rtl7
  case hytl7 => (intro w' hSw; clear hSw; go_simp; try with_reducible rfl)
  simp only [Act.put, List.setIfInBounds_toArray, List.set_cons_zero, List.set_cons_succ]
  refine' wpAnyH_take (i := 8) (oi := { dst := some 43, op := Op.pick (Operand.tmp 37) (Operand.const (Value.bool true)) (Operand.tmp 42), type := 4, pos := "law.go:53", after := #[{ on := 2, ground := Ground.data }, { on := 7, ground := Ground.data }], guard := none }) (v := _) rfl (by kernel_rfl) (by kernel_rfl) (by kernel_rfl) (fun _ _ _ h => h) (Or.inl ⟨by rfl, ?hytl8⟩) hH2 ?rtl8
  case hytl8 => (intro w' hSw; clear hSw; go_simp; try with_reducible rfl)
  simp only [Act.put, List.setIfInBounds_toArray, List.set_cons_zero, List.set_cons_succ]
  refine wpAnyH_done (by kernel_rfl) ?_ _
  refine NoPanic.normal ?_
  have kj : Keep (fun _ => False) v5 y2 := (Keep.refl (fun _ => False) v5).drew.trans (j1.trans j2)
  clear j1 j2 hRo hIs
  have B6 := B5.keep kj (fun e => e)
  have K6 := K5.trans kj
  have Zn := Z.keep kj (fun e => e)
  clear B5 kj
  clear Z
  have Z := Zn
  clear Zn
  clear Z
  have cc0 : y2.cell? ⟨g, 0, none⟩ = some (.int .i64 c.b) := (B6 0 (by omega)).1
  have cc1 : y2.cell? ⟨g, 1, none⟩ = some (.int .i64 c.p) := (B6 1 (by omega)).1
  have cc2 : y2.cell? ⟨g, 2, none⟩ = some (.int .i64 c.c) := (B6 2 (by omega)).1
  have cc3 : y2.cell? ⟨g, 3, none⟩ = some (.int .i64 c.s) := (B6 3 (by omega)).1
  have cc4 : y2.cell? ⟨g, 4, none⟩ = some (.int .i64 c.m) := (B6 4 (by omega)).1
  have cc5 : y2.cell? ⟨g, 5, none⟩ = some (.int .i64 c.w) := (B6 5 (by omega)).1
  have cc6 : y2.cell? ⟨g, 6, none⟩ = some (.bool c.f) := (B6 6 (by omega)).1
  go_wp2_with fail
  refine (hRg _).mono ?_
  rintro e v7 ⟨rfl, k7⟩
  clear cc0 cc1 cc2 cc3 cc4 cc5 cc6
  clear hRg
  have B7 := B6.keep k7 (fun e => e)
  have K7 := K6.trans k7
  clear B6 k7
  have cc0 : v7.cell? ⟨g, 0, none⟩ = some (.int .i64 c.b) := (B7 0 (by omega)).1
  have cc1 : v7.cell? ⟨g, 1, none⟩ = some (.int .i64 c.p) := (B7 1 (by omega)).1
  have cc2 : v7.cell? ⟨g, 2, none⟩ = some (.int .i64 c.c) := (B7 2 (by omega)).1
  have cc3 : v7.cell? ⟨g, 3, none⟩ = some (.int .i64 c.s) := (B7 3 (by omega)).1
  have cc4 : v7.cell? ⟨g, 4, none⟩ = some (.int .i64 c.m) := (B7 4 (by omega)).1
  have cc5 : v7.cell? ⟨g, 5, none⟩ = some (.int .i64 c.w) := (B7 5 (by omega)).1
  have cc6 : v7.cell? ⟨g, 6, none⟩ = some (.bool c.f) := (B7 6 (by omega)).1
  go_wp2_with fail
  refine (hRw _).mono ?_
  rintro e v8 ⟨rfl, k8⟩
  clear cc0 cc1 cc2 cc3 cc4 cc5 cc6
  clear hRw
  have B8 := B7.keep k8 (fun e => e)
  have K8 := K7.trans k8
  clear B7 k8
  have cc0 : v8.cell? ⟨g, 0, none⟩ = some (.int .i64 c.b) := (B8 0 (by omega)).1
  have cc1 : v8.cell? ⟨g, 1, none⟩ = some (.int .i64 c.p) := (B8 1 (by omega)).1
  have cc2 : v8.cell? ⟨g, 2, none⟩ = some (.int .i64 c.c) := (B8 2 (by omega)).1
  have cc3 : v8.cell? ⟨g, 3, none⟩ = some (.int .i64 c.s) := (B8 3 (by omega)).1
  have cc4 : v8.cell? ⟨g, 4, none⟩ = some (.int .i64 c.m) := (B8 4 (by omega)).1
  have cc5 : v8.cell? ⟨g, 5, none⟩ = some (.int .i64 c.w) := (B8 5 (by omega)).1
  have cc6 : v8.cell? ⟨g, 6, none⟩ = some (.bool c.f) := (B8 6 (by omega)).1
  go_wp2_with fail
  refine (hCp _).mono ?_
  rintro e v9 ⟨rfl, k9⟩
  clear cc0 cc1 cc2 cc3 cc4 cc5 cc6
  clear hCp
  have B9 := B8.keep k9 (fun e => e)
  have K9 := K8.trans k9
  clear B8 k9
  have cc0 : v9.cell? ⟨g, 0, none⟩ = some (.int .i64 c.b) := (B9 0 (by omega)).1
  have cc1 : v9.cell? ⟨g, 1, none⟩ = some (.int .i64 c.p) := (B9 1 (by omega)).1
  have cc2 : v9.cell? ⟨g, 2, none⟩ = some (.int .i64 c.c) := (B9 2 (by omega)).1
  have cc3 : v9.cell? ⟨g, 3, none⟩ = some (.int .i64 c.s) := (B9 3 (by omega)).1
  have cc4 : v9.cell? ⟨g, 4, none⟩ = some (.int .i64 c.m) := (B9 4 (by omega)).1
  have cc5 : v9.cell? ⟨g, 5, none⟩ = some (.int .i64 c.w) := (B9 5 (by omega)).1
  have cc6 : v9.cell? ⟨g, 6, none⟩ = some (.bool c.f) := (B9 6 (by omega)).1
  go_wp2_with fail
  refine (hGo _).mono ?_
  rintro e v10 ⟨rfl, k10⟩
  clear cc0 cc1 cc2 cc3 cc4 cc5 cc6
  clear hGo
  have B10 := B9.keep k10 (fun e => e)
  have K10 := K9.trans k10
  clear B9 k10
  have cc2 : v10.cell? ⟨g, 2, none⟩ = some (.int .i64 c.c) := (B10 2 (by omega)).1
  go_upto_region 16 with fail
  clear cc2
  have cc0 : v10.cell? ⟨g, 0, none⟩ = some (.int .i64 c.b) := (B10 0 (by omega)).1
  have cc1 : v10.cell? ⟨g, 1, none⟩ = some (.int .i64 c.p) := (B10 1 (by omega)).1
  have cc2 : v10.cell? ⟨g, 2, none⟩ = some (.int .i64 c.c) := (B10 2 (by omega)).1
  have cc3 : v10.cell? ⟨g, 3, none⟩ = some (.int .i64 c.s) := (B10 3 (by omega)).1
  have cc4 : v10.cell? ⟨g, 4, none⟩ = some (.int .i64 c.m) := (B10 4 (by omega)).1
  have cc5 : v10.cell? ⟨g, 5, none⟩ = some (.int .i64 c.w) := (B10 5 (by omega)).1
  have cc6 : v10.cell? ⟨g, 6, none⟩ = some (.bool c.f) := (B10 6 (by omega)).1
  go_wp2_with fail
  refine (hRr _).mono ?_
  rintro e v11 ⟨rfl, k11⟩
  clear cc0 cc1 cc2 cc3 cc4 cc5 cc6
  clear hRr
  have B11 := B10.keep k11 (fun e => e)
  have K11 := K10.trans k11
  clear B10 k11
  go_wp2_with fail
  go_ret
  exact ⟨rfl, K11⟩
set_option maxRecDepth 100000 in
set_option maxHeartbeats 2000000 in
theorem tells_f (w : World) {c : Cf} {n f : Int} (hAw : ∀ w : World, Calls Try.prog 8 #[] w fun e w' => e = .returned (.bool true) ∧ Keep (fun _ => False) w w') (hOf : ∀ w : World, Calls Try.prog 9 #[.agg #[.int .i64 c.b, .int .i64 c.p, .int .i64 c.c, .int .i64 c.s, .int .i64 c.m, .int .i64 c.w, .bool c.f]] w fun e w' => e = .returned (.tuple #[.agg #[.int .i64 (rbI c), .int .i64 (spI c), .int .i64 (omI c), .int .i64 (obI c), .int .i64 (rpI c), .int .i64 (lpI c), .int .i64 (ebI c), .int .i64 (mbI c), .int .i64 (wnI c), .int .i64 (slI c), .int .i64 (mrI c)], .int .i64 0]) ∧ Keep (fun _ => False) w w') (hSp : ∀ w : World, Calls Try.prog 13 #[.agg #[.int .i64 c.b, .int .i64 c.p, .int .i64 c.c, .int .i64 c.s, .int .i64 c.m, .int .i64 c.w, .bool c.f]] w fun e w' => e = .returned (.bool true) ∧ Keep (fun _ => False) w w') (hGo : ∀ w : World, Calls Try.prog 12 #[.agg #[.int .i64 c.b, .int .i64 c.p, .int .i64 c.c, .int .i64 c.s, .int .i64 c.m, .int .i64 c.w, .bool c.f]] w fun e w' => e = .returned (.bool true) ∧ Keep (fun _ => False) w w') (hRg : ∀ w : World, Calls Try.prog 16 #[.agg #[.int .i64 c.b, .int .i64 c.p, .int .i64 c.c, .int .i64 c.s, .int .i64 c.m, .int .i64 c.w, .bool c.f]] w fun e w' => e = .returned (.bool true) ∧ Keep (fun _ => False) w w') (hRo : ∀ w : World, Calls Try.prog 15 #[.agg #[.int .i64 c.b, .int .i64 c.p, .int .i64 c.c, .int .i64 c.s, .int .i64 c.m, .int .i64 c.w, .bool c.f]] w fun e w' => e = .returned (.agg #[.int .i64 (rbI c), .int .i64 (spI c), .int .i64 (omI c), .int .i64 (obI c), .int .i64 (rpI c), .int .i64 (lpI c), .int .i64 (ebI c), .int .i64 (mbI c), .int .i64 (wnI c), .int .i64 (slI c), .int .i64 (mrI c)]) ∧ Keep (fun _ => False) w w') (hIs : ∀ w : World, Calls Try.prog 14 #[.agg #[.int .i64 (rbI c), .int .i64 (spI c), .int .i64 (omI c), .int .i64 (obI c), .int .i64 (rpI c), .int .i64 (lpI c), .int .i64 (ebI c), .int .i64 (mbI c), .int .i64 (wnI c), .int .i64 (slI c), .int .i64 (mrI c)], .agg #[.int .i64 (rbI c), .int .i64 (spI c), .int .i64 (omI c), .int .i64 (obI c), .int .i64 (rpI c), .int .i64 (lpI c), .int .i64 (ebI c), .int .i64 (mbI c), .int .i64 (wnI c), .int .i64 (slI c), .int .i64 (mrI c)]] w fun e w' => e = .returned (.bool true) ∧ Keep (fun _ => False) w w') (hRw : ∀ w : World, Calls Try.prog 17 #[.agg #[.int .i64 c.b, .int .i64 c.p, .int .i64 c.c, .int .i64 c.s, .int .i64 c.m, .int .i64 c.w, .bool c.f], .int .i64 n] w fun e w' => e = .returned (.tuple #[.int .i64 (rwI c n), .int .i64 0]) ∧ Keep (fun _ => False) w w') (hCp : ∀ w : World, Calls Try.prog 11 #[.agg #[.int .i64 c.b, .int .i64 c.p, .int .i64 c.c, .int .i64 c.s, .int .i64 c.m, .int .i64 c.w, .bool c.f], .int .i64 n, .int .i64 f] w fun e w' => e = .returned (.tuple #[.int .i64 0, .int .i64 1]) ∧ Keep (fun _ => False) w w') (hRr : ∀ w : World, Calls Try.prog 18 #[.agg #[.int .i64 c.b, .int .i64 c.p, .int .i64 c.c, .int .i64 c.s, .int .i64 c.m, .int .i64 c.w, .bool c.f], .int .i64 n] w fun e w' => e = .returned (.int .i64 (rwI c n)) ∧ Keep (fun _ => False) w w') (d1 : ¬ n < 1) (d2 : ¬ c.c < n) (d3 : ¬ f < 0) (d4 : 1000 < f) :
    Calls Try.prog 4 #[.agg #[.int .i64 c.b, .int .i64 c.p, .int .i64 c.c, .int .i64 c.s, .int .i64 c.m, .int .i64 c.w, .bool c.f], .int .i64 n, .int .i64 f] w fun e w' => e = .returned (.bool true) ∧ Keep (fun _ => False) w w' := by
  have B1 : Blk (w.alloc (.cells #[.int .i64 c.b, .int .i64 c.p, .int .i64 c.c, .int .i64 c.s, .int .i64 c.m, .int .i64 c.w, .bool c.f] 29)) w.heap.size 7 (ccell c) := blk_cf w c
  have K1 : Keep (fun _ => False) w (w.alloc (.cells #[.int .i64 c.b, .int .i64 c.p, .int .i64 c.c, .int .i64 c.s, .int .i64 c.m, .int .i64 c.w, .bool c.f] 29)) := (Keep.refl _ _).alloc _
  go_enter Try.func4, Try.ntmps4
  go_upto_region 1 with fail
  generalize w.alloc (.cells #[.int .i64 c.b, .int .i64 c.p, .int .i64 c.c, .int .i64 c.s, .int .i64 c.m, .int .i64 c.w, .bool c.f] 29) = v1 at B1 K1 ⊢
  generalize w.heap.size = g at B1 ⊢
  go_wp2_with fail
  refine (hAw _).mono ?_
  rintro e v2 ⟨rfl, k2⟩
  clear hAw
  have B2 := B1.keep k2 (fun e => e)
  have K2 := K1.trans k2
  clear B1 k2
  have cc0 : v2.cell? ⟨g, 0, none⟩ = some (.int .i64 c.b) := (B2 0 (by omega)).1
  have cc1 : v2.cell? ⟨g, 1, none⟩ = some (.int .i64 c.p) := (B2 1 (by omega)).1
  have cc2 : v2.cell? ⟨g, 2, none⟩ = some (.int .i64 c.c) := (B2 2 (by omega)).1
  have cc3 : v2.cell? ⟨g, 3, none⟩ = some (.int .i64 c.s) := (B2 3 (by omega)).1
  have cc4 : v2.cell? ⟨g, 4, none⟩ = some (.int .i64 c.m) := (B2 4 (by omega)).1
  have cc5 : v2.cell? ⟨g, 5, none⟩ = some (.int .i64 c.w) := (B2 5 (by omega)).1
  have cc6 : v2.cell? ⟨g, 6, none⟩ = some (.bool c.f) := (B2 6 (by omega)).1
  go_wp2_with fail
  refine (hOf _).mono ?_
  rintro e v3 ⟨rfl, k3⟩
  clear cc0 cc1 cc2 cc3 cc4 cc5 cc6
  clear hOf
  have B3 := B2.keep k3 (fun e => e)
  have K3 := K2.trans k3
  clear B2 k3
  have Z : Blk (v3.alloc (.cells #[.int .i64 (rbI c), .int .i64 (spI c), .int .i64 (omI c), .int .i64 (obI c), .int .i64 (rpI c), .int .i64 (lpI c), .int .i64 (ebI c), .int .i64 (mbI c), .int .i64 (wnI c), .int .i64 (slI c), .int .i64 (mrI c)] 24)) v3.heap.size 11 (scell [rbI c, spI c, omI c, obI c, rpI c, lpI c, ebI c, mbI c, wnI c, slI c, mrI c]) := blk_alloc v3 _ 24 11 _ (fun i hi => by
    have : i = 0 ∨ i = 1 ∨ i = 2 ∨ i = 3 ∨ i = 4 ∨ i = 5 ∨ i = 6 ∨ i = 7 ∨ i = 8 ∨ i = 9 ∨ i = 10 := by omega
    rcases this with rfl | rfl | rfl | rfl | rfl | rfl | rfl | rfl | rfl | rfl | rfl <;> rfl)
  have B4 := B3.alloc (.cells #[.int .i64 (rbI c), .int .i64 (spI c), .int .i64 (omI c), .int .i64 (obI c), .int .i64 (rpI c), .int .i64 (lpI c), .int .i64 (ebI c), .int .i64 (mbI c), .int .i64 (wnI c), .int .i64 (slI c), .int .i64 (mrI c)] 24)
  have K4 := K3.alloc (.cells #[.int .i64 (rbI c), .int .i64 (spI c), .int .i64 (omI c), .int .i64 (obI c), .int .i64 (rpI c), .int .i64 (lpI c), .int .i64 (ebI c), .int .i64 (mbI c), .int .i64 (wnI c), .int .i64 (slI c), .int .i64 (mrI c)] 24)
  go_upto_region 4 with fail
  generalize v3.alloc (.cells #[.int .i64 (rbI c), .int .i64 (spI c), .int .i64 (omI c), .int .i64 (obI c), .int .i64 (rpI c), .int .i64 (lpI c), .int .i64 (ebI c), .int .i64 (mbI c), .int .i64 (wnI c), .int .i64 (slI c), .int .i64 (mrI c)] 24) = v4 at Z B4 K4  ⊢
  generalize v3.heap.size = h at Z ⊢
  clear B3
  have cc0 : v4.cell? ⟨g, 0, none⟩ = some (.int .i64 c.b) := (B4 0 (by omega)).1
  have cc1 : v4.cell? ⟨g, 1, none⟩ = some (.int .i64 c.p) := (B4 1 (by omega)).1
  have cc2 : v4.cell? ⟨g, 2, none⟩ = some (.int .i64 c.c) := (B4 2 (by omega)).1
  have cc3 : v4.cell? ⟨g, 3, none⟩ = some (.int .i64 c.s) := (B4 3 (by omega)).1
  have cc4 : v4.cell? ⟨g, 4, none⟩ = some (.int .i64 c.m) := (B4 4 (by omega)).1
  have cc5 : v4.cell? ⟨g, 5, none⟩ = some (.int .i64 c.w) := (B4 5 (by omega)).1
  have cc6 : v4.cell? ⟨g, 6, none⟩ = some (.bool c.f) := (B4 6 (by omega)).1
  go_wp2_with fail
  refine (hSp _).mono ?_
  rintro e v5 ⟨rfl, k5⟩
  clear cc0 cc1 cc2 cc3 cc4 cc5 cc6
  clear hSp
  have B5 := B4.keep k5 (fun e => e)
  have K5 := K4.trans k5
  have Zn := Z.keep k5 (fun e => e)
  clear B4 k5
  clear Z
  have Z := Zn
  clear Zn
  go_upto_region 7 with fail
  refine wp_region_noPanic ?_
  refine wp_region_held_drew (S := fun w' => True ∧ w'.cell? ⟨g, 0, none⟩ = some (.int .i64 c.b) ∧ w'.cell? ⟨g, 1, none⟩ = some (.int .i64 c.p) ∧ w'.cell? ⟨g, 2, none⟩ = some (.int .i64 c.c) ∧ w'.cell? ⟨g, 3, none⟩ = some (.int .i64 c.s) ∧ w'.cell? ⟨g, 4, none⟩ = some (.int .i64 c.m) ∧ w'.cell? ⟨g, 5, none⟩ = some (.int .i64 c.w) ∧ w'.cell? ⟨g, 6, none⟩ = some (.bool c.f) ∧ w'.cell? ⟨h, 0, none⟩ = some (.int .i64 (rbI c)) ∧ w'.cell? ⟨h, 1, none⟩ = some (.int .i64 (spI c)) ∧ w'.cell? ⟨h, 2, none⟩ = some (.int .i64 (omI c)) ∧ w'.cell? ⟨h, 3, none⟩ = some (.int .i64 (obI c)) ∧ w'.cell? ⟨h, 4, none⟩ = some (.int .i64 (rpI c)) ∧ w'.cell? ⟨h, 5, none⟩ = some (.int .i64 (lpI c)) ∧ w'.cell? ⟨h, 6, none⟩ = some (.int .i64 (ebI c)) ∧ w'.cell? ⟨h, 7, none⟩ = some (.int .i64 (mbI c)) ∧ w'.cell? ⟨h, 8, none⟩ = some (.int .i64 (wnI c)) ∧ w'.cell? ⟨h, 9, none⟩ = some (.int .i64 (slI c)) ∧ w'.cell? ⟨h, 10, none⟩ = some (.int .i64 (mrI c))) (by kernel_rfl) (⟨trivial, ((B5.drew) 0 (by omega)).1, ((B5.drew) 1 (by omega)).1, ((B5.drew) 2 (by omega)).1, ((B5.drew) 3 (by omega)).1, ((B5.drew) 4 (by omega)).1, ((B5.drew) 5 (by omega)).1, ((B5.drew) 6 (by omega)).1, ((Z.drew) 0 (by omega)).1, ((Z.drew) 1 (by omega)).1, ((Z.drew) 2 (by omega)).1, ((Z.drew) 3 (by omega)).1, ((Z.drew) 4 (by omega)).1, ((Z.drew) 5 (by omega)).1, ((Z.drew) 6 (by omega)).1, ((Z.drew) 7 (by omega)).1, ((Z.drew) 8 (by omega)).1, ((Z.drew) 9 (by omega)).1, ((Z.drew) 10 (by omega)).1⟩) (fun hH0 => ?_)
  refine' wpAnyH_take (i := 0) (oi := { dst := some 35, op := Op.move (Operand.tmp 8), type := 25, pos := "law.go:53", after := #[], guard := none }) (v := _) rfl (by kernel_rfl) (by kernel_rfl) (by kernel_rfl) (fun _ _ _ h => h) (Or.inl ⟨by rfl, ?hytl0⟩) hH0 ?rtl0
  case hytl0 => (intro w' hSw; clear hSw; go_simp; try with_reducible rfl)
  simp only [Act.put, List.setIfInBounds_toArray, List.set_cons_zero, List.set_cons_succ]
  refine' wpAnyH_take (i := 1) (oi := { dst := some 36, op := Op.binOp BinOp.neq 25 (Operand.tmp 35) (Operand.const (Value.int IntKind.i64 0)) 25, type := 4, pos := "law.go:53", after := #[{ on := 0, ground := Ground.data }], guard := none }) (v := _) rfl (by kernel_rfl) (by kernel_rfl) (by kernel_rfl) (fun _ _ _ h => h) (Or.inl ⟨by rfl, ?hytl1⟩) hH0 ?rtl1
  case hytl1 => (intro w' hSw; clear hSw; go_simp; try with_reducible rfl)
  simp only [Act.put, List.setIfInBounds_toArray, List.set_cons_zero, List.set_cons_succ]
  refine' wpAnyH_take (i := 2) (oi := { dst := some 37, op := Op.move (Operand.tmp 36), type := 4, pos := "law.go:53", after := #[{ on := 1, ground := Ground.data }], guard := none }) (v := _) rfl (by kernel_rfl) (by kernel_rfl) (by kernel_rfl) (fun _ _ _ h => h) (Or.inl ⟨by rfl, ?hytl2⟩) hH0 ?rtl2
  case hytl2 => (intro w' hSw; clear hSw; go_simp; try with_reducible rfl)
  simp only [Act.put, List.setIfInBounds_toArray, List.set_cons_zero, List.set_cons_succ]
  refine' wpAnyH_take (i := 3) (oi := { dst := some 38, op := Op.load 24 (Operand.tmp 7), type := 24, pos := "law.go:53", after := #[{ on := 2, ground := Ground.guard }], guard := some (2, false) }) (v := _) rfl (by kernel_rfl) (by kernel_rfl) (by kernel_rfl) (fun _ _ _ h => h) (Or.inl ⟨by rfl, ?hytl3⟩) hH0 ?rtl3
  case hytl3 => (intro w' hSw; obtain ⟨-, z0, z1, z2, z3, z4, z5, z6, z7, z8, z9, z10, z11, z12, z13, z14, z15, z16, z17⟩ := hSw; go_simp; try with_reducible rfl)
  simp only [Act.put, List.setIfInBounds_toArray, List.set_cons_zero, List.set_cons_succ]
  refine' wpAnyH_take (i := 4) (oi := { dst := some 39, op := Op.load 29 (Operand.tmp 3), type := 29, pos := "law.go:53", after := #[{ on := 2, ground := Ground.guard }], guard := some (2, false) }) (v := _) rfl (by kernel_rfl) (by kernel_rfl) (by kernel_rfl) (fun _ _ _ h => h) (Or.inl ⟨by rfl, ?hytl4⟩) hH0 ?rtl4
  case hytl4 => (intro w' hSw; obtain ⟨-, z0, z1, z2, z3, z4, z5, z6, z7, z8, z9, z10, z11, z12, z13, z14, z15, z16, z17⟩ := hSw; go_simp; try with_reducible rfl)
  simp only [Act.put, List.setIfInBounds_toArray, List.set_cons_zero, List.set_cons_succ]
  refine wpAnyH_ready (rs := [5]) (by kernel_rfl) (by simp) ?_
  refine AllReadyH.cons (o := { dst := some 40, op := Op.call { callee := Callee.value (Operand.func 15), args := #[Operand.tmp 39], argTypes := #[29] }, type := 35, pos := "law.go:53", after := #[{ on := 4, ground := Ground.data }, { on := 2, ground := Ground.chain }, { on := 2, ground := Ground.guard }], guard := some (2, false) }) rfl (fun K hK => ?_) AllReadyH.nil
  refine step_call_want (vs := #[.agg #[.int .i64 c.b, .int .i64 c.p, .int .i64 c.c, .int .i64 c.s, .int .i64 c.m, .int .i64 c.w, .bool c.f]]) (R := fun u wz => u = .agg #[.int .i64 (rbI c), .int .i64 (spI c), .int .i64 (omI c), .int .i64 (obI c), .int .i64 (rpI c), .int .i64 (lpI c), .int .i64 (ebI c), .int .i64 (mbI c), .int .i64 (wnI c), .int .i64 (slI c), .int .i64 (mrI c)] ∧ Keep (fun _ => False) v5.drew wz) (by rfl) 15 #[Operand.tmp 39] #[29] rfl (by simp [Act.eval]) call15 (post_of (hRo _)) ?_
  rintro _ y1 ⟨rfl, j1⟩
  refine hK.out _ _ (⟨trivial, ((Blk.keep (B5.drew) j1 (fun e => e)) 0 (by omega)).1, ((Blk.keep (B5.drew) j1 (fun e => e)) 1 (by omega)).1, ((Blk.keep (B5.drew) j1 (fun e => e)) 2 (by omega)).1, ((Blk.keep (B5.drew) j1 (fun e => e)) 3 (by omega)).1, ((Blk.keep (B5.drew) j1 (fun e => e)) 4 (by omega)).1, ((Blk.keep (B5.drew) j1 (fun e => e)) 5 (by omega)).1, ((Blk.keep (B5.drew) j1 (fun e => e)) 6 (by omega)).1, ((Blk.keep (Z.drew) j1 (fun e => e)) 0 (by omega)).1, ((Blk.keep (Z.drew) j1 (fun e => e)) 1 (by omega)).1, ((Blk.keep (Z.drew) j1 (fun e => e)) 2 (by omega)).1, ((Blk.keep (Z.drew) j1 (fun e => e)) 3 (by omega)).1, ((Blk.keep (Z.drew) j1 (fun e => e)) 4 (by omega)).1, ((Blk.keep (Z.drew) j1 (fun e => e)) 5 (by omega)).1, ((Blk.keep (Z.drew) j1 (fun e => e)) 6 (by omega)).1, ((Blk.keep (Z.drew) j1 (fun e => e)) 7 (by omega)).1, ((Blk.keep (Z.drew) j1 (fun e => e)) 8 (by omega)).1, ((Blk.keep (Z.drew) j1 (fun e => e)) 9 (by omega)).1, ((Blk.keep (Z.drew) j1 (fun e => e)) 10 (by omega)).1⟩) (fun hH1 => ?_)
  clear hK K hH0
  simp only [Act.put, List.setIfInBounds_toArray, List.set_cons_zero, List.set_cons_succ]
  refine wpAnyH_ready (rs := [6]) (by kernel_rfl) (by simp) ?_
  refine AllReadyH.cons (o := { dst := some 41, op := Op.call { callee := Callee.value (Operand.func 14), args := #[Operand.tmp 38, Operand.tmp 40], argTypes := #[24, 35] }, type := 4, pos := "law.go:53", after := #[{ on := 3, ground := Ground.data }, { on := 5, ground := Ground.data }, { on := 5, ground := Ground.chain }, { on := 2, ground := Ground.guard }], guard := some (2, false) }) rfl (fun K hK => ?_) AllReadyH.nil
  refine step_call_want (vs := #[.agg #[.int .i64 (rbI c), .int .i64 (spI c), .int .i64 (omI c), .int .i64 (obI c), .int .i64 (rpI c), .int .i64 (lpI c), .int .i64 (ebI c), .int .i64 (mbI c), .int .i64 (wnI c), .int .i64 (slI c), .int .i64 (mrI c)], .agg #[.int .i64 (rbI c), .int .i64 (spI c), .int .i64 (omI c), .int .i64 (obI c), .int .i64 (rpI c), .int .i64 (lpI c), .int .i64 (ebI c), .int .i64 (mbI c), .int .i64 (wnI c), .int .i64 (slI c), .int .i64 (mrI c)]]) (R := fun u wz => u = .bool true ∧ Keep (fun _ => False) y1 wz) (by rfl) 14 #[Operand.tmp 38, Operand.tmp 40] #[24, 35] rfl (by simp [Act.eval]) call14 (post_of (hIs _)) ?_
  rintro _ y2 ⟨rfl, j2⟩
  refine hK.out _ _ (⟨trivial, ((Blk.keep (B5.drew) (j1.trans j2) (fun e => e)) 0 (by omega)).1, ((Blk.keep (B5.drew) (j1.trans j2) (fun e => e)) 1 (by omega)).1, ((Blk.keep (B5.drew) (j1.trans j2) (fun e => e)) 2 (by omega)).1, ((Blk.keep (B5.drew) (j1.trans j2) (fun e => e)) 3 (by omega)).1, ((Blk.keep (B5.drew) (j1.trans j2) (fun e => e)) 4 (by omega)).1, ((Blk.keep (B5.drew) (j1.trans j2) (fun e => e)) 5 (by omega)).1, ((Blk.keep (B5.drew) (j1.trans j2) (fun e => e)) 6 (by omega)).1, ((Blk.keep (Z.drew) (j1.trans j2) (fun e => e)) 0 (by omega)).1, ((Blk.keep (Z.drew) (j1.trans j2) (fun e => e)) 1 (by omega)).1, ((Blk.keep (Z.drew) (j1.trans j2) (fun e => e)) 2 (by omega)).1, ((Blk.keep (Z.drew) (j1.trans j2) (fun e => e)) 3 (by omega)).1, ((Blk.keep (Z.drew) (j1.trans j2) (fun e => e)) 4 (by omega)).1, ((Blk.keep (Z.drew) (j1.trans j2) (fun e => e)) 5 (by omega)).1, ((Blk.keep (Z.drew) (j1.trans j2) (fun e => e)) 6 (by omega)).1, ((Blk.keep (Z.drew) (j1.trans j2) (fun e => e)) 7 (by omega)).1, ((Blk.keep (Z.drew) (j1.trans j2) (fun e => e)) 8 (by omega)).1, ((Blk.keep (Z.drew) (j1.trans j2) (fun e => e)) 9 (by omega)).1, ((Blk.keep (Z.drew) (j1.trans j2) (fun e => e)) 10 (by omega)).1⟩) (fun hH2 => ?_)
  clear hK K hH1
  simp only [Act.put, List.setIfInBounds_toArray, List.set_cons_zero, List.set_cons_succ]
  refine' wpAnyH_take (i := 7) (oi := { dst := some 42, op := Op.unOp UnOp.not 4 (Operand.tmp 41), type := 4, pos := "law.go:53", after := #[{ on := 6, ground := Ground.data }, { on := 2, ground := Ground.guard }], guard := some (2, false) }) (v := _) rfl (by kernel_rfl) (by kernel_rfl) (by kernel_rfl) (fun _ _ _ h => h) (Or.inl ⟨by rfl, ?hytl7⟩) hH2 ?rtl7
  case hytl7 => (intro w' hSw; clear hSw; go_simp; try with_reducible rfl)
  simp only [Act.put, List.setIfInBounds_toArray, List.set_cons_zero, List.set_cons_succ]
  refine' wpAnyH_take (i := 8) (oi := { dst := some 43, op := Op.pick (Operand.tmp 37) (Operand.const (Value.bool true)) (Operand.tmp 42), type := 4, pos := "law.go:53", after := #[{ on := 2, ground := Ground.data }, { on := 7, ground := Ground.data }], guard := none }) (v := _) rfl (by kernel_rfl) (by kernel_rfl) (by kernel_rfl) (fun _ _ _ h => h) (Or.inl ⟨by rfl, ?hytl8⟩) hH2 ?rtl8
  case hytl8 => (intro w' hSw; clear hSw; go_simp; try with_reducible rfl)
  simp only [Act.put, List.setIfInBounds_toArray, List.set_cons_zero, List.set_cons_succ]
  refine wpAnyH_done (by kernel_rfl) ?_ _
  refine NoPanic.normal ?_
  have kj : Keep (fun _ => False) v5 y2 := (Keep.refl (fun _ => False) v5).drew.trans (j1.trans j2)
  clear j1 j2 hRo hIs
  have B6 := B5.keep kj (fun e => e)
  have K6 := K5.trans kj
  have Zn := Z.keep kj (fun e => e)
  clear B5 kj
  clear Z
  have Z := Zn
  clear Zn
  clear Z
  have cc0 : y2.cell? ⟨g, 0, none⟩ = some (.int .i64 c.b) := (B6 0 (by omega)).1
  have cc1 : y2.cell? ⟨g, 1, none⟩ = some (.int .i64 c.p) := (B6 1 (by omega)).1
  have cc2 : y2.cell? ⟨g, 2, none⟩ = some (.int .i64 c.c) := (B6 2 (by omega)).1
  have cc3 : y2.cell? ⟨g, 3, none⟩ = some (.int .i64 c.s) := (B6 3 (by omega)).1
  have cc4 : y2.cell? ⟨g, 4, none⟩ = some (.int .i64 c.m) := (B6 4 (by omega)).1
  have cc5 : y2.cell? ⟨g, 5, none⟩ = some (.int .i64 c.w) := (B6 5 (by omega)).1
  have cc6 : y2.cell? ⟨g, 6, none⟩ = some (.bool c.f) := (B6 6 (by omega)).1
  go_wp2_with fail
  refine (hRg _).mono ?_
  rintro e v7 ⟨rfl, k7⟩
  clear cc0 cc1 cc2 cc3 cc4 cc5 cc6
  clear hRg
  have B7 := B6.keep k7 (fun e => e)
  have K7 := K6.trans k7
  clear B6 k7
  have cc0 : v7.cell? ⟨g, 0, none⟩ = some (.int .i64 c.b) := (B7 0 (by omega)).1
  have cc1 : v7.cell? ⟨g, 1, none⟩ = some (.int .i64 c.p) := (B7 1 (by omega)).1
  have cc2 : v7.cell? ⟨g, 2, none⟩ = some (.int .i64 c.c) := (B7 2 (by omega)).1
  have cc3 : v7.cell? ⟨g, 3, none⟩ = some (.int .i64 c.s) := (B7 3 (by omega)).1
  have cc4 : v7.cell? ⟨g, 4, none⟩ = some (.int .i64 c.m) := (B7 4 (by omega)).1
  have cc5 : v7.cell? ⟨g, 5, none⟩ = some (.int .i64 c.w) := (B7 5 (by omega)).1
  have cc6 : v7.cell? ⟨g, 6, none⟩ = some (.bool c.f) := (B7 6 (by omega)).1
  go_wp2_with fail
  refine (hRw _).mono ?_
  rintro e v8 ⟨rfl, k8⟩
  clear cc0 cc1 cc2 cc3 cc4 cc5 cc6
  clear hRw
  have B8 := B7.keep k8 (fun e => e)
  have K8 := K7.trans k8
  clear B7 k8
  have cc0 : v8.cell? ⟨g, 0, none⟩ = some (.int .i64 c.b) := (B8 0 (by omega)).1
  have cc1 : v8.cell? ⟨g, 1, none⟩ = some (.int .i64 c.p) := (B8 1 (by omega)).1
  have cc2 : v8.cell? ⟨g, 2, none⟩ = some (.int .i64 c.c) := (B8 2 (by omega)).1
  have cc3 : v8.cell? ⟨g, 3, none⟩ = some (.int .i64 c.s) := (B8 3 (by omega)).1
  have cc4 : v8.cell? ⟨g, 4, none⟩ = some (.int .i64 c.m) := (B8 4 (by omega)).1
  have cc5 : v8.cell? ⟨g, 5, none⟩ = some (.int .i64 c.w) := (B8 5 (by omega)).1
  have cc6 : v8.cell? ⟨g, 6, none⟩ = some (.bool c.f) := (B8 6 (by omega)).1
  go_wp2_with fail
  refine (hCp _).mono ?_
  rintro e v9 ⟨rfl, k9⟩
  clear cc0 cc1 cc2 cc3 cc4 cc5 cc6
  clear hCp
  have B9 := B8.keep k9 (fun e => e)
  have K9 := K8.trans k9
  clear B8 k9
  have cc0 : v9.cell? ⟨g, 0, none⟩ = some (.int .i64 c.b) := (B9 0 (by omega)).1
  have cc1 : v9.cell? ⟨g, 1, none⟩ = some (.int .i64 c.p) := (B9 1 (by omega)).1
  have cc2 : v9.cell? ⟨g, 2, none⟩ = some (.int .i64 c.c) := (B9 2 (by omega)).1
  have cc3 : v9.cell? ⟨g, 3, none⟩ = some (.int .i64 c.s) := (B9 3 (by omega)).1
  have cc4 : v9.cell? ⟨g, 4, none⟩ = some (.int .i64 c.m) := (B9 4 (by omega)).1
  have cc5 : v9.cell? ⟨g, 5, none⟩ = some (.int .i64 c.w) := (B9 5 (by omega)).1
  have cc6 : v9.cell? ⟨g, 6, none⟩ = some (.bool c.f) := (B9 6 (by omega)).1
  go_wp2_with fail
  refine (hGo _).mono ?_
  rintro e v10 ⟨rfl, k10⟩
  clear cc0 cc1 cc2 cc3 cc4 cc5 cc6
  clear hGo
  have B10 := B9.keep k10 (fun e => e)
  have K10 := K9.trans k10
  clear B9 k10
  have cc2 : v10.cell? ⟨g, 2, none⟩ = some (.int .i64 c.c) := (B10 2 (by omega)).1
  go_upto_region 16 with fail
  clear cc2
  have cc0 : v10.cell? ⟨g, 0, none⟩ = some (.int .i64 c.b) := (B10 0 (by omega)).1
  have cc1 : v10.cell? ⟨g, 1, none⟩ = some (.int .i64 c.p) := (B10 1 (by omega)).1
  have cc2 : v10.cell? ⟨g, 2, none⟩ = some (.int .i64 c.c) := (B10 2 (by omega)).1
  have cc3 : v10.cell? ⟨g, 3, none⟩ = some (.int .i64 c.s) := (B10 3 (by omega)).1
  have cc4 : v10.cell? ⟨g, 4, none⟩ = some (.int .i64 c.m) := (B10 4 (by omega)).1
  have cc5 : v10.cell? ⟨g, 5, none⟩ = some (.int .i64 c.w) := (B10 5 (by omega)).1
  have cc6 : v10.cell? ⟨g, 6, none⟩ = some (.bool c.f) := (B10 6 (by omega)).1
  go_wp2_with fail
  refine (hRr _).mono ?_
  rintro e v11 ⟨rfl, k11⟩
  clear cc0 cc1 cc2 cc3 cc4 cc5 cc6
  clear hRr
  have B11 := B10.keep k11 (fun e => e)
  have K11 := K10.trans k11
  clear B10 k11
  go_wp2_with fail
  go_ret
  exact ⟨rfl, K11⟩
set_option maxRecDepth 100000 in
set_option maxHeartbeats 2000000 in
theorem tells_g (w : World) {c : Cf} {n f : Int} (hAw : ∀ w : World, Calls Try.prog 8 #[] w fun e w' => e = .returned (.bool true) ∧ Keep (fun _ => False) w w') (hOf : ∀ w : World, Calls Try.prog 9 #[.agg #[.int .i64 c.b, .int .i64 c.p, .int .i64 c.c, .int .i64 c.s, .int .i64 c.m, .int .i64 c.w, .bool c.f]] w fun e w' => e = .returned (.tuple #[.agg #[.int .i64 (rbI c), .int .i64 (spI c), .int .i64 (omI c), .int .i64 (obI c), .int .i64 (rpI c), .int .i64 (lpI c), .int .i64 (ebI c), .int .i64 (mbI c), .int .i64 (wnI c), .int .i64 (slI c), .int .i64 (mrI c)], .int .i64 0]) ∧ Keep (fun _ => False) w w') (hSp : ∀ w : World, Calls Try.prog 13 #[.agg #[.int .i64 c.b, .int .i64 c.p, .int .i64 c.c, .int .i64 c.s, .int .i64 c.m, .int .i64 c.w, .bool c.f]] w fun e w' => e = .returned (.bool true) ∧ Keep (fun _ => False) w w') (hGo : ∀ w : World, Calls Try.prog 12 #[.agg #[.int .i64 c.b, .int .i64 c.p, .int .i64 c.c, .int .i64 c.s, .int .i64 c.m, .int .i64 c.w, .bool c.f]] w fun e w' => e = .returned (.bool true) ∧ Keep (fun _ => False) w w') (hRg : ∀ w : World, Calls Try.prog 16 #[.agg #[.int .i64 c.b, .int .i64 c.p, .int .i64 c.c, .int .i64 c.s, .int .i64 c.m, .int .i64 c.w, .bool c.f]] w fun e w' => e = .returned (.bool true) ∧ Keep (fun _ => False) w w') (hRo : ∀ w : World, Calls Try.prog 15 #[.agg #[.int .i64 c.b, .int .i64 c.p, .int .i64 c.c, .int .i64 c.s, .int .i64 c.m, .int .i64 c.w, .bool c.f]] w fun e w' => e = .returned (.agg #[.int .i64 (rbI c), .int .i64 (spI c), .int .i64 (omI c), .int .i64 (obI c), .int .i64 (rpI c), .int .i64 (lpI c), .int .i64 (ebI c), .int .i64 (mbI c), .int .i64 (wnI c), .int .i64 (slI c), .int .i64 (mrI c)]) ∧ Keep (fun _ => False) w w') (hIs : ∀ w : World, Calls Try.prog 14 #[.agg #[.int .i64 (rbI c), .int .i64 (spI c), .int .i64 (omI c), .int .i64 (obI c), .int .i64 (rpI c), .int .i64 (lpI c), .int .i64 (ebI c), .int .i64 (mbI c), .int .i64 (wnI c), .int .i64 (slI c), .int .i64 (mrI c)], .agg #[.int .i64 (rbI c), .int .i64 (spI c), .int .i64 (omI c), .int .i64 (obI c), .int .i64 (rpI c), .int .i64 (lpI c), .int .i64 (ebI c), .int .i64 (mbI c), .int .i64 (wnI c), .int .i64 (slI c), .int .i64 (mrI c)]] w fun e w' => e = .returned (.bool true) ∧ Keep (fun _ => False) w w') (hRw : ∀ w : World, Calls Try.prog 17 #[.agg #[.int .i64 c.b, .int .i64 c.p, .int .i64 c.c, .int .i64 c.s, .int .i64 c.m, .int .i64 c.w, .bool c.f], .int .i64 n] w fun e w' => e = .returned (.tuple #[.int .i64 (rwI c n), .int .i64 0]) ∧ Keep (fun _ => False) w w') (hCp : ∀ w : World, Calls Try.prog 11 #[.agg #[.int .i64 c.b, .int .i64 c.p, .int .i64 c.c, .int .i64 c.s, .int .i64 c.m, .int .i64 c.w, .bool c.f], .int .i64 n, .int .i64 f] w fun e w' => e = .returned (.tuple #[.int .i64 (cpI c n f), .int .i64 0]) ∧ Keep (fun _ => False) w w') (hRr : ∀ w : World, Calls Try.prog 18 #[.agg #[.int .i64 c.b, .int .i64 c.p, .int .i64 c.c, .int .i64 c.s, .int .i64 c.m, .int .i64 c.w, .bool c.f], .int .i64 n] w fun e w' => e = .returned (.int .i64 (rwI c n)) ∧ Keep (fun _ => False) w w') (hRc : ∀ w : World, Calls Try.prog 19 #[.agg #[.int .i64 c.b, .int .i64 c.p, .int .i64 c.c, .int .i64 c.s, .int .i64 c.m, .int .i64 c.w, .bool c.f], .int .i64 n, .int .i64 f] w fun e w' => e = .returned (.int .i64 (cpI c n f)) ∧ Keep (fun _ => False) w w') (d1 : ¬ n < 1) (d2 : ¬ c.c < n) (d3 : ¬ f < 0) (d4 : ¬ 1000 < f) :
    Calls Try.prog 4 #[.agg #[.int .i64 c.b, .int .i64 c.p, .int .i64 c.c, .int .i64 c.s, .int .i64 c.m, .int .i64 c.w, .bool c.f], .int .i64 n, .int .i64 f] w fun e w' => e = .returned (.bool true) ∧ Keep (fun _ => False) w w' := by
  have B1 : Blk (w.alloc (.cells #[.int .i64 c.b, .int .i64 c.p, .int .i64 c.c, .int .i64 c.s, .int .i64 c.m, .int .i64 c.w, .bool c.f] 29)) w.heap.size 7 (ccell c) := blk_cf w c
  have K1 : Keep (fun _ => False) w (w.alloc (.cells #[.int .i64 c.b, .int .i64 c.p, .int .i64 c.c, .int .i64 c.s, .int .i64 c.m, .int .i64 c.w, .bool c.f] 29)) := (Keep.refl _ _).alloc _
  go_enter Try.func4, Try.ntmps4
  go_upto_region 1 with fail
  generalize w.alloc (.cells #[.int .i64 c.b, .int .i64 c.p, .int .i64 c.c, .int .i64 c.s, .int .i64 c.m, .int .i64 c.w, .bool c.f] 29) = v1 at B1 K1 ⊢
  generalize w.heap.size = g at B1 ⊢
  go_wp2_with fail
  refine (hAw _).mono ?_
  rintro e v2 ⟨rfl, k2⟩
  clear hAw
  have B2 := B1.keep k2 (fun e => e)
  have K2 := K1.trans k2
  clear B1 k2
  have cc0 : v2.cell? ⟨g, 0, none⟩ = some (.int .i64 c.b) := (B2 0 (by omega)).1
  have cc1 : v2.cell? ⟨g, 1, none⟩ = some (.int .i64 c.p) := (B2 1 (by omega)).1
  have cc2 : v2.cell? ⟨g, 2, none⟩ = some (.int .i64 c.c) := (B2 2 (by omega)).1
  have cc3 : v2.cell? ⟨g, 3, none⟩ = some (.int .i64 c.s) := (B2 3 (by omega)).1
  have cc4 : v2.cell? ⟨g, 4, none⟩ = some (.int .i64 c.m) := (B2 4 (by omega)).1
  have cc5 : v2.cell? ⟨g, 5, none⟩ = some (.int .i64 c.w) := (B2 5 (by omega)).1
  have cc6 : v2.cell? ⟨g, 6, none⟩ = some (.bool c.f) := (B2 6 (by omega)).1
  go_wp2_with fail
  refine (hOf _).mono ?_
  rintro e v3 ⟨rfl, k3⟩
  clear cc0 cc1 cc2 cc3 cc4 cc5 cc6
  clear hOf
  have B3 := B2.keep k3 (fun e => e)
  have K3 := K2.trans k3
  clear B2 k3
  have Z : Blk (v3.alloc (.cells #[.int .i64 (rbI c), .int .i64 (spI c), .int .i64 (omI c), .int .i64 (obI c), .int .i64 (rpI c), .int .i64 (lpI c), .int .i64 (ebI c), .int .i64 (mbI c), .int .i64 (wnI c), .int .i64 (slI c), .int .i64 (mrI c)] 24)) v3.heap.size 11 (scell [rbI c, spI c, omI c, obI c, rpI c, lpI c, ebI c, mbI c, wnI c, slI c, mrI c]) := blk_alloc v3 _ 24 11 _ (fun i hi => by
    have : i = 0 ∨ i = 1 ∨ i = 2 ∨ i = 3 ∨ i = 4 ∨ i = 5 ∨ i = 6 ∨ i = 7 ∨ i = 8 ∨ i = 9 ∨ i = 10 := by omega
    rcases this with rfl | rfl | rfl | rfl | rfl | rfl | rfl | rfl | rfl | rfl | rfl <;> rfl)
  have B4 := B3.alloc (.cells #[.int .i64 (rbI c), .int .i64 (spI c), .int .i64 (omI c), .int .i64 (obI c), .int .i64 (rpI c), .int .i64 (lpI c), .int .i64 (ebI c), .int .i64 (mbI c), .int .i64 (wnI c), .int .i64 (slI c), .int .i64 (mrI c)] 24)
  have K4 := K3.alloc (.cells #[.int .i64 (rbI c), .int .i64 (spI c), .int .i64 (omI c), .int .i64 (obI c), .int .i64 (rpI c), .int .i64 (lpI c), .int .i64 (ebI c), .int .i64 (mbI c), .int .i64 (wnI c), .int .i64 (slI c), .int .i64 (mrI c)] 24)
  go_upto_region 4 with fail
  generalize v3.alloc (.cells #[.int .i64 (rbI c), .int .i64 (spI c), .int .i64 (omI c), .int .i64 (obI c), .int .i64 (rpI c), .int .i64 (lpI c), .int .i64 (ebI c), .int .i64 (mbI c), .int .i64 (wnI c), .int .i64 (slI c), .int .i64 (mrI c)] 24) = v4 at Z B4 K4  ⊢
  generalize v3.heap.size = h at Z ⊢
  clear B3
  have cc0 : v4.cell? ⟨g, 0, none⟩ = some (.int .i64 c.b) := (B4 0 (by omega)).1
  have cc1 : v4.cell? ⟨g, 1, none⟩ = some (.int .i64 c.p) := (B4 1 (by omega)).1
  have cc2 : v4.cell? ⟨g, 2, none⟩ = some (.int .i64 c.c) := (B4 2 (by omega)).1
  have cc3 : v4.cell? ⟨g, 3, none⟩ = some (.int .i64 c.s) := (B4 3 (by omega)).1
  have cc4 : v4.cell? ⟨g, 4, none⟩ = some (.int .i64 c.m) := (B4 4 (by omega)).1
  have cc5 : v4.cell? ⟨g, 5, none⟩ = some (.int .i64 c.w) := (B4 5 (by omega)).1
  have cc6 : v4.cell? ⟨g, 6, none⟩ = some (.bool c.f) := (B4 6 (by omega)).1
  go_wp2_with fail
  refine (hSp _).mono ?_
  rintro e v5 ⟨rfl, k5⟩
  clear cc0 cc1 cc2 cc3 cc4 cc5 cc6
  clear hSp
  have B5 := B4.keep k5 (fun e => e)
  have K5 := K4.trans k5
  have Zn := Z.keep k5 (fun e => e)
  clear B4 k5
  clear Z
  have Z := Zn
  clear Zn
  go_upto_region 7 with fail
  refine wp_region_noPanic ?_
  refine wp_region_held_drew (S := fun w' => True ∧ w'.cell? ⟨g, 0, none⟩ = some (.int .i64 c.b) ∧ w'.cell? ⟨g, 1, none⟩ = some (.int .i64 c.p) ∧ w'.cell? ⟨g, 2, none⟩ = some (.int .i64 c.c) ∧ w'.cell? ⟨g, 3, none⟩ = some (.int .i64 c.s) ∧ w'.cell? ⟨g, 4, none⟩ = some (.int .i64 c.m) ∧ w'.cell? ⟨g, 5, none⟩ = some (.int .i64 c.w) ∧ w'.cell? ⟨g, 6, none⟩ = some (.bool c.f) ∧ w'.cell? ⟨h, 0, none⟩ = some (.int .i64 (rbI c)) ∧ w'.cell? ⟨h, 1, none⟩ = some (.int .i64 (spI c)) ∧ w'.cell? ⟨h, 2, none⟩ = some (.int .i64 (omI c)) ∧ w'.cell? ⟨h, 3, none⟩ = some (.int .i64 (obI c)) ∧ w'.cell? ⟨h, 4, none⟩ = some (.int .i64 (rpI c)) ∧ w'.cell? ⟨h, 5, none⟩ = some (.int .i64 (lpI c)) ∧ w'.cell? ⟨h, 6, none⟩ = some (.int .i64 (ebI c)) ∧ w'.cell? ⟨h, 7, none⟩ = some (.int .i64 (mbI c)) ∧ w'.cell? ⟨h, 8, none⟩ = some (.int .i64 (wnI c)) ∧ w'.cell? ⟨h, 9, none⟩ = some (.int .i64 (slI c)) ∧ w'.cell? ⟨h, 10, none⟩ = some (.int .i64 (mrI c))) (by kernel_rfl) (⟨trivial, ((B5.drew) 0 (by omega)).1, ((B5.drew) 1 (by omega)).1, ((B5.drew) 2 (by omega)).1, ((B5.drew) 3 (by omega)).1, ((B5.drew) 4 (by omega)).1, ((B5.drew) 5 (by omega)).1, ((B5.drew) 6 (by omega)).1, ((Z.drew) 0 (by omega)).1, ((Z.drew) 1 (by omega)).1, ((Z.drew) 2 (by omega)).1, ((Z.drew) 3 (by omega)).1, ((Z.drew) 4 (by omega)).1, ((Z.drew) 5 (by omega)).1, ((Z.drew) 6 (by omega)).1, ((Z.drew) 7 (by omega)).1, ((Z.drew) 8 (by omega)).1, ((Z.drew) 9 (by omega)).1, ((Z.drew) 10 (by omega)).1⟩) (fun hH0 => ?_)
  refine' wpAnyH_take (i := 0) (oi := { dst := some 35, op := Op.move (Operand.tmp 8), type := 25, pos := "law.go:53", after := #[], guard := none }) (v := _) rfl (by kernel_rfl) (by kernel_rfl) (by kernel_rfl) (fun _ _ _ h => h) (Or.inl ⟨by rfl, ?hytl0⟩) hH0 ?rtl0
  case hytl0 => (intro w' hSw; clear hSw; go_simp; try with_reducible rfl)
  simp only [Act.put, List.setIfInBounds_toArray, List.set_cons_zero, List.set_cons_succ]
  refine' wpAnyH_take (i := 1) (oi := { dst := some 36, op := Op.binOp BinOp.neq 25 (Operand.tmp 35) (Operand.const (Value.int IntKind.i64 0)) 25, type := 4, pos := "law.go:53", after := #[{ on := 0, ground := Ground.data }], guard := none }) (v := _) rfl (by kernel_rfl) (by kernel_rfl) (by kernel_rfl) (fun _ _ _ h => h) (Or.inl ⟨by rfl, ?hytl1⟩) hH0 ?rtl1
  case hytl1 => (intro w' hSw; clear hSw; go_simp; try with_reducible rfl)
  simp only [Act.put, List.setIfInBounds_toArray, List.set_cons_zero, List.set_cons_succ]
  refine' wpAnyH_take (i := 2) (oi := { dst := some 37, op := Op.move (Operand.tmp 36), type := 4, pos := "law.go:53", after := #[{ on := 1, ground := Ground.data }], guard := none }) (v := _) rfl (by kernel_rfl) (by kernel_rfl) (by kernel_rfl) (fun _ _ _ h => h) (Or.inl ⟨by rfl, ?hytl2⟩) hH0 ?rtl2
  case hytl2 => (intro w' hSw; clear hSw; go_simp; try with_reducible rfl)
  simp only [Act.put, List.setIfInBounds_toArray, List.set_cons_zero, List.set_cons_succ]
  refine' wpAnyH_take (i := 3) (oi := { dst := some 38, op := Op.load 24 (Operand.tmp 7), type := 24, pos := "law.go:53", after := #[{ on := 2, ground := Ground.guard }], guard := some (2, false) }) (v := _) rfl (by kernel_rfl) (by kernel_rfl) (by kernel_rfl) (fun _ _ _ h => h) (Or.inl ⟨by rfl, ?hytl3⟩) hH0 ?rtl3
  case hytl3 => (intro w' hSw; obtain ⟨-, z0, z1, z2, z3, z4, z5, z6, z7, z8, z9, z10, z11, z12, z13, z14, z15, z16, z17⟩ := hSw; go_simp; try with_reducible rfl)
  simp only [Act.put, List.setIfInBounds_toArray, List.set_cons_zero, List.set_cons_succ]
  refine' wpAnyH_take (i := 4) (oi := { dst := some 39, op := Op.load 29 (Operand.tmp 3), type := 29, pos := "law.go:53", after := #[{ on := 2, ground := Ground.guard }], guard := some (2, false) }) (v := _) rfl (by kernel_rfl) (by kernel_rfl) (by kernel_rfl) (fun _ _ _ h => h) (Or.inl ⟨by rfl, ?hytl4⟩) hH0 ?rtl4
  case hytl4 => (intro w' hSw; obtain ⟨-, z0, z1, z2, z3, z4, z5, z6, z7, z8, z9, z10, z11, z12, z13, z14, z15, z16, z17⟩ := hSw; go_simp; try with_reducible rfl)
  simp only [Act.put, List.setIfInBounds_toArray, List.set_cons_zero, List.set_cons_succ]
  refine wpAnyH_ready (rs := [5]) (by kernel_rfl) (by simp) ?_
  refine AllReadyH.cons (o := { dst := some 40, op := Op.call { callee := Callee.value (Operand.func 15), args := #[Operand.tmp 39], argTypes := #[29] }, type := 35, pos := "law.go:53", after := #[{ on := 4, ground := Ground.data }, { on := 2, ground := Ground.chain }, { on := 2, ground := Ground.guard }], guard := some (2, false) }) rfl (fun K hK => ?_) AllReadyH.nil
  refine step_call_want (vs := #[.agg #[.int .i64 c.b, .int .i64 c.p, .int .i64 c.c, .int .i64 c.s, .int .i64 c.m, .int .i64 c.w, .bool c.f]]) (R := fun u wz => u = .agg #[.int .i64 (rbI c), .int .i64 (spI c), .int .i64 (omI c), .int .i64 (obI c), .int .i64 (rpI c), .int .i64 (lpI c), .int .i64 (ebI c), .int .i64 (mbI c), .int .i64 (wnI c), .int .i64 (slI c), .int .i64 (mrI c)] ∧ Keep (fun _ => False) v5.drew wz) (by rfl) 15 #[Operand.tmp 39] #[29] rfl (by simp [Act.eval]) call15 (post_of (hRo _)) ?_
  rintro _ y1 ⟨rfl, j1⟩
  refine hK.out _ _ (⟨trivial, ((Blk.keep (B5.drew) j1 (fun e => e)) 0 (by omega)).1, ((Blk.keep (B5.drew) j1 (fun e => e)) 1 (by omega)).1, ((Blk.keep (B5.drew) j1 (fun e => e)) 2 (by omega)).1, ((Blk.keep (B5.drew) j1 (fun e => e)) 3 (by omega)).1, ((Blk.keep (B5.drew) j1 (fun e => e)) 4 (by omega)).1, ((Blk.keep (B5.drew) j1 (fun e => e)) 5 (by omega)).1, ((Blk.keep (B5.drew) j1 (fun e => e)) 6 (by omega)).1, ((Blk.keep (Z.drew) j1 (fun e => e)) 0 (by omega)).1, ((Blk.keep (Z.drew) j1 (fun e => e)) 1 (by omega)).1, ((Blk.keep (Z.drew) j1 (fun e => e)) 2 (by omega)).1, ((Blk.keep (Z.drew) j1 (fun e => e)) 3 (by omega)).1, ((Blk.keep (Z.drew) j1 (fun e => e)) 4 (by omega)).1, ((Blk.keep (Z.drew) j1 (fun e => e)) 5 (by omega)).1, ((Blk.keep (Z.drew) j1 (fun e => e)) 6 (by omega)).1, ((Blk.keep (Z.drew) j1 (fun e => e)) 7 (by omega)).1, ((Blk.keep (Z.drew) j1 (fun e => e)) 8 (by omega)).1, ((Blk.keep (Z.drew) j1 (fun e => e)) 9 (by omega)).1, ((Blk.keep (Z.drew) j1 (fun e => e)) 10 (by omega)).1⟩) (fun hH1 => ?_)
  clear hK K hH0
  simp only [Act.put, List.setIfInBounds_toArray, List.set_cons_zero, List.set_cons_succ]
  refine wpAnyH_ready (rs := [6]) (by kernel_rfl) (by simp) ?_
  refine AllReadyH.cons (o := { dst := some 41, op := Op.call { callee := Callee.value (Operand.func 14), args := #[Operand.tmp 38, Operand.tmp 40], argTypes := #[24, 35] }, type := 4, pos := "law.go:53", after := #[{ on := 3, ground := Ground.data }, { on := 5, ground := Ground.data }, { on := 5, ground := Ground.chain }, { on := 2, ground := Ground.guard }], guard := some (2, false) }) rfl (fun K hK => ?_) AllReadyH.nil
  refine step_call_want (vs := #[.agg #[.int .i64 (rbI c), .int .i64 (spI c), .int .i64 (omI c), .int .i64 (obI c), .int .i64 (rpI c), .int .i64 (lpI c), .int .i64 (ebI c), .int .i64 (mbI c), .int .i64 (wnI c), .int .i64 (slI c), .int .i64 (mrI c)], .agg #[.int .i64 (rbI c), .int .i64 (spI c), .int .i64 (omI c), .int .i64 (obI c), .int .i64 (rpI c), .int .i64 (lpI c), .int .i64 (ebI c), .int .i64 (mbI c), .int .i64 (wnI c), .int .i64 (slI c), .int .i64 (mrI c)]]) (R := fun u wz => u = .bool true ∧ Keep (fun _ => False) y1 wz) (by rfl) 14 #[Operand.tmp 38, Operand.tmp 40] #[24, 35] rfl (by simp [Act.eval]) call14 (post_of (hIs _)) ?_
  rintro _ y2 ⟨rfl, j2⟩
  refine hK.out _ _ (⟨trivial, ((Blk.keep (B5.drew) (j1.trans j2) (fun e => e)) 0 (by omega)).1, ((Blk.keep (B5.drew) (j1.trans j2) (fun e => e)) 1 (by omega)).1, ((Blk.keep (B5.drew) (j1.trans j2) (fun e => e)) 2 (by omega)).1, ((Blk.keep (B5.drew) (j1.trans j2) (fun e => e)) 3 (by omega)).1, ((Blk.keep (B5.drew) (j1.trans j2) (fun e => e)) 4 (by omega)).1, ((Blk.keep (B5.drew) (j1.trans j2) (fun e => e)) 5 (by omega)).1, ((Blk.keep (B5.drew) (j1.trans j2) (fun e => e)) 6 (by omega)).1, ((Blk.keep (Z.drew) (j1.trans j2) (fun e => e)) 0 (by omega)).1, ((Blk.keep (Z.drew) (j1.trans j2) (fun e => e)) 1 (by omega)).1, ((Blk.keep (Z.drew) (j1.trans j2) (fun e => e)) 2 (by omega)).1, ((Blk.keep (Z.drew) (j1.trans j2) (fun e => e)) 3 (by omega)).1, ((Blk.keep (Z.drew) (j1.trans j2) (fun e => e)) 4 (by omega)).1, ((Blk.keep (Z.drew) (j1.trans j2) (fun e => e)) 5 (by omega)).1, ((Blk.keep (Z.drew) (j1.trans j2) (fun e => e)) 6 (by omega)).1, ((Blk.keep (Z.drew) (j1.trans j2) (fun e => e)) 7 (by omega)).1, ((Blk.keep (Z.drew) (j1.trans j2) (fun e => e)) 8 (by omega)).1, ((Blk.keep (Z.drew) (j1.trans j2) (fun e => e)) 9 (by omega)).1, ((Blk.keep (Z.drew) (j1.trans j2) (fun e => e)) 10 (by omega)).1⟩) (fun hH2 => ?_)
  clear hK K hH1
  simp only [Act.put, List.setIfInBounds_toArray, List.set_cons_zero, List.set_cons_succ]
  refine' wpAnyH_take (i := 7) (oi := { dst := some 42, op := Op.unOp UnOp.not 4 (Operand.tmp 41), type := 4, pos := "law.go:53", after := #[{ on := 6, ground := Ground.data }, { on := 2, ground := Ground.guard }], guard := some (2, false) }) (v := _) rfl (by kernel_rfl) (by kernel_rfl) (by kernel_rfl) (fun _ _ _ h => h) (Or.inl ⟨by rfl, ?hytl7⟩) hH2 ?rtl7
  case hytl7 => (intro w' hSw; clear hSw; go_simp; try with_reducible rfl)
  simp only [Act.put, List.setIfInBounds_toArray, List.set_cons_zero, List.set_cons_succ]
  refine' wpAnyH_take (i := 8) (oi := { dst := some 43, op := Op.pick (Operand.tmp 37) (Operand.const (Value.bool true)) (Operand.tmp 42), type := 4, pos := "law.go:53", after := #[{ on := 2, ground := Ground.data }, { on := 7, ground := Ground.data }], guard := none }) (v := _) rfl (by kernel_rfl) (by kernel_rfl) (by kernel_rfl) (fun _ _ _ h => h) (Or.inl ⟨by rfl, ?hytl8⟩) hH2 ?rtl8
  case hytl8 => (intro w' hSw; clear hSw; go_simp; try with_reducible rfl)
  simp only [Act.put, List.setIfInBounds_toArray, List.set_cons_zero, List.set_cons_succ]
  refine wpAnyH_done (by kernel_rfl) ?_ _
  refine NoPanic.normal ?_
  have kj : Keep (fun _ => False) v5 y2 := (Keep.refl (fun _ => False) v5).drew.trans (j1.trans j2)
  clear j1 j2 hRo hIs
  have B6 := B5.keep kj (fun e => e)
  have K6 := K5.trans kj
  have Zn := Z.keep kj (fun e => e)
  clear B5 kj
  clear Z
  have Z := Zn
  clear Zn
  clear Z
  have cc0 : y2.cell? ⟨g, 0, none⟩ = some (.int .i64 c.b) := (B6 0 (by omega)).1
  have cc1 : y2.cell? ⟨g, 1, none⟩ = some (.int .i64 c.p) := (B6 1 (by omega)).1
  have cc2 : y2.cell? ⟨g, 2, none⟩ = some (.int .i64 c.c) := (B6 2 (by omega)).1
  have cc3 : y2.cell? ⟨g, 3, none⟩ = some (.int .i64 c.s) := (B6 3 (by omega)).1
  have cc4 : y2.cell? ⟨g, 4, none⟩ = some (.int .i64 c.m) := (B6 4 (by omega)).1
  have cc5 : y2.cell? ⟨g, 5, none⟩ = some (.int .i64 c.w) := (B6 5 (by omega)).1
  have cc6 : y2.cell? ⟨g, 6, none⟩ = some (.bool c.f) := (B6 6 (by omega)).1
  go_wp2_with fail
  refine (hRg _).mono ?_
  rintro e v7 ⟨rfl, k7⟩
  clear cc0 cc1 cc2 cc3 cc4 cc5 cc6
  clear hRg
  have B7 := B6.keep k7 (fun e => e)
  have K7 := K6.trans k7
  clear B6 k7
  have cc0 : v7.cell? ⟨g, 0, none⟩ = some (.int .i64 c.b) := (B7 0 (by omega)).1
  have cc1 : v7.cell? ⟨g, 1, none⟩ = some (.int .i64 c.p) := (B7 1 (by omega)).1
  have cc2 : v7.cell? ⟨g, 2, none⟩ = some (.int .i64 c.c) := (B7 2 (by omega)).1
  have cc3 : v7.cell? ⟨g, 3, none⟩ = some (.int .i64 c.s) := (B7 3 (by omega)).1
  have cc4 : v7.cell? ⟨g, 4, none⟩ = some (.int .i64 c.m) := (B7 4 (by omega)).1
  have cc5 : v7.cell? ⟨g, 5, none⟩ = some (.int .i64 c.w) := (B7 5 (by omega)).1
  have cc6 : v7.cell? ⟨g, 6, none⟩ = some (.bool c.f) := (B7 6 (by omega)).1
  go_wp2_with fail
  refine (hRw _).mono ?_
  rintro e v8 ⟨rfl, k8⟩
  clear cc0 cc1 cc2 cc3 cc4 cc5 cc6
  clear hRw
  have B8 := B7.keep k8 (fun e => e)
  have K8 := K7.trans k8
  clear B7 k8
  have cc0 : v8.cell? ⟨g, 0, none⟩ = some (.int .i64 c.b) := (B8 0 (by omega)).1
  have cc1 : v8.cell? ⟨g, 1, none⟩ = some (.int .i64 c.p) := (B8 1 (by omega)).1
  have cc2 : v8.cell? ⟨g, 2, none⟩ = some (.int .i64 c.c) := (B8 2 (by omega)).1
  have cc3 : v8.cell? ⟨g, 3, none⟩ = some (.int .i64 c.s) := (B8 3 (by omega)).1
  have cc4 : v8.cell? ⟨g, 4, none⟩ = some (.int .i64 c.m) := (B8 4 (by omega)).1
  have cc5 : v8.cell? ⟨g, 5, none⟩ = some (.int .i64 c.w) := (B8 5 (by omega)).1
  have cc6 : v8.cell? ⟨g, 6, none⟩ = some (.bool c.f) := (B8 6 (by omega)).1
  go_wp2_with fail
  refine (hCp _).mono ?_
  rintro e v9 ⟨rfl, k9⟩
  clear cc0 cc1 cc2 cc3 cc4 cc5 cc6
  clear hCp
  have B9 := B8.keep k9 (fun e => e)
  have K9 := K8.trans k9
  clear B8 k9
  have cc0 : v9.cell? ⟨g, 0, none⟩ = some (.int .i64 c.b) := (B9 0 (by omega)).1
  have cc1 : v9.cell? ⟨g, 1, none⟩ = some (.int .i64 c.p) := (B9 1 (by omega)).1
  have cc2 : v9.cell? ⟨g, 2, none⟩ = some (.int .i64 c.c) := (B9 2 (by omega)).1
  have cc3 : v9.cell? ⟨g, 3, none⟩ = some (.int .i64 c.s) := (B9 3 (by omega)).1
  have cc4 : v9.cell? ⟨g, 4, none⟩ = some (.int .i64 c.m) := (B9 4 (by omega)).1
  have cc5 : v9.cell? ⟨g, 5, none⟩ = some (.int .i64 c.w) := (B9 5 (by omega)).1
  have cc6 : v9.cell? ⟨g, 6, none⟩ = some (.bool c.f) := (B9 6 (by omega)).1
  go_wp2_with fail
  refine (hGo _).mono ?_
  rintro e v10 ⟨rfl, k10⟩
  clear cc0 cc1 cc2 cc3 cc4 cc5 cc6
  clear hGo
  have B10 := B9.keep k10 (fun e => e)
  have K10 := K9.trans k10
  clear B9 k10
  have cc2 : v10.cell? ⟨g, 2, none⟩ = some (.int .i64 c.c) := (B10 2 (by omega)).1
  go_upto_region 16 with fail
  clear cc2
  have cc0 : v10.cell? ⟨g, 0, none⟩ = some (.int .i64 c.b) := (B10 0 (by omega)).1
  have cc1 : v10.cell? ⟨g, 1, none⟩ = some (.int .i64 c.p) := (B10 1 (by omega)).1
  have cc2 : v10.cell? ⟨g, 2, none⟩ = some (.int .i64 c.c) := (B10 2 (by omega)).1
  have cc3 : v10.cell? ⟨g, 3, none⟩ = some (.int .i64 c.s) := (B10 3 (by omega)).1
  have cc4 : v10.cell? ⟨g, 4, none⟩ = some (.int .i64 c.m) := (B10 4 (by omega)).1
  have cc5 : v10.cell? ⟨g, 5, none⟩ = some (.int .i64 c.w) := (B10 5 (by omega)).1
  have cc6 : v10.cell? ⟨g, 6, none⟩ = some (.bool c.f) := (B10 6 (by omega)).1
  go_wp2_with fail
  refine (hRr _).mono ?_
  rintro e v11 ⟨rfl, k11⟩
  clear cc0 cc1 cc2 cc3 cc4 cc5 cc6
  clear hRr
  have B11 := B10.keep k11 (fun e => e)
  have K11 := K10.trans k11
  clear B10 k11
  go_upto_region 20 with fail
  have cc0 : v11.cell? ⟨g, 0, none⟩ = some (.int .i64 c.b) := (B11 0 (by omega)).1
  have cc1 : v11.cell? ⟨g, 1, none⟩ = some (.int .i64 c.p) := (B11 1 (by omega)).1
  have cc2 : v11.cell? ⟨g, 2, none⟩ = some (.int .i64 c.c) := (B11 2 (by omega)).1
  have cc3 : v11.cell? ⟨g, 3, none⟩ = some (.int .i64 c.s) := (B11 3 (by omega)).1
  have cc4 : v11.cell? ⟨g, 4, none⟩ = some (.int .i64 c.m) := (B11 4 (by omega)).1
  have cc5 : v11.cell? ⟨g, 5, none⟩ = some (.int .i64 c.w) := (B11 5 (by omega)).1
  have cc6 : v11.cell? ⟨g, 6, none⟩ = some (.bool c.f) := (B11 6 (by omega)).1
  go_wp2_with fail
  refine (hRc _).mono ?_
  rintro e v12 ⟨rfl, k12⟩
  clear cc0 cc1 cc2 cc3 cc4 cc5 cc6
  clear hRc
  have B12 := B11.keep k12 (fun e => e)
  have K12 := K11.trans k12
  clear B11 k12
  go_wp2_with fail
  go_ret
  exact ⟨rfl, K12⟩
end Tg
end Go.Proofs.Ytoobjmhllfeffaa
