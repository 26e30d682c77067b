/-
  The program's Of and Good.
-/
import Derived.Test.YtoobjmhllfeffaaYc
import Derived.Test.YtoobjmhllfeffaaZf
import Derived.Laws.ResultCell
namespace Go.Proofs.Ytoobjmhllfeffaa
open Go.ChangeShapes Go.WideShapes Go.ChangeAt Go.RowKit
namespace Tg
set_option maxRecDepth 100000 in
set_option maxHeartbeats 2000000 in
theorem of_no (w : World) {c : Cf} (hs : spanB c = false) : Calls Try.prog 9 #[.agg #[.int .i64 c.b, .int .i64 c.p, .int .i64 c.c, .int .i64 c.s, .int .i64 c.m, .int .i64 c.w, .bool c.f]] w fun e w' => e = .returned (.tuple #[.agg #[.int .i64 0, .int .i64 0, .int .i64 0, .int .i64 0, .int .i64 0, .int .i64 0, .int .i64 0, .int .i64 0, .int .i64 0, .int .i64 0, .int .i64 0], .int .i64 1]) ∧ Keep (fun _ => False) w w' := by
  have hin := fun w => inSpans_any w c
  rw [hs] at hin
  have B1 : Blk (w.alloc (.cells #[.int .i64 c.b, .int .i64 c.p, .int .i64 c.c, .int .i64 c.s, .int .i64 c.m, .int .i64 c.w, .bool c.f] 29)) w.heap.size 7 (ccell c) := blk_cf w c
  have R1 : Blk ((w.alloc (.cells #[.int .i64 c.b, .int .i64 c.p, .int .i64 c.c, .int .i64 c.s, .int .i64 c.m, .int .i64 c.w, .bool c.f] 29)).alloc (.cells #[.int .i64 0, .int .i64 0, .int .i64 0, .int .i64 0, .int .i64 0, .int .i64 0, .int .i64 0, .int .i64 0, .int .i64 0, .int .i64 0, .int .i64 0] 24)) (w.heap.size + 1) 11 (fun _ => .int .i64 0) := by
    have := blk_alloc (w.alloc (.cells #[.int .i64 c.b, .int .i64 c.p, .int .i64 c.c, .int .i64 c.s, .int .i64 c.m, .int .i64 c.w, .bool c.f] 29)) #[.int .i64 0, .int .i64 0, .int .i64 0, .int .i64 0, .int .i64 0, .int .i64 0, .int .i64 0, .int .i64 0, .int .i64 0, .int .i64 0, .int .i64 0] 24 11 (fun _ => .int .i64 0) (fun i hi => by
      have : i = 0 ∨ i = 1 ∨ i = 2 ∨ i = 3 ∨ i = 4 ∨ i = 5 ∨ i = 6 ∨ i = 7 ∨ i = 8 ∨ i = 9 ∨ i = 10 := by omega
      rcases this with rfl | rfl | rfl | rfl | rfl | rfl | rfl | rfl | rfl | rfl | rfl <;> rfl)
    rwa [World.size_alloc] at this
  have B2 := B1.alloc (.cells #[.int .i64 0, .int .i64 0, .int .i64 0, .int .i64 0, .int .i64 0, .int .i64 0, .int .i64 0, .int .i64 0, .int .i64 0, .int .i64 0, .int .i64 0] 24)
  have K1 : Keep (fun _ => False) w ((w.alloc (.cells #[.int .i64 c.b, .int .i64 c.p, .int .i64 c.c, .int .i64 c.s, .int .i64 c.m, .int .i64 c.w, .bool c.f] 29)).alloc (.cells #[.int .i64 0, .int .i64 0, .int .i64 0, .int .i64 0, .int .i64 0, .int .i64 0, .int .i64 0, .int .i64 0, .int .i64 0, .int .i64 0, .int .i64 0] 24)) := ((Keep.refl _ _).alloc _).alloc _
  clear B1
  go_enter Try.func9, Try.ntmps9
  go_upto_region 1 with fail
  generalize (w.alloc (.cells #[.int .i64 c.b, .int .i64 c.p, .int .i64 c.c, .int .i64 c.s, .int .i64 c.m, .int .i64 c.w, .bool c.f] 29)).alloc (.cells #[.int .i64 0, .int .i64 0, .int .i64 0, .int .i64 0, .int .i64 0, .int .i64 0, .int .i64 0, .int .i64 0, .int .i64 0, .int .i64 0, .int .i64 0] 24) = v1 at B2 K1 R1 ⊢
  have hlo : w.heap.size ≤ w.heap.size + 1 := by omega
  generalize hq : w.heap.size + 1 = q at R1 hlo ⊢
  have hlo : Hid (w.heap.size ≤ q) := hlo
  generalize hg : w.heap.size = g at B2 ⊢
  clear hg hq
  clear hs
  have cc0 : v1.cell? ⟨g, 0, none⟩ = some (.int .i64 c.b) := (B2 0 (by omega)).1
  have cc1 : v1.cell? ⟨g, 1, none⟩ = some (.int .i64 c.p) := (B2 1 (by omega)).1
  have cc2 : v1.cell? ⟨g, 2, none⟩ = some (.int .i64 c.c) := (B2 2 (by omega)).1
  have cc3 : v1.cell? ⟨g, 3, none⟩ = some (.int .i64 c.s) := (B2 3 (by omega)).1
  have cc4 : v1.cell? ⟨g, 4, none⟩ = some (.int .i64 c.m) := (B2 4 (by omega)).1
  have cc5 : v1.cell? ⟨g, 5, none⟩ = some (.int .i64 c.w) := (B2 5 (by omega)).1
  have cc6 : v1.cell? ⟨g, 6, none⟩ = some (.bool c.f) := (B2 6 (by omega)).1
  go_wp2_with fail
  refine (hin _).mono ?_
  rintro e v2 ⟨rfl, k2⟩
  have R2 := R1.keep k2 (fun e => e)
  have HK := K1.trans k2
  clear hin R1 B2 K1
  clear cc0 cc1 cc2 cc3 cc4 cc5 cc6
  have cr0 : v2.cell? ⟨q, 0, none⟩ = some (.int .i64 0) := (R2 0 (by omega)).1
  have cf0 : v2.frozen? ⟨q, 0, none⟩ = false := (R2 0 (by omega)).2
  have cr1 : v2.cell? ⟨q, 1, none⟩ = some (.int .i64 0) := (R2 1 (by omega)).1
  have cf1 : v2.frozen? ⟨q, 1, none⟩ = false := (R2 1 (by omega)).2
  have cr2 : v2.cell? ⟨q, 2, none⟩ = some (.int .i64 0) := (R2 2 (by omega)).1
  have cf2 : v2.frozen? ⟨q, 2, none⟩ = false := (R2 2 (by omega)).2
  have cr3 : v2.cell? ⟨q, 3, none⟩ = some (.int .i64 0) := (R2 3 (by omega)).1
  have cf3 : v2.frozen? ⟨q, 3, none⟩ = false := (R2 3 (by omega)).2
  have cr4 : v2.cell? ⟨q, 4, none⟩ = some (.int .i64 0) := (R2 4 (by omega)).1
  have cf4 : v2.frozen? ⟨q, 4, none⟩ = false := (R2 4 (by omega)).2
  have cr5 : v2.cell? ⟨q, 5, none⟩ = some (.int .i64 0) := (R2 5 (by omega)).1
  have cf5 : v2.frozen? ⟨q, 5, none⟩ = false := (R2 5 (by omega)).2
  have cr6 : v2.cell? ⟨q, 6, none⟩ = some (.int .i64 0) := (R2 6 (by omega)).1
  have cf6 : v2.frozen? ⟨q, 6, none⟩ = false := (R2 6 (by omega)).2
  have cr7 : v2.cell? ⟨q, 7, none⟩ = some (.int .i64 0) := (R2 7 (by omega)).1
  have cf7 : v2.frozen? ⟨q, 7, none⟩ = false := (R2 7 (by omega)).2
  have cr8 : v2.cell? ⟨q, 8, none⟩ = some (.int .i64 0) := (R2 8 (by omega)).1
  have cf8 : v2.frozen? ⟨q, 8, none⟩ = false := (R2 8 (by omega)).2
  have cr9 : v2.cell? ⟨q, 9, none⟩ = some (.int .i64 0) := (R2 9 (by omega)).1
  have cf9 : v2.frozen? ⟨q, 9, none⟩ = false := (R2 9 (by omega)).2
  have cr10 : v2.cell? ⟨q, 10, none⟩ = some (.int .i64 0) := (R2 10 (by omega)).1
  have cf10 : v2.frozen? ⟨q, 10, none⟩ = false := (R2 10 (by omega)).2
  go_wp2_with fail
  have hlo : w.heap.size ≤ q := hlo
  have HZ : Keep (fun _ => False) w (((((((((((v2.setCell ⟨q, 0, none⟩ (.int .i64 (0))).setCell ⟨q, 1, none⟩ (.int .i64 (0))).setCell ⟨q, 2, none⟩ (.int .i64 (0))).setCell ⟨q, 3, none⟩ (.int .i64 (0))).setCell ⟨q, 4, none⟩ (.int .i64 (0))).setCell ⟨q, 5, none⟩ (.int .i64 (0))).setCell ⟨q, 6, none⟩ (.int .i64 (0))).setCell ⟨q, 7, none⟩ (.int .i64 (0))).setCell ⟨q, 8, none⟩ (.int .i64 (0))).setCell ⟨q, 9, none⟩ (.int .i64 (0))).setCell ⟨q, 10, none⟩ (.int .i64 (0))) := (((((((((((HK.setCell (p := ⟨q, 0, none⟩) (Or.inr hlo) (.int .i64 (0))).setCell (p := ⟨q, 1, none⟩) (Or.inr hlo) (.int .i64 (0))).setCell (p := ⟨q, 2, none⟩) (Or.inr hlo) (.int .i64 (0))).setCell (p := ⟨q, 3, none⟩) (Or.inr hlo) (.int .i64 (0))).setCell (p := ⟨q, 4, none⟩) (Or.inr hlo) (.int .i64 (0))).setCell (p := ⟨q, 5, none⟩) (Or.inr hlo) (.int .i64 (0))).setCell (p := ⟨q, 6, none⟩) (Or.inr hlo) (.int .i64 (0))).setCell (p := ⟨q, 7, none⟩) (Or.inr hlo) (.int .i64 (0))).setCell (p := ⟨q, 8, none⟩) (Or.inr hlo) (.int .i64 (0))).setCell (p := ⟨q, 9, none⟩) (Or.inr hlo) (.int .i64 (0))).setCell (p := ⟨q, 10, none⟩) (Or.inr hlo) (.int .i64 (0)))
  have RZ : Blk (((((((((((v2.setCell ⟨q, 0, none⟩ (.int .i64 (0))).setCell ⟨q, 1, none⟩ (.int .i64 (0))).setCell ⟨q, 2, none⟩ (.int .i64 (0))).setCell ⟨q, 3, none⟩ (.int .i64 (0))).setCell ⟨q, 4, none⟩ (.int .i64 (0))).setCell ⟨q, 5, none⟩ (.int .i64 (0))).setCell ⟨q, 6, none⟩ (.int .i64 (0))).setCell ⟨q, 7, none⟩ (.int .i64 (0))).setCell ⟨q, 8, none⟩ (.int .i64 (0))).setCell ⟨q, 9, none⟩ (.int .i64 (0))).setCell ⟨q, 10, none⟩ (.int .i64 (0))) q 11 (scell [0, 0, 0, 0, 0, 0, 0, 0, 0, 0, 0]) := Blk.congr (((((((((((R2.set 0 (.int .i64 (0))).set 1 (.int .i64 (0))).set 2 (.int .i64 (0))).set 3 (.int .i64 (0))).set 4 (.int .i64 (0))).set 5 (.int .i64 (0))).set 6 (.int .i64 (0))).set 7 (.int .i64 (0))).set 8 (.int .i64 (0))).set 9 (.int .i64 (0))).set 10 (.int .i64 (0))) (fun i hi => by
    have : i = 0 ∨ i = 1 ∨ i = 2 ∨ i = 3 ∨ i = 4 ∨ i = 5 ∨ i = 6 ∨ i = 7 ∨ i = 8 ∨ i = 9 ∨ i = 10 := by omega
    rcases this with rfl | rfl | rfl | rfl | rfl | rfl | rfl | rfl | rfl | rfl | rfl <;> rfl)
  generalize (((((((((((v2.setCell ⟨q, 0, none⟩ (.int .i64 (0))).setCell ⟨q, 1, none⟩ (.int .i64 (0))).setCell ⟨q, 2, none⟩ (.int .i64 (0))).setCell ⟨q, 3, none⟩ (.int .i64 (0))).setCell ⟨q, 4, none⟩ (.int .i64 (0))).setCell ⟨q, 5, none⟩ (.int .i64 (0))).setCell ⟨q, 6, none⟩ (.int .i64 (0))).setCell ⟨q, 7, none⟩ (.int .i64 (0))).setCell ⟨q, 8, none⟩ (.int .i64 (0))).setCell ⟨q, 9, none⟩ (.int .i64 (0))).setCell ⟨q, 10, none⟩ (.int .i64 (0))) = wz at HZ RZ ⊢
  clear cr0 cf0 cr1 cf1 cr2 cf2 cr3 cf3 cr4 cf4 cr5 cf5 cr6 cf6 cr7 cf7 cr8 cf8 cr9 cf9 cr10 cf10
  refine bodyPost_ret (v := .tuple #[.agg #[.int .i64 0, .int .i64 0, .int .i64 0, .int .i64 0, .int .i64 0, .int .i64 0, .int .i64 0, .int .i64 0, .int .i64 0, .int .i64 0, .int .i64 0], .int .i64 1]) ?_ rfl ⟨rfl, HZ⟩
  rw [results_cell_tmp rfl]
  simp [asAddr, Result.andThen, load_sp RZ]
set_option maxRecDepth 100000 in
set_option maxHeartbeats 2000000 in
theorem of_yes (w : World) {c : Cf} (hS : Span c) : Calls Try.prog 9 #[.agg #[.int .i64 c.b, .int .i64 c.p, .int .i64 c.c, .int .i64 c.s, .int .i64 c.m, .int .i64 c.w, .bool c.f]] w fun e w' => e = .returned (.tuple #[.agg #[.int .i64 (rbI c), .int .i64 (spI c), .int .i64 (omI c), .int .i64 (obI c), .int .i64 (rpI c), .int .i64 (lpI c), .int .i64 (ebI c), .int .i64 (mbI c), .int .i64 (wnI c), .int .i64 (slI c), .int .i64 (mrI c)], .int .i64 0]) ∧ Keep (fun _ => False) w w' := by
  have hs := span_iff.2 hS
  have hsz := fun w => sizes_any w hS
  clear hS
  have hin := fun w => inSpans_any w c
  rw [hs] at hin
  have B1 : Blk (w.alloc (.cells #[.int .i64 c.b, .int .i64 c.p, .int .i64 c.c, .int .i64 c.s, .int .i64 c.m, .int .i64 c.w, .bool c.f] 29)) w.heap.size 7 (ccell c) := blk_cf w c
  have R1 : Blk ((w.alloc (.cells #[.int .i64 c.b, .int .i64 c.p, .int .i64 c.c, .int .i64 c.s, .int .i64 c.m, .int .i64 c.w, .bool c.f] 29)).alloc (.cells #[.int .i64 0, .int .i64 0, .int .i64 0, .int .i64 0, .int .i64 0, .int .i64 0, .int .i64 0, .int .i64 0, .int .i64 0, .int .i64 0, .int .i64 0] 24)) (w.heap.size + 1) 11 (fun _ => .int .i64 0) := by
    have := blk_alloc (w.alloc (.cells #[.int .i64 c.b, .int .i64 c.p, .int .i64 c.c, .int .i64 c.s, .int .i64 c.m, .int .i64 c.w, .bool c.f] 29)) #[.int .i64 0, .int .i64 0, .int .i64 0, .int .i64 0, .int .i64 0, .int .i64 0, .int .i64 0, .int .i64 0, .int .i64 0, .int .i64 0, .int .i64 0] 24 11 (fun _ => .int .i64 0) (fun i hi => by
      have : i = 0 ∨ i = 1 ∨ i = 2 ∨ i = 3 ∨ i = 4 ∨ i = 5 ∨ i = 6 ∨ i = 7 ∨ i = 8 ∨ i = 9 ∨ i = 10 := by omega
      rcases this with rfl | rfl | rfl | rfl | rfl | rfl | rfl | rfl | rfl | rfl | rfl <;> rfl)
    rwa [World.size_alloc] at this
  have B2 := B1.alloc (.cells #[.int .i64 0, .int .i64 0, .int .i64 0, .int .i64 0, .int .i64 0, .int .i64 0, .int .i64 0, .int .i64 0, .int .i64 0, .int .i64 0, .int .i64 0] 24)
  have K1 : Keep (fun _ => False) w ((w.alloc (.cells #[.int .i64 c.b, .int .i64 c.p, .int .i64 c.c, .int .i64 c.s, .int .i64 c.m, .int .i64 c.w, .bool c.f] 29)).alloc (.cells #[.int .i64 0, .int .i64 0, .int .i64 0, .int .i64 0, .int .i64 0, .int .i64 0, .int .i64 0, .int .i64 0, .int .i64 0, .int .i64 0, .int .i64 0] 24)) := ((Keep.refl _ _).alloc _).alloc _
  clear B1
  go_enter Try.func9, Try.ntmps9
  go_upto_region 1 with fail
  generalize (w.alloc (.cells #[.int .i64 c.b, .int .i64 c.p, .int .i64 c.c, .int .i64 c.s, .int .i64 c.m, .int .i64 c.w, .bool c.f] 29)).alloc (.cells #[.int .i64 0, .int .i64 0, .int .i64 0, .int .i64 0, .int .i64 0, .int .i64 0, .int .i64 0, .int .i64 0, .int .i64 0, .int .i64 0, .int .i64 0] 24) = v1 at B2 K1 R1 ⊢
  have hlo : w.heap.size ≤ w.heap.size + 1 := by omega
  generalize hq : w.heap.size + 1 = q at R1 hlo ⊢
  have hlo : Hid (w.heap.size ≤ q) := hlo
  generalize hg : w.heap.size = g at B2 ⊢
  clear hg hq
  clear hs
  have cc0 : v1.cell? ⟨g, 0, none⟩ = some (.int .i64 c.b) := (B2 0 (by omega)).1
  have cc1 : v1.cell? ⟨g, 1, none⟩ = some (.int .i64 c.p) := (B2 1 (by omega)).1
  have cc2 : v1.cell? ⟨g, 2, none⟩ = some (.int .i64 c.c) := (B2 2 (by omega)).1
  have cc3 : v1.cell? ⟨g, 3, none⟩ = some (.int .i64 c.s) := (B2 3 (by omega)).1
  have cc4 : v1.cell? ⟨g, 4, none⟩ = some (.int .i64 c.m) := (B2 4 (by omega)).1
  have cc5 : v1.cell? ⟨g, 5, none⟩ = some (.int .i64 c.w) := (B2 5 (by omega)).1
  have cc6 : v1.cell? ⟨g, 6, none⟩ = some (.bool c.f) := (B2 6 (by omega)).1
  go_wp2_with fail
  refine (hin _).mono ?_
  rintro e v2 ⟨rfl, k2⟩
  have R2 := R1.keep k2 (fun e => e)
  have B3 := B2.keep k2 (fun e => e)
  clear hin R1 B2
  clear cc0 cc1 cc2 cc3 cc4 cc5 cc6
  have cc0 : v2.cell? ⟨g, 0, none⟩ = some (.int .i64 c.b) := (B3 0 (by omega)).1
  have cc1 : v2.cell? ⟨g, 1, none⟩ = some (.int .i64 c.p) := (B3 1 (by omega)).1
  have cc2 : v2.cell? ⟨g, 2, none⟩ = some (.int .i64 c.c) := (B3 2 (by omega)).1
  have cc3 : v2.cell? ⟨g, 3, none⟩ = some (.int .i64 c.s) := (B3 3 (by omega)).1
  have cc4 : v2.cell? ⟨g, 4, none⟩ = some (.int .i64 c.m) := (B3 4 (by omega)).1
  have cc5 : v2.cell? ⟨g, 5, none⟩ = some (.int .i64 c.w) := (B3 5 (by omega)).1
  have cc6 : v2.cell? ⟨g, 6, none⟩ = some (.bool c.f) := (B3 6 (by omega)).1
  go_wp2_with fail
  refine (hsz _).mono ?_
  rintro e v3 ⟨rfl, k3⟩
  have R3 := R2.keep k3 (fun e => e)
  have HK := (K1.trans k2).trans k3
  clear hsz R2 B3 K1
  clear cc0 cc1 cc2 cc3 cc4 cc5 cc6
  have cr0 : v3.cell? ⟨q, 0, none⟩ = some (.int .i64 0) := (R3 0 (by omega)).1
  have cf0 : v3.frozen? ⟨q, 0, none⟩ = false := (R3 0 (by omega)).2
  have cr1 : v3.cell? ⟨q, 1, none⟩ = some (.int .i64 0) := (R3 1 (by omega)).1
  have cf1 : v3.frozen? ⟨q, 1, none⟩ = false := (R3 1 (by omega)).2
  have cr2 : v3.cell? ⟨q, 2, none⟩ = some (.int .i64 0) := (R3 2 (by omega)).1
  have cf2 : v3.frozen? ⟨q, 2, none⟩ = false := (R3 2 (by omega)).2
  have cr3 : v3.cell? ⟨q, 3, none⟩ = some (.int .i64 0) := (R3 3 (by omega)).1
  have cf3 : v3.frozen? ⟨q, 3, none⟩ = false := (R3 3 (by omega)).2
  have cr4 : v3.cell? ⟨q, 4, none⟩ = some (.int .i64 0) := (R3 4 (by omega)).1
  have cf4 : v3.frozen? ⟨q, 4, none⟩ = false := (R3 4 (by omega)).2
  have cr5 : v3.cell? ⟨q, 5, none⟩ = some (.int .i64 0) := (R3 5 (by omega)).1
  have cf5 : v3.frozen? ⟨q, 5, none⟩ = false := (R3 5 (by omega)).2
  have cr6 : v3.cell? ⟨q, 6, none⟩ = some (.int .i64 0) := (R3 6 (by omega)).1
  have cf6 : v3.frozen? ⟨q, 6, none⟩ = false := (R3 6 (by omega)).2
  have cr7 : v3.cell? ⟨q, 7, none⟩ = some (.int .i64 0) := (R3 7 (by omega)).1
  have cf7 : v3.frozen? ⟨q, 7, none⟩ = false := (R3 7 (by omega)).2
  have cr8 : v3.cell? ⟨q, 8, none⟩ = some (.int .i64 0) := (R3 8 (by omega)).1
  have cf8 : v3.frozen? ⟨q, 8, none⟩ = false := (R3 8 (by omega)).2
  have cr9 : v3.cell? ⟨q, 9, none⟩ = some (.int .i64 0) := (R3 9 (by omega)).1
  have cf9 : v3.frozen? ⟨q, 9, none⟩ = false := (R3 9 (by omega)).2
  have cr10 : v3.cell? ⟨q, 10, none⟩ = some (.int .i64 0) := (R3 10 (by omega)).1
  have cf10 : v3.frozen? ⟨q, 10, none⟩ = false := (R3 10 (by omega)).2
  go_wp2_with fail
  have hlo : w.heap.size ≤ q := hlo
  have HZ : Keep (fun _ => False) w (((((((((((v3.setCell ⟨q, 0, none⟩ (.int .i64 (rbI c))).setCell ⟨q, 1, none⟩ (.int .i64 (spI c))).setCell ⟨q, 2, none⟩ (.int .i64 (omI c))).setCell ⟨q, 3, none⟩ (.int .i64 (obI c))).setCell ⟨q, 4, none⟩ (.int .i64 (rpI c))).setCell ⟨q, 5, none⟩ (.int .i64 (lpI c))).setCell ⟨q, 6, none⟩ (.int .i64 (ebI c))).setCell ⟨q, 7, none⟩ (.int .i64 (mbI c))).setCell ⟨q, 8, none⟩ (.int .i64 (wnI c))).setCell ⟨q, 9, none⟩ (.int .i64 (slI c))).setCell ⟨q, 10, none⟩ (.int .i64 (mrI c))) := (((((((((((HK.setCell (p := ⟨q, 0, none⟩) (Or.inr hlo) (.int .i64 (rbI c))).setCell (p := ⟨q, 1, none⟩) (Or.inr hlo) (.int .i64 (spI c))).setCell (p := ⟨q, 2, none⟩) (Or.inr hlo) (.int .i64 (omI c))).setCell (p := ⟨q, 3, none⟩) (Or.inr hlo) (.int .i64 (obI c))).setCell (p := ⟨q, 4, none⟩) (Or.inr hlo) (.int .i64 (rpI c))).setCell (p := ⟨q, 5, none⟩) (Or.inr hlo) (.int .i64 (lpI c))).setCell (p := ⟨q, 6, none⟩) (Or.inr hlo) (.int .i64 (ebI c))).setCell (p := ⟨q, 7, none⟩) (Or.inr hlo) (.int .i64 (mbI c))).setCell (p := ⟨q, 8, none⟩) (Or.inr hlo) (.int .i64 (wnI c))).setCell (p := ⟨q, 9, none⟩) (Or.inr hlo) (.int .i64 (slI c))).setCell (p := ⟨q, 10, none⟩) (Or.inr hlo) (.int .i64 (mrI c)))
  have RZ : Blk (((((((((((v3.setCell ⟨q, 0, none⟩ (.int .i64 (rbI c))).setCell ⟨q, 1, none⟩ (.int .i64 (spI c))).setCell ⟨q, 2, none⟩ (.int .i64 (omI c))).setCell ⟨q, 3, none⟩ (.int .i64 (obI c))).setCell ⟨q, 4, none⟩ (.int .i64 (rpI c))).setCell ⟨q, 5, none⟩ (.int .i64 (lpI c))).setCell ⟨q, 6, none⟩ (.int .i64 (ebI c))).setCell ⟨q, 7, none⟩ (.int .i64 (mbI c))).setCell ⟨q, 8, none⟩ (.int .i64 (wnI c))).setCell ⟨q, 9, none⟩ (.int .i64 (slI c))).setCell ⟨q, 10, none⟩ (.int .i64 (mrI c))) q 11 (scell [rbI c, spI c, omI c, obI c, rpI c, lpI c, ebI c, mbI c, wnI c, slI c, mrI c]) := Blk.congr (((((((((((R3.set 0 (.int .i64 (rbI c))).set 1 (.int .i64 (spI c))).set 2 (.int .i64 (omI c))).set 3 (.int .i64 (obI c))).set 4 (.int .i64 (rpI c))).set 5 (.int .i64 (lpI c))).set 6 (.int .i64 (ebI c))).set 7 (.int .i64 (mbI c))).set 8 (.int .i64 (wnI c))).set 9 (.int .i64 (slI c))).set 10 (.int .i64 (mrI c))) (fun i hi => by
    have : i = 0 ∨ i = 1 ∨ i = 2 ∨ i = 3 ∨ i = 4 ∨ i = 5 ∨ i = 6 ∨ i = 7 ∨ i = 8 ∨ i = 9 ∨ i = 10 := by omega
    rcases this with rfl | rfl | rfl | rfl | rfl | rfl | rfl | rfl | rfl | rfl | rfl <;> rfl)
  generalize (((((((((((v3.setCell ⟨q, 0, none⟩ (.int .i64 (rbI c))).setCell ⟨q, 1, none⟩ (.int .i64 (spI c))).setCell ⟨q, 2, none⟩ (.int .i64 (omI c))).setCell ⟨q, 3, none⟩ (.int .i64 (obI c))).setCell ⟨q, 4, none⟩ (.int .i64 (rpI c))).setCell ⟨q, 5, none⟩ (.int .i64 (lpI c))).setCell ⟨q, 6, none⟩ (.int .i64 (ebI c))).setCell ⟨q, 7, none⟩ (.int .i64 (mbI c))).setCell ⟨q, 8, none⟩ (.int .i64 (wnI c))).setCell ⟨q, 9, none⟩ (.int .i64 (slI c))).setCell ⟨q, 10, none⟩ (.int .i64 (mrI c))) = wz at HZ RZ ⊢
  clear cr0 cf0 cr1 cf1 cr2 cf2 cr3 cf3 cr4 cf4 cr5 cf5 cr6 cf6 cr7 cf7 cr8 cf8 cr9 cf9 cr10 cf10
  refine bodyPost_ret (v := .tuple #[.agg #[.int .i64 (rbI c), .int .i64 (spI c), .int .i64 (omI c), .int .i64 (obI c), .int .i64 (rpI c), .int .i64 (lpI c), .int .i64 (ebI c), .int .i64 (mbI c), .int .i64 (wnI c), .int .i64 (slI c), .int .i64 (mrI c)], .int .i64 0]) ?_ rfl ⟨rfl, HZ⟩
  rw [results_cell_tmp rfl]
  simp [asAddr, Result.andThen, load_sp RZ]
theorem of_ok : OfOk := ⟨fun w _ h => of_yes w h, fun w _ _ h => of_no w h⟩
set_option maxRecDepth 100000 in
set_option maxHeartbeats 2000000 in
theorem good_any (w : World) (c : Cf) : Calls Try.prog 12 #[.agg #[.int .i64 c.b, .int .i64 c.p, .int .i64 c.c, .int .i64 c.s, .int .i64 c.m, .int .i64 c.w, .bool c.f]] w fun e w' => e = .returned (.bool (goodB c)) ∧ Keep (fun _ => False) w w' := by
  have B1 : Blk (w.alloc (.cells #[.int .i64 c.b, .int .i64 c.p, .int .i64 c.c, .int .i64 c.s, .int .i64 c.m, .int .i64 c.w, .bool c.f] 29)) w.heap.size 7 (ccell c) := blk_cf w c
  have K1 : Keep (fun _ => False) w (w.alloc (.cells #[.int .i64 c.b, .int .i64 c.p, .int .i64 c.c, .int .i64 c.s, .int .i64 c.m, .int .i64 c.w, .bool c.f] 29)) := (Keep.refl _ _).alloc _
  have hsp := fun w => inSpans_any w c
  cases hs : spanB c with
  | false =>
    have hF : Hid (goodB c = false) := by show goodB c = false; unfold goodB; rw [hs]; rfl
    rw [hs] at hsp
    go_enter Try.func12, Try.ntmps12
    go_upto_region 1 with fail
    generalize w.alloc (.cells #[.int .i64 c.b, .int .i64 c.p, .int .i64 c.c, .int .i64 c.s, .int .i64 c.m, .int .i64 c.w, .bool c.f] 29) = v1 at B1 K1 ⊢
    generalize w.heap.size = g at B1 ⊢
    have cc0 : v1.cell? ⟨g, 0, none⟩ = some (.int .i64 c.b) := (B1 0 (by omega)).1
    have cc1 : v1.cell? ⟨g, 1, none⟩ = some (.int .i64 c.p) := (B1 1 (by omega)).1
    have cc2 : v1.cell? ⟨g, 2, none⟩ = some (.int .i64 c.c) := (B1 2 (by omega)).1
    have cc3 : v1.cell? ⟨g, 3, none⟩ = some (.int .i64 c.s) := (B1 3 (by omega)).1
    have cc4 : v1.cell? ⟨g, 4, none⟩ = some (.int .i64 c.m) := (B1 4 (by omega)).1
    have cc5 : v1.cell? ⟨g, 5, none⟩ = some (.int .i64 c.w) := (B1 5 (by omega)).1
    have cc6 : v1.cell? ⟨g, 6, none⟩ = some (.bool c.f) := (B1 6 (by omega)).1
    clear B1
    go_wp2_with fail
    refine (hsp _).mono ?_
    rintro e v2 ⟨rfl, k2⟩
    clear hsp
    go_wp2_with fail
    go_ret
    exact ⟨by rw [show goodB c = false from hF]; rfl, K1.trans k2⟩
  | true =>
    have hS := span_iff.1 hs
    have hof := fun w => sizes_any w hS
    have hbp := bp_bd hS
    have hwn := wn_bd hS
    have hsl := sl_bd hS
    have hmb := mb_bd hS
    have hmm := mm_bd hS
    have hg : goodB c = (decide (4 * wnI c + slI c ≤ c.m) && decide (3 * c.c ≤ (c.b - c.s - mbI c - 8) * c.p) && decide (mrI c < c.b * c.p)) := by unfold goodB; rw [hs, Bool.true_and]
    obtain ⟨b1, b2, p1, p2, s1, s2, c1, c2, w1, w2, w3, m1, m2⟩ := hS
    have q1 := wrapI (x := 4 * wnI c) (by omega) (by omega)
    have q2 := wrapI (x := 4 * wnI c + slI c) (by omega) (by omega)
    have q3 := wrapI (x := 3 * c.c) (by omega) (by omega)
    have q4 := wrapI (x := c.b - c.s) (by omega) (by omega)
    have q5 := wrapI (x := c.b - c.s - mbI c) (by omega) (by omega)
    have q6 := wrapI (x := c.b - c.s - mbI c - 8) (by omega) (by omega)
    have q7 := wrapI (x := (c.b - c.s - mbI c - 8) * c.p) (by omega) (by omega)
    have q8 := wrapI (x := c.b * c.p) (by omega) (by omega)
    obtain ⟨MM, hMM⟩ : ∃ x, x = (c.b - c.s - mbI c - 8) * c.p := ⟨_, rfl⟩
    obtain ⟨BP, hBP⟩ : ∃ x, x = c.b * c.p := ⟨_, rfl⟩
    rw [← hMM, ← hBP] at hg
    replace q7 : IntKind.i64.wrap ((c.b - c.s - mbI c - 8) * c.p) = MM := by rw [hMM]; exact q7
    replace q8 : IntKind.i64.wrap (c.b * c.p) = BP := by rw [hBP]; exact q8
    rw [hs] at hsp
    clear hMM hBP hmm hmb hsl hwn hbp b1 b2 p1 p2 s1 s2 c1 c2 w1 w2 w3 m1 m2 hs
    by_cases a1 : 4 * wnI c + slI c ≤ c.m
    · by_cases a2 : 3 * c.c ≤ MM
      · have hF : Hid (goodB c = decide (mrI c < BP)) := by show goodB c = _; rw [hg, decide_eq_true a1, decide_eq_true a2]; rfl
        clear hg
        go_enter Try.func12, Try.ntmps12
        go_upto_region 1 with fail
        generalize w.alloc (.cells #[.int .i64 c.b, .int .i64 c.p, .int .i64 c.c, .int .i64 c.s, .int .i64 c.m, .int .i64 c.w, .bool c.f] 29) = v1 at B1 K1 ⊢
        generalize w.heap.size = g at B1 ⊢
        have cc0 : v1.cell? ⟨g, 0, none⟩ = some (.int .i64 c.b) := (B1 0 (by omega)).1
        have cc1 : v1.cell? ⟨g, 1, none⟩ = some (.int .i64 c.p) := (B1 1 (by omega)).1
        have cc2 : v1.cell? ⟨g, 2, none⟩ = some (.int .i64 c.c) := (B1 2 (by omega)).1
        have cc3 : v1.cell? ⟨g, 3, none⟩ = some (.int .i64 c.s) := (B1 3 (by omega)).1
        have cc4 : v1.cell? ⟨g, 4, none⟩ = some (.int .i64 c.m) := (B1 4 (by omega)).1
        have cc5 : v1.cell? ⟨g, 5, none⟩ = some (.int .i64 c.w) := (B1 5 (by omega)).1
        have cc6 : v1.cell? ⟨g, 6, none⟩ = some (.bool c.f) := (B1 6 (by omega)).1
        go_wp2_with fail
        refine (hsp _).mono ?_
        rintro e v2 ⟨rfl, k2⟩
        have B2 := B1.keep k2 (fun e => e)
        clear hsp cc0 cc1 cc2 cc3 cc4 cc5 cc6 B1
        have cc0 : v2.cell? ⟨g, 0, none⟩ = some (.int .i64 c.b) := (B2 0 (by omega)).1
        have cc1 : v2.cell? ⟨g, 1, none⟩ = some (.int .i64 c.p) := (B2 1 (by omega)).1
        have cc2 : v2.cell? ⟨g, 2, none⟩ = some (.int .i64 c.c) := (B2 2 (by omega)).1
        have cc3 : v2.cell? ⟨g, 3, none⟩ = some (.int .i64 c.s) := (B2 3 (by omega)).1
        have cc4 : v2.cell? ⟨g, 4, none⟩ = some (.int .i64 c.m) := (B2 4 (by omega)).1
        have cc5 : v2.cell? ⟨g, 5, none⟩ = some (.int .i64 c.w) := (B2 5 (by omega)).1
        have cc6 : v2.cell? ⟨g, 6, none⟩ = some (.bool c.f) := (B2 6 (by omega)).1
        go_wp2_with fail
        refine (hof _).mono ?_
        rintro e v3 ⟨rfl, k3⟩
        have B3 := (B2.keep k3 (fun e => e)).alloc (.cells #[.int .i64 (rbI c), .int .i64 (spI c), .int .i64 (omI c), .int .i64 (obI c), .int .i64 (rpI c), .int .i64 (lpI c), .int .i64 (ebI c), .int .i64 (mbI c), .int .i64 (wnI c), .int .i64 (slI c), .int .i64 (mrI c)] 24)
        have K3 := ((K1.trans k2).trans k3).alloc (.cells #[.int .i64 (rbI c), .int .i64 (spI c), .int .i64 (omI c), .int .i64 (obI c), .int .i64 (rpI c), .int .i64 (lpI c), .int .i64 (ebI c), .int .i64 (mbI c), .int .i64 (wnI c), .int .i64 (slI c), .int .i64 (mrI c)] 24)
        clear hof cc0 cc1 cc2 cc3 cc4 cc5 cc6 B2
        have cc0 : (v3.alloc (.cells #[.int .i64 (rbI c), .int .i64 (spI c), .int .i64 (omI c), .int .i64 (obI c), .int .i64 (rpI c), .int .i64 (lpI c), .int .i64 (ebI c), .int .i64 (mbI c), .int .i64 (wnI c), .int .i64 (slI c), .int .i64 (mrI c)] 24)).cell? ⟨g, 0, none⟩ = some (.int .i64 c.b) := (B3 0 (by omega)).1
        have cc1 : (v3.alloc (.cells #[.int .i64 (rbI c), .int .i64 (spI c), .int .i64 (omI c), .int .i64 (obI c), .int .i64 (rpI c), .int .i64 (lpI c), .int .i64 (ebI c), .int .i64 (mbI c), .int .i64 (wnI c), .int .i64 (slI c), .int .i64 (mrI c)] 24)).cell? ⟨g, 1, none⟩ = some (.int .i64 c.p) := (B3 1 (by omega)).1
        have cc2 : (v3.alloc (.cells #[.int .i64 (rbI c), .int .i64 (spI c), .int .i64 (omI c), .int .i64 (obI c), .int .i64 (rpI c), .int .i64 (lpI c), .int .i64 (ebI c), .int .i64 (mbI c), .int .i64 (wnI c), .int .i64 (slI c), .int .i64 (mrI c)] 24)).cell? ⟨g, 2, none⟩ = some (.int .i64 c.c) := (B3 2 (by omega)).1
        have cc3 : (v3.alloc (.cells #[.int .i64 (rbI c), .int .i64 (spI c), .int .i64 (omI c), .int .i64 (obI c), .int .i64 (rpI c), .int .i64 (lpI c), .int .i64 (ebI c), .int .i64 (mbI c), .int .i64 (wnI c), .int .i64 (slI c), .int .i64 (mrI c)] 24)).cell? ⟨g, 3, none⟩ = some (.int .i64 c.s) := (B3 3 (by omega)).1
        have cc4 : (v3.alloc (.cells #[.int .i64 (rbI c), .int .i64 (spI c), .int .i64 (omI c), .int .i64 (obI c), .int .i64 (rpI c), .int .i64 (lpI c), .int .i64 (ebI c), .int .i64 (mbI c), .int .i64 (wnI c), .int .i64 (slI c), .int .i64 (mrI c)] 24)).cell? ⟨g, 4, none⟩ = some (.int .i64 c.m) := (B3 4 (by omega)).1
        have cc5 : (v3.alloc (.cells #[.int .i64 (rbI c), .int .i64 (spI c), .int .i64 (omI c), .int .i64 (obI c), .int .i64 (rpI c), .int .i64 (lpI c), .int .i64 (ebI c), .int .i64 (mbI c), .int .i64 (wnI c), .int .i64 (slI c), .int .i64 (mrI c)] 24)).cell? ⟨g, 5, none⟩ = some (.int .i64 c.w) := (B3 5 (by omega)).1
        go_wp2_with fail
        go_ret
        exact ⟨by rw [show goodB c = _ from hF]; rfl, K3⟩
      · have hF : Hid (goodB c = false) := by show goodB c = _; rw [hg, decide_eq_true a1, decide_eq_false a2]; rfl
        clear hg
        go_enter Try.func12, Try.ntmps12
        go_upto_region 1 with fail
        generalize w.alloc (.cells #[.int .i64 c.b, .int .i64 c.p, .int .i64 c.c, .int .i64 c.s, .int .i64 c.m, .int .i64 c.w, .bool c.f] 29) = v1 at B1 K1 ⊢
        generalize w.heap.size = g at B1 ⊢
        have cc0 : v1.cell? ⟨g, 0, none⟩ = some (.int .i64 c.b) := (B1 0 (by omega)).1
        have cc1 : v1.cell? ⟨g, 1, none⟩ = some (.int .i64 c.p) := (B1 1 (by omega)).1
        have cc2 : v1.cell? ⟨g, 2, none⟩ = some (.int .i64 c.c) := (B1 2 (by omega)).1
        have cc3 : v1.cell? ⟨g, 3, none⟩ = some (.int .i64 c.s) := (B1 3 (by omega)).1
        have cc4 : v1.cell? ⟨g, 4, none⟩ = some (.int .i64 c.m) := (B1 4 (by omega)).1
        have cc5 : v1.cell? ⟨g, 5, none⟩ = some (.int .i64 c.w) := (B1 5 (by omega)).1
        have cc6 : v1.cell? ⟨g, 6, none⟩ = some (.bool c.f) := (B1 6 (by omega)).1
        go_wp2_with fail
        refine (hsp _).mono ?_
        rintro e v2 ⟨rfl, k2⟩
        have B2 := B1.keep k2 (fun e => e)
        clear hsp cc0 cc1 cc2 cc3 cc4 cc5 cc6 B1
        have cc0 : v2.cell? ⟨g, 0, none⟩ = some (.int .i64 c.b) := (B2 0 (by omega)).1
        have cc1 : v2.cell? ⟨g, 1, none⟩ = some (.int .i64 c.p) := (B2 1 (by omega)).1
        have cc2 : v2.cell? ⟨g, 2, none⟩ = some (.int .i64 c.c) := (B2 2 (by omega)).1
        have cc3 : v2.cell? ⟨g, 3, none⟩ = some (.int .i64 c.s) := (B2 3 (by omega)).1
        have cc4 : v2.cell? ⟨g, 4, none⟩ = some (.int .i64 c.m) := (B2 4 (by omega)).1
        have cc5 : v2.cell? ⟨g, 5, none⟩ = some (.int .i64 c.w) := (B2 5 (by omega)).1
        have cc6 : v2.cell? ⟨g, 6, none⟩ = some (.bool c.f) := (B2 6 (by omega)).1
        go_wp2_with fail
        refine (hof _).mono ?_
        rintro e v3 ⟨rfl, k3⟩
        have B3 := (B2.keep k3 (fun e => e)).alloc (.cells #[.int .i64 (rbI c), .int .i64 (spI c), .int .i64 (omI c), .int .i64 (obI c), .int .i64 (rpI c), .int .i64 (lpI c), .int .i64 (ebI c), .int .i64 (mbI c), .int .i64 (wnI c), .int .i64 (slI c), .int .i64 (mrI c)] 24)
        have K3 := ((K1.trans k2).trans k3).alloc (.cells #[.int .i64 (rbI c), .int .i64 (spI c), .int .i64 (omI c), .int .i64 (obI c), .int .i64 (rpI c), .int .i64 (lpI c), .int .i64 (ebI c), .int .i64 (mbI c), .int .i64 (wnI c), .int .i64 (slI c), .int .i64 (mrI c)] 24)
        clear hof cc0 cc1 cc2 cc3 cc4 cc5 cc6 B2
        have cc0 : (v3.alloc (.cells #[.int .i64 (rbI c), .int .i64 (spI c), .int .i64 (omI c), .int .i64 (obI c), .int .i64 (rpI c), .int .i64 (lpI c), .int .i64 (ebI c), .int .i64 (mbI c), .int .i64 (wnI c), .int .i64 (slI c), .int .i64 (mrI c)] 24)).cell? ⟨g, 0, none⟩ = some (.int .i64 c.b) := (B3 0 (by omega)).1
        have cc1 : (v3.alloc (.cells #[.int .i64 (rbI c), .int .i64 (spI c), .int .i64 (omI c), .int .i64 (obI c), .int .i64 (rpI c), .int .i64 (lpI c), .int .i64 (ebI c), .int .i64 (mbI c), .int .i64 (wnI c), .int .i64 (slI c), .int .i64 (mrI c)] 24)).cell? ⟨g, 1, none⟩ = some (.int .i64 c.p) := (B3 1 (by omega)).1
        have cc2 : (v3.alloc (.cells #[.int .i64 (rbI c), .int .i64 (spI c), .int .i64 (omI c), .int .i64 (obI c), .int .i64 (rpI c), .int .i64 (lpI c), .int .i64 (ebI c), .int .i64 (mbI c), .int .i64 (wnI c), .int .i64 (slI c), .int .i64 (mrI c)] 24)).cell? ⟨g, 2, none⟩ = some (.int .i64 c.c) := (B3 2 (by omega)).1
        have cc3 : (v3.alloc (.cells #[.int .i64 (rbI c), .int .i64 (spI c), .int .i64 (omI c), .int .i64 (obI c), .int .i64 (rpI c), .int .i64 (lpI c), .int .i64 (ebI c), .int .i64 (mbI c), .int .i64 (wnI c), .int .i64 (slI c), .int .i64 (mrI c)] 24)).cell? ⟨g, 3, none⟩ = some (.int .i64 c.s) := (B3 3 (by omega)).1
        have cc4 : (v3.alloc (.cells #[.int .i64 (rbI c), .int .i64 (spI c), .int .i64 (omI c), .int .i64 (obI c), .int .i64 (rpI c), .int .i64 (lpI c), .int .i64 (ebI c), .int .i64 (mbI c), .int .i64 (wnI c), .int .i64 (slI c), .int .i64 (mrI c)] 24)).cell? ⟨g, 4, none⟩ = some (.int .i64 c.m) := (B3 4 (by omega)).1
        have cc5 : (v3.alloc (.cells #[.int .i64 (rbI c), .int .i64 (spI c), .int .i64 (omI c), .int .i64 (obI c), .int .i64 (rpI c), .int .i64 (lpI c), .int .i64 (ebI c), .int .i64 (mbI c), .int .i64 (wnI c), .int .i64 (slI c), .int .i64 (mrI c)] 24)).cell? ⟨g, 5, none⟩ = some (.int .i64 c.w) := (B3 5 (by omega)).1
        go_wp2_with fail
        go_ret
        exact ⟨by rw [show goodB c = _ from hF]; rfl, K3⟩
    · have hF : Hid (goodB c = false) := by show goodB c = _; rw [hg, decide_eq_false a1]; rfl
      clear hg
      go_enter Try.func12, Try.ntmps12
      go_upto_region 1 with fail
      generalize w.alloc (.cells #[.int .i64 c.b, .int .i64 c.p, .int .i64 c.c, .int .i64 c.s, .int .i64 c.m, .int .i64 c.w, .bool c.f] 29) = v1 at B1 K1 ⊢
      generalize w.heap.size = g at B1 ⊢
      have cc0 : v1.cell? ⟨g, 0, none⟩ = some (.int .i64 c.b) := (B1 0 (by omega)).1
      have cc1 : v1.cell? ⟨g, 1, none⟩ = some (.int .i64 c.p) := (B1 1 (by omega)).1
      have cc2 : v1.cell? ⟨g, 2, none⟩ = some (.int .i64 c.c) := (B1 2 (by omega)).1
      have cc3 : v1.cell? ⟨g, 3, none⟩ = some (.int .i64 c.s) := (B1 3 (by omega)).1
      have cc4 : v1.cell? ⟨g, 4, none⟩ = some (.int .i64 c.m) := (B1 4 (by omega)).1
      have cc5 : v1.cell? ⟨g, 5, none⟩ = some (.int .i64 c.w) := (B1 5 (by omega)).1
      have cc6 : v1.cell? ⟨g, 6, none⟩ = some (.bool c.f) := (B1 6 (by omega)).1
      go_wp2_with fail
      refine (hsp _).mono ?_
      rintro e v2 ⟨rfl, k2⟩
      have B2 := B1.keep k2 (fun e => e)
      clear hsp cc0 cc1 cc2 cc3 cc4 cc5 cc6 B1
      have cc0 : v2.cell? ⟨g, 0, none⟩ = some (.int .i64 c.b) := (B2 0 (by omega)).1
      have cc1 : v2.cell? ⟨g, 1, none⟩ = some (.int .i64 c.p) := (B2 1 (by omega)).1
      have cc2 : v2.cell? ⟨g, 2, none⟩ = some (.int .i64 c.c) := (B2 2 (by omega)).1
      have cc3 : v2.cell? ⟨g, 3, none⟩ = some (.int .i64 c.s) := (B2 3 (by omega)).1
      have cc4 : v2.cell? ⟨g, 4, none⟩ = some (.int .i64 c.m) := (B2 4 (by omega)).1
      have cc5 : v2.cell? ⟨g, 5, none⟩ = some (.int .i64 c.w) := (B2 5 (by omega)).1
      have cc6 : v2.cell? ⟨g, 6, none⟩ = some (.bool c.f) := (B2 6 (by omega)).1
      go_wp2_with fail
      refine (hof _).mono ?_
      rintro e v3 ⟨rfl, k3⟩
      have B3 := (B2.keep k3 (fun e => e)).alloc (.cells #[.int .i64 (rbI c), .int .i64 (spI c), .int .i64 (omI c), .int .i64 (obI c), .int .i64 (rpI c), .int .i64 (lpI c), .int .i64 (ebI c), .int .i64 (mbI c), .int .i64 (wnI c), .int .i64 (slI c), .int .i64 (mrI c)] 24)
      have K3 := ((K1.trans k2).trans k3).alloc (.cells #[.int .i64 (rbI c), .int .i64 (spI c), .int .i64 (omI c), .int .i64 (obI c), .int .i64 (rpI c), .int .i64 (lpI c), .int .i64 (ebI c), .int .i64 (mbI c), .int .i64 (wnI c), .int .i64 (slI c), .int .i64 (mrI c)] 24)
      clear hof cc0 cc1 cc2 cc3 cc4 cc5 cc6 B2
      have cc0 : (v3.alloc (.cells #[.int .i64 (rbI c), .int .i64 (spI c), .int .i64 (omI c), .int .i64 (obI c), .int .i64 (rpI c), .int .i64 (lpI c), .int .i64 (ebI c), .int .i64 (mbI c), .int .i64 (wnI c), .int .i64 (slI c), .int .i64 (mrI c)] 24)).cell? ⟨g, 0, none⟩ = some (.int .i64 c.b) := (B3 0 (by omega)).1
      have cc1 : (v3.alloc (.cells #[.int .i64 (rbI c), .int .i64 (spI c), .int .i64 (omI c), .int .i64 (obI c), .int .i64 (rpI c), .int .i64 (lpI c), .int .i64 (ebI c), .int .i64 (mbI c), .int .i64 (wnI c), .int .i64 (slI c), .int .i64 (mrI c)] 24)).cell? ⟨g, 1, none⟩ = some (.int .i64 c.p) := (B3 1 (by omega)).1
      have cc2 : (v3.alloc (.cells #[.int .i64 (rbI c), .int .i64 (spI c), .int .i64 (omI c), .int .i64 (obI c), .int .i64 (rpI c), .int .i64 (lpI c), .int .i64 (ebI c), .int .i64 (mbI c), .int .i64 (wnI c), .int .i64 (slI c), .int .i64 (mrI c)] 24)).cell? ⟨g, 2, none⟩ = some (.int .i64 c.c) := (B3 2 (by omega)).1
      have cc3 : (v3.alloc (.cells #[.int .i64 (rbI c), .int .i64 (spI c), .int .i64 (omI c), .int .i64 (obI c), .int .i64 (rpI c), .int .i64 (lpI c), .int .i64 (ebI c), .int .i64 (mbI c), .int .i64 (wnI c), .int .i64 (slI c), .int .i64 (mrI c)] 24)).cell? ⟨g, 3, none⟩ = some (.int .i64 c.s) := (B3 3 (by omega)).1
      have cc4 : (v3.alloc (.cells #[.int .i64 (rbI c), .int .i64 (spI c), .int .i64 (omI c), .int .i64 (obI c), .int .i64 (rpI c), .int .i64 (lpI c), .int .i64 (ebI c), .int .i64 (mbI c), .int .i64 (wnI c), .int .i64 (slI c), .int .i64 (mrI c)] 24)).cell? ⟨g, 4, none⟩ = some (.int .i64 c.m) := (B3 4 (by omega)).1
      have cc5 : (v3.alloc (.cells #[.int .i64 (rbI c), .int .i64 (spI c), .int .i64 (omI c), .int .i64 (obI c), .int .i64 (rpI c), .int .i64 (lpI c), .int .i64 (ebI c), .int .i64 (mbI c), .int .i64 (wnI c), .int .i64 (slI c), .int .i64 (mrI c)] 24)).cell? ⟨g, 5, none⟩ = some (.int .i64 c.w) := (B3 5 (by omega)).1
      go_wp2_with fail
      go_ret
      exact ⟨by rw [show goodB c = _ from hF]; rfl, K3⟩
theorem good_ok : GoodOk := fun w c _ => good_any w c
end Tg
end Go.Proofs.Ytoobjmhllfeffaa
