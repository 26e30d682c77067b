/-
  What the program's calls answer (as they should); the chapter's Config; SizeKnown.
-/
import Derived.Test.YtoobjmhllfeffaaZe
namespace Go.Proofs.Ytoobjmhllfeffaa
open Go.ChangeShapes Go.WideShapes Go.ChangeAt Go.RowKit
namespace Tg
def I64 (x : Int) : Prop := -9223372036854775808 ≤ x ∧ x ≤ 9223372036854775807
structure C64 (x : Cf) : Prop where
  b : I64 x.b
  p : I64 x.p
  c : I64 x.c
  s : I64 x.s
  m : I64 x.m
  w : I64 x.w
/-- The program's Of answers as it should. -/
structure OfOk : Prop where
  yes : ∀ (w : World) {c : Cf}, Span c → Calls Try.prog 9 #[.agg #[.int .i64 c.b, .int .i64 c.p, .int .i64 c.c, .int .i64 c.s, .int .i64 c.m, .int .i64 c.w, .bool c.f]] w fun e w' => e = .returned (.tuple #[.agg #[.int .i64 (rbI c), .int .i64 (spI c), .int .i64 (omI c), .int .i64 (obI c), .int .i64 (rpI c), .int .i64 (lpI c), .int .i64 (ebI c), .int .i64 (mbI c), .int .i64 (wnI c), .int .i64 (slI c), .int .i64 (mrI c)], .int .i64 0]) ∧ Keep (fun _ => False) w w'
  no : ∀ (w : World) {c : Cf}, C64 c → spanB c = false → Calls Try.prog 9 #[.agg #[.int .i64 c.b, .int .i64 c.p, .int .i64 c.c, .int .i64 c.s, .int .i64 c.m, .int .i64 c.w, .bool c.f]] w fun e w' => e = .returned (.tuple #[.agg #[.int .i64 0, .int .i64 0, .int .i64 0, .int .i64 0, .int .i64 0, .int .i64 0, .int .i64 0, .int .i64 0, .int .i64 0, .int .i64 0, .int .i64 0], .int .i64 1]) ∧ Keep (fun _ => False) w w'
/-- The program's Good. -/
def GoodOk : Prop := ∀ (w : World) {c : Cf}, C64 c → Calls Try.prog 12 #[.agg #[.int .i64 c.b, .int .i64 c.p, .int .i64 c.c, .int .i64 c.s, .int .i64 c.m, .int .i64 c.w, .bool c.f]] w fun e w' => e = .returned (.bool (goodB c)) ∧ Keep (fun _ => False) w w'
/-- The program's Rewrites. -/
structure RwOk : Prop where
  yes : ∀ (w : World) {c : Cf} {n : Int}, goodB c = true → 1 ≤ n → n ≤ c.c → Calls Try.prog 17 #[.agg #[.int .i64 c.b, .int .i64 c.p, .int .i64 c.c, .int .i64 c.s, .int .i64 c.m, .int .i64 c.w, .bool c.f], .int .i64 n] w fun e w' => e = .returned (.tuple #[.int .i64 (rwI c n), .int .i64 0]) ∧ Keep (fun _ => False) w w'
  no : ∀ (w : World) {c : Cf} {n : Int}, C64 c → I64 n → ¬ (goodB c = true ∧ 1 ≤ n ∧ n ≤ c.c) → Calls Try.prog 17 #[.agg #[.int .i64 c.b, .int .i64 c.p, .int .i64 c.c, .int .i64 c.s, .int .i64 c.m, .int .i64 c.w, .bool c.f], .int .i64 n] w fun e w' => e = .returned (.tuple #[.int .i64 0, .int .i64 1]) ∧ Keep (fun _ => False) w w'
/-- The program's CallPrograms. -/
structure CpOk : Prop where
  yes : ∀ (w : World) {c : Cf} {n f : Int}, goodB c = true → 1 ≤ n → n ≤ c.c → 0 ≤ f → f ≤ 1000 → Calls Try.prog 11 #[.agg #[.int .i64 c.b, .int .i64 c.p, .int .i64 c.c, .int .i64 c.s, .int .i64 c.m, .int .i64 c.w, .bool c.f], .int .i64 n, .int .i64 f] w fun e w' => e = .returned (.tuple #[.int .i64 (cpI c n f), .int .i64 0]) ∧ Keep (fun _ => False) w w'
  no : ∀ (w : World) {c : Cf} {n f : Int}, C64 c → I64 n → I64 f → ¬ (goodB c = true ∧ 1 ≤ n ∧ n ≤ c.c ∧ 0 ≤ f ∧ f ≤ 1000) → Calls Try.prog 11 #[.agg #[.int .i64 c.b, .int .i64 c.p, .int .i64 c.c, .int .i64 c.s, .int .i64 c.m, .int .i64 c.w, .bool c.f], .int .i64 n, .int .i64 f] w fun e w' => e = .returned (.tuple #[.int .i64 0, .int .i64 1]) ∧ Keep (fun _ => False) w w'
/-- The program's Greatest. -/
structure GrOk : Prop where
  yes : ∀ (w : World) {c : Cf}, C64 c → grK c 512 ≠ 0 → Calls Try.prog 20 #[.agg #[.int .i64 c.b, .int .i64 c.p, .int .i64 c.c, .int .i64 c.s, .int .i64 c.m, .int .i64 c.w, .bool c.f]] w fun e w' => e = .returned (.tuple #[.int .i64 (grK c 512), .int .i64 0]) ∧ Keep (fun _ => False) w w'
  no : ∀ (w : World) {c : Cf}, C64 c → grK c 512 = 0 → Calls Try.prog 20 #[.agg #[.int .i64 c.b, .int .i64 c.p, .int .i64 c.c, .int .i64 c.s, .int .i64 c.m, .int .i64 c.w, .bool c.f]] w fun e w' => e = .returned (.tuple #[.int .i64 0, .int .i64 1]) ∧ Keep (fun _ => False) w w'
def sam : Cf := ⟨40, 8, 48, 2, 48, 8, false⟩
theorem sam_span : Span sam := span_iff.1 (by decide +kernel)
theorem sam_good : goodB sam = true := by decide +kernel
theorem sam_gr : grK sam 512 = 48 := by decide +kernel
theorem sam_64 : C64 sam := ⟨⟨by decide, by decide⟩, ⟨by decide, by decide⟩, ⟨by decide, by decide⟩, ⟨by decide, by decide⟩, ⟨by decide, by decide⟩, ⟨by decide, by decide⟩⟩
set_option maxRecDepth 100000 in
set_option maxHeartbeats 1000000 in
theorem sample_any (w : World) : Calls Try.prog 10 #[] w fun e w' => e = .returned (.agg #[.int .i64 40, .int .i64 8, .int .i64 48, .int .i64 2, .int .i64 48, .int .i64 8, .bool false]) ∧ Keep (fun _ => False) w w' := by
  have K1 : Keep (fun _ => False) w (w.alloc (.cells #[.int .i64 40, .int .i64 8, .int .i64 48, .int .i64 2, .int .i64 48, .int .i64 8, .bool false] 29)) := (Keep.refl _ _).alloc _
  have hl : (loadVar 29 ⟨w.heap.size, 0, none⟩).run Try.prog (w.alloc (.cells #[.int .i64 40, .int .i64 8, .int .i64 48, .int .i64 2, .int .i64 48, .int .i64 8, .bool false] 29)) = .ok (.agg #[.int .i64 40, .int .i64 8, .int .i64 48, .int .i64 2, .int .i64 48, .int .i64 8, .bool false]) (w.alloc (.cells #[.int .i64 40, .int .i64 8, .int .i64 48, .int .i64 2, .int .i64 48, .int .i64 8, .bool false] 29)) := by go_simp
  go_enter Try.func10, Try.ntmps10
  go_wp2_with fail
  refine bodyPost_ret (v := .agg #[.int .i64 40, .int .i64 8, .int .i64 48, .int .i64 2, .int .i64 48, .int .i64 8, .bool false]) ?_ rfl ⟨rfl, K1⟩
  rw [results_cell rfl]
  simp [asAddr, Result.andThen, hl]
theorem of_sam (H : OfOk) (w : World) : Calls Try.prog 9 #[.agg #[.int .i64 40, .int .i64 8, .int .i64 48, .int .i64 2, .int .i64 48, .int .i64 8, .bool false]] w fun e w' => e = .returned (.tuple #[.agg #[.int .i64 4, .int .i64 7, .int .i64 14, .int .i64 4, .int .i64 2, .int .i64 19, .int .i64 4, .int .i64 8, .int .i64 6, .int .i64 22, .int .i64 168], .int .i64 0]) ∧ Keep (fun _ => False) w w' := H.yes w sam_span
theorem good_sam (H : GoodOk) (w : World) : Calls Try.prog 12 #[.agg #[.int .i64 40, .int .i64 8, .int .i64 48, .int .i64 2, .int .i64 48, .int .i64 8, .bool false]] w fun e w' => e = .returned (.bool true) ∧ Keep (fun _ => False) w w' := by
  have := H w sam_64
  rw [sam_good] at this
  exact this
theorem rw_sam (H : RwOk) (w : World) : Calls Try.prog 17 #[.agg #[.int .i64 40, .int .i64 8, .int .i64 48, .int .i64 2, .int .i64 48, .int .i64 8, .bool false], .int .i64 1] w fun e w' => e = .returned (.tuple #[.int .i64 8, .int .i64 0]) ∧ Keep (fun _ => False) w w' := H.yes w (c := sam) (n := 1) sam_good (by decide) (by decide)
theorem cp_sam (H : CpOk) (w : World) : Calls Try.prog 11 #[.agg #[.int .i64 40, .int .i64 8, .int .i64 48, .int .i64 2, .int .i64 48, .int .i64 8, .bool false], .int .i64 1, .int .i64 0] w fun e w' => e = .returned (.tuple #[.int .i64 570, .int .i64 0]) ∧ Keep (fun _ => False) w w' := H.yes w (c := sam) (n := 1) (f := 0) sam_good (by decide) (by decide) (by decide) (by decide)
theorem cp_sam2 (H : CpOk) (w : World) : Calls Try.prog 11 #[.agg #[.int .i64 40, .int .i64 8, .int .i64 48, .int .i64 2, .int .i64 48, .int .i64 8, .bool false], .int .i64 48, .int .i64 0] w fun e w' => e = .returned (.tuple #[.int .i64 1098, .int .i64 0]) ∧ Keep (fun _ => False) w w' := H.yes w (c := sam) (n := 48) (f := 0) sam_good (by decide) (by decide) (by decide) (by decide)
theorem gr_sam (H : GrOk) (w : World) : Calls Try.prog 20 #[.agg #[.int .i64 40, .int .i64 8, .int .i64 48, .int .i64 2, .int .i64 48, .int .i64 8, .bool false]] w fun e w' => e = .returned (.tuple #[.int .i64 48, .int .i64 0]) ∧ Keep (fun _ => False) w w' := by
  have := H.yes w sam_64 (by rw [sam_gr]; decide)
  rw [sam_gr] at this
  exact this
set_option maxRecDepth 100000 in
set_option maxHeartbeats 2000000 in
theorem awake_any (H1 : OfOk) (H2 : GoodOk) (H3 : RwOk) (H4 : CpOk) (H5 : GrOk) (w : World) : Calls Try.prog 8 #[] w fun e w' => e = .returned (.bool true) ∧ Keep (fun _ => False) w w' := by
  have hs := fun w => sample_any w
  have h1 := of_sam H1
  have h2 := good_sam H2
  have h3 := rw_sam H3
  have h4 := cp_sam H4
  have h5 := gr_sam H5
  clear H1 H2 H3 H4 H5
  go_enter Try.func8, Try.ntmps8
  go_wp2_with fail
  refine (hs _).mono ?_
  rintro e w1 ⟨rfl, k1⟩
  go_wp2_with fail
  refine (h1 _).mono ?_
  rintro e w2 ⟨rfl, k2⟩
  have Z2 : Blk (w2.alloc (.cells #[.int .i64 4, .int .i64 7, .int .i64 14, .int .i64 4, .int .i64 2, .int .i64 19, .int .i64 4, .int .i64 8, .int .i64 6, .int .i64 22, .int .i64 168] 24)) w2.heap.size 11 (scell [4, 7, 14, 4, 2, 19, 4, 8, 6, 22, 168]) := blk_alloc w2 _ 24 11 _ (fun i hi => by
    have : i = 0 ∨ i = 1 ∨ i = 2 ∨ i = 3 ∨ i = 4 ∨ i = 5 ∨ i = 6 ∨ i = 7 ∨ i = 8 ∨ i = 9 ∨ i = 10 := by omega
    rcases this with rfl | rfl | rfl | rfl | rfl | rfl | rfl | rfl | rfl | rfl | rfl <;> rfl)
  have K2 := (k1.trans k2).alloc (.cells #[.int .i64 4, .int .i64 7, .int .i64 14, .int .i64 4, .int .i64 2, .int .i64 19, .int .i64 4, .int .i64 8, .int .i64 6, .int .i64 22, .int .i64 168] 24)
  go_upto_region 2 with fail
  generalize w2.alloc (.cells #[.int .i64 4, .int .i64 7, .int .i64 14, .int .i64 4, .int .i64 2, .int .i64 19, .int .i64 4, .int .i64 8, .int .i64 6, .int .i64 22, .int .i64 168] 24) = w3 at Z2 K2 ⊢
  generalize w2.heap.size = h at Z2 ⊢
  clear k1 k2 h1
  go_wp2_with fail
  refine (hs _).mono ?_
  rintro e w4 ⟨rfl, k4⟩
  go_wp2_with fail
  refine (h3 _).mono ?_
  rintro e w5 ⟨rfl, k5⟩
  go_wp2_with fail
  refine (hs _).mono ?_
  rintro e w6 ⟨rfl, k6⟩
  go_wp2_with fail
  refine (h4 _).mono ?_
  rintro e w7 ⟨rfl, k7⟩
  go_wp2_with fail
  refine (hs _).mono ?_
  rintro e w8 ⟨rfl, k8⟩
  go_wp2_with fail
  refine (h5 _).mono ?_
  rintro e w9 ⟨rfl, k9⟩
  have K9 := ((((k4.trans k5).trans k6).trans k7).trans k8).trans k9
  have Z9 := Z2.keep K9 (fun e => e)
  have z0 : w9.cell? ⟨h, 0, none⟩ = some (.int .i64 4) := (Z9 0 (by omega)).1
  have z1 : w9.cell? ⟨h, 1, none⟩ = some (.int .i64 7) := (Z9 1 (by omega)).1
  have z10 : w9.cell? ⟨h, 10, none⟩ = some (.int .i64 168) := (Z9 10 (by omega)).1
  clear h3 h4 h5 k4 k5 k6 k7 k8 k9 Z2 Z9
  go_wp2_with fail
  refine (hs _).mono ?_
  rintro e w10 ⟨rfl, k10⟩
  go_wp2_with fail
  refine (h2 _).mono ?_
  rintro e w11 ⟨rfl, k11⟩
  have HK := ((K2.trans K9).trans k10).trans k11
  clear hs h2
  go_wp2_with fail
  go_ret
  exact ⟨rfl, HK⟩
def samA : Cf := ⟨40, 8, 48, 2, 45, 8, false⟩
def samB : Cf := ⟨40, 8, 48, 2, 48, 9, false⟩
theorem samA_64 : C64 samA := ⟨⟨by decide, by decide⟩, ⟨by decide, by decide⟩, ⟨by decide, by decide⟩, ⟨by decide, by decide⟩, ⟨by decide, by decide⟩, ⟨by decide, by decide⟩⟩
theorem samB_64 : C64 samB := ⟨⟨by decide, by decide⟩, ⟨by decide, by decide⟩, ⟨by decide, by decide⟩, ⟨by decide, by decide⟩, ⟨by decide, by decide⟩, ⟨by decide, by decide⟩⟩
theorem good_samA (H : GoodOk) (w : World) : Calls Try.prog 12 #[.agg #[.int .i64 40, .int .i64 8, .int .i64 48, .int .i64 2, .int .i64 45, .int .i64 8, .bool false]] w fun e w' => e = .returned (.bool false) ∧ Keep (fun _ => False) w w' := by
  have := H w samA_64
  rw [show goodB samA = false by decide +kernel] at this
  exact this
theorem good_samB (H : GoodOk) (w : World) : Calls Try.prog 12 #[.agg #[.int .i64 40, .int .i64 8, .int .i64 48, .int .i64 2, .int .i64 48, .int .i64 9, .bool false]] w fun e w' => e = .returned (.bool false) ∧ Keep (fun _ => False) w w' := by
  have := H w samB_64
  rw [show goodB samB = false by decide +kernel] at this
  exact this
set_option maxRecDepth 100000 in
set_option maxHeartbeats 2000000 in
theorem known_law (H1 : OfOk) (H2 : GoodOk) (H3 : RwOk) (H4 : CpOk) (H5 : GrOk) (w : World) : Calls Try.prog 3 #[] w fun e w' => e = .returned (.bool true) ∧ Keep (fun _ => False) w w' := by
  have ha := fun w => awake_any H1 H2 H3 H4 H5 w
  have hs := fun w => sample_any w
  have h1 := of_sam H1
  have h4 := cp_sam2 H4
  have hA := good_samA H2
  have hB := good_samB H2
  clear H1 H2 H3 H4 H5
  go_enter Try.func3, Try.ntmps3
  go_wp2_with fail
  refine (ha _).mono ?_
  rintro e w0 ⟨rfl, k0⟩
  go_wp2_with fail
  refine (hs _).mono ?_
  rintro e w1 ⟨rfl, k1⟩
  go_wp2_with fail
  refine (h1 _).mono ?_
  rintro e w2 ⟨rfl, k2⟩
  have Z2 : Blk (w2.alloc (.cells #[.int .i64 4, .int .i64 7, .int .i64 14, .int .i64 4, .int .i64 2, .int .i64 19, .int .i64 4, .int .i64 8, .int .i64 6, .int .i64 22, .int .i64 168] 24)) w2.heap.size 11 (scell [4, 7, 14, 4, 2, 19, 4, 8, 6, 22, 168]) := blk_alloc w2 _ 24 11 _ (fun i hi => by
    have : i = 0 ∨ i = 1 ∨ i = 2 ∨ i = 3 ∨ i = 4 ∨ i = 5 ∨ i = 6 ∨ i = 7 ∨ i = 8 ∨ i = 9 ∨ i = 10 := by omega
    rcases this with rfl | rfl | rfl | rfl | rfl | rfl | rfl | rfl | rfl | rfl | rfl <;> rfl)
  have K2 := ((k0.trans k1).trans k2).alloc (.cells #[.int .i64 4, .int .i64 7, .int .i64 14, .int .i64 4, .int .i64 2, .int .i64 19, .int .i64 4, .int .i64 8, .int .i64 6, .int .i64 22, .int .i64 168] 24)
  go_upto_region 4 with fail
  generalize w2.alloc (.cells #[.int .i64 4, .int .i64 7, .int .i64 14, .int .i64 4, .int .i64 2, .int .i64 19, .int .i64 4, .int .i64 8, .int .i64 6, .int .i64 22, .int .i64 168] 24) = w3 at Z2 K2 ⊢
  generalize w2.heap.size = h at Z2 ⊢
  clear k0 k1 k2 h1 ha
  go_wp2_with fail
  refine (hs _).mono ?_
  rintro e w4 ⟨rfl, k4⟩
  go_upto_region 6 with fail
  have A5 : Blk (w4.alloc (.cells #[.int .i64 40, .int .i64 8, .int .i64 48, .int .i64 2, .int .i64 45, .int .i64 8, .bool false] 29)) w4.heap.size 7 (ccell samA) := blk_cf w4 samA
  have K5 := k4.alloc (.cells #[.int .i64 40, .int .i64 8, .int .i64 48, .int .i64 2, .int .i64 45, .int .i64 8, .bool false] 29)
  generalize w4.alloc (.cells #[.int .i64 40, .int .i64 8, .int .i64 48, .int .i64 2, .int .i64 45, .int .i64 8, .bool false] 29) = w5 at A5 K5 ⊢
  generalize w4.heap.size = ga at A5 ⊢
  go_wp2_with fail
  refine (hs _).mono ?_
  rintro e w6 ⟨rfl, k6⟩
  go_upto_region 8 with fail
  have B7 : Blk (w6.alloc (.cells #[.int .i64 40, .int .i64 8, .int .i64 48, .int .i64 2, .int .i64 48, .int .i64 9, .bool false] 29)) w6.heap.size 7 (ccell samB) := blk_cf w6 samB
  have K7 := k6.alloc (.cells #[.int .i64 40, .int .i64 8, .int .i64 48, .int .i64 2, .int .i64 48, .int .i64 9, .bool false] 29)
  generalize w6.alloc (.cells #[.int .i64 40, .int .i64 8, .int .i64 48, .int .i64 2, .int .i64 48, .int .i64 9, .bool false] 29) = w7 at B7 K7 ⊢
  generalize w6.heap.size = gb at B7 ⊢
  go_wp2_with fail
  refine (hs _).mono ?_
  rintro e w8 ⟨rfl, k8⟩
  go_wp2_with fail
  refine (h4 _).mono ?_
  rintro e w9 ⟨rfl, k9⟩
  have K9 := k8.trans k9
  have Z9 := Z2.keep ((K5.trans K7).trans K9) (fun e => e)
  have A9 := A5.keep (K7.trans K9) (fun e => e)
  have B9 := B7.keep K9 (fun e => e)
  have z2 : w9.cell? ⟨h, 2, none⟩ = some (.int .i64 14) := (Z9 2 (by omega)).1
  have z3 : w9.cell? ⟨h, 3, none⟩ = some (.int .i64 4) := (Z9 3 (by omega)).1
  have z4 : w9.cell? ⟨h, 4, none⟩ = some (.int .i64 2) := (Z9 4 (by omega)).1
  have z5 : w9.cell? ⟨h, 5, none⟩ = some (.int .i64 19) := (Z9 5 (by omega)).1
  have z6 : w9.cell? ⟨h, 6, none⟩ = some (.int .i64 4) := (Z9 6 (by omega)).1
  have z7 : w9.cell? ⟨h, 7, none⟩ = some (.int .i64 8) := (Z9 7 (by omega)).1
  have z8 : w9.cell? ⟨h, 8, none⟩ = some (.int .i64 6) := (Z9 8 (by omega)).1
  have z9 : w9.cell? ⟨h, 9, none⟩ = some (.int .i64 22) := (Z9 9 (by omega)).1
  have ca0 : w9.cell? ⟨ga, 0, none⟩ = some (.int .i64 40) := (A9 0 (by omega)).1
  have ca1 : w9.cell? ⟨ga, 1, none⟩ = some (.int .i64 8) := (A9 1 (by omega)).1
  have ca2 : w9.cell? ⟨ga, 2, none⟩ = some (.int .i64 48) := (A9 2 (by omega)).1
  have ca3 : w9.cell? ⟨ga, 3, none⟩ = some (.int .i64 2) := (A9 3 (by omega)).1
  have ca4 : w9.cell? ⟨ga, 4, none⟩ = some (.int .i64 45) := (A9 4 (by omega)).1
  have ca5 : w9.cell? ⟨ga, 5, none⟩ = some (.int .i64 8) := (A9 5 (by omega)).1
  have ca6 : w9.cell? ⟨ga, 6, none⟩ = some (.bool false) := (A9 6 (by omega)).1
  clear hs h4 k4 k6 k8 k9 Z2 Z9 A5 B7 A9
  go_wp2_with fail
  refine (hA _).mono ?_
  rintro e w10 ⟨rfl, k10⟩
  have B10 := B9.keep k10 (fun e => e)
  have cb0 : w10.cell? ⟨gb, 0, none⟩ = some (.int .i64 40) := (B10 0 (by omega)).1
  have cb1 : w10.cell? ⟨gb, 1, none⟩ = some (.int .i64 8) := (B10 1 (by omega)).1
  have cb2 : w10.cell? ⟨gb, 2, none⟩ = some (.int .i64 48) := (B10 2 (by omega)).1
  have cb3 : w10.cell? ⟨gb, 3, none⟩ = some (.int .i64 2) := (B10 3 (by omega)).1
  have cb4 : w10.cell? ⟨gb, 4, none⟩ = some (.int .i64 48) := (B10 4 (by omega)).1
  have cb5 : w10.cell? ⟨gb, 5, none⟩ = some (.int .i64 9) := (B10 5 (by omega)).1
  have cb6 : w10.cell? ⟨gb, 6, none⟩ = some (.bool false) := (B10 6 (by omega)).1
  clear hA B9 B10 z2 z3 z4 z5 z6 z7 z8 z9 ca0 ca1 ca2 ca3 ca4 ca5 ca6
  go_wp2_with fail
  refine (hB _).mono ?_
  rintro e w11 ⟨rfl, k11⟩
  have HK := ((((K2.trans K5).trans K7).trans K9).trans k10).trans k11
  clear hB
  go_wp2_with fail
  go_ret
  exact ⟨rfl, HK⟩
end Tg
end Go.Proofs.Ytoobjmhllfeffaa
