/-
  The program's Rewrites and CallPrograms, and Greatest.
-/
import Derived.Test.YtoobjmhllfeffaaYd
namespace Go.Proofs.Ytoobjmhllfeffaa
open Go.ChangeShapes Go.WideShapes Go.ChangeAt Go.RowKit
namespace Tg
theorem call30 (args : Array Value) (w : World) : (callFunc 30 args).run Try.prog w = .ok (.enter 30 args) w := enters Try.func30 (by kernel_rfl) (by kernel_rfl) args w
theorem callw25 (args : Array Value) (w : World) : (callFunc 25 args).run Try.prog w = .ok (.enter 25 args) w := enters Try.func25 (by kernel_rfl) (by kernel_rfl) args w
theorem callw26 (args : Array Value) (w : World) : (callFunc 26 args).run Try.prog w = .ok (.enter 26 args) w := enters Try.func26 (by kernel_rfl) (by kernel_rfl) args w
set_option maxRecDepth 100000 in
set_option maxHeartbeats 1000000 in
theorem callable_yes (w : World) {c : Cf} {n : Int} (hg : goodB c = true) (h1 : 1 ≤ n) (h2 : n ≤ c.c) : Calls Try.prog 23 #[.agg #[.int .i64 c.b, .int .i64 c.p, .int .i64 c.c, .int .i64 c.s, .int .i64 c.m, .int .i64 c.w, .bool c.f], .int .i64 n] w fun e w' => e = .returned (.bool true) ∧ Keep (fun _ => False) w w' := by
  have B1 : Blk (w.alloc (.cells #[.int .i64 c.b, .int .i64 c.p, .int .i64 c.c, .int .i64 c.s, .int .i64 c.m, .int .i64 c.w, .bool c.f] 29)) w.heap.size 7 (ccell c) := blk_cf w c
  have K1 : Keep (fun _ => False) w (w.alloc (.cells #[.int .i64 c.b, .int .i64 c.p, .int .i64 c.c, .int .i64 c.s, .int .i64 c.m, .int .i64 c.w, .bool c.f] 29)) := (Keep.refl _ _).alloc _
  have hgo := fun w => good_any w c
  rw [hg] at hgo
  have hwi := fun w => within_yes (v := n) (a := 1) (b := c.c) h1 h2 w
  clear h1 h2
  clear hg
  go_enter Try.func23, Try.ntmps23
  go_upto_region 1 with fail
  generalize w.alloc (.cells #[.int .i64 c.b, .int .i64 c.p, .int .i64 c.c, .int .i64 c.s, .int .i64 c.m, .int .i64 c.w, .bool c.f] 29) = v1 at B1 K1 ⊢
  generalize w.heap.size = g at B1 ⊢
  have cc0 : v1.cell? ⟨g, 0, none⟩ = some (.int .i64 c.b) := (B1 0 (by omega)).1
  have cc1 : v1.cell? ⟨g, 1, none⟩ = some (.int .i64 c.p) := (B1 1 (by omega)).1
  have cc2 : v1.cell? ⟨g, 2, none⟩ = some (.int .i64 c.c) := (B1 2 (by omega)).1
  have cc3 : v1.cell? ⟨g, 3, none⟩ = some (.int .i64 c.s) := (B1 3 (by omega)).1
  have cc4 : v1.cell? ⟨g, 4, none⟩ = some (.int .i64 c.m) := (B1 4 (by omega)).1
  have cc5 : v1.cell? ⟨g, 5, none⟩ = some (.int .i64 c.w) := (B1 5 (by omega)).1
  have cc6 : v1.cell? ⟨g, 6, none⟩ = some (.bool c.f) := (B1 6 (by omega)).1
  go_wp2_with fail
  refine (hgo _).mono ?_
  rintro e v2 ⟨rfl, k2⟩
  have B2 := B1.keep k2 (fun e => e)
  have HK := K1.trans k2
  clear hgo B1 K1
  clear cc0 cc1 cc2 cc3 cc4 cc5 cc6
  have cc0 : v2.cell? ⟨g, 0, none⟩ = some (.int .i64 c.b) := (B2 0 (by omega)).1
  have cc1 : v2.cell? ⟨g, 1, none⟩ = some (.int .i64 c.p) := (B2 1 (by omega)).1
  have cc2 : v2.cell? ⟨g, 2, none⟩ = some (.int .i64 c.c) := (B2 2 (by omega)).1
  have cc3 : v2.cell? ⟨g, 3, none⟩ = some (.int .i64 c.s) := (B2 3 (by omega)).1
  have cc4 : v2.cell? ⟨g, 4, none⟩ = some (.int .i64 c.m) := (B2 4 (by omega)).1
  have cc5 : v2.cell? ⟨g, 5, none⟩ = some (.int .i64 c.w) := (B2 5 (by omega)).1
  have cc6 : v2.cell? ⟨g, 6, none⟩ = some (.bool c.f) := (B2 6 (by omega)).1
  go_wp2_with fail
  refine (hwi _).mono ?_
  rintro e v3 ⟨rfl, e0⟩
  have e0 := e0.symm
  subst e0
  clear hwi
  go_wp2_with fail
  go_ret
  exact ⟨rfl, HK⟩
set_option maxRecDepth 100000 in
set_option maxHeartbeats 1000000 in
theorem callable_no (w : World) {c : Cf} {n : Int} (h : ¬ (goodB c = true ∧ 1 ≤ n ∧ n ≤ c.c)) : Calls Try.prog 23 #[.agg #[.int .i64 c.b, .int .i64 c.p, .int .i64 c.c, .int .i64 c.s, .int .i64 c.m, .int .i64 c.w, .bool c.f], .int .i64 n] w fun e w' => e = .returned (.bool false) ∧ Keep (fun _ => False) w w' := by
  cases hg : goodB c with
  | true =>
    have B1 : Blk (w.alloc (.cells #[.int .i64 c.b, .int .i64 c.p, .int .i64 c.c, .int .i64 c.s, .int .i64 c.m, .int .i64 c.w, .bool c.f] 29)) w.heap.size 7 (ccell c) := blk_cf w c
    have K1 : Keep (fun _ => False) w (w.alloc (.cells #[.int .i64 c.b, .int .i64 c.p, .int .i64 c.c, .int .i64 c.s, .int .i64 c.m, .int .i64 c.w, .bool c.f] 29)) := (Keep.refl _ _).alloc _
    have hgo := fun w => good_any w c
    rw [hg] at hgo
    have hwi := fun w => within_no (v := n) (a := 1) (b := c.c) (fun x => h ⟨hg, x⟩) w
    clear h
    clear hg
    go_enter Try.func23, Try.ntmps23
    go_upto_region 1 with fail
    generalize w.alloc (.cells #[.int .i64 c.b, .int .i64 c.p, .int .i64 c.c, .int .i64 c.s, .int .i64 c.m, .int .i64 c.w, .bool c.f] 29) = v1 at B1 K1 ⊢
    generalize w.heap.size = g at B1 ⊢
    have cc0 : v1.cell? ⟨g, 0, none⟩ = some (.int .i64 c.b) := (B1 0 (by omega)).1
    have cc1 : v1.cell? ⟨g, 1, none⟩ = some (.int .i64 c.p) := (B1 1 (by omega)).1
    have cc2 : v1.cell? ⟨g, 2, none⟩ = some (.int .i64 c.c) := (B1 2 (by omega)).1
    have cc3 : v1.cell? ⟨g, 3, none⟩ = some (.int .i64 c.s) := (B1 3 (by omega)).1
    have cc4 : v1.cell? ⟨g, 4, none⟩ = some (.int .i64 c.m) := (B1 4 (by omega)).1
    have cc5 : v1.cell? ⟨g, 5, none⟩ = some (.int .i64 c.w) := (B1 5 (by omega)).1
    have cc6 : v1.cell? ⟨g, 6, none⟩ = some (.bool c.f) := (B1 6 (by omega)).1
    go_wp2_with fail
    refine (hgo _).mono ?_
    rintro e v2 ⟨rfl, k2⟩
    have B2 := B1.keep k2 (fun e => e)
    have HK := K1.trans k2
    clear hgo B1 K1
    clear cc0 cc1 cc2 cc3 cc4 cc5 cc6
    have cc0 : v2.cell? ⟨g, 0, none⟩ = some (.int .i64 c.b) := (B2 0 (by omega)).1
    have cc1 : v2.cell? ⟨g, 1, none⟩ = some (.int .i64 c.p) := (B2 1 (by omega)).1
    have cc2 : v2.cell? ⟨g, 2, none⟩ = some (.int .i64 c.c) := (B2 2 (by omega)).1
    have cc3 : v2.cell? ⟨g, 3, none⟩ = some (.int .i64 c.s) := (B2 3 (by omega)).1
    have cc4 : v2.cell? ⟨g, 4, none⟩ = some (.int .i64 c.m) := (B2 4 (by omega)).1
    have cc5 : v2.cell? ⟨g, 5, none⟩ = some (.int .i64 c.w) := (B2 5 (by omega)).1
    have cc6 : v2.cell? ⟨g, 6, none⟩ = some (.bool c.f) := (B2 6 (by omega)).1
    go_wp2_with fail
    refine (hwi _).mono ?_
    rintro e v3 ⟨rfl, e0⟩
    have e0 := e0.symm
    subst e0
    clear hwi
    go_wp2_with fail
    go_ret
    exact ⟨rfl, HK⟩
  | false =>
    have B1 : Blk (w.alloc (.cells #[.int .i64 c.b, .int .i64 c.p, .int .i64 c.c, .int .i64 c.s, .int .i64 c.m, .int .i64 c.w, .bool c.f] 29)) w.heap.size 7 (ccell c) := blk_cf w c
    have K1 : Keep (fun _ => False) w (w.alloc (.cells #[.int .i64 c.b, .int .i64 c.p, .int .i64 c.c, .int .i64 c.s, .int .i64 c.m, .int .i64 c.w, .bool c.f] 29)) := (Keep.refl _ _).alloc _
    have hgo := fun w => good_any w c
    rw [hg] at hgo
    clear h
    clear hg
    go_enter Try.func23, Try.ntmps23
    go_upto_region 1 with fail
    generalize w.alloc (.cells #[.int .i64 c.b, .int .i64 c.p, .int .i64 c.c, .int .i64 c.s, .int .i64 c.m, .int .i64 c.w, .bool c.f] 29) = v1 at B1 K1 ⊢
    generalize w.heap.size = g at B1 ⊢
    have cc0 : v1.cell? ⟨g, 0, none⟩ = some (.int .i64 c.b) := (B1 0 (by omega)).1
    have cc1 : v1.cell? ⟨g, 1, none⟩ = some (.int .i64 c.p) := (B1 1 (by omega)).1
    have cc2 : v1.cell? ⟨g, 2, none⟩ = some (.int .i64 c.c) := (B1 2 (by omega)).1
    have cc3 : v1.cell? ⟨g, 3, none⟩ = some (.int .i64 c.s) := (B1 3 (by omega)).1
    have cc4 : v1.cell? ⟨g, 4, none⟩ = some (.int .i64 c.m) := (B1 4 (by omega)).1
    have cc5 : v1.cell? ⟨g, 5, none⟩ = some (.int .i64 c.w) := (B1 5 (by omega)).1
    have cc6 : v1.cell? ⟨g, 6, none⟩ = some (.bool c.f) := (B1 6 (by omega)).1
    go_wp2_with fail
    refine (hgo _).mono ?_
    rintro e v2 ⟨rfl, k2⟩
    have B2 := B1.keep k2 (fun e => e)
    have HK := K1.trans k2
    clear hgo B1 K1
    clear cc0 cc1 cc2 cc3 cc4 cc5 cc6
    have cc0 : v2.cell? ⟨g, 0, none⟩ = some (.int .i64 c.b) := (B2 0 (by omega)).1
    have cc1 : v2.cell? ⟨g, 1, none⟩ = some (.int .i64 c.p) := (B2 1 (by omega)).1
    have cc2 : v2.cell? ⟨g, 2, none⟩ = some (.int .i64 c.c) := (B2 2 (by omega)).1
    have cc3 : v2.cell? ⟨g, 3, none⟩ = some (.int .i64 c.s) := (B2 3 (by omega)).1
    have cc4 : v2.cell? ⟨g, 4, none⟩ = some (.int .i64 c.m) := (B2 4 (by omega)).1
    have cc5 : v2.cell? ⟨g, 5, none⟩ = some (.int .i64 c.w) := (B2 5 (by omega)).1
    have cc6 : v2.cell? ⟨g, 6, none⟩ = some (.bool c.f) := (B2 6 (by omega)).1
    go_wp2_with fail
    go_ret
    exact ⟨rfl, HK⟩
set_option maxRecDepth 100000 in
set_option maxHeartbeats 1000000 in
theorem rewrites_any (w : World) {c : Cf} (hS : Span c) {n : Int} (h1 : 1 ≤ n) (h2 : n ≤ c.c) : Calls Try.prog 30 #[.agg #[.int .i64 c.b, .int .i64 c.p, .int .i64 c.c, .int .i64 c.s, .int .i64 c.m, .int .i64 c.w, .bool c.f], .int .i64 n] w fun e w' => e = .returned (.int .i64 (rwI c n)) ∧ Keep (fun _ => False) w w' := by
  have B1 : Blk (w.alloc (.cells #[.int .i64 c.b, .int .i64 c.p, .int .i64 c.c, .int .i64 c.s, .int .i64 c.m, .int .i64 c.w, .bool c.f] 29)) w.heap.size 7 (ccell c) := blk_cf w c
  have K1 : Keep (fun _ => False) w (w.alloc (.cells #[.int .i64 c.b, .int .i64 c.p, .int .i64 c.c, .int .i64 c.s, .int .i64 c.m, .int .i64 c.w, .bool c.f] 29)) := (Keep.refl _ _).alloc _
  have hb := rw_bd hS h1 h2
  have hu0 := upI_bd (a := n) (b := c.p) (by have := hS.p1; omega) (by omega)
  have eR : rwI c n = upI n c.p + 3 + 2 * c.s := rfl
  obtain ⟨b1, b2, p1, p2, s1, s2, c1, c2, -⟩ := hS
  have hu := fun w => same_keep (up_any (a := n) (b := c.p) (by omega) (by omega) (by omega) (by omega) w)
  have q1 := wrapI (x := upI n c.p + 3) (by omega) (by omega)
  have q2 := wrapI (x := 2 * c.s) (by omega) (by omega)
  have q3 : IntKind.i64.wrap (upI n c.p + 3 + 2 * c.s) = rwI c n := by rw [← eR]; exact wrapI (by omega) (by omega)
  clear hb hu0 eR h1 h2 b1 b2 p1 p2 s1 s2 c1 c2
  go_enter Try.func30, Try.ntmps30
  go_upto_region 1 with fail
  generalize w.alloc (.cells #[.int .i64 c.b, .int .i64 c.p, .int .i64 c.c, .int .i64 c.s, .int .i64 c.m, .int .i64 c.w, .bool c.f] 29) = v1 at B1 K1 ⊢
  generalize w.heap.size = g at B1 ⊢
  have D1 := B1.drew
  refine wp_region_noPanic ?_
  refine wp_region_held_drew (S := fun w' => True ∧ w'.cell? ⟨g, 1, none⟩ = some (.int .i64 c.p) ∧ w'.cell? ⟨g, 3, none⟩ = some (.int .i64 c.s)) (by kernel_rfl) (⟨trivial, (D1 1 (by omega)).1, (D1 3 (by omega)).1⟩) (fun hH0 => ?_)
  refine' wpAnyH_take (i := 0) (oi := { dst := some 5, op := Op.move (Operand.tmp 1), type := 3, pos := "size.go:111", after := #[], guard := none }) (v := _) rfl (by kernel_rfl) (by kernel_rfl) (by kernel_rfl) (fun _ _ _ h => h) (Or.inl ⟨by rfl, ?hyrw0⟩) hH0 ?rrw0
  case hyrw0 => (intro w' hSw; clear hSw; go_simp; try with_reducible rfl)
  simp only [Act.put, List.setIfInBounds_toArray, List.set_cons_zero, List.set_cons_succ]
  refine' wpAnyH_take (i := 1) (oi := { dst := some 6, op := Op.fieldAddr 29 (Operand.tmp 2) 1, type := 0, pos := "size.go:111", after := #[], guard := none }) (v := _) rfl (by kernel_rfl) (by kernel_rfl) (by kernel_rfl) (fun _ _ _ h => h) (Or.inl ⟨by rfl, ?hyrw1⟩) hH0 ?rrw1
  case hyrw1 => (intro w' hSw; clear hSw; go_simp; try with_reducible rfl)
  simp only [Act.put, List.setIfInBounds_toArray, List.set_cons_zero, List.set_cons_succ]
  refine' wpAnyH_take (i := 2) (oi := { dst := some 7, op := Op.load 3 (Operand.tmp 6), type := 3, pos := "size.go:111", after := #[{ on := 1, ground := Ground.data }], guard := none }) (v := _) rfl (by kernel_rfl) (by kernel_rfl) (by kernel_rfl) (fun _ _ _ h => h) (Or.inl ⟨by rfl, ?hyrw2⟩) hH0 ?rrw2
  case hyrw2 => (intro w' hSw; obtain ⟨-, z0, z1⟩ := hSw; go_simp; try with_reducible rfl)
  simp only [Act.put, List.setIfInBounds_toArray, List.set_cons_zero, List.set_cons_succ]
  refine' wpAnyH_take (i := 5) (oi := { dst := some 10, op := Op.fieldAddr 29 (Operand.tmp 2) 3, type := 0, pos := "size.go:111", after := #[], guard := none }) (v := _) rfl (by kernel_rfl) (by kernel_rfl) (by kernel_rfl) (fun _ _ _ h => h) (Or.inl ⟨by rfl, ?hyrw5⟩) hH0 ?rrw5
  case hyrw5 => (intro w' hSw; clear hSw; go_simp; try with_reducible rfl)
  simp only [Act.put, List.setIfInBounds_toArray, List.set_cons_zero, List.set_cons_succ]
  refine' wpAnyH_take (i := 6) (oi := { dst := some 11, op := Op.load 3 (Operand.tmp 10), type := 3, pos := "size.go:111", after := #[{ on := 5, ground := Ground.data }], guard := none }) (v := _) rfl (by kernel_rfl) (by kernel_rfl) (by kernel_rfl) (fun _ _ _ h => h) (Or.inl ⟨by rfl, ?hyrw6⟩) hH0 ?rrw6
  case hyrw6 => (intro w' hSw; obtain ⟨-, z0, z1⟩ := hSw; go_simp; try with_reducible rfl)
  simp only [Act.put, List.setIfInBounds_toArray, List.set_cons_zero, List.set_cons_succ]
  refine' wpAnyH_take (i := 7) (oi := { dst := some 12, op := Op.binOp BinOp.mul 3 (Operand.const (Value.int IntKind.i64 2)) (Operand.tmp 11) 3, type := 3, pos := "size.go:111", after := #[{ on := 6, ground := Ground.data }], guard := none }) (v := _) rfl (by kernel_rfl) (by kernel_rfl) (by kernel_rfl) (fun _ _ _ h => h) (Or.inl ⟨by rfl, ?hyrw7⟩) hH0 ?rrw7
  case hyrw7 => (intro w' hSw; clear hSw; go_simp; try with_reducible rfl)
  simp only [Act.put, List.setIfInBounds_toArray, List.set_cons_zero, List.set_cons_succ]
  refine wpAnyH_ready (rs := [3]) (by kernel_rfl) (by simp) ?_
  refine AllReadyH.cons (o := { dst := some 8, op := Op.call { callee := Callee.value (Operand.func 33), args := #[Operand.tmp 5, Operand.tmp 7], argTypes := #[3, 3] }, type := 3, pos := "size.go:111", after := #[{ on := 0, ground := Ground.data }, { on := 2, ground := Ground.data }], guard := none }) rfl (fun K hK => ?_) AllReadyH.nil
  refine step_call_want (vs := #[.int .i64 n, .int .i64 c.p]) (R := fun u wz => u = .int .i64 (upI n c.p) ∧ Keep (fun _ => False) v1.drew wz) (by rfl) 33 #[Operand.tmp 5, Operand.tmp 7] #[3, 3] rfl (by simp [Act.eval]) call33 (post_of (hu _)) ?_
  rintro _ v2 ⟨rfl, k2⟩
  refine hK.out _ _ (⟨trivial, ((D1.keep k2 (fun e => e)) 1 (by omega)).1, ((D1.keep k2 (fun e => e)) 3 (by omega)).1⟩) (fun hH1 => ?_)
  clear hK K hH0
  simp only [Act.put, List.setIfInBounds_toArray, List.set_cons_zero, List.set_cons_succ]
  refine' wpAnyH_take (i := 4) (oi := { dst := some 9, op := Op.binOp BinOp.add 3 (Operand.tmp 8) (Operand.const (Value.int IntKind.i64 3)) 3, type := 3, pos := "size.go:111", after := #[{ on := 3, ground := Ground.data }], guard := none }) (v := _) rfl (by kernel_rfl) (by kernel_rfl) (by kernel_rfl) (fun _ _ _ h => h) (Or.inl ⟨by rfl, ?hyrw4⟩) hH1 ?rrw4
  case hyrw4 => (intro w' hSw; clear hSw; go_simp; try with_reducible rfl)
  simp only [Act.put, List.setIfInBounds_toArray, List.set_cons_zero, List.set_cons_succ]
  refine' wpAnyH_take (i := 8) (oi := { dst := some 13, op := Op.binOp BinOp.add 3 (Operand.tmp 9) (Operand.tmp 12) 3, type := 3, pos := "size.go:111", after := #[{ on := 4, ground := Ground.data }, { on := 7, ground := Ground.data }], guard := none }) (v := _) rfl (by kernel_rfl) (by kernel_rfl) (by kernel_rfl) (fun _ _ _ h => h) (Or.inl ⟨by rfl, ?hyrw8⟩) hH1 ?rrw8
  case hyrw8 => (intro w' hSw; clear hSw; go_simp; try with_reducible rfl)
  simp only [Act.put, List.setIfInBounds_toArray, List.set_cons_zero, List.set_cons_succ]
  refine' wpAnyH_take (i := 9) (oi := { dst := some 4, op := Op.assign (Operand.tmp 13), type := 3, pos := "size.go:111", after := #[{ on := 8, ground := Ground.data }, { on := 3, ground := Ground.chain }, { on := 0, ground := Ground.phase }, { on := 1, ground := Ground.phase }, { on := 2, ground := Ground.phase }, { on := 3, ground := Ground.phase }, { on := 4, ground := Ground.phase }, { on := 5, ground := Ground.phase }, { on := 6, ground := Ground.phase }, { on := 7, ground := Ground.phase }, { on := 8, ground := Ground.phase }], guard := none }) (v := _) rfl (by kernel_rfl) (by kernel_rfl) (by kernel_rfl) (fun _ _ _ h => h) (Or.inl ⟨by rfl, ?hyrw9⟩) hH1 ?rrw9
  case hyrw9 => (intro w' hSw; clear hSw; go_simp; try with_reducible rfl)
  simp only [Act.put, List.setIfInBounds_toArray, List.set_cons_zero, List.set_cons_succ]
  refine wpAnyH_done (by kernel_rfl) ?_ _
  refine NoPanic.normal ?_
  have HK := K1.trans ((Keep.refl (fun _ => False) v1).drew.trans k2)
  go_wp2_with fail
  go_ret
  exact ⟨rfl, HK⟩
set_option maxRecDepth 100000 in
set_option maxHeartbeats 1000000 in
theorem written_any (w : World) {c : Cf} (hS : Span c) {n : Int} (h1 : 1 ≤ n) (h2 : n ≤ c.c) : Calls Try.prog 25 #[.agg #[.int .i64 c.b, .int .i64 c.p, .int .i64 c.c, .int .i64 c.s, .int .i64 c.m, .int .i64 c.w, .bool c.f], .int .i64 n] w fun e w' => e = .returned (.int .i64 (n + rwI c n * c.w)) ∧ Keep (fun _ => False) w w' := by
  have B1 : Blk (w.alloc (.cells #[.int .i64 c.b, .int .i64 c.p, .int .i64 c.c, .int .i64 c.s, .int .i64 c.m, .int .i64 c.w, .bool c.f] 29)) w.heap.size 7 (ccell c) := blk_cf w c
  have K1 : Keep (fun _ => False) w (w.alloc (.cells #[.int .i64 c.b, .int .i64 c.p, .int .i64 c.c, .int .i64 c.s, .int .i64 c.m, .int .i64 c.w, .bool c.f] 29)) := (Keep.refl _ _).alloc _
  have hrw := fun w => rewrites_any w hS h1 h2
  have b2 := rww_bd hS h1 h2
  have c2 := hS.c2
  have q2 := wrapI (x := rwI c n * c.w) (by omega) (by omega)
  have q3 := wrapI (x := n + rwI c n * c.w) (by omega) (by omega)
  obtain ⟨RW, hRW⟩ : ∃ x, x = rwI c n * c.w := ⟨_, rfl⟩
  rw [← hRW] at q3 ⊢
  replace q2 : IntKind.i64.wrap (rwI c n * c.w) = RW := by rw [hRW]; exact q2
  clear hRW b2 c2 h1 h2 hS
  go_enter Try.func25, Try.ntmps25
  go_upto_region 1 with fail
  generalize w.alloc (.cells #[.int .i64 c.b, .int .i64 c.p, .int .i64 c.c, .int .i64 c.s, .int .i64 c.m, .int .i64 c.w, .bool c.f] 29) = v1 at B1 K1 ⊢
  generalize w.heap.size = g at B1 ⊢
  have D1 := B1.drew
  refine wp_region_noPanic ?_
  refine wp_region_held_drew (S := fun w' => True ∧ w'.cell? ⟨g, 0, none⟩ = some (.int .i64 c.b) ∧ w'.cell? ⟨g, 1, none⟩ = some (.int .i64 c.p) ∧ w'.cell? ⟨g, 2, none⟩ = some (.int .i64 c.c) ∧ w'.cell? ⟨g, 3, none⟩ = some (.int .i64 c.s) ∧ w'.cell? ⟨g, 4, none⟩ = some (.int .i64 c.m) ∧ w'.cell? ⟨g, 5, none⟩ = some (.int .i64 c.w) ∧ w'.cell? ⟨g, 6, none⟩ = some (.bool c.f)) (by kernel_rfl) (⟨trivial, (D1 0 (by omega)).1, (D1 1 (by omega)).1, (D1 2 (by omega)).1, (D1 3 (by omega)).1, (D1 4 (by omega)).1, (D1 5 (by omega)).1, (D1 6 (by omega)).1⟩) (fun hH0 => ?_)
  refine' wpAnyH_take (i := 0) (oi := { dst := some 5, op := Op.move (Operand.tmp 1), type := 3, pos := "size.go:115", after := #[], guard := none }) (v := _) rfl (by kernel_rfl) (by kernel_rfl) (by kernel_rfl) (fun _ _ _ h => h) (Or.inl ⟨by rfl, ?hywr0⟩) hH0 ?rwr0
  case hywr0 => (intro w' hSw; clear hSw; go_simp; try with_reducible rfl)
  simp only [Act.put, List.setIfInBounds_toArray, List.set_cons_zero, List.set_cons_succ]
  refine' wpAnyH_take (i := 1) (oi := { dst := some 6, op := Op.load 29 (Operand.tmp 2), type := 29, pos := "size.go:115", after := #[], guard := none }) (v := _) rfl (by kernel_rfl) (by kernel_rfl) (by kernel_rfl) (fun _ _ _ h => h) (Or.inl ⟨by rfl, ?hywr1⟩) hH0 ?rwr1
  case hywr1 => (intro w' hSw; obtain ⟨-, z0, z1, z2, z3, z4, z5, z6⟩ := hSw; go_simp; try with_reducible rfl)
  simp only [Act.put, List.setIfInBounds_toArray, List.set_cons_zero, List.set_cons_succ]
  refine' wpAnyH_take (i := 2) (oi := { dst := some 7, op := Op.move (Operand.tmp 1), type := 3, pos := "size.go:115", after := #[], guard := none }) (v := _) rfl (by kernel_rfl) (by kernel_rfl) (by kernel_rfl) (fun _ _ _ h => h) (Or.inl ⟨by rfl, ?hywr2⟩) hH0 ?rwr2
  case hywr2 => (intro w' hSw; clear hSw; go_simp; try with_reducible rfl)
  simp only [Act.put, List.setIfInBounds_toArray, List.set_cons_zero, List.set_cons_succ]
  refine' wpAnyH_take (i := 4) (oi := { dst := some 9, op := Op.fieldAddr 29 (Operand.tmp 2) 5, type := 0, pos := "size.go:115", after := #[], guard := none }) (v := _) rfl (by kernel_rfl) (by kernel_rfl) (by kernel_rfl) (fun _ _ _ h => h) (Or.inl ⟨by rfl, ?hywr4⟩) hH0 ?rwr4
  case hywr4 => (intro w' hSw; clear hSw; go_simp; try with_reducible rfl)
  simp only [Act.put, List.setIfInBounds_toArray, List.set_cons_zero, List.set_cons_succ]
  refine' wpAnyH_take (i := 5) (oi := { dst := some 10, op := Op.load 3 (Operand.tmp 9), type := 3, pos := "size.go:115", after := #[{ on := 4, ground := Ground.data }], guard := none }) (v := _) rfl (by kernel_rfl) (by kernel_rfl) (by kernel_rfl) (fun _ _ _ h => h) (Or.inl ⟨by rfl, ?hywr5⟩) hH0 ?rwr5
  case hywr5 => (intro w' hSw; obtain ⟨-, z0, z1, z2, z3, z4, z5, z6⟩ := hSw; go_simp; try with_reducible rfl)
  simp only [Act.put, List.setIfInBounds_toArray, List.set_cons_zero, List.set_cons_succ]
  refine wpAnyH_ready (rs := [3]) (by kernel_rfl) (by simp) ?_
  refine AllReadyH.cons (o := { dst := some 8, op := Op.call { callee := Callee.value (Operand.func 30), args := #[Operand.tmp 6, Operand.tmp 7], argTypes := #[29, 3] }, type := 3, pos := "size.go:115", after := #[{ on := 1, ground := Ground.data }, { on := 2, ground := Ground.data }], guard := none }) rfl (fun K hK => ?_) AllReadyH.nil
  refine step_call_want (vs := #[.agg #[.int .i64 c.b, .int .i64 c.p, .int .i64 c.c, .int .i64 c.s, .int .i64 c.m, .int .i64 c.w, .bool c.f], .int .i64 n]) (R := fun u wz => u = .int .i64 (rwI c n) ∧ Keep (fun _ => False) v1.drew wz) (by rfl) 30 #[Operand.tmp 6, Operand.tmp 7] #[29, 3] rfl (by simp [Act.eval]) call30 (post_of (hrw _)) ?_
  rintro _ v2 ⟨rfl, k2⟩
  refine hK.out _ _ (⟨trivial, ((D1.keep k2 (fun e => e)) 0 (by omega)).1, ((D1.keep k2 (fun e => e)) 1 (by omega)).1, ((D1.keep k2 (fun e => e)) 2 (by omega)).1, ((D1.keep k2 (fun e => e)) 3 (by omega)).1, ((D1.keep k2 (fun e => e)) 4 (by omega)).1, ((D1.keep k2 (fun e => e)) 5 (by omega)).1, ((D1.keep k2 (fun e => e)) 6 (by omega)).1⟩) (fun hH1 => ?_)
  clear hK K hH0
  simp only [Act.put, List.setIfInBounds_toArray, List.set_cons_zero, List.set_cons_succ]
  refine' wpAnyH_take (i := 6) (oi := { dst := some 11, op := Op.binOp BinOp.mul 3 (Operand.tmp 8) (Operand.tmp 10) 3, type := 3, pos := "size.go:115", after := #[{ on := 3, ground := Ground.data }, { on := 5, ground := Ground.data }], guard := none }) (v := _) rfl (by kernel_rfl) (by kernel_rfl) (by kernel_rfl) (fun _ _ _ h => h) (Or.inl ⟨by rfl, ?hywr6⟩) hH1 ?rwr6
  case hywr6 => (intro w' hSw; clear hSw; go_simp; try with_reducible rfl)
  simp only [Act.put, List.setIfInBounds_toArray, List.set_cons_zero, List.set_cons_succ]
  refine' wpAnyH_take (i := 7) (oi := { dst := some 12, op := Op.binOp BinOp.add 3 (Operand.tmp 5) (Operand.tmp 11) 3, type := 3, pos := "size.go:115", after := #[{ on := 0, ground := Ground.data }, { on := 6, ground := Ground.data }], guard := none }) (v := _) rfl (by kernel_rfl) (by kernel_rfl) (by kernel_rfl) (fun _ _ _ h => h) (Or.inl ⟨by rfl, ?hywr7⟩) hH1 ?rwr7
  case hywr7 => (intro w' hSw; clear hSw; go_simp; try with_reducible rfl)
  simp only [Act.put, List.setIfInBounds_toArray, List.set_cons_zero, List.set_cons_succ]
  refine' wpAnyH_take (i := 8) (oi := { dst := some 4, op := Op.assign (Operand.tmp 12), type := 3, pos := "size.go:115", after := #[{ on := 7, ground := Ground.data }, { on := 3, ground := Ground.chain }, { on := 0, ground := Ground.phase }, { on := 1, ground := Ground.phase }, { on := 2, ground := Ground.phase }, { on := 3, ground := Ground.phase }, { on := 4, ground := Ground.phase }, { on := 5, ground := Ground.phase }, { on := 6, ground := Ground.phase }, { on := 7, ground := Ground.phase }], guard := none }) (v := _) rfl (by kernel_rfl) (by kernel_rfl) (by kernel_rfl) (fun _ _ _ h => h) (Or.inl ⟨by rfl, ?hywr8⟩) hH1 ?rwr8
  case hywr8 => (intro w' hSw; clear hSw; go_simp; try with_reducible rfl)
  simp only [Act.put, List.setIfInBounds_toArray, List.set_cons_zero, List.set_cons_succ]
  refine wpAnyH_done (by kernel_rfl) ?_ _
  refine NoPanic.normal ?_
  have HK := K1.trans ((Keep.refl (fun _ => False) v1).drew.trans k2)
  go_wp2_with fail
  go_ret
  exact ⟨rfl, HK⟩
set_option maxRecDepth 100000 in
set_option maxHeartbeats 1000000 in
theorem records_any (w : World) {c : Cf} (hS : Span c) {n : Int} (h1 : 1 ≤ n) (h2 : n ≤ c.c) : Calls Try.prog 26 #[.agg #[.int .i64 c.b, .int .i64 c.p, .int .i64 c.c, .int .i64 c.s, .int .i64 c.m, .int .i64 c.w, .bool c.f], .int .i64 n] w fun e w' => e = .returned (.int .i64 (rcI c n)) ∧ Keep (fun _ => False) w w' := by
  have B1 : Blk (w.alloc (.cells #[.int .i64 c.b, .int .i64 c.p, .int .i64 c.c, .int .i64 c.s, .int .i64 c.m, .int .i64 c.w, .bool c.f] 29)) w.heap.size 7 (ccell c) := blk_cf w c
  have K1 : Keep (fun _ => False) w (w.alloc (.cells #[.int .i64 c.b, .int .i64 c.p, .int .i64 c.c, .int .i64 c.s, .int .i64 c.m, .int .i64 c.w, .bool c.f] 29)) := (Keep.refl _ _).alloc _
  have hrw := fun w => rewrites_any w hS h1 h2
  have hwr := fun w => written_any w hS h1 h2
  have b1 := rw_bd hS h1 h2
  have b2 := rww_bd hS h1 h2
  have b3 := un_bd hS h1 h2
  have b4 := rc_bd hS h1 h2
  have p1 := hS.p1
  have p2 := hS.p2
  have c2 := hS.c2
  have eR : rcI c n = 6 + rwI c n + 4 * upI (n + rwI c n * c.w) c.p := rfl
  have hu := fun w => same_keep (up_any (a := n + rwI c n * c.w) (b := c.p) (by omega) (by omega) (by omega) (by omega) w)
  have q1 := wrapI (x := 6 + rwI c n) (by omega) (by omega)
  have q4 := wrapI (x := 4 * upI (n + rwI c n * c.w) c.p) (by omega) (by omega)
  have q5 : IntKind.i64.wrap (6 + rwI c n + 4 * upI (n + rwI c n * c.w) c.p) = rcI c n := by rw [← eR]; exact wrapI (by omega) (by omega)
  obtain ⟨WR, hWR⟩ : ∃ x, x = n + rwI c n * c.w := ⟨_, rfl⟩
  rw [← hWR] at hwr hu q4 q5
  clear hWR eR b1 b2 b3 b4 p1 p2 c2 h1 h2 hS
  generalize upI WR c.p = UN at hu q4 q5
  go_enter Try.func26, Try.ntmps26
  go_upto_region 1 with fail
  generalize w.alloc (.cells #[.int .i64 c.b, .int .i64 c.p, .int .i64 c.c, .int .i64 c.s, .int .i64 c.m, .int .i64 c.w, .bool c.f] 29) = v1 at B1 K1 ⊢
  generalize w.heap.size = g at B1 ⊢
  have D1 := B1.drew
  refine wp_region_noPanic ?_
  refine wp_region_held_drew (S := fun w' => True ∧ w'.cell? ⟨g, 0, none⟩ = some (.int .i64 c.b) ∧ w'.cell? ⟨g, 1, none⟩ = some (.int .i64 c.p) ∧ w'.cell? ⟨g, 2, none⟩ = some (.int .i64 c.c) ∧ w'.cell? ⟨g, 3, none⟩ = some (.int .i64 c.s) ∧ w'.cell? ⟨g, 4, none⟩ = some (.int .i64 c.m) ∧ w'.cell? ⟨g, 5, none⟩ = some (.int .i64 c.w) ∧ w'.cell? ⟨g, 6, none⟩ = some (.bool c.f)) (by kernel_rfl) (⟨trivial, (D1 0 (by omega)).1, (D1 1 (by omega)).1, (D1 2 (by omega)).1, (D1 3 (by omega)).1, (D1 4 (by omega)).1, (D1 5 (by omega)).1, (D1 6 (by omega)).1⟩) (fun hH0 => ?_)
  refine' wpAnyH_take (i := 0) (oi := { dst := some 5, op := Op.load 29 (Operand.tmp 2), type := 29, pos := "size.go:117", after := #[], guard := none }) (v := _) rfl (by kernel_rfl) (by kernel_rfl) (by kernel_rfl) (fun _ _ _ h => h) (Or.inl ⟨by rfl, ?hyrc0⟩) hH0 ?rrc0
  case hyrc0 => (intro w' hSw; obtain ⟨-, z0, z1, z2, z3, z4, z5, z6⟩ := hSw; go_simp; try with_reducible rfl)
  simp only [Act.put, List.setIfInBounds_toArray, List.set_cons_zero, List.set_cons_succ]
  refine' wpAnyH_take (i := 1) (oi := { dst := some 6, op := Op.move (Operand.tmp 1), type := 3, pos := "size.go:117", after := #[], guard := none }) (v := _) rfl (by kernel_rfl) (by kernel_rfl) (by kernel_rfl) (fun _ _ _ h => h) (Or.inl ⟨by rfl, ?hyrc1⟩) hH0 ?rrc1
  case hyrc1 => (intro w' hSw; clear hSw; go_simp; try with_reducible rfl)
  simp only [Act.put, List.setIfInBounds_toArray, List.set_cons_zero, List.set_cons_succ]
  refine' wpAnyH_take (i := 4) (oi := { dst := some 9, op := Op.load 29 (Operand.tmp 2), type := 29, pos := "size.go:117", after := #[], guard := none }) (v := _) rfl (by kernel_rfl) (by kernel_rfl) (by kernel_rfl) (fun _ _ _ h => h) (Or.inl ⟨by rfl, ?hyrc4⟩) hH0 ?rrc4
  case hyrc4 => (intro w' hSw; obtain ⟨-, z0, z1, z2, z3, z4, z5, z6⟩ := hSw; go_simp; try with_reducible rfl)
  simp only [Act.put, List.setIfInBounds_toArray, List.set_cons_zero, List.set_cons_succ]
  refine' wpAnyH_take (i := 5) (oi := { dst := some 10, op := Op.move (Operand.tmp 1), type := 3, pos := "size.go:117", after := #[], guard := none }) (v := _) rfl (by kernel_rfl) (by kernel_rfl) (by kernel_rfl) (fun _ _ _ h => h) (Or.inl ⟨by rfl, ?hyrc5⟩) hH0 ?rrc5
  case hyrc5 => (intro w' hSw; clear hSw; go_simp; try with_reducible rfl)
  simp only [Act.put, List.setIfInBounds_toArray, List.set_cons_zero, List.set_cons_succ]
  refine' wpAnyH_take (i := 7) (oi := { dst := some 12, op := Op.fieldAddr 29 (Operand.tmp 2) 1, type := 0, pos := "size.go:117", after := #[], guard := none }) (v := _) rfl (by kernel_rfl) (by kernel_rfl) (by kernel_rfl) (fun _ _ _ h => h) (Or.inl ⟨by rfl, ?hyrc7⟩) hH0 ?rrc7
  case hyrc7 => (intro w' hSw; clear hSw; go_simp; try with_reducible rfl)
  simp only [Act.put, List.setIfInBounds_toArray, List.set_cons_zero, List.set_cons_succ]
  refine' wpAnyH_take (i := 8) (oi := { dst := some 13, op := Op.load 3 (Operand.tmp 12), type := 3, pos := "size.go:117", after := #[{ on := 7, ground := Ground.data }], guard := none }) (v := _) rfl (by kernel_rfl) (by kernel_rfl) (by kernel_rfl) (fun _ _ _ h => h) (Or.inl ⟨by rfl, ?hyrc8⟩) hH0 ?rrc8
  case hyrc8 => (intro w' hSw; obtain ⟨-, z0, z1, z2, z3, z4, z5, z6⟩ := hSw; go_simp; try with_reducible rfl)
  simp only [Act.put, List.setIfInBounds_toArray, List.set_cons_zero, List.set_cons_succ]
  refine wpAnyH_ready (rs := [2]) (by kernel_rfl) (by simp) ?_
  refine AllReadyH.cons (o := { dst := some 7, op := Op.call { callee := Callee.value (Operand.func 30), args := #[Operand.tmp 5, Operand.tmp 6], argTypes := #[29, 3] }, type := 3, pos := "size.go:117", after := #[{ on := 0, ground := Ground.data }, { on := 1, ground := Ground.data }], guard := none }) rfl (fun K hK => ?_) AllReadyH.nil
  refine step_call_want (vs := #[.agg #[.int .i64 c.b, .int .i64 c.p, .int .i64 c.c, .int .i64 c.s, .int .i64 c.m, .int .i64 c.w, .bool c.f], .int .i64 n]) (R := fun u wz => u = .int .i64 (rwI c n) ∧ Keep (fun _ => False) v1.drew wz) (by rfl) 30 #[Operand.tmp 5, Operand.tmp 6] #[29, 3] rfl (by simp [Act.eval]) call30 (post_of (hrw _)) ?_
  rintro _ v2 ⟨rfl, k2⟩
  refine hK.out _ _ (⟨trivial, ((D1.keep k2 (fun e => e)) 0 (by omega)).1, ((D1.keep k2 (fun e => e)) 1 (by omega)).1, ((D1.keep k2 (fun e => e)) 2 (by omega)).1, ((D1.keep k2 (fun e => e)) 3 (by omega)).1, ((D1.keep k2 (fun e => e)) 4 (by omega)).1, ((D1.keep k2 (fun e => e)) 5 (by omega)).1, ((D1.keep k2 (fun e => e)) 6 (by omega)).1⟩) (fun hH1 => ?_)
  clear hK K hH0
  simp only [Act.put, List.setIfInBounds_toArray, List.set_cons_zero, List.set_cons_succ]
  refine' wpAnyH_take (i := 3) (oi := { dst := some 8, op := Op.binOp BinOp.add 3 (Operand.const (Value.int IntKind.i64 6)) (Operand.tmp 7) 3, type := 3, pos := "size.go:117", after := #[{ on := 2, ground := Ground.data }], guard := none }) (v := _) rfl (by kernel_rfl) (by kernel_rfl) (by kernel_rfl) (fun _ _ _ h => h) (Or.inl ⟨by rfl, ?hyrc3⟩) hH1 ?rrc3
  case hyrc3 => (intro w' hSw; clear hSw; go_simp; try with_reducible rfl)
  simp only [Act.put, List.setIfInBounds_toArray, List.set_cons_zero, List.set_cons_succ]
  refine wpAnyH_ready (rs := [6]) (by kernel_rfl) (by simp) ?_
  refine AllReadyH.cons (o := { dst := some 11, op := Op.call { callee := Callee.value (Operand.func 25), args := #[Operand.tmp 9, Operand.tmp 10], argTypes := #[29, 3] }, type := 3, pos := "size.go:117", after := #[{ on := 4, ground := Ground.data }, { on := 5, ground := Ground.data }, { on := 2, ground := Ground.chain }], guard := none }) rfl (fun K hK => ?_) AllReadyH.nil
  refine step_call_want (vs := #[.agg #[.int .i64 c.b, .int .i64 c.p, .int .i64 c.c, .int .i64 c.s, .int .i64 c.m, .int .i64 c.w, .bool c.f], .int .i64 n]) (R := fun u wz => u = .int .i64 WR ∧ Keep (fun _ => False) v2 wz) (by rfl) 25 #[Operand.tmp 9, Operand.tmp 10] #[29, 3] rfl (by simp [Act.eval]) callw25 (post_of (hwr _)) ?_
  rintro _ v3 ⟨rfl, k3⟩
  refine hK.out _ _ (⟨trivial, (((D1.keep k2 (fun e => e)).keep k3 (fun e => e)) 0 (by omega)).1, (((D1.keep k2 (fun e => e)).keep k3 (fun e => e)) 1 (by omega)).1, (((D1.keep k2 (fun e => e)).keep k3 (fun e => e)) 2 (by omega)).1, (((D1.keep k2 (fun e => e)).keep k3 (fun e => e)) 3 (by omega)).1, (((D1.keep k2 (fun e => e)).keep k3 (fun e => e)) 4 (by omega)).1, (((D1.keep k2 (fun e => e)).keep k3 (fun e => e)) 5 (by omega)).1, (((D1.keep k2 (fun e => e)).keep k3 (fun e => e)) 6 (by omega)).1⟩) (fun hH2 => ?_)
  clear hK K hH1
  simp only [Act.put, List.setIfInBounds_toArray, List.set_cons_zero, List.set_cons_succ]
  refine wpAnyH_ready (rs := [9]) (by kernel_rfl) (by simp) ?_
  refine AllReadyH.cons (o := { dst := some 14, op := Op.call { callee := Callee.value (Operand.func 33), args := #[Operand.tmp 11, Operand.tmp 13], argTypes := #[3, 3] }, type := 3, pos := "size.go:117", after := #[{ on := 6, ground := Ground.data }, { on := 8, ground := Ground.data }, { on := 6, ground := Ground.chain }], guard := none }) rfl (fun K hK => ?_) AllReadyH.nil
  refine step_call_want (vs := #[.int .i64 WR, .int .i64 c.p]) (R := fun u wz => u = .int .i64 UN ∧ Keep (fun _ => False) v3 wz) (by rfl) 33 #[Operand.tmp 11, Operand.tmp 13] #[3, 3] rfl (by simp [Act.eval]) call33 (post_of (hu _)) ?_
  rintro _ v4 ⟨rfl, k4⟩
  refine hK.out _ _ (⟨trivial, ((((D1.keep k2 (fun e => e)).keep k3 (fun e => e)).keep k4 (fun e => e)) 0 (by omega)).1, ((((D1.keep k2 (fun e => e)).keep k3 (fun e => e)).keep k4 (fun e => e)) 1 (by omega)).1, ((((D1.keep k2 (fun e => e)).keep k3 (fun e => e)).keep k4 (fun e => e)) 2 (by omega)).1, ((((D1.keep k2 (fun e => e)).keep k3 (fun e => e)).keep k4 (fun e => e)) 3 (by omega)).1, ((((D1.keep k2 (fun e => e)).keep k3 (fun e => e)).keep k4 (fun e => e)) 4 (by omega)).1, ((((D1.keep k2 (fun e => e)).keep k3 (fun e => e)).keep k4 (fun e => e)) 5 (by omega)).1, ((((D1.keep k2 (fun e => e)).keep k3 (fun e => e)).keep k4 (fun e => e)) 6 (by omega)).1⟩) (fun hH3 => ?_)
  clear hK K hH2
  simp only [Act.put, List.setIfInBounds_toArray, List.set_cons_zero, List.set_cons_succ]
  refine' wpAnyH_take (i := 10) (oi := { dst := some 15, op := Op.binOp BinOp.mul 3 (Operand.const (Value.int IntKind.i64 4)) (Operand.tmp 14) 3, type := 3, pos := "size.go:117", after := #[{ on := 9, ground := Ground.data }], guard := none }) (v := _) rfl (by kernel_rfl) (by kernel_rfl) (by kernel_rfl) (fun _ _ _ h => h) (Or.inl ⟨by rfl, ?hyrc10⟩) hH3 ?rrc10
  case hyrc10 => (intro w' hSw; clear hSw; go_simp; try with_reducible rfl)
  simp only [Act.put, List.setIfInBounds_toArray, List.set_cons_zero, List.set_cons_succ]
  refine' wpAnyH_take (i := 11) (oi := { dst := some 16, op := Op.binOp BinOp.add 3 (Operand.tmp 8) (Operand.tmp 15) 3, type := 3, pos := "size.go:117", after := #[{ on := 3, ground := Ground.data }, { on := 10, ground := Ground.data }], guard := none }) (v := _) rfl (by kernel_rfl) (by kernel_rfl) (by kernel_rfl) (fun _ _ _ h => h) (Or.inl ⟨by rfl, ?hyrc11⟩) hH3 ?rrc11
  case hyrc11 => (intro w' hSw; clear hSw; go_simp; try with_reducible rfl)
  simp only [Act.put, List.setIfInBounds_toArray, List.set_cons_zero, List.set_cons_succ]
  refine' wpAnyH_take (i := 12) (oi := { dst := some 4, op := Op.assign (Operand.tmp 16), type := 3, pos := "size.go:117", after := #[{ on := 11, ground := Ground.data }, { on := 9, ground := Ground.chain }, { on := 0, ground := Ground.phase }, { on := 1, ground := Ground.phase }, { on := 2, ground := Ground.phase }, { on := 3, ground := Ground.phase }, { on := 4, ground := Ground.phase }, { on := 5, ground := Ground.phase }, { on := 6, ground := Ground.phase }, { on := 7, ground := Ground.phase }, { on := 8, ground := Ground.phase }, { on := 9, ground := Ground.phase }, { on := 10, ground := Ground.phase }, { on := 11, ground := Ground.phase }], guard := none }) (v := _) rfl (by kernel_rfl) (by kernel_rfl) (by kernel_rfl) (fun _ _ _ h => h) (Or.inl ⟨by rfl, ?hyrc12⟩) hH3 ?rrc12
  case hyrc12 => (intro w' hSw; clear hSw; go_simp; try with_reducible rfl)
  simp only [Act.put, List.setIfInBounds_toArray, List.set_cons_zero, List.set_cons_succ]
  refine wpAnyH_done (by kernel_rfl) ?_ _
  refine NoPanic.normal ?_
  have HK := K1.trans ((((Keep.refl (fun _ => False) v1).drew.trans k2).trans k3).trans k4)
  go_wp2_with fail
  go_ret
  exact ⟨rfl, HK⟩
set_option maxRecDepth 100000 in
set_option maxHeartbeats 1000000 in
theorem rw_yes (w : World) {c : Cf} {n : Int} (hg : goodB c = true) (h1 : 1 ≤ n) (h2 : n ≤ c.c) : Calls Try.prog 17 #[.agg #[.int .i64 c.b, .int .i64 c.p, .int .i64 c.c, .int .i64 c.s, .int .i64 c.m, .int .i64 c.w, .bool c.f], .int .i64 n] w fun e w' => e = .returned (.tuple #[.int .i64 (rwI c n), .int .i64 0]) ∧ Keep (fun _ => False) w w' := by
  have B1 : Blk (w.alloc (.cells #[.int .i64 c.b, .int .i64 c.p, .int .i64 c.c, .int .i64 c.s, .int .i64 c.m, .int .i64 c.w, .bool c.f] 29)) w.heap.size 7 (ccell c) := blk_cf w c
  have K1 : Keep (fun _ => False) w (w.alloc (.cells #[.int .i64 c.b, .int .i64 c.p, .int .i64 c.c, .int .i64 c.s, .int .i64 c.m, .int .i64 c.w, .bool c.f] 29)) := (Keep.refl _ _).alloc _
  have hS := (good_iff.1 hg).1
  have hca := fun w => callable_yes w hg h1 h2
  have hrw := fun w => rewrites_any w hS h1 h2
  clear hg h1 h2 hS
  go_enter Try.func17, Try.ntmps17
  go_upto_region 1 with fail
  generalize w.alloc (.cells #[.int .i64 c.b, .int .i64 c.p, .int .i64 c.c, .int .i64 c.s, .int .i64 c.m, .int .i64 c.w, .bool c.f] 29) = v1 at B1 K1 ⊢
  generalize w.heap.size = g at B1 ⊢
  have cc0 : v1.cell? ⟨g, 0, none⟩ = some (.int .i64 c.b) := (B1 0 (by omega)).1
  have cc1 : v1.cell? ⟨g, 1, none⟩ = some (.int .i64 c.p) := (B1 1 (by omega)).1
  have cc2 : v1.cell? ⟨g, 2, none⟩ = some (.int .i64 c.c) := (B1 2 (by omega)).1
  have cc3 : v1.cell? ⟨g, 3, none⟩ = some (.int .i64 c.s) := (B1 3 (by omega)).1
  have cc4 : v1.cell? ⟨g, 4, none⟩ = some (.int .i64 c.m) := (B1 4 (by omega)).1
  have cc5 : v1.cell? ⟨g, 5, none⟩ = some (.int .i64 c.w) := (B1 5 (by omega)).1
  have cc6 : v1.cell? ⟨g, 6, none⟩ = some (.bool c.f) := (B1 6 (by omega)).1
  go_wp2_with fail
  refine (hca _).mono ?_
  rintro e v2 ⟨rfl, k2⟩
  have B2 := B1.keep k2 (fun e => e)
  clear hca B1
  clear cc0 cc1 cc2 cc3 cc4 cc5 cc6
  have cc0 : v2.cell? ⟨g, 0, none⟩ = some (.int .i64 c.b) := (B2 0 (by omega)).1
  have cc1 : v2.cell? ⟨g, 1, none⟩ = some (.int .i64 c.p) := (B2 1 (by omega)).1
  have cc2 : v2.cell? ⟨g, 2, none⟩ = some (.int .i64 c.c) := (B2 2 (by omega)).1
  have cc3 : v2.cell? ⟨g, 3, none⟩ = some (.int .i64 c.s) := (B2 3 (by omega)).1
  have cc4 : v2.cell? ⟨g, 4, none⟩ = some (.int .i64 c.m) := (B2 4 (by omega)).1
  have cc5 : v2.cell? ⟨g, 5, none⟩ = some (.int .i64 c.w) := (B2 5 (by omega)).1
  have cc6 : v2.cell? ⟨g, 6, none⟩ = some (.bool c.f) := (B2 6 (by omega)).1
  go_wp2_with fail
  refine (hrw _).mono ?_
  rintro e v3 ⟨rfl, k3⟩
  have HK := (K1.trans k2).trans k3
  clear hrw B2 K1
  clear cc0 cc1 cc2 cc3 cc4 cc5 cc6
  go_wp2_with fail
  go_ret2
  exact ⟨rfl, HK⟩
set_option maxRecDepth 100000 in
set_option maxHeartbeats 1000000 in
theorem rw_no (w : World) {c : Cf} {n : Int} (h : ¬ (goodB c = true ∧ 1 ≤ n ∧ n ≤ c.c)) : Calls Try.prog 17 #[.agg #[.int .i64 c.b, .int .i64 c.p, .int .i64 c.c, .int .i64 c.s, .int .i64 c.m, .int .i64 c.w, .bool c.f], .int .i64 n] w fun e w' => e = .returned (.tuple #[.int .i64 0, .int .i64 1]) ∧ Keep (fun _ => False) w w' := by
  have B1 : Blk (w.alloc (.cells #[.int .i64 c.b, .int .i64 c.p, .int .i64 c.c, .int .i64 c.s, .int .i64 c.m, .int .i64 c.w, .bool c.f] 29)) w.heap.size 7 (ccell c) := blk_cf w c
  have K1 : Keep (fun _ => False) w (w.alloc (.cells #[.int .i64 c.b, .int .i64 c.p, .int .i64 c.c, .int .i64 c.s, .int .i64 c.m, .int .i64 c.w, .bool c.f] 29)) := (Keep.refl _ _).alloc _
  have hca := fun w => callable_no w h
  clear h
  go_enter Try.func17, Try.ntmps17
  go_upto_region 1 with fail
  generalize w.alloc (.cells #[.int .i64 c.b, .int .i64 c.p, .int .i64 c.c, .int .i64 c.s, .int .i64 c.m, .int .i64 c.w, .bool c.f] 29) = v1 at B1 K1 ⊢
  generalize w.heap.size = g at B1 ⊢
  have cc0 : v1.cell? ⟨g, 0, none⟩ = some (.int .i64 c.b) := (B1 0 (by omega)).1
  have cc1 : v1.cell? ⟨g, 1, none⟩ = some (.int .i64 c.p) := (B1 1 (by omega)).1
  have cc2 : v1.cell? ⟨g, 2, none⟩ = some (.int .i64 c.c) := (B1 2 (by omega)).1
  have cc3 : v1.cell? ⟨g, 3, none⟩ = some (.int .i64 c.s) := (B1 3 (by omega)).1
  have cc4 : v1.cell? ⟨g, 4, none⟩ = some (.int .i64 c.m) := (B1 4 (by omega)).1
  have cc5 : v1.cell? ⟨g, 5, none⟩ = some (.int .i64 c.w) := (B1 5 (by omega)).1
  have cc6 : v1.cell? ⟨g, 6, none⟩ = some (.bool c.f) := (B1 6 (by omega)).1
  go_wp2_with fail
  refine (hca _).mono ?_
  rintro e v2 ⟨rfl, k2⟩
  have HK := K1.trans k2
  clear hca B1
  clear cc0 cc1 cc2 cc3 cc4 cc5 cc6
  go_wp2_with fail
  go_ret2
  exact ⟨rfl, HK⟩
theorem rw_ok : RwOk := ⟨fun w _ _ h h1 h2 => rw_yes w h h1 h2, fun w _ _ _ _ h => rw_no w h⟩
set_option maxRecDepth 100000 in
set_option maxHeartbeats 2000000 in
theorem cp_no1 (w : World) {c : Cf} {n f : Int} (h : ¬ (goodB c = true ∧ 1 ≤ n ∧ n ≤ c.c)) : Calls Try.prog 11 #[.agg #[.int .i64 c.b, .int .i64 c.p, .int .i64 c.c, .int .i64 c.s, .int .i64 c.m, .int .i64 c.w, .bool c.f], .int .i64 n, .int .i64 f] w fun e w' => e = .returned (.tuple #[.int .i64 0, .int .i64 1]) ∧ Keep (fun _ => False) w w' := by
  have B1 : Blk (w.alloc (.cells #[.int .i64 c.b, .int .i64 c.p, .int .i64 c.c, .int .i64 c.s, .int .i64 c.m, .int .i64 c.w, .bool c.f] 29)) w.heap.size 7 (ccell c) := blk_cf w c
  have K1 : Keep (fun _ => False) w (w.alloc (.cells #[.int .i64 c.b, .int .i64 c.p, .int .i64 c.c, .int .i64 c.s, .int .i64 c.m, .int .i64 c.w, .bool c.f] 29)) := (Keep.refl _ _).alloc _
  have hca := fun w => callable_no w h
  clear h
  go_enter Try.func11, Try.ntmps11
  go_upto_region 1 with fail
  generalize w.alloc (.cells #[.int .i64 c.b, .int .i64 c.p, .int .i64 c.c, .int .i64 c.s, .int .i64 c.m, .int .i64 c.w, .bool c.f] 29) = v1 at B1 K1 ⊢
  generalize w.heap.size = g at B1 ⊢
  have cc0 : v1.cell? ⟨g, 0, none⟩ = some (.int .i64 c.b) := (B1 0 (by omega)).1
  have cc1 : v1.cell? ⟨g, 1, none⟩ = some (.int .i64 c.p) := (B1 1 (by omega)).1
  have cc2 : v1.cell? ⟨g, 2, none⟩ = some (.int .i64 c.c) := (B1 2 (by omega)).1
  have cc3 : v1.cell? ⟨g, 3, none⟩ = some (.int .i64 c.s) := (B1 3 (by omega)).1
  have cc4 : v1.cell? ⟨g, 4, none⟩ = some (.int .i64 c.m) := (B1 4 (by omega)).1
  have cc5 : v1.cell? ⟨g, 5, none⟩ = some (.int .i64 c.w) := (B1 5 (by omega)).1
  have cc6 : v1.cell? ⟨g, 6, none⟩ = some (.bool c.f) := (B1 6 (by omega)).1
  go_wp2_with fail
  refine (hca _).mono ?_
  rintro e v2 ⟨rfl, k2⟩
  have HK := K1.trans k2
  clear hca B1
  clear cc0 cc1 cc2 cc3 cc4 cc5 cc6
  go_wp2_with fail
  go_ret2
  exact ⟨rfl, HK⟩
set_option maxRecDepth 100000 in
set_option maxHeartbeats 2000000 in
theorem cp_no2 (w : World) {c : Cf} {n f : Int} (hg : goodB c = true) (h1 : 1 ≤ n) (h2 : n ≤ c.c) (h : ¬ (0 ≤ f ∧ f ≤ 1000)) : Calls Try.prog 11 #[.agg #[.int .i64 c.b, .int .i64 c.p, .int .i64 c.c, .int .i64 c.s, .int .i64 c.m, .int .i64 c.w, .bool c.f], .int .i64 n, .int .i64 f] w fun e w' => e = .returned (.tuple #[.int .i64 0, .int .i64 1]) ∧ Keep (fun _ => False) w w' := by
  have B1 : Blk (w.alloc (.cells #[.int .i64 c.b, .int .i64 c.p, .int .i64 c.c, .int .i64 c.s, .int .i64 c.m, .int .i64 c.w, .bool c.f] 29)) w.heap.size 7 (ccell c) := blk_cf w c
  have K1 : Keep (fun _ => False) w (w.alloc (.cells #[.int .i64 c.b, .int .i64 c.p, .int .i64 c.c, .int .i64 c.s, .int .i64 c.m, .int .i64 c.w, .bool c.f] 29)) := (Keep.refl _ _).alloc _
  have hca := fun w => callable_yes w hg h1 h2
  have hwi := fun w => within_no (v := f) (a := 0) (b := 1000) h w
  clear h hg h1 h2
  go_enter Try.func11, Try.ntmps11
  go_upto_region 1 with fail
  generalize w.alloc (.cells #[.int .i64 c.b, .int .i64 c.p, .int .i64 c.c, .int .i64 c.s, .int .i64 c.m, .int .i64 c.w, .bool c.f] 29) = v1 at B1 K1 ⊢
  generalize w.heap.size = g at B1 ⊢
  have cc0 : v1.cell? ⟨g, 0, none⟩ = some (.int .i64 c.b) := (B1 0 (by omega)).1
  have cc1 : v1.cell? ⟨g, 1, none⟩ = some (.int .i64 c.p) := (B1 1 (by omega)).1
  have cc2 : v1.cell? ⟨g, 2, none⟩ = some (.int .i64 c.c) := (B1 2 (by omega)).1
  have cc3 : v1.cell? ⟨g, 3, none⟩ = some (.int .i64 c.s) := (B1 3 (by omega)).1
  have cc4 : v1.cell? ⟨g, 4, none⟩ = some (.int .i64 c.m) := (B1 4 (by omega)).1
  have cc5 : v1.cell? ⟨g, 5, none⟩ = some (.int .i64 c.w) := (B1 5 (by omega)).1
  have cc6 : v1.cell? ⟨g, 6, none⟩ = some (.bool c.f) := (B1 6 (by omega)).1
  go_wp2_with fail
  refine (hca _).mono ?_
  rintro e v2 ⟨rfl, k2⟩
  have HK := K1.trans k2
  clear hca B1
  clear cc0 cc1 cc2 cc3 cc4 cc5 cc6
  go_wp2_with fail
  refine (hwi _).mono ?_
  rintro e v3 ⟨rfl, e0⟩
  have e0 := e0.symm
  subst e0
  clear hwi
  go_wp2_with fail
  go_ret2
  exact ⟨rfl, HK⟩
set_option maxRecDepth 100000 in
set_option maxHeartbeats 2000000 in
theorem cp_yes (w : World) {c : Cf} {n f : Int} (hg : goodB c = true) (h1 : 1 ≤ n) (h2 : n ≤ c.c) (h3 : 0 ≤ f) (h4 : f ≤ 1000) : Calls Try.prog 11 #[.agg #[.int .i64 c.b, .int .i64 c.p, .int .i64 c.c, .int .i64 c.s, .int .i64 c.m, .int .i64 c.w, .bool c.f], .int .i64 n, .int .i64 f] w fun e w' => e = .returned (.tuple #[.int .i64 (cpI c n f), .int .i64 0]) ∧ Keep (fun _ => False) w w' := by
  have B1 : Blk (w.alloc (.cells #[.int .i64 c.b, .int .i64 c.p, .int .i64 c.c, .int .i64 c.s, .int .i64 c.m, .int .i64 c.w, .bool c.f] 29)) w.heap.size 7 (ccell c) := blk_cf w c
  have K1 : Keep (fun _ => False) w (w.alloc (.cells #[.int .i64 c.b, .int .i64 c.p, .int .i64 c.c, .int .i64 c.s, .int .i64 c.m, .int .i64 c.w, .bool c.f] 29)) := (Keep.refl _ _).alloc _
  have hS := (good_iff.1 hg).1
  have hca := fun w => callable_yes w hg h1 h2
  have hwi := fun w => within_yes (v := f) (a := 0) (b := 1000) h3 h4 w
  have hsz := fun w => sizes_any w hS
  have hwr := fun w => written_any w hS h1 h2
  have hrc := fun w => records_any w hS h1 h2
  have b1 := rw_bd hS h1 h2
  have b2 := rww_bd hS h1 h2
  have b4 := rc_bd hS h1 h2
  have b5 := rcp_bd hS h1 h2
  have b6 := fp_bd hS h3 h4
  have b7 := sp_bd hS
  have b8 := cp_bd hS h1 h2 h3 h4
  have b9 := rp_bd hS
  have p1 := hS.p1
  have p2 := hS.p2
  have c2 := hS.c2
  have eC : cpI c n f = 4 * (n + rwI c n * c.w + 2 * c.p) + 2 * rcI c n * rpI c + 2 * spI c + 4 * (1 + f) * c.p := rfl
  have q6 := wrapI (x := 2 * c.p) (by omega) (by omega)
  have q7 := wrapI (x := n + rwI c n * c.w + 2 * c.p) (by omega) (by omega)
  have q8 := wrapI (x := 4 * (n + rwI c n * c.w + 2 * c.p)) (by omega) (by omega)
  have q9 := wrapI (x := 2 * rcI c n) (by omega) (by omega)
  have q10 := wrapI (x := 2 * rcI c n * rpI c) (by omega) (by omega)
  have q11 := wrapI (x := 4 * (n + rwI c n * c.w + 2 * c.p) + 2 * rcI c n * rpI c) (by omega) (by omega)
  have q12 := wrapI (x := 2 * spI c) (by omega) (by omega)
  have q13 := wrapI (x := 4 * (n + rwI c n * c.w + 2 * c.p) + 2 * rcI c n * rpI c + 2 * spI c) (by omega) (by omega)
  have q14 := wrapI (x := 1 + f) (by omega) (by omega)
  have q15 := wrapI (x := 4 * (1 + f)) (by omega) (by omega)
  have q16 := wrapI (x := 4 * (1 + f) * c.p) (by omega) (by omega)
  have q17 : IntKind.i64.wrap (4 * (n + rwI c n * c.w + 2 * c.p) + 2 * rcI c n * rpI c + 2 * spI c + 4 * (1 + f) * c.p) = cpI c n f := by rw [← eC]; exact wrapI (by omega) (by omega)
  obtain ⟨WR, hWR⟩ : ∃ x, x = n + rwI c n * c.w := ⟨_, rfl⟩
  obtain ⟨RR, hRR⟩ : ∃ x, x = 2 * rcI c n * rpI c := ⟨_, rfl⟩
  obtain ⟨FF, hFF⟩ : ∃ x, x = 4 * (1 + f) * c.p := ⟨_, rfl⟩
  rw [← hWR] at hwr q7 q8 q11 q13 q17
  rw [← hRR] at q11 q13 q17
  rw [← hFF] at q17
  replace q10 : IntKind.i64.wrap (2 * rcI c n * rpI c) = RR := by rw [hRR]; exact q10
  replace q16 : IntKind.i64.wrap (4 * (1 + f) * c.p) = FF := by rw [hFF]; exact q16
  clear hWR hRR hFF eC b1 b2 b4 b5 b6 b7 b8 b9 p1 p2 c2 h1 h2 h3 h4 hS hg
  go_enter Try.func11, Try.ntmps11
  go_upto_region 1 with fail
  generalize w.alloc (.cells #[.int .i64 c.b, .int .i64 c.p, .int .i64 c.c, .int .i64 c.s, .int .i64 c.m, .int .i64 c.w, .bool c.f] 29) = v1 at B1 K1 ⊢
  generalize w.heap.size = g at B1 ⊢
  have cc0 : v1.cell? ⟨g, 0, none⟩ = some (.int .i64 c.b) := (B1 0 (by omega)).1
  have cc1 : v1.cell? ⟨g, 1, none⟩ = some (.int .i64 c.p) := (B1 1 (by omega)).1
  have cc2 : v1.cell? ⟨g, 2, none⟩ = some (.int .i64 c.c) := (B1 2 (by omega)).1
  have cc3 : v1.cell? ⟨g, 3, none⟩ = some (.int .i64 c.s) := (B1 3 (by omega)).1
  have cc4 : v1.cell? ⟨g, 4, none⟩ = some (.int .i64 c.m) := (B1 4 (by omega)).1
  have cc5 : v1.cell? ⟨g, 5, none⟩ = some (.int .i64 c.w) := (B1 5 (by omega)).1
  have cc6 : v1.cell? ⟨g, 6, none⟩ = some (.bool c.f) := (B1 6 (by omega)).1
  go_wp2_with fail
  refine (hca _).mono ?_
  rintro e v2 ⟨rfl, k2⟩
  have B2 := B1.keep k2 (fun e => e)
  clear hca B1
  clear cc0 cc1 cc2 cc3 cc4 cc5 cc6
  have cc0 : v2.cell? ⟨g, 0, none⟩ = some (.int .i64 c.b) := (B2 0 (by omega)).1
  have cc1 : v2.cell? ⟨g, 1, none⟩ = some (.int .i64 c.p) := (B2 1 (by omega)).1
  have cc2 : v2.cell? ⟨g, 2, none⟩ = some (.int .i64 c.c) := (B2 2 (by omega)).1
  have cc3 : v2.cell? ⟨g, 3, none⟩ = some (.int .i64 c.s) := (B2 3 (by omega)).1
  have cc4 : v2.cell? ⟨g, 4, none⟩ = some (.int .i64 c.m) := (B2 4 (by omega)).1
  have cc5 : v2.cell? ⟨g, 5, none⟩ = some (.int .i64 c.w) := (B2 5 (by omega)).1
  have cc6 : v2.cell? ⟨g, 6, none⟩ = some (.bool c.f) := (B2 6 (by omega)).1
  go_wp2_with fail
  refine (hwi _).mono ?_
  rintro e v3 ⟨rfl, e0⟩
  have e0 := e0.symm
  subst e0
  clear hwi
  go_wp2_with fail
  refine (hsz _).mono ?_
  rintro e v3 ⟨rfl, k3⟩
  have B3 := (B2.keep k3 (fun e => e)).alloc (.cells #[.int .i64 (rbI c), .int .i64 (spI c), .int .i64 (omI c), .int .i64 (obI c), .int .i64 (rpI c), .int .i64 (lpI c), .int .i64 (ebI c), .int .i64 (mbI c), .int .i64 (wnI c), .int .i64 (slI c), .int .i64 (mrI c)] 24)
  have K3 := ((K1.trans k2).trans k3).alloc (.cells #[.int .i64 (rbI c), .int .i64 (spI c), .int .i64 (omI c), .int .i64 (obI c), .int .i64 (rpI c), .int .i64 (lpI c), .int .i64 (ebI c), .int .i64 (mbI c), .int .i64 (wnI c), .int .i64 (slI c), .int .i64 (mrI c)] 24)
  have Z3 : Blk (v3.alloc (.cells #[.int .i64 (rbI c), .int .i64 (spI c), .int .i64 (omI c), .int .i64 (obI c), .int .i64 (rpI c), .int .i64 (lpI c), .int .i64 (ebI c), .int .i64 (mbI c), .int .i64 (wnI c), .int .i64 (slI c), .int .i64 (mrI c)] 24)) v3.heap.size 11 (scell [rbI c, spI c, omI c, obI c, rpI c, lpI c, ebI c, mbI c, wnI c, slI c, mrI c]) := blk_alloc v3 _ 24 11 _ (fun i hi => by
    have : i = 0 ∨ i = 1 ∨ i = 2 ∨ i = 3 ∨ i = 4 ∨ i = 5 ∨ i = 6 ∨ i = 7 ∨ i = 8 ∨ i = 9 ∨ i = 10 := by omega
    rcases this with rfl | rfl | rfl | rfl | rfl | rfl | rfl | rfl | rfl | rfl | rfl <;> rfl)
  clear hsz B2
  clear cc0 cc1 cc2 cc3 cc4 cc5 cc6
  go_upto_region 4 with fail
  generalize v3.alloc (.cells #[.int .i64 (rbI c), .int .i64 (spI c), .int .i64 (omI c), .int .i64 (obI c), .int .i64 (rpI c), .int .i64 (lpI c), .int .i64 (ebI c), .int .i64 (mbI c), .int .i64 (wnI c), .int .i64 (slI c), .int .i64 (mrI c)] 24) = v4 at B3 K3 Z3 ⊢
  generalize v3.heap.size = h at Z3 ⊢
  have D1 := B3.drew
  have E1 := Z3.drew
  refine wp_region_noPanic ?_
  refine wp_region_held_drew (S := fun w' => True ∧ w'.cell? ⟨g, 0, none⟩ = some (.int .i64 c.b) ∧ w'.cell? ⟨g, 1, none⟩ = some (.int .i64 c.p) ∧ w'.cell? ⟨g, 2, none⟩ = some (.int .i64 c.c) ∧ w'.cell? ⟨g, 3, none⟩ = some (.int .i64 c.s) ∧ w'.cell? ⟨g, 4, none⟩ = some (.int .i64 c.m) ∧ w'.cell? ⟨g, 5, none⟩ = some (.int .i64 c.w) ∧ w'.cell? ⟨g, 6, none⟩ = some (.bool c.f) ∧ w'.cell? ⟨h, 1, none⟩ = some (.int .i64 (spI c)) ∧ w'.cell? ⟨h, 4, none⟩ = some (.int .i64 (rpI c))) (by kernel_rfl) (⟨trivial, (D1 0 (by omega)).1, (D1 1 (by omega)).1, (D1 2 (by omega)).1, (D1 3 (by omega)).1, (D1 4 (by omega)).1, (D1 5 (by omega)).1, (D1 6 (by omega)).1, (E1 1 (by omega)).1, (E1 4 (by omega)).1⟩) (fun hH0 => ?_)
  refine' wpAnyH_take (i := 0) (oi := { dst := some 20, op := Op.load 29 (Operand.tmp 3), type := 29, pos := "size.go:55", after := #[], guard := none }) (v := _) rfl (by kernel_rfl) (by kernel_rfl) (by kernel_rfl) (fun _ _ _ h => h) (Or.inl ⟨by rfl, ?hycp0⟩) hH0 ?rcp0
  case hycp0 => (intro w' hSw; obtain ⟨-, z0, z1, z2, z3, z4, z5, z6, z7, z8⟩ := hSw; go_simp; try with_reducible rfl)
  simp only [Act.put, List.setIfInBounds_toArray, List.set_cons_zero, List.set_cons_succ]
  refine' wpAnyH_take (i := 1) (oi := { dst := some 21, op := Op.move (Operand.tmp 1), type := 3, pos := "size.go:55", after := #[], guard := none }) (v := _) rfl (by kernel_rfl) (by kernel_rfl) (by kernel_rfl) (fun _ _ _ h => h) (Or.inl ⟨by rfl, ?hycp1⟩) hH0 ?rcp1
  case hycp1 => (intro w' hSw; clear hSw; go_simp; try with_reducible rfl)
  simp only [Act.put, List.setIfInBounds_toArray, List.set_cons_zero, List.set_cons_succ]
  refine' wpAnyH_take (i := 3) (oi := { dst := some 23, op := Op.fieldAddr 29 (Operand.tmp 3) 1, type := 0, pos := "size.go:55", after := #[], guard := none }) (v := _) rfl (by kernel_rfl) (by kernel_rfl) (by kernel_rfl) (fun _ _ _ h => h) (Or.inl ⟨by rfl, ?hycp3⟩) hH0 ?rcp3
  case hycp3 => (intro w' hSw; clear hSw; go_simp; try with_reducible rfl)
  simp only [Act.put, List.setIfInBounds_toArray, List.set_cons_zero, List.set_cons_succ]
  refine' wpAnyH_take (i := 4) (oi := { dst := some 24, op := Op.load 3 (Operand.tmp 23), type := 3, pos := "size.go:55", after := #[{ on := 3, ground := Ground.data }], guard := none }) (v := _) rfl (by kernel_rfl) (by kernel_rfl) (by kernel_rfl) (fun _ _ _ h => h) (Or.inl ⟨by rfl, ?hycp4⟩) hH0 ?rcp4
  case hycp4 => (intro w' hSw; obtain ⟨-, z0, z1, z2, z3, z4, z5, z6, z7, z8⟩ := hSw; go_simp; try with_reducible rfl)
  simp only [Act.put, List.setIfInBounds_toArray, List.set_cons_zero, List.set_cons_succ]
  refine' wpAnyH_take (i := 5) (oi := { dst := some 25, op := Op.binOp BinOp.mul 3 (Operand.const (Value.int IntKind.i64 2)) (Operand.tmp 24) 3, type := 3, pos := "size.go:55", after := #[{ on := 4, ground := Ground.data }], guard := none }) (v := _) rfl (by kernel_rfl) (by kernel_rfl) (by kernel_rfl) (fun _ _ _ h => h) (Or.inl ⟨by rfl, ?hycp5⟩) hH0 ?rcp5
  case hycp5 => (intro w' hSw; clear hSw; go_simp; try with_reducible rfl)
  simp only [Act.put, List.setIfInBounds_toArray, List.set_cons_zero, List.set_cons_succ]
  refine' wpAnyH_take (i := 8) (oi := { dst := some 28, op := Op.load 29 (Operand.tmp 3), type := 29, pos := "size.go:55", after := #[], guard := none }) (v := _) rfl (by kernel_rfl) (by kernel_rfl) (by kernel_rfl) (fun _ _ _ h => h) (Or.inl ⟨by rfl, ?hycp8⟩) hH0 ?rcp8
  case hycp8 => (intro w' hSw; obtain ⟨-, z0, z1, z2, z3, z4, z5, z6, z7, z8⟩ := hSw; go_simp; try with_reducible rfl)
  simp only [Act.put, List.setIfInBounds_toArray, List.set_cons_zero, List.set_cons_succ]
  refine' wpAnyH_take (i := 9) (oi := { dst := some 29, op := Op.move (Operand.tmp 1), type := 3, pos := "size.go:55", after := #[], guard := none }) (v := _) rfl (by kernel_rfl) (by kernel_rfl) (by kernel_rfl) (fun _ _ _ h => h) (Or.inl ⟨by rfl, ?hycp9⟩) hH0 ?rcp9
  case hycp9 => (intro w' hSw; clear hSw; go_simp; try with_reducible rfl)
  simp only [Act.put, List.setIfInBounds_toArray, List.set_cons_zero, List.set_cons_succ]
  refine' wpAnyH_take (i := 12) (oi := { dst := some 32, op := Op.fieldAddr 24 (Operand.tmp 8) 4, type := 0, pos := "size.go:55", after := #[], guard := none }) (v := _) rfl (by kernel_rfl) (by kernel_rfl) (by kernel_rfl) (fun _ _ _ h => h) (Or.inl ⟨by rfl, ?hycp12⟩) hH0 ?rcp12
  case hycp12 => (intro w' hSw; clear hSw; go_simp; try with_reducible rfl)
  simp only [Act.put, List.setIfInBounds_toArray, List.set_cons_zero, List.set_cons_succ]
  refine' wpAnyH_take (i := 13) (oi := { dst := some 33, op := Op.load 3 (Operand.tmp 32), type := 3, pos := "size.go:55", after := #[{ on := 12, ground := Ground.data }], guard := none }) (v := _) rfl (by kernel_rfl) (by kernel_rfl) (by kernel_rfl) (fun _ _ _ h => h) (Or.inl ⟨by rfl, ?hycp13⟩) hH0 ?rcp13
  case hycp13 => (intro w' hSw; obtain ⟨-, z0, z1, z2, z3, z4, z5, z6, z7, z8⟩ := hSw; go_simp; try with_reducible rfl)
  simp only [Act.put, List.setIfInBounds_toArray, List.set_cons_zero, List.set_cons_succ]
  refine' wpAnyH_take (i := 16) (oi := { dst := some 36, op := Op.fieldAddr 24 (Operand.tmp 8) 1, type := 0, pos := "size.go:55", after := #[], guard := none }) (v := _) rfl (by kernel_rfl) (by kernel_rfl) (by kernel_rfl) (fun _ _ _ h => h) (Or.inl ⟨by rfl, ?hycp16⟩) hH0 ?rcp16
  case hycp16 => (intro w' hSw; clear hSw; go_simp; try with_reducible rfl)
  simp only [Act.put, List.setIfInBounds_toArray, List.set_cons_zero, List.set_cons_succ]
  refine' wpAnyH_take (i := 17) (oi := { dst := some 37, op := Op.load 3 (Operand.tmp 36), type := 3, pos := "size.go:55", after := #[{ on := 16, ground := Ground.data }], guard := none }) (v := _) rfl (by kernel_rfl) (by kernel_rfl) (by kernel_rfl) (fun _ _ _ h => h) (Or.inl ⟨by rfl, ?hycp17⟩) hH0 ?rcp17
  case hycp17 => (intro w' hSw; obtain ⟨-, z0, z1, z2, z3, z4, z5, z6, z7, z8⟩ := hSw; go_simp; try with_reducible rfl)
  simp only [Act.put, List.setIfInBounds_toArray, List.set_cons_zero, List.set_cons_succ]
  refine' wpAnyH_take (i := 18) (oi := { dst := some 38, op := Op.binOp BinOp.mul 3 (Operand.const (Value.int IntKind.i64 2)) (Operand.tmp 37) 3, type := 3, pos := "size.go:55", after := #[{ on := 17, ground := Ground.data }], guard := none }) (v := _) rfl (by kernel_rfl) (by kernel_rfl) (by kernel_rfl) (fun _ _ _ h => h) (Or.inl ⟨by rfl, ?hycp18⟩) hH0 ?rcp18
  case hycp18 => (intro w' hSw; clear hSw; go_simp; try with_reducible rfl)
  simp only [Act.put, List.setIfInBounds_toArray, List.set_cons_zero, List.set_cons_succ]
  refine' wpAnyH_take (i := 20) (oi := { dst := some 40, op := Op.move (Operand.tmp 2), type := 3, pos := "size.go:55", after := #[], guard := none }) (v := _) rfl (by kernel_rfl) (by kernel_rfl) (by kernel_rfl) (fun _ _ _ h => h) (Or.inl ⟨by rfl, ?hycp20⟩) hH0 ?rcp20
  case hycp20 => (intro w' hSw; clear hSw; go_simp; try with_reducible rfl)
  simp only [Act.put, List.setIfInBounds_toArray, List.set_cons_zero, List.set_cons_succ]
  refine' wpAnyH_take (i := 21) (oi := { dst := some 41, op := Op.binOp BinOp.add 3 (Operand.const (Value.int IntKind.i64 1)) (Operand.tmp 40) 3, type := 3, pos := "size.go:55", after := #[{ on := 20, ground := Ground.data }], guard := none }) (v := _) rfl (by kernel_rfl) (by kernel_rfl) (by kernel_rfl) (fun _ _ _ h => h) (Or.inl ⟨by rfl, ?hycp21⟩) hH0 ?rcp21
  case hycp21 => (intro w' hSw; clear hSw; go_simp; try with_reducible rfl)
  simp only [Act.put, List.setIfInBounds_toArray, List.set_cons_zero, List.set_cons_succ]
  refine' wpAnyH_take (i := 22) (oi := { dst := some 42, op := Op.binOp BinOp.mul 3 (Operand.const (Value.int IntKind.i64 4)) (Operand.tmp 41) 3, type := 3, pos := "size.go:55", after := #[{ on := 21, ground := Ground.data }], guard := none }) (v := _) rfl (by kernel_rfl) (by kernel_rfl) (by kernel_rfl) (fun _ _ _ h => h) (Or.inl ⟨by rfl, ?hycp22⟩) hH0 ?rcp22
  case hycp22 => (intro w' hSw; clear hSw; go_simp; try with_reducible rfl)
  simp only [Act.put, List.setIfInBounds_toArray, List.set_cons_zero, List.set_cons_succ]
  refine' wpAnyH_take (i := 23) (oi := { dst := some 43, op := Op.fieldAddr 29 (Operand.tmp 3) 1, type := 0, pos := "size.go:55", after := #[], guard := none }) (v := _) rfl (by kernel_rfl) (by kernel_rfl) (by kernel_rfl) (fun _ _ _ h => h) (Or.inl ⟨by rfl, ?hycp23⟩) hH0 ?rcp23
  case hycp23 => (intro w' hSw; clear hSw; go_simp; try with_reducible rfl)
  simp only [Act.put, List.setIfInBounds_toArray, List.set_cons_zero, List.set_cons_succ]
  refine' wpAnyH_take (i := 24) (oi := { dst := some 44, op := Op.load 3 (Operand.tmp 43), type := 3, pos := "size.go:55", after := #[{ on := 23, ground := Ground.data }], guard := none }) (v := _) rfl (by kernel_rfl) (by kernel_rfl) (by kernel_rfl) (fun _ _ _ h => h) (Or.inl ⟨by rfl, ?hycp24⟩) hH0 ?rcp24
  case hycp24 => (intro w' hSw; obtain ⟨-, z0, z1, z2, z3, z4, z5, z6, z7, z8⟩ := hSw; go_simp; try with_reducible rfl)
  simp only [Act.put, List.setIfInBounds_toArray, List.set_cons_zero, List.set_cons_succ]
  refine' wpAnyH_take (i := 25) (oi := { dst := some 45, op := Op.binOp BinOp.mul 3 (Operand.tmp 42) (Operand.tmp 44) 3, type := 3, pos := "size.go:55", after := #[{ on := 22, ground := Ground.data }, { on := 24, ground := Ground.data }], guard := none }) (v := _) rfl (by kernel_rfl) (by kernel_rfl) (by kernel_rfl) (fun _ _ _ h => h) (Or.inl ⟨by rfl, ?hycp25⟩) hH0 ?rcp25
  case hycp25 => (intro w' hSw; clear hSw; go_simp; try with_reducible rfl)
  simp only [Act.put, List.setIfInBounds_toArray, List.set_cons_zero, List.set_cons_succ]
  refine wpAnyH_ready (rs := [2]) (by kernel_rfl) (by simp) ?_
  refine AllReadyH.cons (o := { dst := some 22, op := Op.call { callee := Callee.value (Operand.func 25), args := #[Operand.tmp 20, Operand.tmp 21], argTypes := #[29, 3] }, type := 3, pos := "size.go:55", after := #[{ on := 0, ground := Ground.data }, { on := 1, ground := Ground.data }], guard := none }) rfl (fun K hK => ?_) AllReadyH.nil
  refine step_call_want (vs := #[.agg #[.int .i64 c.b, .int .i64 c.p, .int .i64 c.c, .int .i64 c.s, .int .i64 c.m, .int .i64 c.w, .bool c.f], .int .i64 n]) (R := fun u wz => u = .int .i64 WR ∧ Keep (fun _ => False) v4.drew wz) (by rfl) 25 #[Operand.tmp 20, Operand.tmp 21] #[29, 3] rfl (by simp [Act.eval]) callw25 (post_of (hwr _)) ?_
  rintro _ v5 ⟨rfl, k5⟩
  refine hK.out _ _ (⟨trivial, ((D1.keep k5 (fun e => e)) 0 (by omega)).1, ((D1.keep k5 (fun e => e)) 1 (by omega)).1, ((D1.keep k5 (fun e => e)) 2 (by omega)).1, ((D1.keep k5 (fun e => e)) 3 (by omega)).1, ((D1.keep k5 (fun e => e)) 4 (by omega)).1, ((D1.keep k5 (fun e => e)) 5 (by omega)).1, ((D1.keep k5 (fun e => e)) 6 (by omega)).1, ((E1.keep k5 (fun e => e)) 1 (by omega)).1, ((E1.keep k5 (fun e => e)) 4 (by omega)).1⟩) (fun hH1 => ?_)
  clear hK K hH0
  simp only [Act.put, List.setIfInBounds_toArray, List.set_cons_zero, List.set_cons_succ]
  refine' wpAnyH_take (i := 6) (oi := { dst := some 26, op := Op.binOp BinOp.add 3 (Operand.tmp 22) (Operand.tmp 25) 3, type := 3, pos := "size.go:55", after := #[{ on := 2, ground := Ground.data }, { on := 5, ground := Ground.data }], guard := none }) (v := _) rfl (by kernel_rfl) (by kernel_rfl) (by kernel_rfl) (fun _ _ _ h => h) (Or.inl ⟨by rfl, ?hycp6⟩) hH1 ?rcp6
  case hycp6 => (intro w' hSw; clear hSw; go_simp; try with_reducible rfl)
  simp only [Act.put, List.setIfInBounds_toArray, List.set_cons_zero, List.set_cons_succ]
  refine' wpAnyH_take (i := 7) (oi := { dst := some 27, op := Op.binOp BinOp.mul 3 (Operand.const (Value.int IntKind.i64 4)) (Operand.tmp 26) 3, type := 3, pos := "size.go:55", after := #[{ on := 6, ground := Ground.data }], guard := none }) (v := _) rfl (by kernel_rfl) (by kernel_rfl) (by kernel_rfl) (fun _ _ _ h => h) (Or.inl ⟨by rfl, ?hycp7⟩) hH1 ?rcp7
  case hycp7 => (intro w' hSw; clear hSw; go_simp; try with_reducible rfl)
  simp only [Act.put, List.setIfInBounds_toArray, List.set_cons_zero, List.set_cons_succ]
  refine wpAnyH_ready (rs := [10]) (by kernel_rfl) (by simp) ?_
  refine AllReadyH.cons (o := { dst := some 30, op := Op.call { callee := Callee.value (Operand.func 26), args := #[Operand.tmp 28, Operand.tmp 29], argTypes := #[29, 3] }, type := 3, pos := "size.go:55", after := #[{ on := 8, ground := Ground.data }, { on := 9, ground := Ground.data }, { on := 2, ground := Ground.chain }], guard := none }) rfl (fun K hK => ?_) AllReadyH.nil
  refine step_call_want (vs := #[.agg #[.int .i64 c.b, .int .i64 c.p, .int .i64 c.c, .int .i64 c.s, .int .i64 c.m, .int .i64 c.w, .bool c.f], .int .i64 n]) (R := fun u wz => u = .int .i64 (rcI c n) ∧ Keep (fun _ => False) v5 wz) (by rfl) 26 #[Operand.tmp 28, Operand.tmp 29] #[29, 3] rfl (by simp [Act.eval]) callw26 (post_of (hrc _)) ?_
  rintro _ v6 ⟨rfl, k6⟩
  refine hK.out _ _ (⟨trivial, (((D1.keep k5 (fun e => e)).keep k6 (fun e => e)) 0 (by omega)).1, (((D1.keep k5 (fun e => e)).keep k6 (fun e => e)) 1 (by omega)).1, (((D1.keep k5 (fun e => e)).keep k6 (fun e => e)) 2 (by omega)).1, (((D1.keep k5 (fun e => e)).keep k6 (fun e => e)) 3 (by omega)).1, (((D1.keep k5 (fun e => e)).keep k6 (fun e => e)) 4 (by omega)).1, (((D1.keep k5 (fun e => e)).keep k6 (fun e => e)) 5 (by omega)).1, (((D1.keep k5 (fun e => e)).keep k6 (fun e => e)) 6 (by omega)).1, (((E1.keep k5 (fun e => e)).keep k6 (fun e => e)) 1 (by omega)).1, (((E1.keep k5 (fun e => e)).keep k6 (fun e => e)) 4 (by omega)).1⟩) (fun hH2 => ?_)
  clear hK K hH1
  simp only [Act.put, List.setIfInBounds_toArray, List.set_cons_zero, List.set_cons_succ]
  refine' wpAnyH_take (i := 11) (oi := { dst := some 31, op := Op.binOp BinOp.mul 3 (Operand.const (Value.int IntKind.i64 2)) (Operand.tmp 30) 3, type := 3, pos := "size.go:55", after := #[{ on := 10, ground := Ground.data }], guard := none }) (v := _) rfl (by kernel_rfl) (by kernel_rfl) (by kernel_rfl) (fun _ _ _ h => h) (Or.inl ⟨by rfl, ?hycp11⟩) hH2 ?rcp11
  case hycp11 => (intro w' hSw; clear hSw; go_simp; try with_reducible rfl)
  simp only [Act.put, List.setIfInBounds_toArray, List.set_cons_zero, List.set_cons_succ]
  refine' wpAnyH_take (i := 14) (oi := { dst := some 34, op := Op.binOp BinOp.mul 3 (Operand.tmp 31) (Operand.tmp 33) 3, type := 3, pos := "size.go:55", after := #[{ on := 11, ground := Ground.data }, { on := 13, ground := Ground.data }], guard := none }) (v := _) rfl (by kernel_rfl) (by kernel_rfl) (by kernel_rfl) (fun _ _ _ h => h) (Or.inl ⟨by rfl, ?hycp14⟩) hH2 ?rcp14
  case hycp14 => (intro w' hSw; clear hSw; go_simp; try with_reducible rfl)
  simp only [Act.put, List.setIfInBounds_toArray, List.set_cons_zero, List.set_cons_succ]
  refine' wpAnyH_take (i := 15) (oi := { dst := some 35, op := Op.binOp BinOp.add 3 (Operand.tmp 27) (Operand.tmp 34) 3, type := 3, pos := "size.go:55", after := #[{ on := 7, ground := Ground.data }, { on := 14, ground := Ground.data }], guard := none }) (v := _) rfl (by kernel_rfl) (by kernel_rfl) (by kernel_rfl) (fun _ _ _ h => h) (Or.inl ⟨by rfl, ?hycp15⟩) hH2 ?rcp15
  case hycp15 => (intro w' hSw; clear hSw; go_simp; try with_reducible rfl)
  simp only [Act.put, List.setIfInBounds_toArray, List.set_cons_zero, List.set_cons_succ]
  refine' wpAnyH_take (i := 19) (oi := { dst := some 39, op := Op.binOp BinOp.add 3 (Operand.tmp 35) (Operand.tmp 38) 3, type := 3, pos := "size.go:55", after := #[{ on := 15, ground := Ground.data }, { on := 18, ground := Ground.data }], guard := none }) (v := _) rfl (by kernel_rfl) (by kernel_rfl) (by kernel_rfl) (fun _ _ _ h => h) (Or.inl ⟨by rfl, ?hycp19⟩) hH2 ?rcp19
  case hycp19 => (intro w' hSw; clear hSw; go_simp; try with_reducible rfl)
  simp only [Act.put, List.setIfInBounds_toArray, List.set_cons_zero, List.set_cons_succ]
  refine' wpAnyH_take (i := 26) (oi := { dst := some 46, op := Op.binOp BinOp.add 3 (Operand.tmp 39) (Operand.tmp 45) 3, type := 3, pos := "size.go:55", after := #[{ on := 19, ground := Ground.data }, { on := 25, ground := Ground.data }], guard := none }) (v := _) rfl (by kernel_rfl) (by kernel_rfl) (by kernel_rfl) (fun _ _ _ h => h) (Or.inl ⟨by rfl, ?hycp26⟩) hH2 ?rcp26
  case hycp26 => (intro w' hSw; clear hSw; go_simp; try with_reducible rfl)
  simp only [Act.put, List.setIfInBounds_toArray, List.set_cons_zero, List.set_cons_succ]
  refine' wpAnyH_take (i := 27) (oi := { dst := some 6, op := Op.assign (Operand.tmp 46), type := 3, pos := "size.go:55", after := #[{ on := 26, ground := Ground.data }, { on := 10, ground := Ground.chain }, { on := 0, ground := Ground.phase }, { on := 1, ground := Ground.phase }, { on := 2, ground := Ground.phase }, { on := 3, ground := Ground.phase }, { on := 4, ground := Ground.phase }, { on := 5, ground := Ground.phase }, { on := 6, ground := Ground.phase }, { on := 7, ground := Ground.phase }, { on := 8, ground := Ground.phase }, { on := 9, ground := Ground.phase }, { on := 10, ground := Ground.phase }, { on := 11, ground := Ground.phase }, { on := 12, ground := Ground.phase }, { on := 13, ground := Ground.phase }, { on := 14, ground := Ground.phase }, { on := 15, ground := Ground.phase }, { on := 16, ground := Ground.phase }, { on := 17, ground := Ground.phase }, { on := 18, ground := Ground.phase }, { on := 19, ground := Ground.phase }, { on := 20, ground := Ground.phase }, { on := 21, ground := Ground.phase }, { on := 22, ground := Ground.phase }, { on := 23, ground := Ground.phase }, { on := 24, ground := Ground.phase }, { on := 25, ground := Ground.phase }, { on := 26, ground := Ground.phase }], guard := none }) (v := _) rfl (by kernel_rfl) (by kernel_rfl) (by kernel_rfl) (fun _ _ _ h => h) (Or.inl ⟨by rfl, ?hycp27⟩) hH2 ?rcp27
  case hycp27 => (intro w' hSw; clear hSw; go_simp; try with_reducible rfl)
  simp only [Act.put, List.setIfInBounds_toArray, List.set_cons_zero, List.set_cons_succ]
  refine' wpAnyH_take (i := 28) (oi := { dst := some 7, op := Op.assign (Operand.const (Value.int IntKind.i64 0)), type := 25, pos := "size.go:55", after := #[{ on := 27, ground := Ground.chain }, { on := 0, ground := Ground.phase }, { on := 1, ground := Ground.phase }, { on := 2, ground := Ground.phase }, { on := 3, ground := Ground.phase }, { on := 4, ground := Ground.phase }, { on := 5, ground := Ground.phase }, { on := 6, ground := Ground.phase }, { on := 7, ground := Ground.phase }, { on := 8, ground := Ground.phase }, { on := 9, ground := Ground.phase }, { on := 10, ground := Ground.phase }, { on := 11, ground := Ground.phase }, { on := 12, ground := Ground.phase }, { on := 13, ground := Ground.phase }, { on := 14, ground := Ground.phase }, { on := 15, ground := Ground.phase }, { on := 16, ground := Ground.phase }, { on := 17, ground := Ground.phase }, { on := 18, ground := Ground.phase }, { on := 19, ground := Ground.phase }, { on := 20, ground := Ground.phase }, { on := 21, ground := Ground.phase }, { on := 22, ground := Ground.phase }, { on := 23, ground := Ground.phase }, { on := 24, ground := Ground.phase }, { on := 25, ground := Ground.phase }, { on := 26, ground := Ground.phase }, { on := 27, ground := Ground.phase }], guard := none }) (v := _) rfl (by kernel_rfl) (by kernel_rfl) (by kernel_rfl) (fun _ _ _ h => h) (Or.inl ⟨by rfl, ?hycp28⟩) hH2 ?rcp28
  case hycp28 => (intro w' hSw; clear hSw; go_simp; try with_reducible rfl)
  simp only [Act.put, List.setIfInBounds_toArray, List.set_cons_zero, List.set_cons_succ]
  refine wpAnyH_done (by kernel_rfl) ?_ _
  refine NoPanic.normal ?_
  have HK := K3.trans (((Keep.refl (fun _ => False) v4).drew.trans k5).trans k6)
  go_wp2_with fail
  go_ret2
  exact ⟨rfl, HK⟩
theorem cp_ok : CpOk := ⟨fun w _ _ _ h h1 h2 h3 h4 => cp_yes w h h1 h2 h3 h4, fun w c n f _ _ _ h => by
  by_cases hc : goodB c = true ∧ 1 ≤ n ∧ n ≤ c.c
  · exact cp_no2 w hc.1 hc.2.1 hc.2.2 (fun x => h ⟨hc.1, hc.2.1, hc.2.2, x.1, x.2⟩)
  · exact cp_no1 w hc⟩
end Tg
end Go.Proofs.Ytoobjmhllfeffaa
