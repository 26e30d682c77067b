/-
  Does a flash tell what the document's own does? Both being the same, the call answers true.
-/
import Derived.Test.YtjafjofonckaaaaReads
namespace Go.Proofs.Ytjafjofonckaaaa
open Go.ChangeShapes Go.WideShapes Go.ChangeAt Go.RowKit
namespace Nd

theorem size55 : (Try.prog.info? 55).map (·.size) = some 3 := by kernel_rfl
def three (a b c : Int) : Nat → Value
  | 0 => .int .i64 a
  | 1 => .int .i64 b
  | _ => .int .i64 c
theorem blk_three (w : World) (a b c : Int) (t : TypeId) : Blk (w.alloc (.cells #[.int .i64 a, .int .i64 b, .int .i64 c] t)) w.heap.size 3 (three a b c) := by
  refine blk_alloc _ _ _ _ _ rfl (fun i hi => ?_)
  have : i = 0 ∨ i = 1 ∨ i = 2 := by omega
  rcases this with rfl | rfl | rfl <;> rfl
theorem new_stat (w : World) (a b c : Int) : ∃ w', (Instr.storeAt 55 (.pointer (some ⟨w.heap.size, 0, none⟩)) (.agg #[.int .i64 a, .int .i64 b, .int .i64 c])).run Try.prog (w.alloc (.cells #[.int .i64 0, .int .i64 0, .int .i64 0] 55)) = .ok () w' ∧ Blk w' w.heap.size 3 (three a b c) ∧ Keep (fun _ => False) w w' := by
  have h := blk_three w 0 0 0 55
  refine ⟨_, run_storeAt_mid _ w.heap.size 0 55 #[.int .i64 a, .int .i64 b, .int .i64 c] (fun j hj => ?_) size55 (by simp; exact ⟨rfl, rfl, rfl⟩), ?_, ?_⟩
  · rw [Nat.zero_add]
    exact ⟨by rw [(h j hj).1]; rfl, (h j hj).2⟩
  · have := h.setCells 0 3 (three a b c) (by omega)
    exact this.congr (fun i hi => by rw [if_pos (by omega), Nat.sub_zero])
  · have := (((Keep.refl (fun b => b = w.heap.size) w).alloc (.cells #[.int .i64 0, .int .i64 0, .int .i64 0] 55))).setCells (b := w.heap.size) (Or.inl rfl) 0 ((List.range 3).map (three a b c))
    exact this.mono (fun k hk e => by omega)

theorem Fresh.keep {S : Nat → Prop} {w0 w w' : World} {a : Option Addr} {len cap : Nat} {l : List Int} (h : Fresh w0 w a len cap l) (k : Keep S w w') (hs : ∀ b, S b → b < w0.heap.size) : Row w' a len cap l := by
  obtain ⟨hr, h0 | ⟨g, rfl, hg, _⟩⟩ := h
  · subst h0
    exact ⟨hr.1, hr.2.1, hr.2.2.1, hr.2.2.2.1, Or.inl rfl⟩
  · exact hr.keep k (fun b o e hS => by have := hs b hS; simp only [Option.some.injEq, Addr.mk.injEq, and_true] at e; omega)

theorem call29 (args : Array Value) (w : World) : (callFunc 29 args).run Try.prog w = .ok (.enter 29 args) w := enters Try.func29 (by kernel_rfl) (by kernel_rfl) args w
theorem call27 (args : Array Value) (w : World) : (callFunc 27 args).run Try.prog w = .ok (.enter 27 args) w := enters Try.func27 (by kernel_rfl) (by kernel_rfl) args w
theorem call45 (args : Array Value) (w : World) : (callFunc 45 args).run Try.prog w = .ok (.enter 45 args) w := enters Try.func45 (by kernel_rfl) (by kernel_rfl) args w
theorem call21 (args : Array Value) (w : World) : (callFunc 21 args).run Try.prog w = .ok (.enter 21 args) w := enters Try.func21 (by kernel_rfl) (by kernel_rfl) args w

set_option maxRecDepth 100000 in
set_option maxHeartbeats 8000000 in
theorem is_any {w0 w : World} {p c k M : Nat} {l : Pl} {s : Fl} {x : Int} (hP : Pair w0 w p c k l s s x) (ok : s.Ok M) (hM : M ≤ 1000) (n : Int) :
    Calls Try.prog 23 #[.pointer (some ⟨p, 0, none⟩), .pointer (some ⟨l.p, 0, none⟩), .int .i64 n] w fun e w' => e = .returned (.bool true) ∧ Pair w0 w' p c k l (s.call2 n) (s.call2 n) x := by
  go_enter Try.func23, Try.ntmps23
  go_wp2_with fail
  refine (stat_any hP.mem).mono ?_
  rintro e w1 ⟨rfl, _, hk1⟩
  have hP1 := hP.aside hk1
  obtain ⟨w3, hst, hZ, hk3⟩ := new_stat w1 s.reads s.progs s.erases
  have hP3 := hP1.aside hk3
  obtain ⟨F, hF⟩ : ∃ F, w1.heap.size = F := ⟨_, rfl⟩
  simp only [hF] at hst hZ
  go_wp2_with (guard_target =~ wpList _ _ _ (Oper.mk _ (Op.store 55 _ _) _ _ _ _ :: _) _ _; refine wpList_store_run rfl 55 (.tmp 7) (.tmp 18) rfl (by rfl) (by rfl) hst ?_)
  have z0 : ∀ w', Keep (fun _ => False) w3 w' → w'.cell? ⟨F, 0, none⟩ = some (.int .i64 s.reads) := fun w' h => ((hZ.keep h (fun e => e)) 0 (by omega)).1
  have z1 : ∀ w', Keep (fun _ => False) w3 w' → w'.cell? ⟨F, 1, none⟩ = some (.int .i64 s.progs) := fun w' h => ((hZ.keep h (fun e => e)) 1 (by omega)).1
  have z2 : ∀ w', Keep (fun _ => False) w3 w' → w'.cell? ⟨F, 2, none⟩ = some (.int .i64 s.erases) := fun w' h => ((hZ.keep h (fun e => e)) 2 (by omega)).1
  have k8 : ∀ w', Keep (fun _ => False) w3 w' → w'.cell? ⟨l.p, 8, none⟩ = some (.bool s.on) := fun w' h => ((hP3.rm.top.keep h (fun e => e)) 8 (by omega)).1
  have k9 : ∀ w', Keep (fun _ => False) w3 w' → w'.cell? ⟨l.p, 9, none⟩ = some (.int .i64 s.reads) := fun w' h => ((hP3.rm.top.keep h (fun e => e)) 9 (by omega)).1
  have k10 : ∀ w', Keep (fun _ => False) w3 w' → w'.cell? ⟨l.p, 10, none⟩ = some (.int .i64 s.progs) := fun w' h => ((hP3.rm.top.keep h (fun e => e)) 10 (by omega)).1
  have k11 : ∀ w', Keep (fun _ => False) w3 w' → w'.cell? ⟨l.p, 11, none⟩ = some (.int .i64 s.erases) := fun w' h => ((hP3.rm.top.keep h (fun e => e)) 11 (by omega)).1
  clear hst hP1 hk1 hP
  refine wp_region_noPanic ?_
  refine wp_region_held_drew (S := fun w' => Keep (fun _ => False) w3 w') (by kernel_rfl) ((Keep.refl _ _).drew) (fun hH0 => ?_)
  refine' wpAnyH_take (i := 0) (oi := { dst := some 19, op := Op.move (Operand.tmp 0), type := 23, pos := "law.go:104", after := #[], guard := none }) (v := _) rfl (by kernel_rfl) (by kernel_rfl) (by kernel_rfl) (fun _ _ _ h => h) (Or.inl ⟨by rfl, ?hy0⟩) hH0 ?r0
  case hy0 => (intro w' hSw; clear hSw; go_simp; try with_reducible rfl)
  simp only [Act.put, List.setIfInBounds_toArray, List.set_cons_zero, List.set_cons_succ]
  refine' wpAnyH_take (i := 2) (oi := { dst := some 21, op := Op.move (Operand.tmp 1), type := 35, pos := "law.go:104", after := #[], guard := none }) (v := _) rfl (by kernel_rfl) (by kernel_rfl) (by kernel_rfl) (fun _ _ _ h => h) (Or.inl ⟨by rfl, ?hy2⟩) hH0 ?r2
  case hy2 => (intro w' hSw; clear hSw; go_simp; try with_reducible rfl)
  simp only [Act.put, List.setIfInBounds_toArray, List.set_cons_zero, List.set_cons_succ]
  refine' wpAnyH_take (i := 3) (oi := { dst := some 22, op := Op.nilCheck (Operand.tmp 21), type := 0, pos := "law.go:104", after := #[{ on := 2, ground := Ground.data }], guard := none }) (v := _) rfl (by kernel_rfl) (by kernel_rfl) (by kernel_rfl) (fun _ _ _ h => h) (Or.inl ⟨by rfl, ?hy3⟩) hH0 ?r3
  case hy3 => (intro w' hSw; clear hSw; go_simp; try with_reducible rfl)
  simp only [Act.put, List.setIfInBounds_toArray, List.set_cons_zero, List.set_cons_succ]
  refine' wpAnyH_take (i := 4) (oi := { dst := some 23, op := Op.fieldAddr 48 (Operand.tmp 22) 8, type := 0, pos := "law.go:104", after := #[{ on := 3, ground := Ground.data }], guard := none }) (v := _) rfl (by kernel_rfl) (by kernel_rfl) (by kernel_rfl) (fun _ _ _ h => h) (Or.inl ⟨by rfl, ?hy4⟩) hH0 ?r4
  case hy4 => (intro w' hSw; clear hSw; go_simp; try with_reducible rfl)
  simp only [Act.put, List.setIfInBounds_toArray, List.set_cons_zero, List.set_cons_succ]
  refine' wpAnyH_take (i := 5) (oi := { dst := some 24, op := Op.load 4 (Operand.tmp 23), type := 4, pos := "law.go:104", after := #[{ on := 4, ground := Ground.data }], guard := none }) (v := _) rfl (by kernel_rfl) (by kernel_rfl) (by kernel_rfl) (fun _ _ _ h => h) (Or.inl ⟨by rfl, ?hy5⟩) hH0 ?r5
  case hy5 => (intro w' hSw; have qq := k8 w' hSw; clear hSw; go_simp; try with_reducible rfl)
  simp only [Act.put, List.setIfInBounds_toArray, List.set_cons_zero, List.set_cons_succ]
  refine wpAnyH_ready (rs := [1]) (by kernel_rfl) (by simp) ?_
  refine AllReadyH.cons (o := { dst := some 20, op := Op.call { callee := Callee.value (Operand.func 29), args := #[Operand.tmp 19], argTypes := #[23] }, type := 4, pos := "law.go:104", after := #[{ on := 0, ground := Ground.data }], guard := none }) rfl (fun K hK => ?_) AllReadyH.nil
  refine step_call_want (vs := #[.pointer (some ⟨p, 0, none⟩)]) (R := fun u w2 => u = .bool s.on ∧ w2 = w3.drew) (by rfl) 29 #[Operand.tmp 19] #[23] rfl (by simp [Act.eval]) call29 ((power_any hP3.mem.drew).mono (by rintro e w4 ⟨rfl, rfl⟩; exact ⟨_, rfl, rfl, rfl⟩)) ?_
  rintro u w4 ⟨rfl, rfl⟩
  refine hK.out _ _ ((Keep.refl _ _).drew) (fun hH1 => ?_)
  clear hK K hH0
  simp only [Act.put, List.setIfInBounds_toArray, List.set_cons_zero, List.set_cons_succ]
  refine' wpAnyH_take (i := 6) (oi := { dst := some 25, op := Op.binOp BinOp.neq 4 (Operand.tmp 20) (Operand.tmp 24) 4, type := 4, pos := "law.go:104", after := #[{ on := 1, ground := Ground.data }, { on := 5, ground := Ground.data }], guard := none }) (v := _) rfl (by kernel_rfl) (by kernel_rfl) (by kernel_rfl) (fun _ _ _ h => h) (Or.inl ⟨by rfl, ?hy6⟩) hH1 ?r6
  case hy6 => (intro w' hSw; clear hSw; go_simp; try with_reducible rfl)
  simp only [Act.put, List.setIfInBounds_toArray, List.set_cons_zero, List.set_cons_succ]
  refine' wpAnyH_take (i := 7) (oi := { dst := some 26, op := Op.move (Operand.tmp 25), type := 4, pos := "law.go:104", after := #[{ on := 6, ground := Ground.data }, { on := 1, ground := Ground.chain }], guard := none }) (v := _) rfl (by kernel_rfl) (by kernel_rfl) (by kernel_rfl) (fun _ _ _ h => h) (Or.inl ⟨by rfl, ?hy7⟩) hH1 ?r7
  case hy7 => (intro w' hSw; clear hSw; go_simp; try with_reducible rfl)
  simp only [Act.put, List.setIfInBounds_toArray, List.set_cons_zero, List.set_cons_succ]
  refine' wpAnyH_take (i := 8) (oi := { dst := some 27, op := Op.fieldAddr 55 (Operand.tmp 7) 0, type := 0, pos := "law.go:104", after := #[{ on := 7, ground := Ground.guard }], guard := some (7, false) }) (v := _) rfl (by kernel_rfl) (by kernel_rfl) (by kernel_rfl) (fun _ _ _ h => h) (Or.inl ⟨by rfl, ?hy8⟩) hH1 ?r8
  case hy8 => (intro w' hSw; clear hSw; go_simp; try with_reducible rfl)
  simp only [Act.put, List.setIfInBounds_toArray, List.set_cons_zero, List.set_cons_succ]
  refine' wpAnyH_take (i := 9) (oi := { dst := some 28, op := Op.load 3 (Operand.tmp 27), type := 3, pos := "law.go:104", after := #[{ on := 8, ground := Ground.data }, { on := 7, ground := Ground.guard }], guard := some (7, false) }) (v := _) rfl (by kernel_rfl) (by kernel_rfl) (by kernel_rfl) (fun _ _ _ h => h) (Or.inl ⟨by rfl, ?hy9⟩) hH1 ?r9
  case hy9 => (intro w' hSw; have qq := z0 w' hSw; clear hSw; go_simp; try with_reducible rfl)
  simp only [Act.put, List.setIfInBounds_toArray, List.set_cons_zero, List.set_cons_succ]
  refine' wpAnyH_take (i := 10) (oi := { dst := some 29, op := Op.move (Operand.tmp 1), type := 35, pos := "law.go:104", after := #[{ on := 7, ground := Ground.guard }], guard := some (7, false) }) (v := _) rfl (by kernel_rfl) (by kernel_rfl) (by kernel_rfl) (fun _ _ _ h => h) (Or.inl ⟨by rfl, ?hy10⟩) hH1 ?r10
  case hy10 => (intro w' hSw; clear hSw; go_simp; try with_reducible rfl)
  simp only [Act.put, List.setIfInBounds_toArray, List.set_cons_zero, List.set_cons_succ]
  refine' wpAnyH_take (i := 11) (oi := { dst := some 30, op := Op.nilCheck (Operand.tmp 29), type := 0, pos := "law.go:104", after := #[{ on := 10, ground := Ground.data }, { on := 7, ground := Ground.guard }], guard := some (7, false) }) (v := _) rfl (by kernel_rfl) (by kernel_rfl) (by kernel_rfl) (fun _ _ _ h => h) (Or.inl ⟨by rfl, ?hy11⟩) hH1 ?r11
  case hy11 => (intro w' hSw; clear hSw; go_simp; try with_reducible rfl)
  simp only [Act.put, List.setIfInBounds_toArray, List.set_cons_zero, List.set_cons_succ]
  refine' wpAnyH_take (i := 12) (oi := { dst := some 31, op := Op.fieldAddr 48 (Operand.tmp 30) 9, type := 0, pos := "law.go:104", after := #[{ on := 11, ground := Ground.data }, { on := 7, ground := Ground.guard }], guard := some (7, false) }) (v := _) rfl (by kernel_rfl) (by kernel_rfl) (by kernel_rfl) (fun _ _ _ h => h) (Or.inl ⟨by rfl, ?hy12⟩) hH1 ?r12
  case hy12 => (intro w' hSw; clear hSw; go_simp; try with_reducible rfl)
  simp only [Act.put, List.setIfInBounds_toArray, List.set_cons_zero, List.set_cons_succ]
  refine' wpAnyH_take (i := 13) (oi := { dst := some 32, op := Op.load 3 (Operand.tmp 31), type := 3, pos := "law.go:104", after := #[{ on := 12, ground := Ground.data }, { on := 7, ground := Ground.guard }], guard := some (7, false) }) (v := _) rfl (by kernel_rfl) (by kernel_rfl) (by kernel_rfl) (fun _ _ _ h => h) (Or.inl ⟨by rfl, ?hy13⟩) hH1 ?r13
  case hy13 => (intro w' hSw; have qq := k9 w' hSw; clear hSw; go_simp; try with_reducible rfl)
  simp only [Act.put, List.setIfInBounds_toArray, List.set_cons_zero, List.set_cons_succ]
  refine' wpAnyH_take (i := 14) (oi := { dst := some 33, op := Op.binOp BinOp.neq 3 (Operand.tmp 28) (Operand.tmp 32) 3, type := 4, pos := "law.go:104", after := #[{ on := 9, ground := Ground.data }, { on := 13, ground := Ground.data }, { on := 7, ground := Ground.guard }], guard := some (7, false) }) (v := _) rfl (by kernel_rfl) (by kernel_rfl) (by kernel_rfl) (fun _ _ _ h => h) (Or.inl ⟨by rfl, ?hy14⟩) hH1 ?r14
  case hy14 => (intro w' hSw; clear hSw; go_simp; try with_reducible rfl)
  simp only [Act.put, List.setIfInBounds_toArray, List.set_cons_zero, List.set_cons_succ]
  refine' wpAnyH_take (i := 15) (oi := { dst := some 34, op := Op.pick (Operand.tmp 26) (Operand.const (Value.bool true)) (Operand.tmp 33), type := 4, pos := "law.go:104", after := #[{ on := 7, ground := Ground.data }, { on := 14, ground := Ground.data }], guard := none }) (v := _) rfl (by kernel_rfl) (by kernel_rfl) (by kernel_rfl) (fun _ _ _ h => h) (Or.inl ⟨by rfl, ?hy15⟩) hH1 ?r15
  case hy15 => (intro w' hSw; clear hSw; go_simp; try with_reducible rfl)
  simp only [Act.put, List.setIfInBounds_toArray, List.set_cons_zero, List.set_cons_succ]
  refine' wpAnyH_take (i := 16) (oi := { dst := some 35, op := Op.move (Operand.tmp 34), type := 4, pos := "law.go:104", after := #[{ on := 15, ground := Ground.data }, { on := 7, ground := Ground.chain }], guard := none }) (v := _) rfl (by kernel_rfl) (by kernel_rfl) (by kernel_rfl) (fun _ _ _ h => h) (Or.inl ⟨by rfl, ?hy16⟩) hH1 ?r16
  case hy16 => (intro w' hSw; clear hSw; go_simp; try with_reducible rfl)
  simp only [Act.put, List.setIfInBounds_toArray, List.set_cons_zero, List.set_cons_succ]
  refine' wpAnyH_take (i := 17) (oi := { dst := some 36, op := Op.fieldAddr 55 (Operand.tmp 7) 1, type := 0, pos := "law.go:104", after := #[{ on := 16, ground := Ground.guard }], guard := some (16, false) }) (v := _) rfl (by kernel_rfl) (by kernel_rfl) (by kernel_rfl) (fun _ _ _ h => h) (Or.inl ⟨by rfl, ?hy17⟩) hH1 ?r17
  case hy17 => (intro w' hSw; clear hSw; go_simp; try with_reducible rfl)
  simp only [Act.put, List.setIfInBounds_toArray, List.set_cons_zero, List.set_cons_succ]
  refine' wpAnyH_take (i := 18) (oi := { dst := some 37, op := Op.load 3 (Operand.tmp 36), type := 3, pos := "law.go:104", after := #[{ on := 17, ground := Ground.data }, { on := 16, ground := Ground.guard }], guard := some (16, false) }) (v := _) rfl (by kernel_rfl) (by kernel_rfl) (by kernel_rfl) (fun _ _ _ h => h) (Or.inl ⟨by rfl, ?hy18⟩) hH1 ?r18
  case hy18 => (intro w' hSw; have qq := z1 w' hSw; clear hSw; go_simp; try with_reducible rfl)
  simp only [Act.put, List.setIfInBounds_toArray, List.set_cons_zero, List.set_cons_succ]
  refine' wpAnyH_take (i := 19) (oi := { dst := some 38, op := Op.move (Operand.tmp 1), type := 35, pos := "law.go:104", after := #[{ on := 16, ground := Ground.guard }], guard := some (16, false) }) (v := _) rfl (by kernel_rfl) (by kernel_rfl) (by kernel_rfl) (fun _ _ _ h => h) (Or.inl ⟨by rfl, ?hy19⟩) hH1 ?r19
  case hy19 => (intro w' hSw; clear hSw; go_simp; try with_reducible rfl)
  simp only [Act.put, List.setIfInBounds_toArray, List.set_cons_zero, List.set_cons_succ]
  refine' wpAnyH_take (i := 20) (oi := { dst := some 39, op := Op.nilCheck (Operand.tmp 38), type := 0, pos := "law.go:104", after := #[{ on := 19, ground := Ground.data }, { on := 16, ground := Ground.guard }], guard := some (16, false) }) (v := _) rfl (by kernel_rfl) (by kernel_rfl) (by kernel_rfl) (fun _ _ _ h => h) (Or.inl ⟨by rfl, ?hy20⟩) hH1 ?r20
  case hy20 => (intro w' hSw; clear hSw; go_simp; try with_reducible rfl)
  simp only [Act.put, List.setIfInBounds_toArray, List.set_cons_zero, List.set_cons_succ]
  refine' wpAnyH_take (i := 21) (oi := { dst := some 40, op := Op.fieldAddr 48 (Operand.tmp 39) 10, type := 0, pos := "law.go:104", after := #[{ on := 20, ground := Ground.data }, { on := 16, ground := Ground.guard }], guard := some (16, false) }) (v := _) rfl (by kernel_rfl) (by kernel_rfl) (by kernel_rfl) (fun _ _ _ h => h) (Or.inl ⟨by rfl, ?hy21⟩) hH1 ?r21
  case hy21 => (intro w' hSw; clear hSw; go_simp; try with_reducible rfl)
  simp only [Act.put, List.setIfInBounds_toArray, List.set_cons_zero, List.set_cons_succ]
  refine' wpAnyH_take (i := 22) (oi := { dst := some 41, op := Op.load 3 (Operand.tmp 40), type := 3, pos := "law.go:104", after := #[{ on := 21, ground := Ground.data }, { on := 16, ground := Ground.guard }], guard := some (16, false) }) (v := _) rfl (by kernel_rfl) (by kernel_rfl) (by kernel_rfl) (fun _ _ _ h => h) (Or.inl ⟨by rfl, ?hy22⟩) hH1 ?r22
  case hy22 => (intro w' hSw; have qq := k10 w' hSw; clear hSw; go_simp; try with_reducible rfl)
  simp only [Act.put, List.setIfInBounds_toArray, List.set_cons_zero, List.set_cons_succ]
  refine' wpAnyH_take (i := 23) (oi := { dst := some 42, op := Op.binOp BinOp.neq 3 (Operand.tmp 37) (Operand.tmp 41) 3, type := 4, pos := "law.go:104", after := #[{ on := 18, ground := Ground.data }, { on := 22, ground := Ground.data }, { on := 16, ground := Ground.guard }], guard := some (16, false) }) (v := _) rfl (by kernel_rfl) (by kernel_rfl) (by kernel_rfl) (fun _ _ _ h => h) (Or.inl ⟨by rfl, ?hy23⟩) hH1 ?r23
  case hy23 => (intro w' hSw; clear hSw; go_simp; try with_reducible rfl)
  simp only [Act.put, List.setIfInBounds_toArray, List.set_cons_zero, List.set_cons_succ]
  refine' wpAnyH_take (i := 24) (oi := { dst := some 43, op := Op.pick (Operand.tmp 35) (Operand.const (Value.bool true)) (Operand.tmp 42), type := 4, pos := "law.go:104", after := #[{ on := 16, ground := Ground.data }, { on := 23, ground := Ground.data }], guard := none }) (v := _) rfl (by kernel_rfl) (by kernel_rfl) (by kernel_rfl) (fun _ _ _ h => h) (Or.inl ⟨by rfl, ?hy24⟩) hH1 ?r24
  case hy24 => (intro w' hSw; clear hSw; go_simp; try with_reducible rfl)
  simp only [Act.put, List.setIfInBounds_toArray, List.set_cons_zero, List.set_cons_succ]
  refine' wpAnyH_take (i := 25) (oi := { dst := some 44, op := Op.move (Operand.tmp 43), type := 4, pos := "law.go:104", after := #[{ on := 24, ground := Ground.data }, { on := 16, ground := Ground.chain }], guard := none }) (v := _) rfl (by kernel_rfl) (by kernel_rfl) (by kernel_rfl) (fun _ _ _ h => h) (Or.inl ⟨by rfl, ?hy25⟩) hH1 ?r25
  case hy25 => (intro w' hSw; clear hSw; go_simp; try with_reducible rfl)
  simp only [Act.put, List.setIfInBounds_toArray, List.set_cons_zero, List.set_cons_succ]
  refine' wpAnyH_take (i := 26) (oi := { dst := some 45, op := Op.fieldAddr 55 (Operand.tmp 7) 2, type := 0, pos := "law.go:104", after := #[{ on := 25, ground := Ground.guard }], guard := some (25, false) }) (v := _) rfl (by kernel_rfl) (by kernel_rfl) (by kernel_rfl) (fun _ _ _ h => h) (Or.inl ⟨by rfl, ?hy26⟩) hH1 ?r26
  case hy26 => (intro w' hSw; clear hSw; go_simp; try with_reducible rfl)
  simp only [Act.put, List.setIfInBounds_toArray, List.set_cons_zero, List.set_cons_succ]
  refine' wpAnyH_take (i := 27) (oi := { dst := some 46, op := Op.load 3 (Operand.tmp 45), type := 3, pos := "law.go:104", after := #[{ on := 26, ground := Ground.data }, { on := 25, ground := Ground.guard }], guard := some (25, false) }) (v := _) rfl (by kernel_rfl) (by kernel_rfl) (by kernel_rfl) (fun _ _ _ h => h) (Or.inl ⟨by rfl, ?hy27⟩) hH1 ?r27
  case hy27 => (intro w' hSw; have qq := z2 w' hSw; clear hSw; go_simp; try with_reducible rfl)
  simp only [Act.put, List.setIfInBounds_toArray, List.set_cons_zero, List.set_cons_succ]
  refine' wpAnyH_take (i := 28) (oi := { dst := some 47, op := Op.move (Operand.tmp 1), type := 35, pos := "law.go:104", after := #[{ on := 25, ground := Ground.guard }], guard := some (25, false) }) (v := _) rfl (by kernel_rfl) (by kernel_rfl) (by kernel_rfl) (fun _ _ _ h => h) (Or.inl ⟨by rfl, ?hy28⟩) hH1 ?r28
  case hy28 => (intro w' hSw; clear hSw; go_simp; try with_reducible rfl)
  simp only [Act.put, List.setIfInBounds_toArray, List.set_cons_zero, List.set_cons_succ]
  refine' wpAnyH_take (i := 29) (oi := { dst := some 48, op := Op.nilCheck (Operand.tmp 47), type := 0, pos := "law.go:104", after := #[{ on := 28, ground := Ground.data }, { on := 25, ground := Ground.guard }], guard := some (25, false) }) (v := _) rfl (by kernel_rfl) (by kernel_rfl) (by kernel_rfl) (fun _ _ _ h => h) (Or.inl ⟨by rfl, ?hy29⟩) hH1 ?r29
  case hy29 => (intro w' hSw; clear hSw; go_simp; try with_reducible rfl)
  simp only [Act.put, List.setIfInBounds_toArray, List.set_cons_zero, List.set_cons_succ]
  refine' wpAnyH_take (i := 30) (oi := { dst := some 49, op := Op.fieldAddr 48 (Operand.tmp 48) 11, type := 0, pos := "law.go:104", after := #[{ on := 29, ground := Ground.data }, { on := 25, ground := Ground.guard }], guard := some (25, false) }) (v := _) rfl (by kernel_rfl) (by kernel_rfl) (by kernel_rfl) (fun _ _ _ h => h) (Or.inl ⟨by rfl, ?hy30⟩) hH1 ?r30
  case hy30 => (intro w' hSw; clear hSw; go_simp; try with_reducible rfl)
  simp only [Act.put, List.setIfInBounds_toArray, List.set_cons_zero, List.set_cons_succ]
  refine' wpAnyH_take (i := 31) (oi := { dst := some 50, op := Op.load 3 (Operand.tmp 49), type := 3, pos := "law.go:104", after := #[{ on := 30, ground := Ground.data }, { on := 25, ground := Ground.guard }], guard := some (25, false) }) (v := _) rfl (by kernel_rfl) (by kernel_rfl) (by kernel_rfl) (fun _ _ _ h => h) (Or.inl ⟨by rfl, ?hy31⟩) hH1 ?r31
  case hy31 => (intro w' hSw; have qq := k11 w' hSw; clear hSw; go_simp; try with_reducible rfl)
  simp only [Act.put, List.setIfInBounds_toArray, List.set_cons_zero, List.set_cons_succ]
  refine' wpAnyH_take (i := 32) (oi := { dst := some 51, op := Op.binOp BinOp.neq 3 (Operand.tmp 46) (Operand.tmp 50) 3, type := 4, pos := "law.go:104", after := #[{ on := 27, ground := Ground.data }, { on := 31, ground := Ground.data }, { on := 25, ground := Ground.guard }], guard := some (25, false) }) (v := _) rfl (by kernel_rfl) (by kernel_rfl) (by kernel_rfl) (fun _ _ _ h => h) (Or.inl ⟨by rfl, ?hy32⟩) hH1 ?r32
  case hy32 => (intro w' hSw; clear hSw; go_simp; try with_reducible rfl)
  simp only [Act.put, List.setIfInBounds_toArray, List.set_cons_zero, List.set_cons_succ]
  refine' wpAnyH_take (i := 33) (oi := { dst := some 52, op := Op.pick (Operand.tmp 44) (Operand.const (Value.bool true)) (Operand.tmp 51), type := 4, pos := "law.go:104", after := #[{ on := 25, ground := Ground.data }, { on := 32, ground := Ground.data }], guard := none }) (v := _) rfl (by kernel_rfl) (by kernel_rfl) (by kernel_rfl) (fun _ _ _ h => h) (Or.inl ⟨by rfl, ?hy33⟩) hH1 ?r33
  case hy33 => (intro w' hSw; clear hSw; go_simp; try with_reducible rfl)
  simp only [Act.put, List.setIfInBounds_toArray, List.set_cons_zero, List.set_cons_succ]
  refine' wpAnyH_take (i := 34) (oi := { dst := some 53, op := Op.move (Operand.tmp 52), type := 4, pos := "law.go:104", after := #[{ on := 33, ground := Ground.data }, { on := 25, ground := Ground.chain }], guard := none }) (v := _) rfl (by kernel_rfl) (by kernel_rfl) (by kernel_rfl) (fun _ _ _ h => h) (Or.inl ⟨by rfl, ?hy34⟩) hH1 ?r34
  case hy34 => (intro w' hSw; clear hSw; go_simp; try with_reducible rfl)
  simp only [Act.put, List.setIfInBounds_toArray, List.set_cons_zero, List.set_cons_succ]
  refine' wpAnyH_take (i := 35) (oi := { dst := some 54, op := Op.move (Operand.tmp 0), type := 23, pos := "law.go:104", after := #[{ on := 34, ground := Ground.guard }], guard := some (34, false) }) (v := _) rfl (by kernel_rfl) (by kernel_rfl) (by kernel_rfl) (fun _ _ _ h => h) (Or.inl ⟨by rfl, ?hy35⟩) hH1 ?r35
  case hy35 => (intro w' hSw; clear hSw; go_simp; try with_reducible rfl)
  simp only [Act.put, List.setIfInBounds_toArray, List.set_cons_zero, List.set_cons_succ]
  refine' wpAnyH_take (i := 37) (oi := { dst := some 56, op := Op.move (Operand.tmp 1), type := 35, pos := "law.go:104", after := #[{ on := 34, ground := Ground.guard }], guard := some (34, false) }) (v := _) rfl (by kernel_rfl) (by kernel_rfl) (by kernel_rfl) (fun _ _ _ h => h) (Or.inl ⟨by rfl, ?hy37⟩) hH1 ?r37
  case hy37 => (intro w' hSw; clear hSw; go_simp; try with_reducible rfl)
  simp only [Act.put, List.setIfInBounds_toArray, List.set_cons_zero, List.set_cons_succ]
  refine wpAnyH_ready (rs := [36]) (by kernel_rfl) (by simp) ?_
  refine AllReadyH.cons (o := { dst := some 55, op := Op.call { callee := Callee.value (Operand.func 27), args := #[Operand.tmp 54], argTypes := #[23] }, type := 28, pos := "law.go:104", after := #[{ on := 35, ground := Ground.data }, { on := 34, ground := Ground.chain }, { on := 34, ground := Ground.guard }], guard := some (34, false) }) rfl (fun K hK => ?_) AllReadyH.nil
  refine step_call_want (vs := #[.pointer (some ⟨p, 0, none⟩)]) (R := fun u w2 => ∃ g cap, u = Value.slice (some ⟨g, 0, none⟩) s.size cap ∧ Row w2 (some ⟨g, 0, none⟩) s.size cap (tab s.size s.image) ∧ Keep (fun _ => False) w3 w2) (by rfl) 27 #[Operand.tmp 54] #[23] rfl (by simp [Act.eval]) call27 ((image_any hP3.mem.drew ok).mono (by rintro e w4 ⟨g, cap, rfl, _, hr, _, _, hk⟩; exact ⟨_, rfl, g, cap, rfl, hr, ((Keep.refl _ w3).drew).trans hk⟩)) ?_
  rintro u w4 ⟨g4, cap4, rfl, hr4, hk4⟩
  refine hK.out _ _ (hk4) (fun hH2 => ?_)
  clear hK K hH1
  simp only [Act.put, List.setIfInBounds_toArray, List.set_cons_zero, List.set_cons_succ]
  refine wpAnyH_ready (rs := [38]) (by kernel_rfl) (by simp) ?_
  refine AllReadyH.cons (o := { dst := some 57, op := Op.call { callee := Callee.value (Operand.func 45), args := #[Operand.tmp 56], argTypes := #[35] }, type := 28, pos := "law.go:104", after := #[{ on := 37, ground := Ground.data }, { on := 36, ground := Ground.chain }, { on := 34, ground := Ground.guard }], guard := some (34, false) }) rfl (fun K hK => ?_) AllReadyH.nil
  refine step_call_want (vs := #[.pointer (some ⟨l.p, 0, none⟩)]) (R := fun u w2 => ∃ g cap, u = Value.slice (some ⟨g, 0, none⟩) s.size cap ∧ Row w2 (some ⟨g, 0, none⟩) s.size cap (tab s.size s.image) ∧ Keep (fun _ => False) w4 w2) (by rfl) 45 #[Operand.tmp 56] #[35] rfl (by simp [Act.eval]) call45 ((rimage_any (hP3.aside hk4).rm ok).mono (by rintro e w5 ⟨g, cap, rfl, hG⟩; exact ⟨_, rfl, g, cap, rfl, hG.at (tab_len _ _), hG.keep⟩)) ?_
  rintro u w5 ⟨g5, cap5, rfl, hr5, hk5⟩
  refine hK.out _ _ (hk4.trans hk5) (fun hH3 => ?_)
  clear hK K hH2
  simp only [Act.put, List.setIfInBounds_toArray, List.set_cons_zero, List.set_cons_succ]
  refine wpAnyH_ready (rs := [39]) (by kernel_rfl) (by simp) ?_
  refine AllReadyH.cons (o := { dst := some 58, op := Op.call { callee := Callee.value (Operand.func 21), args := #[Operand.tmp 55, Operand.tmp 57], argTypes := #[28, 28] }, type := 4, pos := "law.go:104", after := #[{ on := 36, ground := Ground.data }, { on := 38, ground := Ground.data }, { on := 38, ground := Ground.chain }, { on := 34, ground := Ground.guard }], guard := some (34, false) }) rfl (fun K hK => ?_) AllReadyH.nil
  refine step_call_want (vs := #[.slice (some ⟨g4, 0, none⟩) s.size cap4, .slice (some ⟨g5, 0, none⟩) s.size cap5]) (R := fun u w2 => u = .bool true ∧ w2 = w5) (by rfl) 21 #[Operand.tmp 55, Operand.tmp 57] #[28, 28] rfl (by simp [Act.eval]) call21 ((same_any (hr4.keep hk5 (fun _ _ _ e => e)) hr5).mono (by rintro e w6 ⟨rfl, rfl⟩; exact ⟨_, rfl, rfl, rfl⟩)) ?_
  rintro u w6 ⟨rfl, rfl⟩
  refine hK.out _ _ (hk4.trans hk5) (fun hH4 => ?_)
  clear hK K hH3
  simp only [Act.put, List.setIfInBounds_toArray, List.set_cons_zero, List.set_cons_succ]
  refine' wpAnyH_take (i := 40) (oi := { dst := some 59, op := Op.unOp UnOp.not 4 (Operand.tmp 58), type := 4, pos := "law.go:104", after := #[{ on := 39, ground := Ground.data }, { on := 34, ground := Ground.guard }], guard := some (34, false) }) (v := _) rfl (by kernel_rfl) (by kernel_rfl) (by kernel_rfl) (fun _ _ _ h => h) (Or.inl ⟨by rfl, ?hy40⟩) hH4 ?r40
  case hy40 => (intro w' hSw; clear hSw; go_simp; try with_reducible rfl)
  simp only [Act.put, List.setIfInBounds_toArray, List.set_cons_zero, List.set_cons_succ]
  refine' wpAnyH_take (i := 41) (oi := { dst := some 60, op := Op.pick (Operand.tmp 53) (Operand.const (Value.bool true)) (Operand.tmp 59), type := 4, pos := "law.go:104", after := #[{ on := 34, ground := Ground.data }, { on := 40, ground := Ground.data }], guard := none }) (v := _) rfl (by kernel_rfl) (by kernel_rfl) (by kernel_rfl) (fun _ _ _ h => h) (Or.inl ⟨by rfl, ?hy41⟩) hH4 ?r41
  case hy41 => (intro w' hSw; clear hSw; go_simp; try with_reducible rfl)
  simp only [Act.put, List.setIfInBounds_toArray, List.set_cons_zero, List.set_cons_succ]
  refine wpAnyH_done (by kernel_rfl) ?_ _
  refine NoPanic.normal ?_
  have hP5 := hP3.aside (hk4.trans hk5)
  clear z0 z1 z2 k8 k9 k10 k11 hr4 hr5 hk4 hk5 hP3 hZ
  obtain ⟨t0, t1, t2, t3, t4, t5, t6, t7, t8⟩ := hP5.rm.tops
  clear t1 t2 t4 t6 t7 t8
  have hB2 := ok.b2
  go_wp2_with fail
  go_loop [8] (fun i => ∃ m : Nat, m ≤ s.B + 2 ∧ i = .int .i64 ((m : Int) - 1)) (fun i => (s.B + 1 - intOf i).toNat)
  case atStart => exact ⟨0, by omega, rfl⟩
  case round =>
    obtain ⟨m, hm, rfl⟩ := hrel
    by_cases hend : m = s.B + 2
    · subst hend
      have e2 : ¬ ((s.B + 2 : Nat) : Int) - 1 ≤ s.B := by omega
      go_wp2_with fail
      refine (call2_any hP5.mem ok (by omega) n).mono ?_
      rintro e w7 ⟨a7, len7, cap7, rfl, hf7, hm7, hk7⟩
      have hP7 := hP5.own hm7 hk7
      clear t0 t3 t5
      go_wp2_with fail
      refine (rcall2_any hP7.rm ok (by omega) n).mono ?_
      rintro e w8 ⟨a8, len8, cap8, rfl, hf8, hm8, hk8⟩
      have hP8 := hP7.ref hm8 hk8
      have hs := same_any (hf7.keep hk8 (fun b hb => hP5.lt b (Or.inr hb))) hf8.1
      go_wp2_with fail
      refine hs.mono ?_
      rintro e w9 ⟨rfl, rfl⟩
      go_wp2_with fail
      go_ret
      exact ⟨rfl, hP8⟩
    · by_cases hin : 1 ≤ m ∧ m ≤ s.B
      · obtain ⟨q, rfl⟩ : ∃ q, m = q + 1 := ⟨m - 1, by omega⟩
        have hqB : q < s.B := by omega
        have hnx := next_any hP5.mem hqB
        have hbd := bad_any hP5.mem hqB
        have cn := (hP5.rm.next q hqB).1
        have cb := (hP5.rm.bad q hqB).1
        have e2 : ((q + 1 : Nat) : Int) - 1 = q := by omega
        rw [e2]
        have d1 : (q : Int) ≤ s.B := by omega
        have d2 : ¬ (q : Int) < 0 := by omega
        have d3 : ¬ (s.B : Int) ≤ q := by omega
        have d4 : (q : Int) < s.B := by omega
        clear e2
        go_wp2_with fail
        refine hnx.mono ?_
        rintro e w9 ⟨rfl, rfl⟩
        go_wp2_with fail
        refine hbd.mono ?_
        rintro e w9 ⟨rfl, rfl⟩
        go_wp2_with fail
        go_round
        case rel => exact ⟨q + 2, by omega, by go_num⟩
        case measure => simp [intOf]; omega
      · have hno : ((m : Int) - 1 < 0 ∨ (s.B : Int) ≤ (m : Int) - 1) := by omega
        have hnx := next_no hP5.mem hno
        have hbd := bad_no hP5.mem hno
        have d1 : (m : Int) - 1 ≤ s.B := by omega
        by_cases hneg : (m : Int) - 1 < 0
        · clear hno
          go_wp2_with fail
          refine hnx.mono ?_
          rintro e w9 ⟨rfl, rfl⟩
          go_wp2_with fail
          refine hbd.mono ?_
          rintro e w9 ⟨rfl, rfl⟩
          go_wp2_with fail
          go_round
          case rel => exact ⟨m + 1, by omega, by go_num⟩
          case measure => simp [intOf]; omega
        · have hge : (s.B : Int) ≤ (m : Int) - 1 := by omega
          clear hno
          go_wp2_with fail
          refine hnx.mono ?_
          rintro e w9 ⟨rfl, rfl⟩
          go_wp2_with fail
          refine hbd.mono ?_
          rintro e w9 ⟨rfl, rfl⟩
          go_wp2_with fail
          go_round
          case rel => exact ⟨m + 1, by omega, by go_num⟩
          case measure => simp [intOf]; omega
end Nd
end Go.Proofs.Ytjafjofonckaaaa
