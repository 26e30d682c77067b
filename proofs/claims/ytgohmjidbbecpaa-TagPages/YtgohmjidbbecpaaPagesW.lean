/-
  Any page: its bytes, and back; the bytes of what was read are the same.
-/
import Derived.Test.YtgohmjidbbecpaaRefD
import Derived.Test.YtgohmjidbbecpaaLits
namespace Go.Proofs.Ytgohmjidbbecpaa
open Go.ChangeShapes Go.WideShapes Go.ChangeAt Go.RowKit
namespace Tg
open Crc

theorem samePage_same (k : Int) (v d : Nat → Int) : samePage k k v v d d = true := (samePage_iff k k v v d d).2 rfl
theorem step_call_want {P : Program} {ops : Array Oper} {o : Oper} {a : Act} {w : World} {K : Act → World → Prop} {Q : Exit → Act → World → Prop} {E : Prop}
    (hw : Region.wanted o (yielded ops a.tmps) = true) (f : FuncId) (xs : Array Operand) (ts : Array TypeId) (hop : o.op = Op.call { callee := Callee.value (.func f), args := xs, argTypes := ts })
    {vs : Array Value} {R : Value → World → Prop} (hx : xs.map a.eval = vs) (he : ∀ args w, (callFunc f args).run P w = .ok (.enter f args) w) (hc : Calls P f vs w fun e w2 => ∃ v, e = .returned v ∧ R v w2)
    (hK : ∀ v w', R v w' → K (a.put o.dst v) w') : if Region.wanted o (yielded ops a.tmps) = true then Oper.wp P o a w K Q else E := by
  rw [if_pos hw]
  subst hx
  obtain ⟨dst, op, ty, pos, after, guard⟩ := o
  simp only at hop
  subst hop
  unfold Oper.wp
  rw [execOp_call_go, he, Oper.upon_enter]
  simp only [Array.empty_append, Array.append_empty]
  exact hc.mono (by rintro e w2 ⟨v, rfl, hr⟩; exact hK v w2 hr)
theorem step_conv_run {P : Program} {ops : Array Oper} {o : Oper} {a : Act} {w : World} {K : Act → World → Prop} {Q : Exit → Act → World → Prop} {E : Prop}
    (hw : Region.wanted o (yielded ops a.tmps) = true) (s t : TypeId) (x : Operand) (hop : o.op = Op.convert s t x) {v1 v' : Value} {w' : World} (hx : a.eval x = v1) (hrun : (convert s t v1).run P w = .ok v' w')
    (hK : K (a.put o.dst v') w') : if Region.wanted o (yielded ops a.tmps) = true then Oper.wp P o a w K Q else E := by
  rw [if_pos hw]
  unfold Oper.wp
  simp [execOp, hop, hx, hrun, Result.andThen]
  exact hK
theorem call14 (args : Array Value) (w : World) : (callFunc 14 args).run Try.prog w = .ok (.enter 14 args) w := enters Try.func14 (by kernel_rfl) (by kernel_rfl) args w

set_option maxRecDepth 100000 in
set_option maxHeartbeats 8000000 in
theorem pages_no (k : Int) (a0 : Option Addr) (len0 cap0 : Nat) (l0 : List Int) (x : ByteArray) (w : World) (hr0 : Tw.Row w a0 len0 cap0 l0) (hn0 : len0 ≤ 35184372087808) (hx : x.size ≤ maxLen) (hk : ¬ (1 ≤ k ∧ k ≤ 3)) :
    Calls Try.prog 4 #[.int .i64 k, .slice a0 len0 cap0, .string x] w fun e w' => e = .returned (.bool true) ∧ Keep (fun _ => False) w w' := by
  go_enter Try.func4, Try.ntmps4
  go_wp2_with fail
  refine (awake_any _).mono ?_
  rintro e w1 ⟨rfl, hk1⟩
  obtain ⟨ga, ca, w2, gu, cu, w3, hra, hru, hk3, u, hu⟩ := words_any (hr0.keep hk1 (fun _ _ _ e => e)) hn0
  have hu3 : ∀ w', Keep (fun _ => False) w3 w' → ∀ j, j < 6 → w'.cell? ⟨gu, j, none⟩ = some (.int .u32 (u j)) := fun w' h j hj => by
    have h3 := (hu j hj).1
    rw [← h3]
    exact World.cell?_of_block (w := w3) (a := ⟨gu, j, none⟩) (h.block gu (World.block_lt_of_cell? w3 _ h3) (fun e => e))
  go_wp2_with (at_builtin; first | (guard_target =~ wpList _ _ _ (Oper.mk _ (Op.call { callee := _, args := #[.tmp 15, .tmp 16], argTypes := _ }) _ _ _ _ :: _) _ _; refine wpList_append_run rfl (.tmp 15) (.tmp 16) 34 rfl (by rfl) (by rfl) hra ?_) | refine wpList_append_run rfl (.tmp 17) (.tmp 18) 34 rfl (by rfl) (by rfl) hru ?_)
  clear hra hru
  have hl0 : (0 : Int) ≤ len0 := by omega
  have hu6 : ∀ j, j < 6 → 0 ≤ six (u 0) (u 1) (u 2) (u 3) (u 4) (u 5) j ∧ six (u 0) (u 1) (u 2) (u 3) (u 4) (u 5) j ≤ 4294967295 := six_bd (fun j hj => (hu j hj).2)
  clear hu
  have kSp : ∀ w', Keep (fun _ => False) w3 w' → w'.cell? ⟨gu, 0, none⟩ = some (.int .u32 (u 0)) ∧ w'.cell? ⟨gu, 1, none⟩ = some (.int .u32 (u 1)) ∧ w'.cell? ⟨gu, 2, none⟩ = some (.int .u32 (u 2)) ∧ w'.cell? ⟨gu, 3, none⟩ = some (.int .u32 (u 3)) ∧ w'.cell? ⟨gu, 4, none⟩ = some (.int .u32 (u 4)) ∧ w'.cell? ⟨gu, 5, none⟩ = some (.int .u32 (u 5)) := fun w' h => ⟨hu3 w' h 0 (by omega), hu3 w' h 1 (by omega), hu3 w' h 2 (by omega), hu3 w' h 3 (by omega), hu3 w' h 4 (by omega), hu3 w' h 5 (by omega)⟩
  have payp := pay_post x hx w3
  have payXp := pay_post' x hx
  have hsp := payA_size (sbyte x)
  have ip0 : (0 : Int) < (len0 : Int) + 6 := by omega
  have ip1 : (1 : Int) < (len0 : Int) + 6 := by omega
  have ip2 : (2 : Int) < (len0 : Int) + 6 := by omega
  have ip3 : (3 : Int) < (len0 : Int) + 6 := by omega
  have ip4 : (4 : Int) < (len0 : Int) + 6 := by omega
  have ip5 : (5 : Int) < (len0 : Int) + 6 := by omega
  refine wp_region_noPanic ?_
  refine wp_region_held_drew (S := fun w' => w'.cell? ⟨gu, 0, none⟩ = some (.int .u32 (u 0)) ∧ w'.cell? ⟨gu, 1, none⟩ = some (.int .u32 (u 1)) ∧ w'.cell? ⟨gu, 2, none⟩ = some (.int .u32 (u 2)) ∧ w'.cell? ⟨gu, 3, none⟩ = some (.int .u32 (u 3)) ∧ w'.cell? ⟨gu, 4, none⟩ = some (.int .u32 (u 4)) ∧ w'.cell? ⟨gu, 5, none⟩ = some (.int .u32 (u 5))) (by kernel_rfl) (kSp _ ((Keep.refl _ _).drew)) (fun hHeld => ?_)
  refine' wpAnyH_take (i := 0) (oi := { dst := some 20, op := Op.move (Operand.tmp 0), type := 3, pos := "law.go:50", after := #[], guard := none }) (v := _) rfl (by kernel_rfl) (by kernel_rfl) (by kernel_rfl) (fun _ _ _ h => h) (Or.inl ⟨by rfl, ?hyp0⟩) hHeld ?rp0
  case hyp0 => (intro w' hSw; (try dsimp only at hSw); go_simp; try with_reducible rfl)
  simp only [Act.put, List.setIfInBounds_toArray, List.set_cons_zero, List.set_cons_succ]
  refine' wpAnyH_take (i := 1) (oi := { dst := some 21, op := Op.move (Operand.tmp 7), type := 34, pos := "law.go:50", after := #[], guard := none }) (v := _) rfl (by kernel_rfl) (by kernel_rfl) (by kernel_rfl) (fun _ _ _ h => h) (Or.inl ⟨by rfl, ?hyp1⟩) hHeld ?rp1
  case hyp1 => (intro w' hSw; (try dsimp only at hSw); go_simp; try with_reducible rfl)
  simp only [Act.put, List.setIfInBounds_toArray, List.set_cons_zero, List.set_cons_succ]
  refine' wpAnyH_take (i := 2) (oi := { dst := some 22, op := Op.indexAddr 34 (Operand.tmp 21) (Operand.const (Value.int IntKind.i64 0)), type := 0, pos := "law.go:50", after := #[{ on := 1, ground := Ground.data }], guard := none }) (v := _) rfl (by kernel_rfl) (by kernel_rfl) (by kernel_rfl) (fun _ _ _ h => h) (Or.inl ⟨by rfl, ?hyp2⟩) hHeld ?rp2
  case hyp2 => (intro w' hSw; (try dsimp only at hSw); go_simp; try with_reducible rfl)
  simp only [Act.put, List.setIfInBounds_toArray, List.set_cons_zero, List.set_cons_succ]
  refine' wpAnyH_take (i := 3) (oi := { dst := some 23, op := Op.load 27 (Operand.tmp 22), type := 27, pos := "law.go:50", after := #[{ on := 2, ground := Ground.data }], guard := none }) (v := _) rfl (by kernel_rfl) (by kernel_rfl) (by kernel_rfl) (fun _ _ _ h => h) (Or.inl ⟨by rfl, ?hyp3⟩) hHeld ?rp3
  case hyp3 => (intro w' hSw; (try dsimp only at hSw); go_simp; try with_reducible rfl)
  simp only [Act.put, List.setIfInBounds_toArray, List.set_cons_zero, List.set_cons_succ]
  refine' wpAnyH_take (i := 4) (oi := { dst := some 24, op := Op.move (Operand.tmp 7), type := 34, pos := "law.go:50", after := #[], guard := none }) (v := _) rfl (by kernel_rfl) (by kernel_rfl) (by kernel_rfl) (fun _ _ _ h => h) (Or.inl ⟨by rfl, ?hyp4⟩) hHeld ?rp4
  case hyp4 => (intro w' hSw; (try dsimp only at hSw); go_simp; try with_reducible rfl)
  simp only [Act.put, List.setIfInBounds_toArray, List.set_cons_zero, List.set_cons_succ]
  refine' wpAnyH_take (i := 5) (oi := { dst := some 25, op := Op.indexAddr 34 (Operand.tmp 24) (Operand.const (Value.int IntKind.i64 1)), type := 0, pos := "law.go:50", after := #[{ on := 4, ground := Ground.data }], guard := none }) (v := _) rfl (by kernel_rfl) (by kernel_rfl) (by kernel_rfl) (fun _ _ _ h => h) (Or.inl ⟨by rfl, ?hyp5⟩) hHeld ?rp5
  case hyp5 => (intro w' hSw; (try dsimp only at hSw); go_simp; try with_reducible rfl)
  simp only [Act.put, List.setIfInBounds_toArray, List.set_cons_zero, List.set_cons_succ]
  refine' wpAnyH_take (i := 6) (oi := { dst := some 26, op := Op.load 27 (Operand.tmp 25), type := 27, pos := "law.go:50", after := #[{ on := 5, ground := Ground.data }], guard := none }) (v := _) rfl (by kernel_rfl) (by kernel_rfl) (by kernel_rfl) (fun _ _ _ h => h) (Or.inl ⟨by rfl, ?hyp6⟩) hHeld ?rp6
  case hyp6 => (intro w' hSw; (try dsimp only at hSw); go_simp; try with_reducible rfl)
  simp only [Act.put, List.setIfInBounds_toArray, List.set_cons_zero, List.set_cons_succ]
  refine' wpAnyH_take (i := 7) (oi := { dst := some 27, op := Op.move (Operand.tmp 7), type := 34, pos := "law.go:50", after := #[], guard := none }) (v := _) rfl (by kernel_rfl) (by kernel_rfl) (by kernel_rfl) (fun _ _ _ h => h) (Or.inl ⟨by rfl, ?hyp7⟩) hHeld ?rp7
  case hyp7 => (intro w' hSw; (try dsimp only at hSw); go_simp; try with_reducible rfl)
  simp only [Act.put, List.setIfInBounds_toArray, List.set_cons_zero, List.set_cons_succ]
  refine' wpAnyH_take (i := 8) (oi := { dst := some 28, op := Op.indexAddr 34 (Operand.tmp 27) (Operand.const (Value.int IntKind.i64 2)), type := 0, pos := "law.go:50", after := #[{ on := 7, ground := Ground.data }], guard := none }) (v := _) rfl (by kernel_rfl) (by kernel_rfl) (by kernel_rfl) (fun _ _ _ h => h) (Or.inl ⟨by rfl, ?hyp8⟩) hHeld ?rp8
  case hyp8 => (intro w' hSw; (try dsimp only at hSw); go_simp; try with_reducible rfl)
  simp only [Act.put, List.setIfInBounds_toArray, List.set_cons_zero, List.set_cons_succ]
  refine' wpAnyH_take (i := 9) (oi := { dst := some 29, op := Op.load 27 (Operand.tmp 28), type := 27, pos := "law.go:50", after := #[{ on := 8, ground := Ground.data }], guard := none }) (v := _) rfl (by kernel_rfl) (by kernel_rfl) (by kernel_rfl) (fun _ _ _ h => h) (Or.inl ⟨by rfl, ?hyp9⟩) hHeld ?rp9
  case hyp9 => (intro w' hSw; (try dsimp only at hSw); go_simp; try with_reducible rfl)
  simp only [Act.put, List.setIfInBounds_toArray, List.set_cons_zero, List.set_cons_succ]
  refine' wpAnyH_take (i := 10) (oi := { dst := some 30, op := Op.move (Operand.tmp 7), type := 34, pos := "law.go:50", after := #[], guard := none }) (v := _) rfl (by kernel_rfl) (by kernel_rfl) (by kernel_rfl) (fun _ _ _ h => h) (Or.inl ⟨by rfl, ?hyp10⟩) hHeld ?rp10
  case hyp10 => (intro w' hSw; (try dsimp only at hSw); go_simp; try with_reducible rfl)
  simp only [Act.put, List.setIfInBounds_toArray, List.set_cons_zero, List.set_cons_succ]
  refine' wpAnyH_take (i := 11) (oi := { dst := some 31, op := Op.indexAddr 34 (Operand.tmp 30) (Operand.const (Value.int IntKind.i64 3)), type := 0, pos := "law.go:50", after := #[{ on := 10, ground := Ground.data }], guard := none }) (v := _) rfl (by kernel_rfl) (by kernel_rfl) (by kernel_rfl) (fun _ _ _ h => h) (Or.inl ⟨by rfl, ?hyp11⟩) hHeld ?rp11
  case hyp11 => (intro w' hSw; (try dsimp only at hSw); go_simp; try with_reducible rfl)
  simp only [Act.put, List.setIfInBounds_toArray, List.set_cons_zero, List.set_cons_succ]
  refine' wpAnyH_take (i := 12) (oi := { dst := some 32, op := Op.load 27 (Operand.tmp 31), type := 27, pos := "law.go:50", after := #[{ on := 11, ground := Ground.data }], guard := none }) (v := _) rfl (by kernel_rfl) (by kernel_rfl) (by kernel_rfl) (fun _ _ _ h => h) (Or.inl ⟨by rfl, ?hyp12⟩) hHeld ?rp12
  case hyp12 => (intro w' hSw; (try dsimp only at hSw); go_simp; try with_reducible rfl)
  simp only [Act.put, List.setIfInBounds_toArray, List.set_cons_zero, List.set_cons_succ]
  refine' wpAnyH_take (i := 13) (oi := { dst := some 33, op := Op.move (Operand.tmp 7), type := 34, pos := "law.go:50", after := #[], guard := none }) (v := _) rfl (by kernel_rfl) (by kernel_rfl) (by kernel_rfl) (fun _ _ _ h => h) (Or.inl ⟨by rfl, ?hyp13⟩) hHeld ?rp13
  case hyp13 => (intro w' hSw; (try dsimp only at hSw); go_simp; try with_reducible rfl)
  simp only [Act.put, List.setIfInBounds_toArray, List.set_cons_zero, List.set_cons_succ]
  refine' wpAnyH_take (i := 14) (oi := { dst := some 34, op := Op.indexAddr 34 (Operand.tmp 33) (Operand.const (Value.int IntKind.i64 4)), type := 0, pos := "law.go:50", after := #[{ on := 13, ground := Ground.data }], guard := none }) (v := _) rfl (by kernel_rfl) (by kernel_rfl) (by kernel_rfl) (fun _ _ _ h => h) (Or.inl ⟨by rfl, ?hyp14⟩) hHeld ?rp14
  case hyp14 => (intro w' hSw; (try dsimp only at hSw); go_simp; try with_reducible rfl)
  simp only [Act.put, List.setIfInBounds_toArray, List.set_cons_zero, List.set_cons_succ]
  refine' wpAnyH_take (i := 15) (oi := { dst := some 35, op := Op.load 27 (Operand.tmp 34), type := 27, pos := "law.go:50", after := #[{ on := 14, ground := Ground.data }], guard := none }) (v := _) rfl (by kernel_rfl) (by kernel_rfl) (by kernel_rfl) (fun _ _ _ h => h) (Or.inl ⟨by rfl, ?hyp15⟩) hHeld ?rp15
  case hyp15 => (intro w' hSw; (try dsimp only at hSw); go_simp; try with_reducible rfl)
  simp only [Act.put, List.setIfInBounds_toArray, List.set_cons_zero, List.set_cons_succ]
  refine' wpAnyH_take (i := 16) (oi := { dst := some 36, op := Op.move (Operand.tmp 7), type := 34, pos := "law.go:50", after := #[], guard := none }) (v := _) rfl (by kernel_rfl) (by kernel_rfl) (by kernel_rfl) (fun _ _ _ h => h) (Or.inl ⟨by rfl, ?hyp16⟩) hHeld ?rp16
  case hyp16 => (intro w' hSw; (try dsimp only at hSw); go_simp; try with_reducible rfl)
  simp only [Act.put, List.setIfInBounds_toArray, List.set_cons_zero, List.set_cons_succ]
  refine' wpAnyH_take (i := 17) (oi := { dst := some 37, op := Op.indexAddr 34 (Operand.tmp 36) (Operand.const (Value.int IntKind.i64 5)), type := 0, pos := "law.go:50", after := #[{ on := 16, ground := Ground.data }], guard := none }) (v := _) rfl (by kernel_rfl) (by kernel_rfl) (by kernel_rfl) (fun _ _ _ h => h) (Or.inl ⟨by rfl, ?hyp17⟩) hHeld ?rp17
  case hyp17 => (intro w' hSw; (try dsimp only at hSw); go_simp; try with_reducible rfl)
  simp only [Act.put, List.setIfInBounds_toArray, List.set_cons_zero, List.set_cons_succ]
  refine' wpAnyH_take (i := 18) (oi := { dst := some 38, op := Op.load 27 (Operand.tmp 37), type := 27, pos := "law.go:50", after := #[{ on := 17, ground := Ground.data }], guard := none }) (v := _) rfl (by kernel_rfl) (by kernel_rfl) (by kernel_rfl) (fun _ _ _ h => h) (Or.inl ⟨by rfl, ?hyp18⟩) hHeld ?rp18
  case hyp18 => (intro w' hSw; (try dsimp only at hSw); go_simp; try with_reducible rfl)
  simp only [Act.put, List.setIfInBounds_toArray, List.set_cons_zero, List.set_cons_succ]
  refine' wpAnyH_take (i := 19) (oi := { dst := some 39, op := Op.move (Operand.tmp 2), type := 9, pos := "law.go:50", after := #[], guard := none }) (v := _) rfl (by kernel_rfl) (by kernel_rfl) (by kernel_rfl) (fun _ _ _ h => h) (Or.inl ⟨by rfl, ?hyp19⟩) hHeld ?rp19
  case hyp19 => (intro w' hSw; (try dsimp only at hSw); go_simp; try with_reducible rfl)
  simp only [Act.put, List.setIfInBounds_toArray, List.set_cons_zero, List.set_cons_succ]
  refine wpAnyH_ready (rs := [20, 22]) (by kernel_rfl) (by simp) ?_
  refine AllReadyH.cons (o := { dst := some 40, op := Op.call { callee := Callee.value (Operand.func 12), args := #[Operand.tmp 39], argTypes := #[9] }, type := 28, pos := "law.go:50", after := #[{ on := 19, ground := Ground.data }], guard := none }) rfl (fun K hK => ?_) (AllReadyH.cons (o := { dst := some 8, op := Op.alloc 30, type := 0, pos := "law.go:50", after := #[], guard := none }) rfl (fun K hK => ?_) AllReadyH.nil)
  · refine step_call_post (vs := #[.string x]) (R := fun v w' => v = .agg (payA (sbyte x)) ∧ Keep (fun _ => False) w3 w') rfl 12 #[.tmp 39] #[9] rfl (by simp [Act.eval]) call12 (payp _ ((Keep.refl _ _).drew)) ?_
    rintro v wA ⟨rfl, hkA⟩
    refine hK.out _ _ (kSp _ hkA) (fun hHeld5 => ?_)
    clear hK K
    simp only [Act.put, List.setIfInBounds_toArray, List.set_cons_zero, List.set_cons_succ]
    refine' wpAnyH_take (i := 21) (oi := { dst := some 41, op := Op.build 30 #[(0, Operand.tmp 20), (1, Operand.tmp 23), (2, Operand.tmp 26), (3, Operand.tmp 29), (4, Operand.tmp 32), (5, Operand.tmp 35), (6, Operand.tmp 38), (7, Operand.tmp 40)], type := 30, pos := "law.go:50", after := #[{ on := 0, ground := Ground.data }, { on := 3, ground := Ground.data }, { on := 6, ground := Ground.data }, { on := 9, ground := Ground.data }, { on := 12, ground := Ground.data }, { on := 15, ground := Ground.data }, { on := 18, ground := Ground.data }, { on := 20, ground := Ground.data }], guard := none }) (v := .agg (pageA k (six (u 0) (u 1) (u 2) (u 3) (u 4) (u 5)) (sbyte x))) rfl (by kernel_rfl) (by kernel_rfl) (by kernel_rfl) (fun _ _ _ h => h) (Or.inl ⟨by rfl, ?hbpA⟩) hHeld5 ?rbpA
    case hbpA => (intro w' hSw; clear hSw; go_simp; rw [build_page])
    simp only [Act.put, List.setIfInBounds_toArray, List.set_cons_zero, List.set_cons_succ]
    refine wpAnyH_ready (rs := [22]) (by kernel_rfl) (by simp) ?_
    refine AllReadyH.cons (o := { dst := some 8, op := Op.alloc 30, type := 0, pos := "law.go:50", after := #[], guard := none }) rfl (fun K hK => ?_) AllReadyH.nil
    go_simp
    refine hK.out _ _ (kSp _ (hkA.alloc _)) (fun hHeld7 => ?_)
    clear hK K hHeld7 hHeld hHeld5
    obtain ⟨wB, hstB, hbB, hkB⟩ := new_page wA k (six (u 0) (u 1) (u 2) (u 3) (u 4) (u 5)) (sbyte x)
    have HKB : Keep (fun _ => False) w3 wB := hkA.trans hkB
    have hpB := (show w3.heap.size ≤ wA.heap.size from hkA.size)
    refine wpAnyH_ready (rs := [23]) (by kernel_rfl) (by simp) ?_
    refine AllReadyH.cons (o := { dst := none, op := Op.store 30 (Operand.tmp 8) (Operand.tmp 41), type := 0, pos := "law.go:50", after := #[{ on := 22, ground := Ground.data }, { on := 21, ground := Ground.data }, { on := 20, ground := Ground.chain }, { on := 0, ground := Ground.phase }, { on := 1, ground := Ground.phase }, { on := 2, ground := Ground.phase }, { on := 3, ground := Ground.phase }, { on := 4, ground := Ground.phase }, { on := 5, ground := Ground.phase }, { on := 6, ground := Ground.phase }, { on := 7, ground := Ground.phase }, { on := 8, ground := Ground.phase }, { on := 9, ground := Ground.phase }, { on := 10, ground := Ground.phase }, { on := 11, ground := Ground.phase }, { on := 12, ground := Ground.phase }, { on := 13, ground := Ground.phase }, { on := 14, ground := Ground.phase }, { on := 15, ground := Ground.phase }, { on := 16, ground := Ground.phase }, { on := 17, ground := Ground.phase }, { on := 18, ground := Ground.phase }, { on := 19, ground := Ground.phase }, { on := 20, ground := Ground.phase }, { on := 21, ground := Ground.phase }, { on := 22, ground := Ground.phase }], guard := none }) rfl (fun K hK => ?_) AllReadyH.nil
    refine step_store_run rfl 30 (.tmp 8) (.tmp 41) rfl (by rfl) (by rfl) hstB ?_
    refine hK.out _ _ (kSp _ HKB) (fun hHeld6 => ?_)
    clear hK K hHeld6 hstB
    refine wpAnyH_done (by kernel_rfl) ?_ _
    refine NoPanic.normal ?_
    generalize wA.heap.size = pB at hbB hpB ⊢
    clear hkA hkB
    clear kSp payp payXp hsp ip0 ip1 ip2 ip3 ip4 ip5
    have hld1 := loadAt_page hbB
    have HKc := (hk1.trans hk3).trans HKB
    clear hu3 hpB
    go_wp2_with (guard_target =~ wpList _ _ _ (Oper.mk _ (Op.load 30 _) _ _ _ _ :: _) _ _; refine wpList_load_run rfl 30 (.tmp 8) rfl (by rfl) hld1 ?_)
    refine (enc_no k (six (u 0) (u 1) (u 2) (u 3) (u 4) (u 5)) (sbyte x) wB hk).mono ?_
    rintro e wD ⟨rfl, hkD⟩
    have hrk := rkind_any k wD
    rw [decide_eq_false hk] at hrk
    clear hld1
    go_wp2_with (go_at_call 13; refine hrk.mono ?_; rintro e w' ⟨rfl, rfl⟩)
    go_ret
    exact ⟨rfl, HKc.trans hkD⟩
  · go_simp
    have hb0 := blk_alloc w3.drew _ 30 39 _ (pageA_get 0 (fun _ => 0) (fun _ => 0))
    have hk0 : Keep (fun _ => False) w3 (w3.drew.alloc (.cells (pageA 0 (fun _ => 0) (fun _ => 0)) 30)) := ((Keep.refl _ _).drew).alloc _
    rw [show pageA 0 (fun _ => 0) (fun _ => 0) = _ from noPage_eq] at hb0 hk0
    refine hK.out _ _ (kSp _ hk0) (fun hHeld7 => ?_)
    clear hK K hHeld
    refine wpAnyH_ready (rs := [20]) (by kernel_rfl) (by simp) ?_
    refine AllReadyH.cons (o := { dst := some 40, op := Op.call { callee := Callee.value (Operand.func 12), args := #[Operand.tmp 39], argTypes := #[9] }, type := 28, pos := "law.go:50", after := #[{ on := 19, ground := Ground.data }], guard := none }) rfl (fun K hK => ?_) AllReadyH.nil
    refine step_call_post (vs := #[.string x]) (R := fun v w' => v = .agg (payA (sbyte x)) ∧ Keep (fun _ => False) (w3.drew.alloc (.cells #[Value.int .i64 0, .int .u32 0, .int .u32 0, .int .u32 0, .int .u32 0, .int .u32 0, .int .u32 0, .int .u8 0, .int .u8 0, .int .u8 0, .int .u8 0, .int .u8 0, .int .u8 0, .int .u8 0, .int .u8 0, .int .u8 0, .int .u8 0, .int .u8 0, .int .u8 0, .int .u8 0, .int .u8 0, .int .u8 0, .int .u8 0, .int .u8 0, .int .u8 0, .int .u8 0, .int .u8 0, .int .u8 0, .int .u8 0, .int .u8 0, .int .u8 0, .int .u8 0, .int .u8 0, .int .u8 0, .int .u8 0, .int .u8 0, .int .u8 0, .int .u8 0, .int .u8 0] 30)) w') rfl 12 #[.tmp 39] #[9] rfl (by simp [Act.eval]) call12 (payXp _) ?_
    rintro v wA ⟨rfl, hkA⟩
    refine hK.out _ _ (kSp _ (hk0.trans hkA)) (fun hHeld5 => ?_)
    clear hK K hHeld7
    simp only [Act.put, List.setIfInBounds_toArray, List.set_cons_zero, List.set_cons_succ]
    refine' wpAnyH_take (i := 21) (oi := { dst := some 41, op := Op.build 30 #[(0, Operand.tmp 20), (1, Operand.tmp 23), (2, Operand.tmp 26), (3, Operand.tmp 29), (4, Operand.tmp 32), (5, Operand.tmp 35), (6, Operand.tmp 38), (7, Operand.tmp 40)], type := 30, pos := "law.go:50", after := #[{ on := 0, ground := Ground.data }, { on := 3, ground := Ground.data }, { on := 6, ground := Ground.data }, { on := 9, ground := Ground.data }, { on := 12, ground := Ground.data }, { on := 15, ground := Ground.data }, { on := 18, ground := Ground.data }, { on := 20, ground := Ground.data }], guard := none }) (v := .agg (pageA k (six (u 0) (u 1) (u 2) (u 3) (u 4) (u 5)) (sbyte x))) rfl (by kernel_rfl) (by kernel_rfl) (by kernel_rfl) (fun _ _ _ h => h) (Or.inl ⟨by rfl, ?hbpB⟩) hHeld5 ?rbpB
    case hbpB => (intro w' hSw; clear hSw; go_simp; rw [build_page])
    simp only [Act.put, List.setIfInBounds_toArray, List.set_cons_zero, List.set_cons_succ]
    obtain ⟨wB, hstB, hbB, hkB⟩ := store_page (hb0.keep hkA (fun e => e)) k (six (u 0) (u 1) (u 2) (u 3) (u 4) (u 5)) (sbyte x)
    have HKB : Keep (fun _ => False) w3 wB := (hk0.trans hkA).next hkB (fun y hy e => by have e2 : w3.drew.heap.size = w3.heap.size := rfl; omega)
    have hpB := (Nat.le_refl w3.heap.size)
    refine wpAnyH_ready (rs := [23]) (by kernel_rfl) (by simp) ?_
    clear hHeld5
    refine AllReadyH.cons (o := { dst := none, op := Op.store 30 (Operand.tmp 8) (Operand.tmp 41), type := 0, pos := "law.go:50", after := #[{ on := 22, ground := Ground.data }, { on := 21, ground := Ground.data }, { on := 20, ground := Ground.chain }, { on := 0, ground := Ground.phase }, { on := 1, ground := Ground.phase }, { on := 2, ground := Ground.phase }, { on := 3, ground := Ground.phase }, { on := 4, ground := Ground.phase }, { on := 5, ground := Ground.phase }, { on := 6, ground := Ground.phase }, { on := 7, ground := Ground.phase }, { on := 8, ground := Ground.phase }, { on := 9, ground := Ground.phase }, { on := 10, ground := Ground.phase }, { on := 11, ground := Ground.phase }, { on := 12, ground := Ground.phase }, { on := 13, ground := Ground.phase }, { on := 14, ground := Ground.phase }, { on := 15, ground := Ground.phase }, { on := 16, ground := Ground.phase }, { on := 17, ground := Ground.phase }, { on := 18, ground := Ground.phase }, { on := 19, ground := Ground.phase }, { on := 20, ground := Ground.phase }, { on := 21, ground := Ground.phase }, { on := 22, ground := Ground.phase }], guard := none }) rfl (fun K hK => ?_) AllReadyH.nil
    refine step_store_run rfl 30 (.tmp 8) (.tmp 41) rfl (by rfl) (by rfl) hstB ?_
    refine hK.out _ _ (kSp _ HKB) (fun hHeld6 => ?_)
    clear hK K hHeld6 hstB
    refine wpAnyH_done (by kernel_rfl) ?_ _
    refine NoPanic.normal ?_
    rw [show w3.drew.heap.size = w3.heap.size from rfl] at hbB
    obtain ⟨pB, hpe⟩ : ∃ pB, pB = w3.heap.size := ⟨_, rfl⟩
    rw [← hpe] at hbB hpB ⊢
    clear hkA hkB hb0 hk0 hpe
    clear kSp payp payXp hsp ip0 ip1 ip2 ip3 ip4 ip5
    have hld1 := loadAt_page hbB
    have HKc := (hk1.trans hk3).trans HKB
    clear hu3 hpB
    go_wp2_with (guard_target =~ wpList _ _ _ (Oper.mk _ (Op.load 30 _) _ _ _ _ :: _) _ _; refine wpList_load_run rfl 30 (.tmp 8) rfl (by rfl) hld1 ?_)
    refine (enc_no k (six (u 0) (u 1) (u 2) (u 3) (u 4) (u 5)) (sbyte x) wB hk).mono ?_
    rintro e wD ⟨rfl, hkD⟩
    have hrk := rkind_any k wD
    rw [decide_eq_false hk] at hrk
    clear hld1
    go_wp2_with (go_at_call 13; refine hrk.mono ?_; rintro e w' ⟨rfl, rfl⟩)
    go_ret
    exact ⟨rfl, HKc.trans hkD⟩

set_option maxRecDepth 100000 in
set_option maxHeartbeats 8000000 in
theorem pages_yes (k : Int) (a0 : Option Addr) (len0 cap0 : Nat) (l0 : List Int) (x : ByteArray) (w : World) (hr0 : Tw.Row w a0 len0 cap0 l0) (hn0 : len0 ≤ 35184372087808) (hx : x.size ≤ maxLen) (hk : 1 ≤ k ∧ k ≤ 3) :
    Calls Try.prog 4 #[.int .i64 k, .slice a0 len0 cap0, .string x] w fun e w' => e = .returned (.bool true) ∧ Keep (fun _ => False) w w' := by
  go_enter Try.func4, Try.ntmps4
  go_wp2_with fail
  refine (awake_any _).mono ?_
  rintro e w1 ⟨rfl, hk1⟩
  obtain ⟨ga, ca, w2, gu, cu, w3, hra, hru, hk3, u, hu⟩ := words_any (hr0.keep hk1 (fun _ _ _ e => e)) hn0
  have hu3 : ∀ w', Keep (fun _ => False) w3 w' → ∀ j, j < 6 → w'.cell? ⟨gu, j, none⟩ = some (.int .u32 (u j)) := fun w' h j hj => by
    have h3 := (hu j hj).1
    rw [← h3]
    exact World.cell?_of_block (w := w3) (a := ⟨gu, j, none⟩) (h.block gu (World.block_lt_of_cell? w3 _ h3) (fun e => e))
  go_wp2_with (at_builtin; first | (guard_target =~ wpList _ _ _ (Oper.mk _ (Op.call { callee := _, args := #[.tmp 15, .tmp 16], argTypes := _ }) _ _ _ _ :: _) _ _; refine wpList_append_run rfl (.tmp 15) (.tmp 16) 34 rfl (by rfl) (by rfl) hra ?_) | refine wpList_append_run rfl (.tmp 17) (.tmp 18) 34 rfl (by rfl) (by rfl) hru ?_)
  clear hra hru
  have hl0 : (0 : Int) ≤ len0 := by omega
  have hu6 : ∀ j, j < 6 → 0 ≤ six (u 0) (u 1) (u 2) (u 3) (u 4) (u 5) j ∧ six (u 0) (u 1) (u 2) (u 3) (u 4) (u 5) j ≤ 4294967295 := six_bd (fun j hj => (hu j hj).2)
  clear hu
  have kSp : ∀ w', Keep (fun _ => False) w3 w' → w'.cell? ⟨gu, 0, none⟩ = some (.int .u32 (u 0)) ∧ w'.cell? ⟨gu, 1, none⟩ = some (.int .u32 (u 1)) ∧ w'.cell? ⟨gu, 2, none⟩ = some (.int .u32 (u 2)) ∧ w'.cell? ⟨gu, 3, none⟩ = some (.int .u32 (u 3)) ∧ w'.cell? ⟨gu, 4, none⟩ = some (.int .u32 (u 4)) ∧ w'.cell? ⟨gu, 5, none⟩ = some (.int .u32 (u 5)) := fun w' h => ⟨hu3 w' h 0 (by omega), hu3 w' h 1 (by omega), hu3 w' h 2 (by omega), hu3 w' h 3 (by omega), hu3 w' h 4 (by omega), hu3 w' h 5 (by omega)⟩
  have payp := pay_post x hx w3
  have payXp := pay_post' x hx
  have hsp := payA_size (sbyte x)
  have ip0 : (0 : Int) < (len0 : Int) + 6 := by omega
  have ip1 : (1 : Int) < (len0 : Int) + 6 := by omega
  have ip2 : (2 : Int) < (len0 : Int) + 6 := by omega
  have ip3 : (3 : Int) < (len0 : Int) + 6 := by omega
  have ip4 : (4 : Int) < (len0 : Int) + 6 := by omega
  have ip5 : (5 : Int) < (len0 : Int) + 6 := by omega
  refine wp_region_noPanic ?_
  refine wp_region_held_drew (S := fun w' => w'.cell? ⟨gu, 0, none⟩ = some (.int .u32 (u 0)) ∧ w'.cell? ⟨gu, 1, none⟩ = some (.int .u32 (u 1)) ∧ w'.cell? ⟨gu, 2, none⟩ = some (.int .u32 (u 2)) ∧ w'.cell? ⟨gu, 3, none⟩ = some (.int .u32 (u 3)) ∧ w'.cell? ⟨gu, 4, none⟩ = some (.int .u32 (u 4)) ∧ w'.cell? ⟨gu, 5, none⟩ = some (.int .u32 (u 5))) (by kernel_rfl) (kSp _ ((Keep.refl _ _).drew)) (fun hHeld => ?_)
  refine' wpAnyH_take (i := 0) (oi := { dst := some 20, op := Op.move (Operand.tmp 0), type := 3, pos := "law.go:50", after := #[], guard := none }) (v := _) rfl (by kernel_rfl) (by kernel_rfl) (by kernel_rfl) (fun _ _ _ h => h) (Or.inl ⟨by rfl, ?hyp0⟩) hHeld ?rp0
  case hyp0 => (intro w' hSw; (try dsimp only at hSw); go_simp; try with_reducible rfl)
  simp only [Act.put, List.setIfInBounds_toArray, List.set_cons_zero, List.set_cons_succ]
  refine' wpAnyH_take (i := 1) (oi := { dst := some 21, op := Op.move (Operand.tmp 7), type := 34, pos := "law.go:50", after := #[], guard := none }) (v := _) rfl (by kernel_rfl) (by kernel_rfl) (by kernel_rfl) (fun _ _ _ h => h) (Or.inl ⟨by rfl, ?hyp1⟩) hHeld ?rp1
  case hyp1 => (intro w' hSw; (try dsimp only at hSw); go_simp; try with_reducible rfl)
  simp only [Act.put, List.setIfInBounds_toArray, List.set_cons_zero, List.set_cons_succ]
  refine' wpAnyH_take (i := 2) (oi := { dst := some 22, op := Op.indexAddr 34 (Operand.tmp 21) (Operand.const (Value.int IntKind.i64 0)), type := 0, pos := "law.go:50", after := #[{ on := 1, ground := Ground.data }], guard := none }) (v := _) rfl (by kernel_rfl) (by kernel_rfl) (by kernel_rfl) (fun _ _ _ h => h) (Or.inl ⟨by rfl, ?hyp2⟩) hHeld ?rp2
  case hyp2 => (intro w' hSw; (try dsimp only at hSw); go_simp; try with_reducible rfl)
  simp only [Act.put, List.setIfInBounds_toArray, List.set_cons_zero, List.set_cons_succ]
  refine' wpAnyH_take (i := 3) (oi := { dst := some 23, op := Op.load 27 (Operand.tmp 22), type := 27, pos := "law.go:50", after := #[{ on := 2, ground := Ground.data }], guard := none }) (v := _) rfl (by kernel_rfl) (by kernel_rfl) (by kernel_rfl) (fun _ _ _ h => h) (Or.inl ⟨by rfl, ?hyp3⟩) hHeld ?rp3
  case hyp3 => (intro w' hSw; (try dsimp only at hSw); go_simp; try with_reducible rfl)
  simp only [Act.put, List.setIfInBounds_toArray, List.set_cons_zero, List.set_cons_succ]
  refine' wpAnyH_take (i := 4) (oi := { dst := some 24, op := Op.move (Operand.tmp 7), type := 34, pos := "law.go:50", after := #[], guard := none }) (v := _) rfl (by kernel_rfl) (by kernel_rfl) (by kernel_rfl) (fun _ _ _ h => h) (Or.inl ⟨by rfl, ?hyp4⟩) hHeld ?rp4
  case hyp4 => (intro w' hSw; (try dsimp only at hSw); go_simp; try with_reducible rfl)
  simp only [Act.put, List.setIfInBounds_toArray, List.set_cons_zero, List.set_cons_succ]
  refine' wpAnyH_take (i := 5) (oi := { dst := some 25, op := Op.indexAddr 34 (Operand.tmp 24) (Operand.const (Value.int IntKind.i64 1)), type := 0, pos := "law.go:50", after := #[{ on := 4, ground := Ground.data }], guard := none }) (v := _) rfl (by kernel_rfl) (by kernel_rfl) (by kernel_rfl) (fun _ _ _ h => h) (Or.inl ⟨by rfl, ?hyp5⟩) hHeld ?rp5
  case hyp5 => (intro w' hSw; (try dsimp only at hSw); go_simp; try with_reducible rfl)
  simp only [Act.put, List.setIfInBounds_toArray, List.set_cons_zero, List.set_cons_succ]
  refine' wpAnyH_take (i := 6) (oi := { dst := some 26, op := Op.load 27 (Operand.tmp 25), type := 27, pos := "law.go:50", after := #[{ on := 5, ground := Ground.data }], guard := none }) (v := _) rfl (by kernel_rfl) (by kernel_rfl) (by kernel_rfl) (fun _ _ _ h => h) (Or.inl ⟨by rfl, ?hyp6⟩) hHeld ?rp6
  case hyp6 => (intro w' hSw; (try dsimp only at hSw); go_simp; try with_reducible rfl)
  simp only [Act.put, List.setIfInBounds_toArray, List.set_cons_zero, List.set_cons_succ]
  refine' wpAnyH_take (i := 7) (oi := { dst := some 27, op := Op.move (Operand.tmp 7), type := 34, pos := "law.go:50", after := #[], guard := none }) (v := _) rfl (by kernel_rfl) (by kernel_rfl) (by kernel_rfl) (fun _ _ _ h => h) (Or.inl ⟨by rfl, ?hyp7⟩) hHeld ?rp7
  case hyp7 => (intro w' hSw; (try dsimp only at hSw); go_simp; try with_reducible rfl)
  simp only [Act.put, List.setIfInBounds_toArray, List.set_cons_zero, List.set_cons_succ]
  refine' wpAnyH_take (i := 8) (oi := { dst := some 28, op := Op.indexAddr 34 (Operand.tmp 27) (Operand.const (Value.int IntKind.i64 2)), type := 0, pos := "law.go:50", after := #[{ on := 7, ground := Ground.data }], guard := none }) (v := _) rfl (by kernel_rfl) (by kernel_rfl) (by kernel_rfl) (fun _ _ _ h => h) (Or.inl ⟨by rfl, ?hyp8⟩) hHeld ?rp8
  case hyp8 => (intro w' hSw; (try dsimp only at hSw); go_simp; try with_reducible rfl)
  simp only [Act.put, List.setIfInBounds_toArray, List.set_cons_zero, List.set_cons_succ]
  refine' wpAnyH_take (i := 9) (oi := { dst := some 29, op := Op.load 27 (Operand.tmp 28), type := 27, pos := "law.go:50", after := #[{ on := 8, ground := Ground.data }], guard := none }) (v := _) rfl (by kernel_rfl) (by kernel_rfl) (by kernel_rfl) (fun _ _ _ h => h) (Or.inl ⟨by rfl, ?hyp9⟩) hHeld ?rp9
  case hyp9 => (intro w' hSw; (try dsimp only at hSw); go_simp; try with_reducible rfl)
  simp only [Act.put, List.setIfInBounds_toArray, List.set_cons_zero, List.set_cons_succ]
  refine' wpAnyH_take (i := 10) (oi := { dst := some 30, op := Op.move (Operand.tmp 7), type := 34, pos := "law.go:50", after := #[], guard := none }) (v := _) rfl (by kernel_rfl) (by kernel_rfl) (by kernel_rfl) (fun _ _ _ h => h) (Or.inl ⟨by rfl, ?hyp10⟩) hHeld ?rp10
  case hyp10 => (intro w' hSw; (try dsimp only at hSw); go_simp; try with_reducible rfl)
  simp only [Act.put, List.setIfInBounds_toArray, List.set_cons_zero, List.set_cons_succ]
  refine' wpAnyH_take (i := 11) (oi := { dst := some 31, op := Op.indexAddr 34 (Operand.tmp 30) (Operand.const (Value.int IntKind.i64 3)), type := 0, pos := "law.go:50", after := #[{ on := 10, ground := Ground.data }], guard := none }) (v := _) rfl (by kernel_rfl) (by kernel_rfl) (by kernel_rfl) (fun _ _ _ h => h) (Or.inl ⟨by rfl, ?hyp11⟩) hHeld ?rp11
  case hyp11 => (intro w' hSw; (try dsimp only at hSw); go_simp; try with_reducible rfl)
  simp only [Act.put, List.setIfInBounds_toArray, List.set_cons_zero, List.set_cons_succ]
  refine' wpAnyH_take (i := 12) (oi := { dst := some 32, op := Op.load 27 (Operand.tmp 31), type := 27, pos := "law.go:50", after := #[{ on := 11, ground := Ground.data }], guard := none }) (v := _) rfl (by kernel_rfl) (by kernel_rfl) (by kernel_rfl) (fun _ _ _ h => h) (Or.inl ⟨by rfl, ?hyp12⟩) hHeld ?rp12
  case hyp12 => (intro w' hSw; (try dsimp only at hSw); go_simp; try with_reducible rfl)
  simp only [Act.put, List.setIfInBounds_toArray, List.set_cons_zero, List.set_cons_succ]
  refine' wpAnyH_take (i := 13) (oi := { dst := some 33, op := Op.move (Operand.tmp 7), type := 34, pos := "law.go:50", after := #[], guard := none }) (v := _) rfl (by kernel_rfl) (by kernel_rfl) (by kernel_rfl) (fun _ _ _ h => h) (Or.inl ⟨by rfl, ?hyp13⟩) hHeld ?rp13
  case hyp13 => (intro w' hSw; (try dsimp only at hSw); go_simp; try with_reducible rfl)
  simp only [Act.put, List.setIfInBounds_toArray, List.set_cons_zero, List.set_cons_succ]
  refine' wpAnyH_take (i := 14) (oi := { dst := some 34, op := Op.indexAddr 34 (Operand.tmp 33) (Operand.const (Value.int IntKind.i64 4)), type := 0, pos := "law.go:50", after := #[{ on := 13, ground := Ground.data }], guard := none }) (v := _) rfl (by kernel_rfl) (by kernel_rfl) (by kernel_rfl) (fun _ _ _ h => h) (Or.inl ⟨by rfl, ?hyp14⟩) hHeld ?rp14
  case hyp14 => (intro w' hSw; (try dsimp only at hSw); go_simp; try with_reducible rfl)
  simp only [Act.put, List.setIfInBounds_toArray, List.set_cons_zero, List.set_cons_succ]
  refine' wpAnyH_take (i := 15) (oi := { dst := some 35, op := Op.load 27 (Operand.tmp 34), type := 27, pos := "law.go:50", after := #[{ on := 14, ground := Ground.data }], guard := none }) (v := _) rfl (by kernel_rfl) (by kernel_rfl) (by kernel_rfl) (fun _ _ _ h => h) (Or.inl ⟨by rfl, ?hyp15⟩) hHeld ?rp15
  case hyp15 => (intro w' hSw; (try dsimp only at hSw); go_simp; try with_reducible rfl)
  simp only [Act.put, List.setIfInBounds_toArray, List.set_cons_zero, List.set_cons_succ]
  refine' wpAnyH_take (i := 16) (oi := { dst := some 36, op := Op.move (Operand.tmp 7), type := 34, pos := "law.go:50", after := #[], guard := none }) (v := _) rfl (by kernel_rfl) (by kernel_rfl) (by kernel_rfl) (fun _ _ _ h => h) (Or.inl ⟨by rfl, ?hyp16⟩) hHeld ?rp16
  case hyp16 => (intro w' hSw; (try dsimp only at hSw); go_simp; try with_reducible rfl)
  simp only [Act.put, List.setIfInBounds_toArray, List.set_cons_zero, List.set_cons_succ]
  refine' wpAnyH_take (i := 17) (oi := { dst := some 37, op := Op.indexAddr 34 (Operand.tmp 36) (Operand.const (Value.int IntKind.i64 5)), type := 0, pos := "law.go:50", after := #[{ on := 16, ground := Ground.data }], guard := none }) (v := _) rfl (by kernel_rfl) (by kernel_rfl) (by kernel_rfl) (fun _ _ _ h => h) (Or.inl ⟨by rfl, ?hyp17⟩) hHeld ?rp17
  case hyp17 => (intro w' hSw; (try dsimp only at hSw); go_simp; try with_reducible rfl)
  simp only [Act.put, List.setIfInBounds_toArray, List.set_cons_zero, List.set_cons_succ]
  refine' wpAnyH_take (i := 18) (oi := { dst := some 38, op := Op.load 27 (Operand.tmp 37), type := 27, pos := "law.go:50", after := #[{ on := 17, ground := Ground.data }], guard := none }) (v := _) rfl (by kernel_rfl) (by kernel_rfl) (by kernel_rfl) (fun _ _ _ h => h) (Or.inl ⟨by rfl, ?hyp18⟩) hHeld ?rp18
  case hyp18 => (intro w' hSw; (try dsimp only at hSw); go_simp; try with_reducible rfl)
  simp only [Act.put, List.setIfInBounds_toArray, List.set_cons_zero, List.set_cons_succ]
  refine' wpAnyH_take (i := 19) (oi := { dst := some 39, op := Op.move (Operand.tmp 2), type := 9, pos := "law.go:50", after := #[], guard := none }) (v := _) rfl (by kernel_rfl) (by kernel_rfl) (by kernel_rfl) (fun _ _ _ h => h) (Or.inl ⟨by rfl, ?hyp19⟩) hHeld ?rp19
  case hyp19 => (intro w' hSw; (try dsimp only at hSw); go_simp; try with_reducible rfl)
  simp only [Act.put, List.setIfInBounds_toArray, List.set_cons_zero, List.set_cons_succ]
  refine wpAnyH_ready (rs := [20, 22]) (by kernel_rfl) (by simp) ?_
  refine AllReadyH.cons (o := { dst := some 40, op := Op.call { callee := Callee.value (Operand.func 12), args := #[Operand.tmp 39], argTypes := #[9] }, type := 28, pos := "law.go:50", after := #[{ on := 19, ground := Ground.data }], guard := none }) rfl (fun K hK => ?_) (AllReadyH.cons (o := { dst := some 8, op := Op.alloc 30, type := 0, pos := "law.go:50", after := #[], guard := none }) rfl (fun K hK => ?_) AllReadyH.nil)
  · refine step_call_post (vs := #[.string x]) (R := fun v w' => v = .agg (payA (sbyte x)) ∧ Keep (fun _ => False) w3 w') rfl 12 #[.tmp 39] #[9] rfl (by simp [Act.eval]) call12 (payp _ ((Keep.refl _ _).drew)) ?_
    rintro v wA ⟨rfl, hkA⟩
    refine hK.out _ _ (kSp _ hkA) (fun hHeld5 => ?_)
    clear hK K
    simp only [Act.put, List.setIfInBounds_toArray, List.set_cons_zero, List.set_cons_succ]
    refine' wpAnyH_take (i := 21) (oi := { dst := some 41, op := Op.build 30 #[(0, Operand.tmp 20), (1, Operand.tmp 23), (2, Operand.tmp 26), (3, Operand.tmp 29), (4, Operand.tmp 32), (5, Operand.tmp 35), (6, Operand.tmp 38), (7, Operand.tmp 40)], type := 30, pos := "law.go:50", after := #[{ on := 0, ground := Ground.data }, { on := 3, ground := Ground.data }, { on := 6, ground := Ground.data }, { on := 9, ground := Ground.data }, { on := 12, ground := Ground.data }, { on := 15, ground := Ground.data }, { on := 18, ground := Ground.data }, { on := 20, ground := Ground.data }], guard := none }) (v := .agg (pageA k (six (u 0) (u 1) (u 2) (u 3) (u 4) (u 5)) (sbyte x))) rfl (by kernel_rfl) (by kernel_rfl) (by kernel_rfl) (fun _ _ _ h => h) (Or.inl ⟨by rfl, ?hbpA⟩) hHeld5 ?rbpA
    case hbpA => (intro w' hSw; clear hSw; go_simp; rw [build_page])
    simp only [Act.put, List.setIfInBounds_toArray, List.set_cons_zero, List.set_cons_succ]
    refine wpAnyH_ready (rs := [22]) (by kernel_rfl) (by simp) ?_
    refine AllReadyH.cons (o := { dst := some 8, op := Op.alloc 30, type := 0, pos := "law.go:50", after := #[], guard := none }) rfl (fun K hK => ?_) AllReadyH.nil
    go_simp
    refine hK.out _ _ (kSp _ (hkA.alloc _)) (fun hHeld7 => ?_)
    clear hK K hHeld7 hHeld hHeld5
    obtain ⟨wB, hstB, hbB, hkB⟩ := new_page wA k (six (u 0) (u 1) (u 2) (u 3) (u 4) (u 5)) (sbyte x)
    have HKB : Keep (fun _ => False) w3 wB := hkA.trans hkB
    have hpB := (show w3.heap.size ≤ wA.heap.size from hkA.size)
    refine wpAnyH_ready (rs := [23]) (by kernel_rfl) (by simp) ?_
    refine AllReadyH.cons (o := { dst := none, op := Op.store 30 (Operand.tmp 8) (Operand.tmp 41), type := 0, pos := "law.go:50", after := #[{ on := 22, ground := Ground.data }, { on := 21, ground := Ground.data }, { on := 20, ground := Ground.chain }, { on := 0, ground := Ground.phase }, { on := 1, ground := Ground.phase }, { on := 2, ground := Ground.phase }, { on := 3, ground := Ground.phase }, { on := 4, ground := Ground.phase }, { on := 5, ground := Ground.phase }, { on := 6, ground := Ground.phase }, { on := 7, ground := Ground.phase }, { on := 8, ground := Ground.phase }, { on := 9, ground := Ground.phase }, { on := 10, ground := Ground.phase }, { on := 11, ground := Ground.phase }, { on := 12, ground := Ground.phase }, { on := 13, ground := Ground.phase }, { on := 14, ground := Ground.phase }, { on := 15, ground := Ground.phase }, { on := 16, ground := Ground.phase }, { on := 17, ground := Ground.phase }, { on := 18, ground := Ground.phase }, { on := 19, ground := Ground.phase }, { on := 20, ground := Ground.phase }, { on := 21, ground := Ground.phase }, { on := 22, ground := Ground.phase }], guard := none }) rfl (fun K hK => ?_) AllReadyH.nil
    refine step_store_run rfl 30 (.tmp 8) (.tmp 41) rfl (by rfl) (by rfl) hstB ?_
    refine hK.out _ _ (kSp _ HKB) (fun hHeld6 => ?_)
    clear hK K hHeld6 hstB
    refine wpAnyH_done (by kernel_rfl) ?_ _
    refine NoPanic.normal ?_
    generalize wA.heap.size = pB at hbB hpB ⊢
    clear hkA hkB
    clear kSp payp payXp hsp ip0 ip1 ip2 ip3 ip4 ip5
    have hld1 := loadAt_page hbB
    have HKc := (hk1.trans hk3).trans HKB
    clear hu3 hpB
    go_wp2_with (guard_target =~ wpList _ _ _ (Oper.mk _ (Op.load 30 _) _ _ _ _ :: _) _ _; refine wpList_load_run rfl 30 (.tmp 8) rfl (by rfl) hld1 ?_)
    refine (enc_any k (six (u 0) (u 1) (u 2) (u 3) (u 4) (u 5)) (sbyte x) wB hk (sbyte_bd x)).mono ?_
    rintro e wD ⟨gc, rfl, hgc, hbc, hkD⟩
    have hrk := rkind_any k wD
    rw [decide_eq_true hk] at hrk
    have hd1 := dec_enc hbc hk (sbyte_bd x) hu6
    clear hld1
    go_wp2_with (go_at_call 13; refine hrk.mono ?_; rintro e w' ⟨rfl, rfl⟩)
    refine hd1.mono ?_
    rintro e wF ⟨rfl, hkF⟩
    obtain ⟨wI, hstI, hbI, hkI⟩ := new_page wF k (six (u 0) (u 1) (u 2) (u 3) (u 4) (u 5)) (sbyte x)
    clear hd1 hrk
    go_wp2_with (guard_target =~ wpList _ _ _ (Oper.mk _ (Op.store 30 _ _) _ _ _ _ :: _) _ _; refine wpList_store_run rfl 30 (.tmp 11) (.tmp 60) rfl (by rfl) (by rfl) hstI ?_)
    have hFI := hkF.trans hkI
    have hEI := hkD.trans hFI
    have HKw := HKc.trans hEI
    have lp := fun (w' : World) (h : Keep (fun _ => False) wI w') => loadAt_page ((hbB.keep hEI (fun e => e)).keep h (fun e => e))
    have lr := fun (w' : World) (h : Keep (fun _ => False) wI w') => loadAt_page (hbI.keep h (fun e => e))
    have htc := fun (w' : World) (h : Keep (fun _ => False) wI w') => (((hbc.keep hFI (fun e => e)).keep h (fun e => e)).page_row hk (sbyte_bd x)).text
    have hs1 := samePage_same k (six (u 0) (u 1) (u 2) (u 3) (u 4) (u 5)) (sbyte x)
    have hrenc : Calls Try.prog 14 #[.agg (pageA k (six (u 0) (u 1) (u 2) (u 3) (u 4) (u 5)) (sbyte x))] wI.drew fun e w2 => ∃ v, e = .returned v ∧ (fun v w2 => ∃ g' cap', v = Value.slice (some ⟨g', 0, none⟩) 68 cap' ∧ Row w2 (some ⟨g', 0, none⟩) 68 cap' (tab 68 (ebyte k (six (u 0) (u 1) (u 2) (u 3) (u 4) (u 5)) (sbyte x))) ∧ Keep (fun _ => False) wI w2) v w2 :=
      (renc_any k (six (u 0) (u 1) (u 2) (u 3) (u 4) (u 5)) (sbyte x) wI.drew hk (sbyte_bd x)).mono (fun e w2 h => by obtain ⟨g', cap', rfl, h1, h2⟩ := h; exact ⟨_, rfl, g', cap', rfl, h1, h2.undrew⟩)
    obtain ⟨Sc, hSc⟩ : ∃ Sc, strOfNums (tab 68 (ebyte k (six (u 0) (u 1) (u 2) (u 3) (u 4) (u 5)) (sbyte x))) = Sc := ⟨_, rfl⟩
    simp only [hSc] at htc
    have HSc : Hid (strOfNums (tab 68 (ebyte k (six (u 0) (u 1) (u 2) (u 3) (u 4) (u 5)) (sbyte x))) = Sc) := hSc
    clear hSc hstI hbI hbB hbc hFI hEI hkF hkI hkD HKc
    refine wp_region_noPanic ?_
    refine wp_region_held_drew (S := fun w' => Keep (fun _ => False) wI w') (by kernel_rfl) ((Keep.refl _ _).drew) (fun hHeld => ?_)
    refine' wpAnyH_take (i := 0) (oi := { dst := some 62, op := Op.move (Operand.tmp 10), type := 24, pos := "law.go:56", after := #[], guard := none }) (v := _) rfl (by kernel_rfl) (by kernel_rfl) (by kernel_rfl) (fun _ _ _ h => h) (Or.inl ⟨by rfl, ?hyzm0⟩) hHeld ?rzm0
    case hyzm0 => (intro w' hSw; clear hSw; go_simp; try with_reducible rfl)
    simp only [Act.put, List.setIfInBounds_toArray, List.set_cons_zero, List.set_cons_succ]
    refine' wpAnyH_take (i := 1) (oi := { dst := some 63, op := Op.binOp BinOp.eql 24 (Operand.tmp 62) (Operand.const (Value.int IntKind.i64 0)) 24, type := 4, pos := "law.go:56", after := #[{ on := 0, ground := Ground.data }], guard := none }) (v := _) rfl (by kernel_rfl) (by kernel_rfl) (by kernel_rfl) (fun _ _ _ h => h) (Or.inl ⟨by rfl, ?hyzm1⟩) hHeld ?rzm1
    case hyzm1 => (intro w' hSw; clear hSw; go_simp; try with_reducible rfl)
    simp only [Act.put, List.setIfInBounds_toArray, List.set_cons_zero, List.set_cons_succ]
    refine' wpAnyH_take (i := 2) (oi := { dst := some 64, op := Op.move (Operand.tmp 63), type := 4, pos := "law.go:56", after := #[{ on := 1, ground := Ground.data }], guard := none }) (v := _) rfl (by kernel_rfl) (by kernel_rfl) (by kernel_rfl) (fun _ _ _ h => h) (Or.inl ⟨by rfl, ?hyzm2⟩) hHeld ?rzm2
    case hyzm2 => (intro w' hSw; clear hSw; go_simp; try with_reducible rfl)
    simp only [Act.put, List.setIfInBounds_toArray, List.set_cons_zero, List.set_cons_succ]
    refine' wpAnyH_take (i := 3) (oi := { dst := some 65, op := Op.move (Operand.tmp 12), type := 24, pos := "law.go:56", after := #[{ on := 2, ground := Ground.guard }], guard := some (2, true) }) (v := _) rfl (by kernel_rfl) (by kernel_rfl) (by kernel_rfl) (fun _ _ _ h => h) (Or.inl ⟨by rfl, ?hyzm3⟩) hHeld ?rzm3
    case hyzm3 => (intro w' hSw; clear hSw; go_simp; try with_reducible rfl)
    simp only [Act.put, List.setIfInBounds_toArray, List.set_cons_zero, List.set_cons_succ]
    refine' wpAnyH_take (i := 4) (oi := { dst := some 66, op := Op.binOp BinOp.eql 24 (Operand.tmp 65) (Operand.const (Value.int IntKind.i64 0)) 24, type := 4, pos := "law.go:56", after := #[{ on := 3, ground := Ground.data }, { on := 2, ground := Ground.guard }], guard := some (2, true) }) (v := _) rfl (by kernel_rfl) (by kernel_rfl) (by kernel_rfl) (fun _ _ _ h => h) (Or.inl ⟨by rfl, ?hyzm4⟩) hHeld ?rzm4
    case hyzm4 => (intro w' hSw; clear hSw; go_simp; try with_reducible rfl)
    simp only [Act.put, List.setIfInBounds_toArray, List.set_cons_zero, List.set_cons_succ]
    refine' wpAnyH_take (i := 5) (oi := { dst := some 67, op := Op.pick (Operand.tmp 64) (Operand.tmp 66) (Operand.const (Value.bool false)), type := 4, pos := "law.go:56", after := #[{ on := 2, ground := Ground.data }, { on := 4, ground := Ground.data }], guard := none }) (v := _) rfl (by kernel_rfl) (by kernel_rfl) (by kernel_rfl) (fun _ _ _ h => h) (Or.inl ⟨by rfl, ?hyzm5⟩) hHeld ?rzm5
    case hyzm5 => (intro w' hSw; clear hSw; go_simp; try with_reducible rfl)
    simp only [Act.put, List.setIfInBounds_toArray, List.set_cons_zero, List.set_cons_succ]
    refine' wpAnyH_take (i := 6) (oi := { dst := some 68, op := Op.move (Operand.tmp 67), type := 4, pos := "law.go:56", after := #[{ on := 5, ground := Ground.data }, { on := 2, ground := Ground.chain }], guard := none }) (v := _) rfl (by kernel_rfl) (by kernel_rfl) (by kernel_rfl) (fun _ _ _ h => h) (Or.inl ⟨by rfl, ?hyzm6⟩) hHeld ?rzm6
    case hyzm6 => (intro w' hSw; clear hSw; go_simp; try with_reducible rfl)
    simp only [Act.put, List.setIfInBounds_toArray, List.set_cons_zero, List.set_cons_succ]
    refine' wpAnyH_take (i := 7) (oi := { dst := some 69, op := Op.move (Operand.tmp 9), type := 23, pos := "law.go:56", after := #[{ on := 6, ground := Ground.guard }], guard := some (6, true) }) (v := _) rfl (by kernel_rfl) (by kernel_rfl) (by kernel_rfl) (fun _ _ _ h => h) (Or.inl ⟨by rfl, ?hyzm7⟩) hHeld ?rzm7
    case hyzm7 => (intro w' hSw; clear hSw; go_simp; try with_reducible rfl)
    simp only [Act.put, List.setIfInBounds_toArray, List.set_cons_zero, List.set_cons_succ]
    refine' wpAnyH_take (i := 8) (oi := { dst := some 70, op := Op.convert 23 9 (Operand.tmp 69), type := 9, pos := "law.go:56", after := #[{ on := 7, ground := Ground.data }, { on := 6, ground := Ground.guard }], guard := some (6, true) }) (v := (.string Sc)) rfl (by kernel_rfl) (by kernel_rfl) (by kernel_rfl) (fun _ _ _ h => h) (yields_conv (by rfl) 23 9 (.tmp 69) rfl (by rfl) (fun w' h => htc w' h)) hHeld ?rzm8
    simp only [Act.put, List.setIfInBounds_toArray, List.set_cons_zero, List.set_cons_succ]
    refine' wpAnyH_take (i := 9) (oi := { dst := some 71, op := Op.load 30 (Operand.tmp 8), type := 30, pos := "law.go:56", after := #[{ on := 6, ground := Ground.guard }], guard := some (6, true) }) (v := (.agg (pageA k (six (u 0) (u 1) (u 2) (u 3) (u 4) (u 5)) (sbyte x)))) rfl (by kernel_rfl) (by kernel_rfl) (by kernel_rfl) (fun _ _ _ h => h) (yields_load (by rfl) 30 (.tmp 8) rfl (by rfl) (fun w' h => lp w' h)) hHeld ?rzm9
    simp only [Act.put, List.setIfInBounds_toArray, List.set_cons_zero, List.set_cons_succ]
    refine wpAnyH_ready (rs := [10]) (by kernel_rfl) (by simp) ?_
    refine AllReadyH.cons (o := { dst := some 72, op := Op.call { callee := Callee.value (Operand.func 14), args := #[Operand.tmp 71], argTypes := #[30] }, type := 23, pos := "law.go:56", after := #[{ on := 9, ground := Ground.data }, { on := 6, ground := Ground.chain }, { on := 6, ground := Ground.guard }], guard := some (6, true) }) rfl (fun K hK => ?_) AllReadyH.nil
    refine step_call_want (vs := #[.agg (pageA k (six (u 0) (u 1) (u 2) (u 3) (u 4) (u 5)) (sbyte x))]) (R := fun v w2 => ∃ g' cap', v = Value.slice (some ⟨g', 0, none⟩) 68 cap' ∧ Row w2 (some ⟨g', 0, none⟩) 68 cap' (tab 68 (ebyte k (six (u 0) (u 1) (u 2) (u 3) (u 4) (u 5)) (sbyte x))) ∧ Keep (fun _ => False) wI w2) (by rfl) 14 #[.tmp 71] #[30] rfl (by simp [Act.eval]) call14 hrenc ?_
    rintro v wJ ⟨gJ, capJ, rfl, hrJ, hkJ⟩
    refine hK.out _ _ hkJ (fun hHeld2 => ?_)
    clear hK K
    simp only [Act.put, List.setIfInBounds_toArray, List.set_cons_zero, List.set_cons_succ]
    have hcJ := hrJ.text
    rw [HSc.out] at hcJ
    refine wpAnyH_ready (rs := [11]) (by kernel_rfl) (by simp) ?_
    refine AllReadyH.cons (o := { dst := some 73, op := Op.convert 23 9 (Operand.tmp 72), type := 9, pos := "law.go:56", after := #[{ on := 10, ground := Ground.data }, { on := 6, ground := Ground.guard }], guard := some (6, true) }) rfl (fun K hK => ?_) AllReadyH.nil
    refine step_conv_run (by rfl) 23 9 (.tmp 72) rfl (by rfl) hcJ ?_
    refine hK.out _ _ hkJ (fun hHeld3 => ?_)
    clear hK K hHeld hHeld2
    simp only [Act.put, List.setIfInBounds_toArray, List.set_cons_zero, List.set_cons_succ]
    refine' wpAnyH_take (i := 12) (oi := { dst := some 74, op := Op.binOp BinOp.eql 9 (Operand.tmp 70) (Operand.tmp 73) 9, type := 4, pos := "law.go:56", after := #[{ on := 8, ground := Ground.data }, { on := 11, ground := Ground.data }, { on := 6, ground := Ground.guard }], guard := some (6, true) }) (v := _) rfl (by kernel_rfl) (by kernel_rfl) (by kernel_rfl) (fun _ _ _ h => h) (Or.inl ⟨by rfl, ?hyzm12⟩) hHeld3 ?rzm12
    case hyzm12 => (intro w' hSw; clear hSw; go_simp; try with_reducible rfl)
    simp only [Act.put, List.setIfInBounds_toArray, List.set_cons_zero, List.set_cons_succ]
    refine' wpAnyH_take (i := 13) (oi := { dst := some 75, op := Op.pick (Operand.tmp 68) (Operand.tmp 74) (Operand.const (Value.bool false)), type := 4, pos := "law.go:56", after := #[{ on := 6, ground := Ground.data }, { on := 12, ground := Ground.data }], guard := none }) (v := _) rfl (by kernel_rfl) (by kernel_rfl) (by kernel_rfl) (fun _ _ _ h => h) (Or.inl ⟨by rfl, ?hyzm13⟩) hHeld3 ?rzm13
    case hyzm13 => (intro w' hSw; clear hSw; go_simp; try with_reducible rfl)
    simp only [Act.put, List.setIfInBounds_toArray, List.set_cons_zero, List.set_cons_succ]
    refine' wpAnyH_take (i := 14) (oi := { dst := some 76, op := Op.move (Operand.tmp 75), type := 4, pos := "law.go:56", after := #[{ on := 13, ground := Ground.data }, { on := 10, ground := Ground.chain }], guard := none }) (v := _) rfl (by kernel_rfl) (by kernel_rfl) (by kernel_rfl) (fun _ _ _ h => h) (Or.inl ⟨by rfl, ?hyzm14⟩) hHeld3 ?rzm14
    case hyzm14 => (intro w' hSw; clear hSw; go_simp; try with_reducible rfl)
    simp only [Act.put, List.setIfInBounds_toArray, List.set_cons_zero, List.set_cons_succ]
    refine' wpAnyH_take (i := 15) (oi := { dst := some 77, op := Op.load 30 (Operand.tmp 11), type := 30, pos := "law.go:56", after := #[{ on := 14, ground := Ground.guard }], guard := some (14, true) }) (v := (.agg (pageA k (six (u 0) (u 1) (u 2) (u 3) (u 4) (u 5)) (sbyte x)))) rfl (by kernel_rfl) (by kernel_rfl) (by kernel_rfl) (fun _ _ _ h => h) (yields_load (by rfl) 30 (.tmp 11) rfl (by rfl) (fun w' h => lr w' h)) hHeld3 ?rzm15
    simp only [Act.put, List.setIfInBounds_toArray, List.set_cons_zero, List.set_cons_succ]
    refine' wpAnyH_take (i := 16) (oi := { dst := some 78, op := Op.load 30 (Operand.tmp 8), type := 30, pos := "law.go:56", after := #[{ on := 14, ground := Ground.guard }], guard := some (14, true) }) (v := (.agg (pageA k (six (u 0) (u 1) (u 2) (u 3) (u 4) (u 5)) (sbyte x)))) rfl (by kernel_rfl) (by kernel_rfl) (by kernel_rfl) (fun _ _ _ h => h) (yields_load (by rfl) 30 (.tmp 8) rfl (by rfl) (fun w' h => lp w' h)) hHeld3 ?rzm16
    simp only [Act.put, List.setIfInBounds_toArray, List.set_cons_zero, List.set_cons_succ]
    refine' wpAnyH_take (i := 17) (oi := { dst := some 79, op := Op.binOp BinOp.eql 30 (Operand.tmp 77) (Operand.tmp 78) 30, type := 4, pos := "law.go:56", after := #[{ on := 15, ground := Ground.data }, { on := 16, ground := Ground.data }, { on := 14, ground := Ground.guard }], guard := some (14, true) }) (v := (.bool true)) rfl (by kernel_rfl) (by kernel_rfl) (by kernel_rfl) (fun _ _ _ h => h) (yields_eq30 (by rfl) (.tmp 77) (.tmp 78) rfl (by rfl) (by rfl) hs1) hHeld3 ?rzm17
    simp only [Act.put, List.setIfInBounds_toArray, List.set_cons_zero, List.set_cons_succ]
    refine' wpAnyH_take (i := 18) (oi := { dst := some 80, op := Op.pick (Operand.tmp 76) (Operand.tmp 79) (Operand.const (Value.bool false)), type := 4, pos := "law.go:56", after := #[{ on := 14, ground := Ground.data }, { on := 17, ground := Ground.data }], guard := none }) (v := _) rfl (by kernel_rfl) (by kernel_rfl) (by kernel_rfl) (fun _ _ _ h => h) (Or.inl ⟨by rfl, ?hyzm18⟩) hHeld3 ?rzm18
    case hyzm18 => (intro w' hSw; clear hSw; go_simp; try with_reducible rfl)
    simp only [Act.put, List.setIfInBounds_toArray, List.set_cons_zero, List.set_cons_succ]
    refine' wpAnyH_take (i := 19) (oi := { dst := some 6, op := Op.assign (Operand.tmp 80), type := 4, pos := "law.go:56", after := #[{ on := 18, ground := Ground.data }, { on := 14, ground := Ground.chain }, { on := 0, ground := Ground.phase }, { on := 1, ground := Ground.phase }, { on := 2, ground := Ground.phase }, { on := 3, ground := Ground.phase }, { on := 4, ground := Ground.phase }, { on := 5, ground := Ground.phase }, { on := 6, ground := Ground.phase }, { on := 7, ground := Ground.phase }, { on := 8, ground := Ground.phase }, { on := 9, ground := Ground.phase }, { on := 10, ground := Ground.phase }, { on := 11, ground := Ground.phase }, { on := 12, ground := Ground.phase }, { on := 13, ground := Ground.phase }, { on := 14, ground := Ground.phase }, { on := 15, ground := Ground.phase }, { on := 16, ground := Ground.phase }, { on := 17, ground := Ground.phase }, { on := 18, ground := Ground.phase }], guard := none }) (v := _) rfl (by kernel_rfl) (by kernel_rfl) (by kernel_rfl) (fun _ _ _ h => h) (Or.inl ⟨by rfl, ?hyzm19⟩) hHeld3 ?rzm19
    case hyzm19 => (intro w' hSw; clear hSw; go_simp; try with_reducible rfl)
    simp only [Act.put, List.setIfInBounds_toArray, List.set_cons_zero, List.set_cons_succ]
    refine wpAnyH_done (by kernel_rfl) ?_ _
    refine NoPanic.normal ?_
    go_wp2_with fail
    go_ret
    exact ⟨rfl, HKw.trans hkJ⟩
  · go_simp
    have hb0 := blk_alloc w3.drew _ 30 39 _ (pageA_get 0 (fun _ => 0) (fun _ => 0))
    have hk0 : Keep (fun _ => False) w3 (w3.drew.alloc (.cells (pageA 0 (fun _ => 0) (fun _ => 0)) 30)) := ((Keep.refl _ _).drew).alloc _
    rw [show pageA 0 (fun _ => 0) (fun _ => 0) = _ from noPage_eq] at hb0 hk0
    refine hK.out _ _ (kSp _ hk0) (fun hHeld7 => ?_)
    clear hK K hHeld
    refine wpAnyH_ready (rs := [20]) (by kernel_rfl) (by simp) ?_
    refine AllReadyH.cons (o := { dst := some 40, op := Op.call { callee := Callee.value (Operand.func 12), args := #[Operand.tmp 39], argTypes := #[9] }, type := 28, pos := "law.go:50", after := #[{ on := 19, ground := Ground.data }], guard := none }) rfl (fun K hK => ?_) AllReadyH.nil
    refine step_call_post (vs := #[.string x]) (R := fun v w' => v = .agg (payA (sbyte x)) ∧ Keep (fun _ => False) (w3.drew.alloc (.cells #[Value.int .i64 0, .int .u32 0, .int .u32 0, .int .u32 0, .int .u32 0, .int .u32 0, .int .u32 0, .int .u8 0, .int .u8 0, .int .u8 0, .int .u8 0, .int .u8 0, .int .u8 0, .int .u8 0, .int .u8 0, .int .u8 0, .int .u8 0, .int .u8 0, .int .u8 0, .int .u8 0, .int .u8 0, .int .u8 0, .int .u8 0, .int .u8 0, .int .u8 0, .int .u8 0, .int .u8 0, .int .u8 0, .int .u8 0, .int .u8 0, .int .u8 0, .int .u8 0, .int .u8 0, .int .u8 0, .int .u8 0, .int .u8 0, .int .u8 0, .int .u8 0, .int .u8 0] 30)) w') rfl 12 #[.tmp 39] #[9] rfl (by simp [Act.eval]) call12 (payXp _) ?_
    rintro v wA ⟨rfl, hkA⟩
    refine hK.out _ _ (kSp _ (hk0.trans hkA)) (fun hHeld5 => ?_)
    clear hK K hHeld7
    simp only [Act.put, List.setIfInBounds_toArray, List.set_cons_zero, List.set_cons_succ]
    refine' wpAnyH_take (i := 21) (oi := { dst := some 41, op := Op.build 30 #[(0, Operand.tmp 20), (1, Operand.tmp 23), (2, Operand.tmp 26), (3, Operand.tmp 29), (4, Operand.tmp 32), (5, Operand.tmp 35), (6, Operand.tmp 38), (7, Operand.tmp 40)], type := 30, pos := "law.go:50", after := #[{ on := 0, ground := Ground.data }, { on := 3, ground := Ground.data }, { on := 6, ground := Ground.data }, { on := 9, ground := Ground.data }, { on := 12, ground := Ground.data }, { on := 15, ground := Ground.data }, { on := 18, ground := Ground.data }, { on := 20, ground := Ground.data }], guard := none }) (v := .agg (pageA k (six (u 0) (u 1) (u 2) (u 3) (u 4) (u 5)) (sbyte x))) rfl (by kernel_rfl) (by kernel_rfl) (by kernel_rfl) (fun _ _ _ h => h) (Or.inl ⟨by rfl, ?hbpB⟩) hHeld5 ?rbpB
    case hbpB => (intro w' hSw; clear hSw; go_simp; rw [build_page])
    simp only [Act.put, List.setIfInBounds_toArray, List.set_cons_zero, List.set_cons_succ]
    obtain ⟨wB, hstB, hbB, hkB⟩ := store_page (hb0.keep hkA (fun e => e)) k (six (u 0) (u 1) (u 2) (u 3) (u 4) (u 5)) (sbyte x)
    have HKB : Keep (fun _ => False) w3 wB := (hk0.trans hkA).next hkB (fun y hy e => by have e2 : w3.drew.heap.size = w3.heap.size := rfl; omega)
    have hpB := (Nat.le_refl w3.heap.size)
    refine wpAnyH_ready (rs := [23]) (by kernel_rfl) (by simp) ?_
    clear hHeld5
    refine AllReadyH.cons (o := { dst := none, op := Op.store 30 (Operand.tmp 8) (Operand.tmp 41), type := 0, pos := "law.go:50", after := #[{ on := 22, ground := Ground.data }, { on := 21, ground := Ground.data }, { on := 20, ground := Ground.chain }, { on := 0, ground := Ground.phase }, { on := 1, ground := Ground.phase }, { on := 2, ground := Ground.phase }, { on := 3, ground := Ground.phase }, { on := 4, ground := Ground.phase }, { on := 5, ground := Ground.phase }, { on := 6, ground := Ground.phase }, { on := 7, ground := Ground.phase }, { on := 8, ground := Ground.phase }, { on := 9, ground := Ground.phase }, { on := 10, ground := Ground.phase }, { on := 11, ground := Ground.phase }, { on := 12, ground := Ground.phase }, { on := 13, ground := Ground.phase }, { on := 14, ground := Ground.phase }, { on := 15, ground := Ground.phase }, { on := 16, ground := Ground.phase }, { on := 17, ground := Ground.phase }, { on := 18, ground := Ground.phase }, { on := 19, ground := Ground.phase }, { on := 20, ground := Ground.phase }, { on := 21, ground := Ground.phase }, { on := 22, ground := Ground.phase }], guard := none }) rfl (fun K hK => ?_) AllReadyH.nil
    refine step_store_run rfl 30 (.tmp 8) (.tmp 41) rfl (by rfl) (by rfl) hstB ?_
    refine hK.out _ _ (kSp _ HKB) (fun hHeld6 => ?_)
    clear hK K hHeld6 hstB
    refine wpAnyH_done (by kernel_rfl) ?_ _
    refine NoPanic.normal ?_
    rw [show w3.drew.heap.size = w3.heap.size from rfl] at hbB
    obtain ⟨pB, hpe⟩ : ∃ pB, pB = w3.heap.size := ⟨_, rfl⟩
    rw [← hpe] at hbB hpB ⊢
    clear hkA hkB hb0 hk0 hpe
    clear kSp payp payXp hsp ip0 ip1 ip2 ip3 ip4 ip5
    have hld1 := loadAt_page hbB
    have HKc := (hk1.trans hk3).trans HKB
    clear hu3 hpB
    go_wp2_with (guard_target =~ wpList _ _ _ (Oper.mk _ (Op.load 30 _) _ _ _ _ :: _) _ _; refine wpList_load_run rfl 30 (.tmp 8) rfl (by rfl) hld1 ?_)
    refine (enc_any k (six (u 0) (u 1) (u 2) (u 3) (u 4) (u 5)) (sbyte x) wB hk (sbyte_bd x)).mono ?_
    rintro e wD ⟨gc, rfl, hgc, hbc, hkD⟩
    have hrk := rkind_any k wD
    rw [decide_eq_true hk] at hrk
    have hd1 := dec_enc hbc hk (sbyte_bd x) hu6
    clear hld1
    go_wp2_with (go_at_call 13; refine hrk.mono ?_; rintro e w' ⟨rfl, rfl⟩)
    refine hd1.mono ?_
    rintro e wF ⟨rfl, hkF⟩
    obtain ⟨wI, hstI, hbI, hkI⟩ := new_page wF k (six (u 0) (u 1) (u 2) (u 3) (u 4) (u 5)) (sbyte x)
    clear hd1 hrk
    go_wp2_with (guard_target =~ wpList _ _ _ (Oper.mk _ (Op.store 30 _ _) _ _ _ _ :: _) _ _; refine wpList_store_run rfl 30 (.tmp 11) (.tmp 60) rfl (by rfl) (by rfl) hstI ?_)
    have hFI := hkF.trans hkI
    have hEI := hkD.trans hFI
    have HKw := HKc.trans hEI
    have lp := fun (w' : World) (h : Keep (fun _ => False) wI w') => loadAt_page ((hbB.keep hEI (fun e => e)).keep h (fun e => e))
    have lr := fun (w' : World) (h : Keep (fun _ => False) wI w') => loadAt_page (hbI.keep h (fun e => e))
    have htc := fun (w' : World) (h : Keep (fun _ => False) wI w') => (((hbc.keep hFI (fun e => e)).keep h (fun e => e)).page_row hk (sbyte_bd x)).text
    have hs1 := samePage_same k (six (u 0) (u 1) (u 2) (u 3) (u 4) (u 5)) (sbyte x)
    have hrenc : Calls Try.prog 14 #[.agg (pageA k (six (u 0) (u 1) (u 2) (u 3) (u 4) (u 5)) (sbyte x))] wI.drew fun e w2 => ∃ v, e = .returned v ∧ (fun v w2 => ∃ g' cap', v = Value.slice (some ⟨g', 0, none⟩) 68 cap' ∧ Row w2 (some ⟨g', 0, none⟩) 68 cap' (tab 68 (ebyte k (six (u 0) (u 1) (u 2) (u 3) (u 4) (u 5)) (sbyte x))) ∧ Keep (fun _ => False) wI w2) v w2 :=
      (renc_any k (six (u 0) (u 1) (u 2) (u 3) (u 4) (u 5)) (sbyte x) wI.drew hk (sbyte_bd x)).mono (fun e w2 h => by obtain ⟨g', cap', rfl, h1, h2⟩ := h; exact ⟨_, rfl, g', cap', rfl, h1, h2.undrew⟩)
    obtain ⟨Sc, hSc⟩ : ∃ Sc, strOfNums (tab 68 (ebyte k (six (u 0) (u 1) (u 2) (u 3) (u 4) (u 5)) (sbyte x))) = Sc := ⟨_, rfl⟩
    simp only [hSc] at htc
    have HSc : Hid (strOfNums (tab 68 (ebyte k (six (u 0) (u 1) (u 2) (u 3) (u 4) (u 5)) (sbyte x))) = Sc) := hSc
    clear hSc hstI hbI hbB hbc hFI hEI hkF hkI hkD HKc
    refine wp_region_noPanic ?_
    refine wp_region_held_drew (S := fun w' => Keep (fun _ => False) wI w') (by kernel_rfl) ((Keep.refl _ _).drew) (fun hHeld => ?_)
    refine' wpAnyH_take (i := 0) (oi := { dst := some 62, op := Op.move (Operand.tmp 10), type := 24, pos := "law.go:56", after := #[], guard := none }) (v := _) rfl (by kernel_rfl) (by kernel_rfl) (by kernel_rfl) (fun _ _ _ h => h) (Or.inl ⟨by rfl, ?hyzn0⟩) hHeld ?rzn0
    case hyzn0 => (intro w' hSw; clear hSw; go_simp; try with_reducible rfl)
    simp only [Act.put, List.setIfInBounds_toArray, List.set_cons_zero, List.set_cons_succ]
    refine' wpAnyH_take (i := 1) (oi := { dst := some 63, op := Op.binOp BinOp.eql 24 (Operand.tmp 62) (Operand.const (Value.int IntKind.i64 0)) 24, type := 4, pos := "law.go:56", after := #[{ on := 0, ground := Ground.data }], guard := none }) (v := _) rfl (by kernel_rfl) (by kernel_rfl) (by kernel_rfl) (fun _ _ _ h => h) (Or.inl ⟨by rfl, ?hyzn1⟩) hHeld ?rzn1
    case hyzn1 => (intro w' hSw; clear hSw; go_simp; try with_reducible rfl)
    simp only [Act.put, List.setIfInBounds_toArray, List.set_cons_zero, List.set_cons_succ]
    refine' wpAnyH_take (i := 2) (oi := { dst := some 64, op := Op.move (Operand.tmp 63), type := 4, pos := "law.go:56", after := #[{ on := 1, ground := Ground.data }], guard := none }) (v := _) rfl (by kernel_rfl) (by kernel_rfl) (by kernel_rfl) (fun _ _ _ h => h) (Or.inl ⟨by rfl, ?hyzn2⟩) hHeld ?rzn2
    case hyzn2 => (intro w' hSw; clear hSw; go_simp; try with_reducible rfl)
    simp only [Act.put, List.setIfInBounds_toArray, List.set_cons_zero, List.set_cons_succ]
    refine' wpAnyH_take (i := 3) (oi := { dst := some 65, op := Op.move (Operand.tmp 12), type := 24, pos := "law.go:56", after := #[{ on := 2, ground := Ground.guard }], guard := some (2, true) }) (v := _) rfl (by kernel_rfl) (by kernel_rfl) (by kernel_rfl) (fun _ _ _ h => h) (Or.inl ⟨by rfl, ?hyzn3⟩) hHeld ?rzn3
    case hyzn3 => (intro w' hSw; clear hSw; go_simp; try with_reducible rfl)
    simp only [Act.put, List.setIfInBounds_toArray, List.set_cons_zero, List.set_cons_succ]
    refine' wpAnyH_take (i := 4) (oi := { dst := some 66, op := Op.binOp BinOp.eql 24 (Operand.tmp 65) (Operand.const (Value.int IntKind.i64 0)) 24, type := 4, pos := "law.go:56", after := #[{ on := 3, ground := Ground.data }, { on := 2, ground := Ground.guard }], guard := some (2, true) }) (v := _) rfl (by kernel_rfl) (by kernel_rfl) (by kernel_rfl) (fun _ _ _ h => h) (Or.inl ⟨by rfl, ?hyzn4⟩) hHeld ?rzn4
    case hyzn4 => (intro w' hSw; clear hSw; go_simp; try with_reducible rfl)
    simp only [Act.put, List.setIfInBounds_toArray, List.set_cons_zero, List.set_cons_succ]
    refine' wpAnyH_take (i := 5) (oi := { dst := some 67, op := Op.pick (Operand.tmp 64) (Operand.tmp 66) (Operand.const (Value.bool false)), type := 4, pos := "law.go:56", after := #[{ on := 2, ground := Ground.data }, { on := 4, ground := Ground.data }], guard := none }) (v := _) rfl (by kernel_rfl) (by kernel_rfl) (by kernel_rfl) (fun _ _ _ h => h) (Or.inl ⟨by rfl, ?hyzn5⟩) hHeld ?rzn5
    case hyzn5 => (intro w' hSw; clear hSw; go_simp; try with_reducible rfl)
    simp only [Act.put, List.setIfInBounds_toArray, List.set_cons_zero, List.set_cons_succ]
    refine' wpAnyH_take (i := 6) (oi := { dst := some 68, op := Op.move (Operand.tmp 67), type := 4, pos := "law.go:56", after := #[{ on := 5, ground := Ground.data }, { on := 2, ground := Ground.chain }], guard := none }) (v := _) rfl (by kernel_rfl) (by kernel_rfl) (by kernel_rfl) (fun _ _ _ h => h) (Or.inl ⟨by rfl, ?hyzn6⟩) hHeld ?rzn6
    case hyzn6 => (intro w' hSw; clear hSw; go_simp; try with_reducible rfl)
    simp only [Act.put, List.setIfInBounds_toArray, List.set_cons_zero, List.set_cons_succ]
    refine' wpAnyH_take (i := 7) (oi := { dst := some 69, op := Op.move (Operand.tmp 9), type := 23, pos := "law.go:56", after := #[{ on := 6, ground := Ground.guard }], guard := some (6, true) }) (v := _) rfl (by kernel_rfl) (by kernel_rfl) (by kernel_rfl) (fun _ _ _ h => h) (Or.inl ⟨by rfl, ?hyzn7⟩) hHeld ?rzn7
    case hyzn7 => (intro w' hSw; clear hSw; go_simp; try with_reducible rfl)
    simp only [Act.put, List.setIfInBounds_toArray, List.set_cons_zero, List.set_cons_succ]
    refine' wpAnyH_take (i := 8) (oi := { dst := some 70, op := Op.convert 23 9 (Operand.tmp 69), type := 9, pos := "law.go:56", after := #[{ on := 7, ground := Ground.data }, { on := 6, ground := Ground.guard }], guard := some (6, true) }) (v := (.string Sc)) rfl (by kernel_rfl) (by kernel_rfl) (by kernel_rfl) (fun _ _ _ h => h) (yields_conv (by rfl) 23 9 (.tmp 69) rfl (by rfl) (fun w' h => htc w' h)) hHeld ?rzn8
    simp only [Act.put, List.setIfInBounds_toArray, List.set_cons_zero, List.set_cons_succ]
    refine' wpAnyH_take (i := 9) (oi := { dst := some 71, op := Op.load 30 (Operand.tmp 8), type := 30, pos := "law.go:56", after := #[{ on := 6, ground := Ground.guard }], guard := some (6, true) }) (v := (.agg (pageA k (six (u 0) (u 1) (u 2) (u 3) (u 4) (u 5)) (sbyte x)))) rfl (by kernel_rfl) (by kernel_rfl) (by kernel_rfl) (fun _ _ _ h => h) (yields_load (by rfl) 30 (.tmp 8) rfl (by rfl) (fun w' h => lp w' h)) hHeld ?rzn9
    simp only [Act.put, List.setIfInBounds_toArray, List.set_cons_zero, List.set_cons_succ]
    refine wpAnyH_ready (rs := [10]) (by kernel_rfl) (by simp) ?_
    refine AllReadyH.cons (o := { dst := some 72, op := Op.call { callee := Callee.value (Operand.func 14), args := #[Operand.tmp 71], argTypes := #[30] }, type := 23, pos := "law.go:56", after := #[{ on := 9, ground := Ground.data }, { on := 6, ground := Ground.chain }, { on := 6, ground := Ground.guard }], guard := some (6, true) }) rfl (fun K hK => ?_) AllReadyH.nil
    refine step_call_want (vs := #[.agg (pageA k (six (u 0) (u 1) (u 2) (u 3) (u 4) (u 5)) (sbyte x))]) (R := fun v w2 => ∃ g' cap', v = Value.slice (some ⟨g', 0, none⟩) 68 cap' ∧ Row w2 (some ⟨g', 0, none⟩) 68 cap' (tab 68 (ebyte k (six (u 0) (u 1) (u 2) (u 3) (u 4) (u 5)) (sbyte x))) ∧ Keep (fun _ => False) wI w2) (by rfl) 14 #[.tmp 71] #[30] rfl (by simp [Act.eval]) call14 hrenc ?_
    rintro v wJ ⟨gJ, capJ, rfl, hrJ, hkJ⟩
    refine hK.out _ _ hkJ (fun hHeld2 => ?_)
    clear hK K
    simp only [Act.put, List.setIfInBounds_toArray, List.set_cons_zero, List.set_cons_succ]
    have hcJ := hrJ.text
    rw [HSc.out] at hcJ
    refine wpAnyH_ready (rs := [11]) (by kernel_rfl) (by simp) ?_
    refine AllReadyH.cons (o := { dst := some 73, op := Op.convert 23 9 (Operand.tmp 72), type := 9, pos := "law.go:56", after := #[{ on := 10, ground := Ground.data }, { on := 6, ground := Ground.guard }], guard := some (6, true) }) rfl (fun K hK => ?_) AllReadyH.nil
    refine step_conv_run (by rfl) 23 9 (.tmp 72) rfl (by rfl) hcJ ?_
    refine hK.out _ _ hkJ (fun hHeld3 => ?_)
    clear hK K hHeld hHeld2
    simp only [Act.put, List.setIfInBounds_toArray, List.set_cons_zero, List.set_cons_succ]
    refine' wpAnyH_take (i := 12) (oi := { dst := some 74, op := Op.binOp BinOp.eql 9 (Operand.tmp 70) (Operand.tmp 73) 9, type := 4, pos := "law.go:56", after := #[{ on := 8, ground := Ground.data }, { on := 11, ground := Ground.data }, { on := 6, ground := Ground.guard }], guard := some (6, true) }) (v := _) rfl (by kernel_rfl) (by kernel_rfl) (by kernel_rfl) (fun _ _ _ h => h) (Or.inl ⟨by rfl, ?hyzn12⟩) hHeld3 ?rzn12
    case hyzn12 => (intro w' hSw; clear hSw; go_simp; try with_reducible rfl)
    simp only [Act.put, List.setIfInBounds_toArray, List.set_cons_zero, List.set_cons_succ]
    refine' wpAnyH_take (i := 13) (oi := { dst := some 75, op := Op.pick (Operand.tmp 68) (Operand.tmp 74) (Operand.const (Value.bool false)), type := 4, pos := "law.go:56", after := #[{ on := 6, ground := Ground.data }, { on := 12, ground := Ground.data }], guard := none }) (v := _) rfl (by kernel_rfl) (by kernel_rfl) (by kernel_rfl) (fun _ _ _ h => h) (Or.inl ⟨by rfl, ?hyzn13⟩) hHeld3 ?rzn13
    case hyzn13 => (intro w' hSw; clear hSw; go_simp; try with_reducible rfl)
    simp only [Act.put, List.setIfInBounds_toArray, List.set_cons_zero, List.set_cons_succ]
    refine' wpAnyH_take (i := 14) (oi := { dst := some 76, op := Op.move (Operand.tmp 75), type := 4, pos := "law.go:56", after := #[{ on := 13, ground := Ground.data }, { on := 10, ground := Ground.chain }], guard := none }) (v := _) rfl (by kernel_rfl) (by kernel_rfl) (by kernel_rfl) (fun _ _ _ h => h) (Or.inl ⟨by rfl, ?hyzn14⟩) hHeld3 ?rzn14
    case hyzn14 => (intro w' hSw; clear hSw; go_simp; try with_reducible rfl)
    simp only [Act.put, List.setIfInBounds_toArray, List.set_cons_zero, List.set_cons_succ]
    refine' wpAnyH_take (i := 15) (oi := { dst := some 77, op := Op.load 30 (Operand.tmp 11), type := 30, pos := "law.go:56", after := #[{ on := 14, ground := Ground.guard }], guard := some (14, true) }) (v := (.agg (pageA k (six (u 0) (u 1) (u 2) (u 3) (u 4) (u 5)) (sbyte x)))) rfl (by kernel_rfl) (by kernel_rfl) (by kernel_rfl) (fun _ _ _ h => h) (yields_load (by rfl) 30 (.tmp 11) rfl (by rfl) (fun w' h => lr w' h)) hHeld3 ?rzn15
    simp only [Act.put, List.setIfInBounds_toArray, List.set_cons_zero, List.set_cons_succ]
    refine' wpAnyH_take (i := 16) (oi := { dst := some 78, op := Op.load 30 (Operand.tmp 8), type := 30, pos := "law.go:56", after := #[{ on := 14, ground := Ground.guard }], guard := some (14, true) }) (v := (.agg (pageA k (six (u 0) (u 1) (u 2) (u 3) (u 4) (u 5)) (sbyte x)))) rfl (by kernel_rfl) (by kernel_rfl) (by kernel_rfl) (fun _ _ _ h => h) (yields_load (by rfl) 30 (.tmp 8) rfl (by rfl) (fun w' h => lp w' h)) hHeld3 ?rzn16
    simp only [Act.put, List.setIfInBounds_toArray, List.set_cons_zero, List.set_cons_succ]
    refine' wpAnyH_take (i := 17) (oi := { dst := some 79, op := Op.binOp BinOp.eql 30 (Operand.tmp 77) (Operand.tmp 78) 30, type := 4, pos := "law.go:56", after := #[{ on := 15, ground := Ground.data }, { on := 16, ground := Ground.data }, { on := 14, ground := Ground.guard }], guard := some (14, true) }) (v := (.bool true)) rfl (by kernel_rfl) (by kernel_rfl) (by kernel_rfl) (fun _ _ _ h => h) (yields_eq30 (by rfl) (.tmp 77) (.tmp 78) rfl (by rfl) (by rfl) hs1) hHeld3 ?rzn17
    simp only [Act.put, List.setIfInBounds_toArray, List.set_cons_zero, List.set_cons_succ]
    refine' wpAnyH_take (i := 18) (oi := { dst := some 80, op := Op.pick (Operand.tmp 76) (Operand.tmp 79) (Operand.const (Value.bool false)), type := 4, pos := "law.go:56", after := #[{ on := 14, ground := Ground.data }, { on := 17, ground := Ground.data }], guard := none }) (v := _) rfl (by kernel_rfl) (by kernel_rfl) (by kernel_rfl) (fun _ _ _ h => h) (Or.inl ⟨by rfl, ?hyzn18⟩) hHeld3 ?rzn18
    case hyzn18 => (intro w' hSw; clear hSw; go_simp; try with_reducible rfl)
    simp only [Act.put, List.setIfInBounds_toArray, List.set_cons_zero, List.set_cons_succ]
    refine' wpAnyH_take (i := 19) (oi := { dst := some 6, op := Op.assign (Operand.tmp 80), type := 4, pos := "law.go:56", after := #[{ on := 18, ground := Ground.data }, { on := 14, ground := Ground.chain }, { on := 0, ground := Ground.phase }, { on := 1, ground := Ground.phase }, { on := 2, ground := Ground.phase }, { on := 3, ground := Ground.phase }, { on := 4, ground := Ground.phase }, { on := 5, ground := Ground.phase }, { on := 6, ground := Ground.phase }, { on := 7, ground := Ground.phase }, { on := 8, ground := Ground.phase }, { on := 9, ground := Ground.phase }, { on := 10, ground := Ground.phase }, { on := 11, ground := Ground.phase }, { on := 12, ground := Ground.phase }, { on := 13, ground := Ground.phase }, { on := 14, ground := Ground.phase }, { on := 15, ground := Ground.phase }, { on := 16, ground := Ground.phase }, { on := 17, ground := Ground.phase }, { on := 18, ground := Ground.phase }], guard := none }) (v := _) rfl (by kernel_rfl) (by kernel_rfl) (by kernel_rfl) (fun _ _ _ h => h) (Or.inl ⟨by rfl, ?hyzn19⟩) hHeld3 ?rzn19
    case hyzn19 => (intro w' hSw; clear hSw; go_simp; try with_reducible rfl)
    simp only [Act.put, List.setIfInBounds_toArray, List.set_cons_zero, List.set_cons_succ]
    refine wpAnyH_done (by kernel_rfl) ?_ _
    refine NoPanic.normal ?_
    go_wp2_with fail
    go_ret
    exact ⟨rfl, HKw.trans hkJ⟩
end Tg
end Go.Proofs.Ytgohmjidbbecpaa
