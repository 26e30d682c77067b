/-
  What Decode answers for bytes that are a page: the page.
-/
import Derived.Test.YtgohmjidbbecpaaDec
import Derived.Test.YtgohmjidbbecpaaCalm
namespace Go.Proofs.Ytgohmjidbbecpaa
open Go.ChangeShapes Go.WideShapes Go.ChangeAt Go.RowKit
namespace Tg
open Crc
/-- Bytes lie in a block from a place on. -/
def Bytes (w : World) (b o n : Nat) (c : Nat → Int) : Prop := ∀ i, i < n → w.cell? ⟨b, o + i, none⟩ = some (.int .u8 (c i))
theorem Bytes.alloc {w : World} {b o n : Nat} {c : Nat → Int} (h : Bytes w b o n c) (ob : Obj) : Bytes (w.alloc ob) b o n c := fun i hi => by
  have := h i hi
  rw [World.cell?_alloc_old _ _ _ (by have := World.block_lt_of_cell? w _ this; simp at this ⊢; omega)]
  exact this
theorem Bytes.drew {w : World} {b o n : Nat} {c : Nat → Int} (h : Bytes w b o n c) : Bytes w.drew b o n c := h
theorem Bytes.at0 {w : World} {b o n : Nat} {c : Nat → Int} (h : Bytes w b o n c) (hn : 0 < n) : w.cell? ⟨b, o, none⟩ = some (.int .u8 (c 0)) := h 0 hn
theorem Bytes.at0' {w w0 : World} {b o n : Nat} {c : Nat → Int} {x : Int} (h : Bytes w b o n c) (h0 : w0.cell? ⟨b, o, none⟩ = some (.int .u8 x)) (hn : 0 < n) (h1 : Bytes w0 b o n c) : w.cell? ⟨b, o, none⟩ = some (.int .u8 x) := by rw [h.at0 hn, ← h1.at0 hn]; exact h0
theorem Bytes.get {w : World} {b o n cap : Nat} {c : Nat → Int} (h : Bytes w b o 68 c) (hb : ∀ i, i < 68 → 0 ≤ c i ∧ c i ≤ 255) (s : Nat) (hs : s + 4 ≤ 68) (hn : 4 ≤ n) :
    Calls Try.prog 22 #[.slice (some ⟨b, o + s, none⟩) n cap] w fun e w' => e = .returned (.int .u32 (num (fun i => c (s + i)) 4)) ∧ w' = w :=
  get_any (d := fun i => c (s + i)) (fun i hi => by rw [Nat.add_assoc]; exact h _ (by omega)) (fun i hi => hb _ (by omega)) hn

/-- A store whose run is known, as one step of a region that draws. -/
theorem step_store_run {P : Program} {ops : Array Oper} {o : Oper} {a : Act} {w : World} {K : Act → World → Prop} {Q : Exit → Act → World → Prop} {E : Prop}
    (hg : o.guard = none) (t : TypeId) (x y : Operand) (hop : o.op = Op.store t x y) {v1 v2 : Value} {w' : World} (hx : a.eval x = v1) (hy : a.eval y = v2) (hrun : (Instr.storeAt t v1 v2).run P w = .ok () w')
    (hK : K (a.put o.dst undef) w') : if Region.wanted o (yielded ops a.tmps) = true then Oper.wp P o a w K Q else E := by
  have hw : Region.wanted o (yielded ops a.tmps) = true := by simp [Region.wanted, hg]
  rw [if_pos hw]
  unfold Oper.wp
  simp [execOp, hop, hx, hy, hrun, Result.andThen]
  exact hK
/-- Bytes are copied from anywhere into a block. -/
theorem run_copy_b {w : World} {c N : Nat} {f : Nat → Value} {dd : Nat → Int} (h : Blk w c N f) (o n : Nat) (hn : o + n ≤ N) {a : Addr} (hd : ∀ i, i < n → w.cell? (a.add i) = some (.int .u8 (dd i)))
    (dLen dCap sLen sCap : Nat) (hl : Nat.min sLen dLen = n) :
    (Builtin.copy_ #[23, 23] 3 #[.slice (some ⟨c, o, none⟩) dLen dCap, .slice (some a) sLen sCap]).run Try.prog w = .ok (.int .i64 n) (w.setCells c o ((List.range n).map fun i => .int .u8 (dd i))) := by
  have := run_copy_cells (P := Try.prog) w 23 23 3 5 c o dLen dCap a sLen sCap ((List.range n).map fun i => .int .u8 (dd i)) Try.underlying23 size5 (by simp [hl])
    (fun j v hv => by
      have hj : j < n := by have := (List.getElem?_eq_some_iff.1 hv).1; simpa using this
      rw [hd j hj, ← hv]; simp [hj])
    (fun j hj => by simp at hj; rw [(h (o + j) (by omega)).1]; rfl) (fun j hj => by simp at hj; exact (h (o + j) (by omega)).2) (fun v hv => by simp at hv; obtain ⟨_, _, rfl⟩ := hv; rfl)
  rw [this]; simp [goInt]
theorem enters {P : Program} {f : FuncId} {fn : Func} (hf : P.funcs[f]? = some fn) (hname : (fn.name == "runtime.NumGoroutine") = false) (hb : fn.body.isSome = true) (args : Array Value) (w : World) :
    (callFunc f args).run P w = .ok (.enter f args) w := by
  obtain ⟨c, hc⟩ := Option.isSome_iff_exists.1 hb
  simp [callFunc, go_sem, hf, hc]
  intro h; simp [h] at hname
theorem call22 (args : Array Value) (w : World) : (callFunc 22 args).run Try.prog w = .ok (.enter 22 args) w := enters Try.func22 (by kernel_rfl) (by kernel_rfl) args w

set_option maxHeartbeats 1000000 in
theorem dec_yes {w : World} {b o cap : Nat} {c : Nat → Int} (hr : Row w (some ⟨b, o, none⟩) 68 cap (tab 68 c)) (hn : dcode 68 c = 0) :
    Calls Try.prog 10 #[.slice (some ⟨b, o, none⟩) 68 cap] w fun e w' => e = .returned (.tuple #[.agg (pageA (c 0) (fun j => num (fun i => c (4 + 4 * j + i)) 4) (fun i => c (28 + i))), .int .i64 0]) ∧ Keep (fun _ => False) w w' := by
  have hk0 : Keep (fun _ => False) w (w.alloc (.cells noPage 30)) := (Keep.refl _ _).alloc _
  have hb0 := blk_alloc w _ 30 39 _ (pageA_get 0 (fun _ => 0) (fun _ => 0))
  have hch := check_any (hr.keep hk0 (fun _ _ _ e => e))
  have hbd := hr.bd
  have h68 := hr.2.1
  have hcap := hr.2.2.1
  rw [hn] at hch
  clear hn
  unfold noPage at *
  rw [show pageA 0 (fun _ => 0) (fun _ => 0) = _ from noPage_eq] at hch hb0 hk0
  go_enter Try.func10, Try.ntmps10
  go_wp2_with fail
  refine hch.mono ?_
  rintro e w2 ⟨rfl, hk2⟩
  have hb2 := hb0.keep hk2 (fun e => e)
  have HK := hk0.trans hk2
  have hr2 := hr.keep HK (fun _ _ _ e => e)
  obtain ⟨b', o', e, hcl⟩ := hr2.cells (by omega)
  simp only [Option.some.injEq, Addr.mk.injEq, and_true] at e
  obtain ⟨rfl, rfl⟩ := e
  have HB : Bytes w2 b o 68 c := hcl
  clear hch hb0 hk0 hk2 hr hr2 hcl
  go_wp2_with fail
  have b0 := hbd 0 (by omega)
  obtain ⟨x, hx⟩ : ∃ x : Nat → Int, ∀ s, x s = num (fun i => c (s + i)) 4 := ⟨_, fun _ => rfl⟩
  have HX : Hid (∀ s, x s = num (fun i => c (s + i)) 4) := hx
  have G : ∀ (s n cap' : Nat) (w' : World), Bytes w' b o 68 c → s + 4 ≤ 68 → 4 ≤ n → Calls Try.prog 22 #[.slice (some ⟨b, o + s, none⟩) n cap'] w' fun e w'' => e = .returned (.int .u32 (x s)) ∧ w'' = w' := fun s n cap' w' h h1 h2 => by
    rw [hx]; exact Bytes.get h hbd s h1 h2
  clear hx
  have n4 : ¬ cap = 4 := by omega
  have n8 : ¬ cap = 8 := by omega
  have n12 : ¬ cap = 12 := by omega
  have n16 : ¬ cap = 16 := by omega
  have n20 : ¬ cap = 20 := by omega
  have n24 : ¬ cap = 24 := by omega
  have H0 := HB.at0 (by omega)
  have hw0 : IntKind.i64.wrap (c 0) = c 0 := by rw [IntKind.wrap_i64]; omega
  have HP : Hid (∀ i, i < 68 → 0 ≤ c i ∧ c i ≤ 255) := hbd
  clear hbd
  generalize hk0 : c 0 = k0 at H0 b0 hw0
  have HC0 : Hid (k0 = c 0) := hk0.symm
  clear hk0
  refine wp_region_noPanic ?_
  refine wp_region_held_drew (S := fun w' => Bytes w' b o 68 c ∧ w'.cell? ⟨b, o, none⟩ = some (.int .u8 k0)) (by kernel_rfl) ⟨HB, H0⟩ (fun hHeld => ?_)
  refine' wpAnyH_take (i := 0) (oi := { dst := some 12, op := Op.move (Operand.tmp 0), type := 23, pos := "tag.go:53", after := #[], guard := none }) (v := _) rfl (by kernel_rfl) (by kernel_rfl) (by kernel_rfl) (fun _ _ _ h => h) (Or.inl ⟨by rfl, ?hy0⟩) hHeld ?r0
  case hy0 => (intro w' hSw; (try dsimp only at hSw); go_simp; try with_reducible rfl)
  simp only [Act.put, List.setIfInBounds_toArray, List.set_cons_zero, List.set_cons_succ]
  refine' wpAnyH_take (i := 1) (oi := { dst := some 13, op := Op.indexAddr 23 (Operand.tmp 12) (Operand.const (Value.int IntKind.i64 0)), type := 0, pos := "tag.go:53", after := #[{ on := 0, ground := Ground.data }], guard := none }) (v := _) rfl (by kernel_rfl) (by kernel_rfl) (by kernel_rfl) (fun _ _ _ h => h) (Or.inl ⟨by rfl, ?hy1⟩) hHeld ?r1
  case hy1 => (intro w' hSw; (try dsimp only at hSw); go_simp; try with_reducible rfl)
  simp only [Act.put, List.setIfInBounds_toArray, List.set_cons_zero, List.set_cons_succ]
  refine' wpAnyH_take (i := 2) (oi := { dst := some 14, op := Op.load 5 (Operand.tmp 13), type := 5, pos := "tag.go:53", after := #[{ on := 1, ground := Ground.data }], guard := none }) (v := _) rfl (by kernel_rfl) (by kernel_rfl) (by kernel_rfl) (fun _ _ _ h => h) (Or.inl ⟨by rfl, ?hy2⟩) hHeld ?r2
  case hy2 => (intro w' hSw; (try dsimp only at hSw); go_simp; try with_reducible rfl)
  simp only [Act.put, List.setIfInBounds_toArray, List.set_cons_zero, List.set_cons_succ]
  refine' wpAnyH_take (i := 3) (oi := { dst := some 15, op := Op.convert 5 3 (Operand.tmp 14), type := 3, pos := "tag.go:53", after := #[{ on := 2, ground := Ground.data }], guard := none }) (v := _) rfl (by kernel_rfl) (by kernel_rfl) (by kernel_rfl) (fun _ _ _ h => h) (Or.inl ⟨by rfl, ?hy3⟩) hHeld ?r3
  case hy3 => (intro w' hSw; (try dsimp only at hSw); go_simp; try with_reducible rfl)
  simp only [Act.put, List.setIfInBounds_toArray, List.set_cons_zero, List.set_cons_succ]
  refine' wpAnyH_take (i := 4) (oi := { dst := some 16, op := Op.move (Operand.tmp 0), type := 23, pos := "tag.go:53", after := #[], guard := none }) (v := _) rfl (by kernel_rfl) (by kernel_rfl) (by kernel_rfl) (fun _ _ _ h => h) (Or.inl ⟨by rfl, ?hy4⟩) hHeld ?r4
  case hy4 => (intro w' hSw; (try dsimp only at hSw); go_simp; try with_reducible rfl)
  simp only [Act.put, List.setIfInBounds_toArray, List.set_cons_zero, List.set_cons_succ]
  refine' wpAnyH_take (i := 5) (oi := { dst := some 17, op := Op.slice 23 (Operand.tmp 16) (some (Operand.const (Value.int IntKind.i64 4))) none none, type := 23, pos := "tag.go:53", after := #[{ on := 4, ground := Ground.data }], guard := none }) (v := _) rfl (by kernel_rfl) (by kernel_rfl) (by kernel_rfl) (fun _ _ _ h => h) (Or.inl ⟨by rfl, ?hy5⟩) hHeld ?r5
  case hy5 => (intro w' hSw; (try dsimp only at hSw); go_simp; try with_reducible rfl)
  simp only [Act.put, List.setIfInBounds_toArray, List.set_cons_zero, List.set_cons_succ]
  refine' Calm.take (i := 6) (oi := { dst := some 18, op := Op.call { callee := Callee.value (Operand.func 22), args := #[Operand.tmp 17], argTypes := #[23] }, type := 27, pos := "tag.go:55", after := #[{ on := 5, ground := Ground.data }], guard := none }) (v := .int .u32 (x 4)) rfl (by kernel_rfl) (by kernel_rfl) (by kernel_rfl) (fun _ _ _ h => h) ⟨rfl, 22, #[.slice (some ⟨b, o + 4, none⟩) 64 (cap - 4)], fun w' hw' => ⟨?hr6, G _ _ _ _ hw'.1 (by omega) (by omega)⟩⟩ hHeld ?r6
  case hr6 => rw [execOp_call_go, call22]; simp [Act.eval]
  simp only [Act.put, List.setIfInBounds_toArray, List.set_cons_zero, List.set_cons_succ]
  refine' wpAnyH_take (i := 7) (oi := { dst := some 19, op := Op.move (Operand.tmp 0), type := 23, pos := "tag.go:53", after := #[], guard := none }) (v := _) rfl (by kernel_rfl) (by kernel_rfl) (by kernel_rfl) (fun _ _ _ h => h) (Or.inl ⟨by rfl, ?hy7⟩) hHeld ?r7
  case hy7 => (intro w' hSw; (try dsimp only at hSw); go_simp; try with_reducible rfl)
  simp only [Act.put, List.setIfInBounds_toArray, List.set_cons_zero, List.set_cons_succ]
  refine' wpAnyH_take (i := 8) (oi := { dst := some 20, op := Op.slice 23 (Operand.tmp 19) (some (Operand.const (Value.int IntKind.i64 8))) none none, type := 23, pos := "tag.go:53", after := #[{ on := 7, ground := Ground.data }], guard := none }) (v := _) rfl (by kernel_rfl) (by kernel_rfl) (by kernel_rfl) (fun _ _ _ h => h) (Or.inl ⟨by rfl, ?hy8⟩) hHeld ?r8
  case hy8 => (intro w' hSw; (try dsimp only at hSw); go_simp; try with_reducible rfl)
  simp only [Act.put, List.setIfInBounds_toArray, List.set_cons_zero, List.set_cons_succ]
  refine' Calm.take (i := 9) (oi := { dst := some 21, op := Op.call { callee := Callee.value (Operand.func 22), args := #[Operand.tmp 20], argTypes := #[23] }, type := 27, pos := "tag.go:56", after := #[{ on := 8, ground := Ground.data }, { on := 6, ground := Ground.chain }], guard := none }) (v := .int .u32 (x 8)) rfl (by kernel_rfl) (by kernel_rfl) (by kernel_rfl) (fun _ _ _ h => h) ⟨rfl, 22, #[.slice (some ⟨b, o + 8, none⟩) 60 (cap - 8)], fun w' hw' => ⟨?hr9, G _ _ _ _ hw'.1 (by omega) (by omega)⟩⟩ hHeld ?r9
  case hr9 => rw [execOp_call_go, call22]; simp [Act.eval]
  simp only [Act.put, List.setIfInBounds_toArray, List.set_cons_zero, List.set_cons_succ]
  refine' wpAnyH_take (i := 10) (oi := { dst := some 22, op := Op.move (Operand.tmp 0), type := 23, pos := "tag.go:53", after := #[], guard := none }) (v := _) rfl (by kernel_rfl) (by kernel_rfl) (by kernel_rfl) (fun _ _ _ h => h) (Or.inl ⟨by rfl, ?hy10⟩) hHeld ?r10
  case hy10 => (intro w' hSw; (try dsimp only at hSw); go_simp; try with_reducible rfl)
  simp only [Act.put, List.setIfInBounds_toArray, List.set_cons_zero, List.set_cons_succ]
  refine' wpAnyH_take (i := 11) (oi := { dst := some 23, op := Op.slice 23 (Operand.tmp 22) (some (Operand.const (Value.int IntKind.i64 12))) none none, type := 23, pos := "tag.go:53", after := #[{ on := 10, ground := Ground.data }], guard := none }) (v := _) rfl (by kernel_rfl) (by kernel_rfl) (by kernel_rfl) (fun _ _ _ h => h) (Or.inl ⟨by rfl, ?hy11⟩) hHeld ?r11
  case hy11 => (intro w' hSw; (try dsimp only at hSw); go_simp; try with_reducible rfl)
  simp only [Act.put, List.setIfInBounds_toArray, List.set_cons_zero, List.set_cons_succ]
  refine' Calm.take (i := 12) (oi := { dst := some 24, op := Op.call { callee := Callee.value (Operand.func 22), args := #[Operand.tmp 23], argTypes := #[23] }, type := 27, pos := "tag.go:57", after := #[{ on := 11, ground := Ground.data }, { on := 9, ground := Ground.chain }], guard := none }) (v := .int .u32 (x 12)) rfl (by kernel_rfl) (by kernel_rfl) (by kernel_rfl) (fun _ _ _ h => h) ⟨rfl, 22, #[.slice (some ⟨b, o + 12, none⟩) 56 (cap - 12)], fun w' hw' => ⟨?hr12, G _ _ _ _ hw'.1 (by omega) (by omega)⟩⟩ hHeld ?r12
  case hr12 => rw [execOp_call_go, call22]; simp [Act.eval]
  simp only [Act.put, List.setIfInBounds_toArray, List.set_cons_zero, List.set_cons_succ]
  refine' wpAnyH_take (i := 13) (oi := { dst := some 25, op := Op.move (Operand.tmp 0), type := 23, pos := "tag.go:53", after := #[], guard := none }) (v := _) rfl (by kernel_rfl) (by kernel_rfl) (by kernel_rfl) (fun _ _ _ h => h) (Or.inl ⟨by rfl, ?hy13⟩) hHeld ?r13
  case hy13 => (intro w' hSw; (try dsimp only at hSw); go_simp; try with_reducible rfl)
  simp only [Act.put, List.setIfInBounds_toArray, List.set_cons_zero, List.set_cons_succ]
  refine' wpAnyH_take (i := 14) (oi := { dst := some 26, op := Op.slice 23 (Operand.tmp 25) (some (Operand.const (Value.int IntKind.i64 16))) none none, type := 23, pos := "tag.go:53", after := #[{ on := 13, ground := Ground.data }], guard := none }) (v := _) rfl (by kernel_rfl) (by kernel_rfl) (by kernel_rfl) (fun _ _ _ h => h) (Or.inl ⟨by rfl, ?hy14⟩) hHeld ?r14
  case hy14 => (intro w' hSw; (try dsimp only at hSw); go_simp; try with_reducible rfl)
  simp only [Act.put, List.setIfInBounds_toArray, List.set_cons_zero, List.set_cons_succ]
  refine' Calm.take (i := 15) (oi := { dst := some 27, op := Op.call { callee := Callee.value (Operand.func 22), args := #[Operand.tmp 26], argTypes := #[23] }, type := 27, pos := "tag.go:58", after := #[{ on := 14, ground := Ground.data }, { on := 12, ground := Ground.chain }], guard := none }) (v := .int .u32 (x 16)) rfl (by kernel_rfl) (by kernel_rfl) (by kernel_rfl) (fun _ _ _ h => h) ⟨rfl, 22, #[.slice (some ⟨b, o + 16, none⟩) 52 (cap - 16)], fun w' hw' => ⟨?hr15, G _ _ _ _ hw'.1 (by omega) (by omega)⟩⟩ hHeld ?r15
  case hr15 => rw [execOp_call_go, call22]; simp [Act.eval]
  simp only [Act.put, List.setIfInBounds_toArray, List.set_cons_zero, List.set_cons_succ]
  refine' wpAnyH_take (i := 16) (oi := { dst := some 28, op := Op.move (Operand.tmp 0), type := 23, pos := "tag.go:53", after := #[], guard := none }) (v := _) rfl (by kernel_rfl) (by kernel_rfl) (by kernel_rfl) (fun _ _ _ h => h) (Or.inl ⟨by rfl, ?hy16⟩) hHeld ?r16
  case hy16 => (intro w' hSw; (try dsimp only at hSw); go_simp; try with_reducible rfl)
  simp only [Act.put, List.setIfInBounds_toArray, List.set_cons_zero, List.set_cons_succ]
  refine' wpAnyH_take (i := 17) (oi := { dst := some 29, op := Op.slice 23 (Operand.tmp 28) (some (Operand.const (Value.int IntKind.i64 20))) none none, type := 23, pos := "tag.go:53", after := #[{ on := 16, ground := Ground.data }], guard := none }) (v := _) rfl (by kernel_rfl) (by kernel_rfl) (by kernel_rfl) (fun _ _ _ h => h) (Or.inl ⟨by rfl, ?hy17⟩) hHeld ?r17
  case hy17 => (intro w' hSw; (try dsimp only at hSw); go_simp; try with_reducible rfl)
  simp only [Act.put, List.setIfInBounds_toArray, List.set_cons_zero, List.set_cons_succ]
  refine' Calm.take (i := 18) (oi := { dst := some 30, op := Op.call { callee := Callee.value (Operand.func 22), args := #[Operand.tmp 29], argTypes := #[23] }, type := 27, pos := "tag.go:59", after := #[{ on := 17, ground := Ground.data }, { on := 15, ground := Ground.chain }], guard := none }) (v := .int .u32 (x 20)) rfl (by kernel_rfl) (by kernel_rfl) (by kernel_rfl) (fun _ _ _ h => h) ⟨rfl, 22, #[.slice (some ⟨b, o + 20, none⟩) 48 (cap - 20)], fun w' hw' => ⟨?hr18, G _ _ _ _ hw'.1 (by omega) (by omega)⟩⟩ hHeld ?r18
  case hr18 => rw [execOp_call_go, call22]; simp [Act.eval]
  simp only [Act.put, List.setIfInBounds_toArray, List.set_cons_zero, List.set_cons_succ]
  refine' wpAnyH_take (i := 19) (oi := { dst := some 31, op := Op.move (Operand.tmp 0), type := 23, pos := "tag.go:53", after := #[], guard := none }) (v := _) rfl (by kernel_rfl) (by kernel_rfl) (by kernel_rfl) (fun _ _ _ h => h) (Or.inl ⟨by rfl, ?hy19⟩) hHeld ?r19
  case hy19 => (intro w' hSw; (try dsimp only at hSw); go_simp; try with_reducible rfl)
  simp only [Act.put, List.setIfInBounds_toArray, List.set_cons_zero, List.set_cons_succ]
  refine' wpAnyH_take (i := 20) (oi := { dst := some 32, op := Op.slice 23 (Operand.tmp 31) (some (Operand.const (Value.int IntKind.i64 24))) none none, type := 23, pos := "tag.go:53", after := #[{ on := 19, ground := Ground.data }], guard := none }) (v := _) rfl (by kernel_rfl) (by kernel_rfl) (by kernel_rfl) (fun _ _ _ h => h) (Or.inl ⟨by rfl, ?hy20⟩) hHeld ?r20
  case hy20 => (intro w' hSw; (try dsimp only at hSw); go_simp; try with_reducible rfl)
  simp only [Act.put, List.setIfInBounds_toArray, List.set_cons_zero, List.set_cons_succ]
  refine' Calm.take (i := 21) (oi := { dst := some 33, op := Op.call { callee := Callee.value (Operand.func 22), args := #[Operand.tmp 32], argTypes := #[23] }, type := 27, pos := "tag.go:60", after := #[{ on := 20, ground := Ground.data }, { on := 18, ground := Ground.chain }], guard := none }) (v := .int .u32 (x 24)) rfl (by kernel_rfl) (by kernel_rfl) (by kernel_rfl) (fun _ _ _ h => h) ⟨rfl, 22, #[.slice (some ⟨b, o + 24, none⟩) 44 (cap - 24)], fun w' hw' => ⟨?hr21, G _ _ _ _ hw'.1 (by omega) (by omega)⟩⟩ hHeld ?r21
  case hr21 => rw [execOp_call_go, call22]; simp [Act.eval]
  simp only [Act.put, List.setIfInBounds_toArray, List.set_cons_zero, List.set_cons_succ]
  refine' wpAnyH_take (i := 22) (oi := { dst := some 34, op := Op.build 30 #[(0, Operand.tmp 15), (1, Operand.tmp 18), (2, Operand.tmp 21), (3, Operand.tmp 24), (4, Operand.tmp 27), (5, Operand.tmp 30), (6, Operand.tmp 33)], type := 30, pos := "tag.go:53", after := #[{ on := 3, ground := Ground.data }, { on := 6, ground := Ground.data }, { on := 9, ground := Ground.data }, { on := 12, ground := Ground.data }, { on := 15, ground := Ground.data }, { on := 18, ground := Ground.data }, { on := 21, ground := Ground.data }], guard := none }) (v := _) rfl (by kernel_rfl) (by kernel_rfl) (by kernel_rfl) (fun _ _ _ h => h) (Or.inl ⟨by rfl, ?hy22⟩) hHeld ?r22
  case hy22 => (intro w' hSw; (try dsimp only at hSw); go_simp; try with_reducible rfl)
  simp only [Act.put, List.setIfInBounds_toArray, List.set_cons_zero, List.set_cons_succ]
  have hb3 := blk_alloc w2.drew _ 30 39 _ (pageA_get 0 (fun _ => 0) (fun _ => 0))
  have hk3 : Keep (fun _ => False) w2 (w2.drew.alloc (.cells (pageA 0 (fun _ => 0) (fun _ => 0)) 30)) := ((Keep.refl _ _).drew).alloc _
  rw [show pageA 0 (fun _ => 0) (fun _ => 0) = _ from noPage_eq] at hb3 hk3
  refine wpAnyH_ready (rs := [23]) (by kernel_rfl) (by simp) ?_
  refine AllReadyH.cons (o := { dst := some 5, op := Op.alloc 30, type := 0, pos := "tag.go:53", after := #[], guard := none }) rfl (fun K hK => ?_) AllReadyH.nil
  go_simp
  refine hK.out _ _ ⟨HB.drew.alloc _, (HB.drew.alloc _).at0' H0 (by omega) HB⟩ (fun hHeld2 => ?_)
  clear hK K hHeld
  obtain ⟨w4, hst, hb4, hk4⟩ := store_page hb3 k0 (fun j => x (4 + 4 * j)) (fun _ => 0)
  refine wpAnyH_ready (rs := [24]) (by kernel_rfl) (by simp) ?_
  refine AllReadyH.cons (o := { dst := none, op := Op.store 30 (Operand.tmp 5) (Operand.tmp 34), type := 0, pos := "tag.go:53", after := #[{ on := 23, ground := Ground.data }, { on := 22, ground := Ground.data }, { on := 21, ground := Ground.chain }, { on := 0, ground := Ground.phase }, { on := 1, ground := Ground.phase }, { on := 2, ground := Ground.phase }, { on := 3, ground := Ground.phase }, { on := 4, ground := Ground.phase }, { on := 5, ground := Ground.phase }, { on := 6, ground := Ground.phase }, { on := 7, ground := Ground.phase }, { on := 8, ground := Ground.phase }, { on := 9, ground := Ground.phase }, { on := 10, ground := Ground.phase }, { on := 11, ground := Ground.phase }, { on := 12, ground := Ground.phase }, { on := 13, ground := Ground.phase }, { on := 14, ground := Ground.phase }, { on := 15, ground := Ground.phase }, { on := 16, ground := Ground.phase }, { on := 17, ground := Ground.phase }, { on := 18, ground := Ground.phase }, { on := 19, ground := Ground.phase }, { on := 20, ground := Ground.phase }, { on := 21, ground := Ground.phase }, { on := 22, ground := Ground.phase }, { on := 23, ground := Ground.phase }], guard := none }) rfl (fun K hK => ?_) AllReadyH.nil
  refine step_store_run rfl 30 (.tmp 5) (.tmp 34) rfl (by rfl) (by rfl) hst ?_
  have HB4 : Bytes w4 b o 68 c := fun i hi => by
    have := HB i hi
    rw [← this]
    have hlt := World.block_lt_of_cell? w2 _ this
    refine World.cell?_of_block (w := w2) (a := ⟨b, o + i, none⟩) ((hk4.block b ?_ ?_).trans (hk3.block b hlt (fun e => e)))
    · have := hk3.size; simp only at hlt; omega
    · have : w2.drew.heap.size = w2.heap.size := rfl
      simp only at hlt; omega
  refine hK.out _ _ ⟨HB4, HB4.at0' H0 (by omega) HB⟩ (fun hHeld3 => ?_)
  clear hK K hHeld2 hHeld3
  refine wpAnyH_done (by kernel_rfl) ?_ _
  refine NoPanic.normal ?_
  go_wp2_with fail
  have n28 : ¬ cap = 28 := by omega
  have hlt0 : b < w2.heap.size := by have := World.block_lt_of_cell? w2 _ H0; simpa using this
  have hne : ¬ w2.heap.size = b := by omega
  have HBB : ∀ i, i < 32 → w4.drew.cell? ((⟨b, o + 28, none⟩ : Addr).add i) = some (.int .u8 (c (28 + i))) := fun i hi => by
    rw [Addr.add_lit, Nat.add_assoc]; exact HB4 (28 + i) (by omega)
  have hcp := run_copy_b (w := w4.drew) (c := w2.heap.size) hb4.drew 7 32 (by omega) (a := ⟨b, o + 28, none⟩) (dd := fun i => c (28 + i)) HBB 32 32 40 (cap - 28) rfl
  have hb5 : Blk (w4.drew.setCells w2.heap.size 7 ((List.range 32).map fun i => .int .u8 (c (28 + i)))) w2.heap.size 39 (pcell k0 (fun j => x (4 + 4 * j)) (fun i => c (28 + i))) :=
    (hb4.drew.setCells 7 32 (fun i => .int .u8 (c (28 + i))) (by omega)).congr (fun i hi => by
      unfold pcell
      by_cases e0 : i = 0
      · rw [if_neg (by omega), if_pos e0, if_pos e0]
      · rw [if_neg e0, if_neg e0]
        by_cases e7 : i < 7
        · rw [if_neg (by omega), if_pos e7, if_pos e7]
        · rw [if_pos (by omega), if_neg e7])
  have hk5 : Keep (fun _ => False) w (w4.drew.setCells w2.heap.size 7 ((List.range 32).map fun i => .int .u8 (c (28 + i)))) := by
    have h1 : Keep (fun _ => False) w w4 := (HK.trans hk3).next hk4 (fun y hy e => by
      have := HK.size
      have e2 : w2.drew.heap.size = w2.heap.size := rfl
      omega)
    exact h1.drew.setCells (Or.inr HK.size) _ _
  have hb6 : Blk (w4.drew.setCells w2.heap.size 7 ((List.range 32).map fun i => .int .u8 (c (28 + i)))) w.heap.size 39 (pcell 0 (fun _ => 0) (fun _ => 0)) := by
    have hlt := hb2.lt (by omega)
    have e2 : w2.drew.heap.size = w2.heap.size := rfl
    exact (((hb2.keep hk3 (fun e => e)).keep hk4 (by omega)).drew).otherCells (by omega) _ _
  have hsz := hb2.lt (by omega)
  generalize w4.drew.setCells w2.heap.size 7 ((List.range 32).map fun i => .int .u8 (c (28 + i))) = w5 at hcp hb5 hk5 hb6
  clear hst hb4 hk4 hb3 hk3 HB4 HBB HB hb2 HK
  go_region_held3 (fun _ => True) (trivial) (refine step_copy_run rfl (.tmp 36) (.tmp 38) 23 rfl (by rfl) (by rfl) hcp ?_)
  obtain ⟨w6, hst, hb7, hk7⟩ := store_page hb6 k0 (fun j => x (4 + 4 * j)) (fun i => c (28 + i))
  have hld := loadAt_page hb5
  have hld2 := load_page hb7
  have HK6 : Keep (fun _ => False) w w6 := hk5.next hk7 (fun y hy e => by omega)
  have hpg : pageA k0 (fun j => x (4 + 4 * j)) (fun i => c (28 + i)) = pageA (c 0) (fun j => num (fun i => c (4 + 4 * j + i)) 4) (fun i => c (28 + i)) := by
    have h1 : k0 = c 0 := HC0.out
    have h2 : (fun j => x (4 + 4 * j)) = fun j => num (fun i => c (4 + 4 * j + i)) 4 := funext fun j => HX.out _
    rw [h1, h2]
  have HPG : Hid (pageA k0 (fun j => x (4 + 4 * j)) (fun i => c (28 + i)) = pageA (c 0) (fun j => num (fun i => c (4 + 4 * j + i)) 4) (fun i => c (28 + i))) := hpg
  clear hpg hcp hb5 hb6 hk5 hb7 hk7
  generalize pageA k0 (fun j => x (4 + 4 * j)) (fun i => c (28 + i)) = A at *
  go_wp2_with (first | refine wpList_load_run rfl 30 (.tmp 5) rfl (by rfl) hld ?_ | refine wpList_store_run rfl 30 (.tmp 2) (.tmp 40) rfl (by rfl) (by rfl) hst ?_)
  refine bodyPost_ret (v := .tuple #[.agg A, .int .i64 0]) ?_ rfl ⟨by rw [HPG.out], HK6⟩
  rw [results_cell_tmp rfl]
  simp [asAddr, Result.andThen, hld2]
end Tg
end Go.Proofs.Ytgohmjidbbecpaa
