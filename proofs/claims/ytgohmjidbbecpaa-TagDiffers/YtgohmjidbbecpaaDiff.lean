/-
  Two pages: their bytes, and what is read out of them, are alike just where they are.
-/
import Derived.Test.YtgohmjidbbecpaaRefC
import Derived.Test.YtgohmjidbbecpaaTorn
import Derived.Test.YtgohmjidbbecpaaWords
namespace Go.Proofs.Ytgohmjidbbecpaa
open Go.ChangeShapes Go.WideShapes Go.ChangeAt Go.RowKit
namespace Tg
open Crc

theorem call12 (args : Array Value) (w : World) : (callFunc 12 args).run Try.prog w = .ok (.enter 12 args) w := enters Try.func12 (by kernel_rfl) (by kernel_rfl) args w
theorem pay_post (s : ByteArray) (hs : s.size ≤ maxLen) (w0 w : World) (h : Keep (fun _ => False) w0 w) : Calls Try.prog 12 #[.string s] w fun e w' => ∃ v, e = .returned v ∧ (fun v w' => v = .agg (payA (sbyte s)) ∧ Keep (fun _ => False) w0 w') v w' :=
  (payload_any s w hs).mono (by rintro e w' ⟨rfl, hk⟩; exact ⟨_, rfl, rfl, h.trans hk⟩)
theorem pay_post' (s : ByteArray) (hs : s.size ≤ maxLen) (w : World) : Calls Try.prog 12 #[.string s] w fun e w' => ∃ v, e = .returned v ∧ (fun v w' => v = .agg (payA (sbyte s)) ∧ Keep (fun _ => False) w w') v w' := pay_post s hs w w (Keep.refl _ _)

theorem kind3 {a : Int} (h0 : 0 ≤ a) : IntKind.i64.wrap (1 + IntKind.i64.wrap (a.tmod 3)) = 1 + a % 3 := by
  rw [Int.tmod_eq_emod_of_nonneg h0, IntKind.wrap_i64, IntKind.wrap_i64]; omega
/-- Six numbers behind those that came in: two appends. -/
theorem words_any {w : World} {a : Option Addr} {len cap : Nat} {l : List Int} (hr : Tw.Row w a len cap l) (hl : len ≤ 35184372087808) :
    ∃ g1 cap1 w1 g2 cap2 w2, (Builtin.append_ #[34, 34] 34 #[.slice (some ⟨w.heap.size, 0, none⟩) 0 0, .slice a len cap]).run Try.prog (w.alloc (.cells #[] 27)) = .ok (.slice (some ⟨g1, 0, none⟩) len cap1) w1 ∧
      (Builtin.append_ #[34, 34] 34 #[.slice (some ⟨g1, 0, none⟩) len cap1, .slice (some ⟨w1.heap.size, 0, none⟩) 6 6]).run Try.prog (w1.alloc (.cells #[.int .u32 0, .int .u32 0, .int .u32 0, .int .u32 0, .int .u32 0, .int .u32 0] 27)) = .ok (.slice (some ⟨g2, 0, none⟩) (len + 6) cap2) w2 ∧
      Keep (fun _ => False) w w2 ∧ ∃ v : Nat → Int, ∀ j, j < 6 → w2.cell? ⟨g2, j, none⟩ = some (.int .u32 (v j)) ∧ 0 ≤ v j ∧ v j ≤ 4294967295 := by
  have hk0 : Keep (fun _ => False) w (w.alloc (.cells #[] 27)) := (Keep.refl _ _).alloc _
  obtain ⟨g1, cap1, w1, hrun1, hrow1, hk1, hg1, hf1⟩ := Tw.append_rows (w.alloc (.cells #[] 27)) w.heap.size 0 0 [] ⟨rfl, by omega, by omega, by simp, Or.inl rfl⟩ (fun i hi => by omega) a len cap l (hr.keep hk0 (fun _ _ _ e => e)) (by omega)
  rw [Nat.zero_add] at hrun1 hrow1
  rw [List.nil_append] at hrow1
  have hK1 : Keep (fun _ => False) w w1 := hk0.next hk1 (fun x hx e => by omega)
  have hn1 : w.heap.size ≤ g1 := by rcases hg1 with rfl | h; omega; simp at h; omega
  have hkA : Keep (fun _ => False) w1 (w1.alloc (.cells #[.int .u32 0, .int .u32 0, .int .u32 0, .int .u32 0, .int .u32 0, .int .u32 0] 27)) := (Keep.refl _ _).alloc _
  obtain ⟨g2, cap2, w2, hrun2, hrow2, hk2, hg2, hf2⟩ := Tw.append_rows _ g1 cap1 len l (hrow1.keep hkA (fun _ _ _ e => e)) (hf1.keep hkA (fun e => e)) (some ⟨w1.heap.size, 0, none⟩) 6 6 [0, 0, 0, 0, 0, 0] (Tw.row_new w1 [0, 0, 0, 0, 0, 0] (0, 0) w1.heap.size 6 rfl (by simp) (by omega) (by decide)) (by omega)
  refine ⟨g1, cap1, w1, g2, cap2, w2, hrun1, hrun2, (hK1.trans hkA).next hk2 (fun x hx e => by omega), fun j => (l ++ [0, 0, 0, 0, 0, 0]).getD j 0, fun j hj => ⟨hrow2.cellAt (by omega), Tw.getD_bound hrow2.2.2.2.1 j⟩⟩

theorem yields_load {P : Program} {ops : Array Oper} {S : World → Prop} {o : Oper} {a : Act} {v v1 : Value} (hw : Region.wanted o (yielded ops a.tmps) = true) (t : TypeId) (x : Operand) (hop : o.op = Op.load t x) (hx : a.eval x = v1) (h : ∀ w, S w → (Instr.loadAt t v1).run P w = .ok v w) : YieldsIf P ops S o v a := by
  refine Or.inl ⟨hw, fun w hS => ?_⟩
  simp [execOp, hop, hx, h w hS]
theorem yields_conv {P : Program} {ops : Array Oper} {S : World → Prop} {o : Oper} {a : Act} {v v1 : Value} (hw : Region.wanted o (yielded ops a.tmps) = true) (s t : TypeId) (x : Operand) (hop : o.op = Op.convert s t x) (hx : a.eval x = v1) (h : ∀ w, S w → (convert s t v1).run P w = .ok v w) : YieldsIf P ops S o v a := by
  refine Or.inl ⟨hw, fun w hS => ?_⟩
  simp [execOp, hop, hx, h w hS]
theorem guard30 : Try.prog.eqGuardType Try.prog.depth 30 = false := by kernel_rfl
theorem yields_eq30 {ops : Array Oper} {S : World → Prop} {o : Oper} {a : Act} {k k' : Int} {v v' d d' : Nat → Int} {r : Bool} (hw : Region.wanted o (yielded ops a.tmps) = true) (x y : Operand) (hop : o.op = Op.binOp .eql 30 x y 30) (hx : a.eval x = .agg (pageA k v d)) (hy : a.eval y = .agg (pageA k' v' d')) (hr : samePage k k' v v' d d' = r) : YieldsIf Try.prog ops S o (.bool r) a := by
  refine Or.inl ⟨hw, fun w hS => ?_⟩
  have h1 := run_eqGuard_agg (P := Try.prog) w .eql 30 x y (pageA k v d) (pageA k' v' d') guard30
  have h2 := run_eql_struct (P := Try.prog) w 30 (pageA k v d) (pageA k' v' d')
  rw [eq30, hr] at h2
  simp only [Result.andThen_ok] at h2
  simp only [execOp, hop, hx, hy]
  simp only [Sem.run_bind, h1, h2, Result.andThen_ok, Sem.run_pure]

/-- Two pages' bytes are alike just where the pages are. -/
theorem bytes_same {k k' : Int} {v v' d d' : Nat → Int} (hv : ∀ j, j < 6 → 0 ≤ v j ∧ v j ≤ 4294967295) (hv' : ∀ j, j < 6 → 0 ≤ v' j ∧ v' j ≤ 4294967295) (hk : 1 ≤ k ∧ k ≤ 3) (hk' : 1 ≤ k' ∧ k' ≤ 3) (hd : ∀ i, 0 ≤ d i ∧ d i ≤ 255) (hd' : ∀ i, 0 ≤ d' i ∧ d' i ≤ 255) :
    ((strOfNums (tab 68 (ebyte k v d))).toList == (strOfNums (tab 68 (ebyte k' v' d'))).toList) = samePage k k' v v' d d' := by
  rw [str_eq (tab_byte (ebyte_bd k v d hk hd)) (tab_byte (ebyte_bd k' v' d' hk' hd')), Bool.eq_iff_iff, decide_eq_true_eq, samePage_iff]
  constructor
  · intro h
    have he : ∀ i, i < 68 → ebyte k v d i = ebyte k' v' d' i := fun i hi => by rw [← tab_get (ebyte k v d) hi, h, tab_get _ hi]
    rw [← page_back k v d hv, ← page_back k' v' d' hv', he 0 (by omega)]
    refine pageA_congr (fun j hj => ?_) (fun i hi => he _ (by omega))
    exact num_congr (fun i hi => he _ (by omega))
  · intro h
    obtain ⟨h0, h1, h2⟩ := pageA_inj h
    refine tab_congr (fun i hi => ?_)
    have hpl : ∀ i, i < 60 → plain k v d i = plain k' v' d' i := fun i hi => by
      subst h0
      have hp : part k v 6 i = part k v' 6 i := by
        unfold part
        by_cases e0 : i = 0
        · simp only [if_pos e0]
        · by_cases e4 : i < 4
          · simp only [if_neg e0, if_pos e4]
          · by_cases e5 : i < 4 + 4 * 6
            · simp only [if_neg e0, if_neg e4, if_pos e5]; rw [h1 _ (by omega)]
            · simp only [if_neg e0, if_neg e4, if_neg e5]
      unfold plain
      by_cases e : i < 28
      · simp only [if_pos e]; exact hp
      · simp only [if_neg e, if_pos hi]; exact h2 _ (by omega)
    unfold ebyte
    by_cases e : i < 60
    · rw [if_pos e, if_pos e, hpl i e]
    · rw [if_neg e, if_neg e]
      by_cases e2 : i < 64
      · rw [if_pos e2, if_pos e2]; unfold psum; rw [tab_congr hpl]
      · rw [if_neg e2, if_neg e2]
theorem six_bd {u : Nat → Int} (h : ∀ j, j < 6 → 0 ≤ u j ∧ u j ≤ 4294967295) : ∀ j, j < 6 → 0 ≤ six (u 0) (u 1) (u 2) (u 3) (u 4) (u 5) j ∧ six (u 0) (u 1) (u 2) (u 3) (u 4) (u 5) j ≤ 4294967295 := by
  intro j hj
  have : j = 0 ∨ j = 1 ∨ j = 2 ∨ j = 3 ∨ j = 4 ∨ j = 5 := by omega
  rcases this with rfl | rfl | rfl | rfl | rfl | rfl <;> exact h _ (by omega)

set_option maxRecDepth 100000 in
set_option maxHeartbeats 8000000 in
theorem differs (a0 : Option Addr) (len0 cap0 : Nat) (l0 : List Int) (a1 : Option Addr) (len1 cap1 : Nat) (l1 : List Int) (x y : ByteArray) (w : World) (hr0 : Tw.Row w a0 len0 cap0 l0) (hr1 : Tw.Row w a1 len1 cap1 l1) (hn0 : len0 ≤ 35184372087808) (hn1 : len1 ≤ 35184372087808) (hx : x.size ≤ maxLen) (hy : y.size ≤ maxLen) :
    Calls Try.prog 7 #[.slice a0 len0 cap0, .slice a1 len1 cap1, .string x, .string y] w fun e w' => e = .returned (.bool true) ∧ Keep (fun _ => False) w w' := by
  go_enter Try.func7, Try.ntmps7
  go_wp2_with fail
  refine (awake_any _).mono ?_
  rintro e w1 ⟨rfl, hk1⟩
  obtain ⟨ga, ca, w2, gu, cu, w3, hra, hru, hk3, u, hu⟩ := words_any (hr0.keep hk1 (fun _ _ _ e => e)) hn0
  obtain ⟨gb, cb, w4, gv, cv, w5, hrb, hrv, hk5, v, hv⟩ := words_any ((hr1.keep hk1 (fun _ _ _ e => e)).keep hk3 (fun _ _ _ e => e)) hn1
  have hu5 : ∀ w', Keep (fun _ => False) w5 w' → ∀ j, j < 6 → w'.cell? ⟨gu, j, none⟩ = some (.int .u32 (u j)) := fun w' h j hj => by
    have h3 := (hu j hj).1
    rw [← h3]
    exact World.cell?_of_block (w := w3) (a := ⟨gu, j, none⟩) ((hk5.trans h).block gu (World.block_lt_of_cell? w3 _ h3) (fun e => e))
  have hv5 : ∀ w', Keep (fun _ => False) w5 w' → ∀ j, j < 6 → w'.cell? ⟨gv, j, none⟩ = some (.int .u32 (v j)) := fun w' h j hj => by
    have h3 := (hv j hj).1
    rw [← h3]
    exact World.cell?_of_block (w := w5) (a := ⟨gv, j, none⟩) (h.block gv (World.block_lt_of_cell? w5 _ h3) (fun e => e))
  go_wp2_with (at_builtin; first | (guard_target =~ wpList _ _ _ (Oper.mk _ (Op.call { callee := _, args := #[.tmp 23, .tmp 24], argTypes := _ }) _ _ _ _ :: _) _ _; refine wpList_append_run rfl (.tmp 23) (.tmp 24) 34 rfl (by rfl) (by rfl) hra ?_) | (guard_target =~ wpList _ _ _ (Oper.mk _ (Op.call { callee := _, args := #[.tmp 25, .tmp 26], argTypes := _ }) _ _ _ _ :: _) _ _; refine wpList_append_run rfl (.tmp 25) (.tmp 26) 34 rfl (by rfl) (by rfl) hru ?_) | (guard_target =~ wpList _ _ _ (Oper.mk _ (Op.call { callee := _, args := #[.tmp 28, .tmp 29], argTypes := _ }) _ _ _ _ :: _) _ _; refine wpList_append_run rfl (.tmp 28) (.tmp 29) 34 rfl (by rfl) (by rfl) hrb ?_) | refine wpList_append_run rfl (.tmp 30) (.tmp 31) 34 rfl (by rfl) (by rfl) hrv ?_)
  clear hra hru hrb hrv
  have ub0 := (hu 0 (by omega)).2
  have vb0 := (hv 0 (by omega)).2
  have hl0 : (0 : Int) ≤ len0 := by omega
  have hl1 : (0 : Int) ≤ len1 := by omega
  have hu6 : ∀ j, j < 6 → 0 ≤ six (u 0) (u 1) (u 2) (u 3) (u 4) (u 5) j ∧ six (u 0) (u 1) (u 2) (u 3) (u 4) (u 5) j ≤ 4294967295 := six_bd (fun j hj => (hu j hj).2)
  have hv6 : ∀ j, j < 6 → 0 ≤ six (v 0) (v 1) (v 2) (v 3) (v 4) (v 5) j ∧ six (v 0) (v 1) (v 2) (v 3) (v 4) (v 5) j ≤ 4294967295 := six_bd (fun j hj => (hv j hj).2)
  have kp3 : 1 ≤ 1 + u 0 % 3 ∧ 1 + u 0 % 3 ≤ 3 := by omega
  have kq3 : 1 ≤ 1 + v 0 % 3 ∧ 1 + v 0 % 3 ≤ 3 := by omega
  clear hu hv
  have kSp : ∀ w', Keep (fun _ => False) w5 w' → w'.cell? ⟨gu, 0, none⟩ = some (.int .u32 (u 0)) ∧ w'.cell? ⟨gu, 1, none⟩ = some (.int .u32 (u 1)) ∧ w'.cell? ⟨gu, 2, none⟩ = some (.int .u32 (u 2)) ∧ w'.cell? ⟨gu, 3, none⟩ = some (.int .u32 (u 3)) ∧ w'.cell? ⟨gu, 4, none⟩ = some (.int .u32 (u 4)) ∧ w'.cell? ⟨gu, 5, none⟩ = some (.int .u32 (u 5)) := fun w' h => ⟨hu5 w' h 0 (by omega), hu5 w' h 1 (by omega), hu5 w' h 2 (by omega), hu5 w' h 3 (by omega), hu5 w' h 4 (by omega), hu5 w' h 5 (by omega)⟩
  have payp := pay_post x hx w5
  have payXp := pay_post' x hx
  have hkp : IntKind.i64.wrap (1 + IntKind.i64.wrap ((u 0).tmod 3)) = 1 + u 0 % 3 := kind3 ub0.1
  have hsp := payA_size (sbyte x)
  have ip0 : (0 : Int) < (len0 : Int) + 6 := by omega
  have ip1 : (1 : Int) < (len0 : Int) + 6 := by omega
  have ip2 : (2 : Int) < (len0 : Int) + 6 := by omega
  have ip3 : (3 : Int) < (len0 : Int) + 6 := by omega
  have ip4 : (4 : Int) < (len0 : Int) + 6 := by omega
  have ip5 : (5 : Int) < (len0 : Int) + 6 := by omega
  refine wp_region_noPanic ?_
  refine wp_region_held_drew (S := fun w' => w'.cell? ⟨gu, 0, none⟩ = some (.int .u32 (u 0)) ∧ w'.cell? ⟨gu, 1, none⟩ = some (.int .u32 (u 1)) ∧ w'.cell? ⟨gu, 2, none⟩ = some (.int .u32 (u 2)) ∧ w'.cell? ⟨gu, 3, none⟩ = some (.int .u32 (u 3)) ∧ w'.cell? ⟨gu, 4, none⟩ = some (.int .u32 (u 4)) ∧ w'.cell? ⟨gu, 5, none⟩ = some (.int .u32 (u 5))) (by kernel_rfl) (kSp _ ((Keep.refl _ _).drew)) (fun hHeld => ?_)
  refine' wpAnyH_take (i := 0) (oi := { dst := some 33, op := Op.move (Operand.tmp 9), type := 34, pos := "more.go:15", after := #[], guard := none }) (v := _) rfl (by kernel_rfl) (by kernel_rfl) (by kernel_rfl) (fun _ _ _ h => h) (Or.inl ⟨by rfl, ?hyp0⟩) hHeld ?rp0
  case hyp0 => (intro w' hSw; (try dsimp only at hSw); go_simp; try with_reducible rfl)
  simp only [Act.put, List.setIfInBounds_toArray, List.set_cons_zero, List.set_cons_succ]
  refine' wpAnyH_take (i := 1) (oi := { dst := some 34, op := Op.indexAddr 34 (Operand.tmp 33) (Operand.const (Value.int IntKind.i64 0)), type := 0, pos := "more.go:15", after := #[{ on := 0, ground := Ground.data }], guard := none }) (v := _) rfl (by kernel_rfl) (by kernel_rfl) (by kernel_rfl) (fun _ _ _ h => h) (Or.inl ⟨by rfl, ?hyp1⟩) hHeld ?rp1
  case hyp1 => (intro w' hSw; (try dsimp only at hSw); go_simp; try with_reducible rfl)
  simp only [Act.put, List.setIfInBounds_toArray, List.set_cons_zero, List.set_cons_succ]
  refine' wpAnyH_take (i := 2) (oi := { dst := some 35, op := Op.load 27 (Operand.tmp 34), type := 27, pos := "more.go:15", after := #[{ on := 1, ground := Ground.data }], guard := none }) (v := _) rfl (by kernel_rfl) (by kernel_rfl) (by kernel_rfl) (fun _ _ _ h => h) (Or.inl ⟨by rfl, ?hyp2⟩) hHeld ?rp2
  case hyp2 => (intro w' hSw; (try dsimp only at hSw); go_simp; try with_reducible rfl)
  simp only [Act.put, List.setIfInBounds_toArray, List.set_cons_zero, List.set_cons_succ]
  refine' wpAnyH_take (i := 3) (oi := { dst := some 36, op := Op.binOp BinOp.rem 27 (Operand.tmp 35) (Operand.const (Value.int IntKind.u32 3)) 27, type := 27, pos := "more.go:15", after := #[{ on := 2, ground := Ground.data }], guard := none }) (v := _) rfl (by kernel_rfl) (by kernel_rfl) (by kernel_rfl) (fun _ _ _ h => h) (Or.inl ⟨by rfl, ?hyp3⟩) hHeld ?rp3
  case hyp3 => (intro w' hSw; (try dsimp only at hSw); go_simp; try with_reducible rfl)
  simp only [Act.put, List.setIfInBounds_toArray, List.set_cons_zero, List.set_cons_succ]
  refine' wpAnyH_take (i := 4) (oi := { dst := some 37, op := Op.convert 27 3 (Operand.tmp 36), type := 3, pos := "more.go:15", after := #[{ on := 3, ground := Ground.data }], guard := none }) (v := _) rfl (by kernel_rfl) (by kernel_rfl) (by kernel_rfl) (fun _ _ _ h => h) (Or.inl ⟨by rfl, ?hyp4⟩) hHeld ?rp4
  case hyp4 => (intro w' hSw; (try dsimp only at hSw); go_simp; try with_reducible rfl)
  simp only [Act.put, List.setIfInBounds_toArray, List.set_cons_zero, List.set_cons_succ]
  refine' wpAnyH_take (i := 5) (oi := { dst := some 38, op := Op.binOp BinOp.add 3 (Operand.const (Value.int IntKind.i64 1)) (Operand.tmp 37) 3, type := 3, pos := "more.go:15", after := #[{ on := 4, ground := Ground.data }], guard := none }) (v := _) rfl (by kernel_rfl) (by kernel_rfl) (by kernel_rfl) (fun _ _ _ h => h) (Or.inl ⟨by rfl, ?hyp5⟩) hHeld ?rp5
  case hyp5 => (intro w' hSw; (try dsimp only at hSw); go_simp; try with_reducible rfl)
  simp only [Act.put, List.setIfInBounds_toArray, List.set_cons_zero, List.set_cons_succ]
  refine' wpAnyH_take (i := 6) (oi := { dst := some 39, op := Op.move (Operand.tmp 9), type := 34, pos := "more.go:15", after := #[], guard := none }) (v := _) rfl (by kernel_rfl) (by kernel_rfl) (by kernel_rfl) (fun _ _ _ h => h) (Or.inl ⟨by rfl, ?hyp6⟩) hHeld ?rp6
  case hyp6 => (intro w' hSw; (try dsimp only at hSw); go_simp; try with_reducible rfl)
  simp only [Act.put, List.setIfInBounds_toArray, List.set_cons_zero, List.set_cons_succ]
  refine' wpAnyH_take (i := 7) (oi := { dst := some 40, op := Op.indexAddr 34 (Operand.tmp 39) (Operand.const (Value.int IntKind.i64 0)), type := 0, pos := "more.go:15", after := #[{ on := 6, ground := Ground.data }], guard := none }) (v := _) rfl (by kernel_rfl) (by kernel_rfl) (by kernel_rfl) (fun _ _ _ h => h) (Or.inl ⟨by rfl, ?hyp7⟩) hHeld ?rp7
  case hyp7 => (intro w' hSw; (try dsimp only at hSw); go_simp; try with_reducible rfl)
  simp only [Act.put, List.setIfInBounds_toArray, List.set_cons_zero, List.set_cons_succ]
  refine' wpAnyH_take (i := 8) (oi := { dst := some 41, op := Op.load 27 (Operand.tmp 40), type := 27, pos := "more.go:15", after := #[{ on := 7, ground := Ground.data }], guard := none }) (v := _) rfl (by kernel_rfl) (by kernel_rfl) (by kernel_rfl) (fun _ _ _ h => h) (Or.inl ⟨by rfl, ?hyp8⟩) hHeld ?rp8
  case hyp8 => (intro w' hSw; (try dsimp only at hSw); go_simp; try with_reducible rfl)
  simp only [Act.put, List.setIfInBounds_toArray, List.set_cons_zero, List.set_cons_succ]
  refine' wpAnyH_take (i := 9) (oi := { dst := some 42, op := Op.move (Operand.tmp 9), type := 34, pos := "more.go:15", after := #[], guard := none }) (v := _) rfl (by kernel_rfl) (by kernel_rfl) (by kernel_rfl) (fun _ _ _ h => h) (Or.inl ⟨by rfl, ?hyp9⟩) hHeld ?rp9
  case hyp9 => (intro w' hSw; (try dsimp only at hSw); go_simp; try with_reducible rfl)
  simp only [Act.put, List.setIfInBounds_toArray, List.set_cons_zero, List.set_cons_succ]
  refine' wpAnyH_take (i := 10) (oi := { dst := some 43, op := Op.indexAddr 34 (Operand.tmp 42) (Operand.const (Value.int IntKind.i64 1)), type := 0, pos := "more.go:15", after := #[{ on := 9, ground := Ground.data }], guard := none }) (v := _) rfl (by kernel_rfl) (by kernel_rfl) (by kernel_rfl) (fun _ _ _ h => h) (Or.inl ⟨by rfl, ?hyp10⟩) hHeld ?rp10
  case hyp10 => (intro w' hSw; (try dsimp only at hSw); go_simp; try with_reducible rfl)
  simp only [Act.put, List.setIfInBounds_toArray, List.set_cons_zero, List.set_cons_succ]
  refine' wpAnyH_take (i := 11) (oi := { dst := some 44, op := Op.load 27 (Operand.tmp 43), type := 27, pos := "more.go:15", after := #[{ on := 10, ground := Ground.data }], guard := none }) (v := _) rfl (by kernel_rfl) (by kernel_rfl) (by kernel_rfl) (fun _ _ _ h => h) (Or.inl ⟨by rfl, ?hyp11⟩) hHeld ?rp11
  case hyp11 => (intro w' hSw; (try dsimp only at hSw); go_simp; try with_reducible rfl)
  simp only [Act.put, List.setIfInBounds_toArray, List.set_cons_zero, List.set_cons_succ]
  refine' wpAnyH_take (i := 12) (oi := { dst := some 45, op := Op.move (Operand.tmp 9), type := 34, pos := "more.go:15", after := #[], guard := none }) (v := _) rfl (by kernel_rfl) (by kernel_rfl) (by kernel_rfl) (fun _ _ _ h => h) (Or.inl ⟨by rfl, ?hyp12⟩) hHeld ?rp12
  case hyp12 => (intro w' hSw; (try dsimp only at hSw); go_simp; try with_reducible rfl)
  simp only [Act.put, List.setIfInBounds_toArray, List.set_cons_zero, List.set_cons_succ]
  refine' wpAnyH_take (i := 13) (oi := { dst := some 46, op := Op.indexAddr 34 (Operand.tmp 45) (Operand.const (Value.int IntKind.i64 2)), type := 0, pos := "more.go:15", after := #[{ on := 12, ground := Ground.data }], guard := none }) (v := _) rfl (by kernel_rfl) (by kernel_rfl) (by kernel_rfl) (fun _ _ _ h => h) (Or.inl ⟨by rfl, ?hyp13⟩) hHeld ?rp13
  case hyp13 => (intro w' hSw; (try dsimp only at hSw); go_simp; try with_reducible rfl)
  simp only [Act.put, List.setIfInBounds_toArray, List.set_cons_zero, List.set_cons_succ]
  refine' wpAnyH_take (i := 14) (oi := { dst := some 47, op := Op.load 27 (Operand.tmp 46), type := 27, pos := "more.go:15", after := #[{ on := 13, ground := Ground.data }], guard := none }) (v := _) rfl (by kernel_rfl) (by kernel_rfl) (by kernel_rfl) (fun _ _ _ h => h) (Or.inl ⟨by rfl, ?hyp14⟩) hHeld ?rp14
  case hyp14 => (intro w' hSw; (try dsimp only at hSw); go_simp; try with_reducible rfl)
  simp only [Act.put, List.setIfInBounds_toArray, List.set_cons_zero, List.set_cons_succ]
  refine' wpAnyH_take (i := 15) (oi := { dst := some 48, op := Op.move (Operand.tmp 9), type := 34, pos := "more.go:15", after := #[], guard := none }) (v := _) rfl (by kernel_rfl) (by kernel_rfl) (by kernel_rfl) (fun _ _ _ h => h) (Or.inl ⟨by rfl, ?hyp15⟩) hHeld ?rp15
  case hyp15 => (intro w' hSw; (try dsimp only at hSw); go_simp; try with_reducible rfl)
  simp only [Act.put, List.setIfInBounds_toArray, List.set_cons_zero, List.set_cons_succ]
  refine' wpAnyH_take (i := 16) (oi := { dst := some 49, op := Op.indexAddr 34 (Operand.tmp 48) (Operand.const (Value.int IntKind.i64 3)), type := 0, pos := "more.go:15", after := #[{ on := 15, ground := Ground.data }], guard := none }) (v := _) rfl (by kernel_rfl) (by kernel_rfl) (by kernel_rfl) (fun _ _ _ h => h) (Or.inl ⟨by rfl, ?hyp16⟩) hHeld ?rp16
  case hyp16 => (intro w' hSw; (try dsimp only at hSw); go_simp; try with_reducible rfl)
  simp only [Act.put, List.setIfInBounds_toArray, List.set_cons_zero, List.set_cons_succ]
  refine' wpAnyH_take (i := 17) (oi := { dst := some 50, op := Op.load 27 (Operand.tmp 49), type := 27, pos := "more.go:15", after := #[{ on := 16, ground := Ground.data }], guard := none }) (v := _) rfl (by kernel_rfl) (by kernel_rfl) (by kernel_rfl) (fun _ _ _ h => h) (Or.inl ⟨by rfl, ?hyp17⟩) hHeld ?rp17
  case hyp17 => (intro w' hSw; (try dsimp only at hSw); go_simp; try with_reducible rfl)
  simp only [Act.put, List.setIfInBounds_toArray, List.set_cons_zero, List.set_cons_succ]
  refine' wpAnyH_take (i := 18) (oi := { dst := some 51, op := Op.move (Operand.tmp 9), type := 34, pos := "more.go:15", after := #[], guard := none }) (v := _) rfl (by kernel_rfl) (by kernel_rfl) (by kernel_rfl) (fun _ _ _ h => h) (Or.inl ⟨by rfl, ?hyp18⟩) hHeld ?rp18
  case hyp18 => (intro w' hSw; (try dsimp only at hSw); go_simp; try with_reducible rfl)
  simp only [Act.put, List.setIfInBounds_toArray, List.set_cons_zero, List.set_cons_succ]
  refine' wpAnyH_take (i := 19) (oi := { dst := some 52, op := Op.indexAddr 34 (Operand.tmp 51) (Operand.const (Value.int IntKind.i64 4)), type := 0, pos := "more.go:15", after := #[{ on := 18, ground := Ground.data }], guard := none }) (v := _) rfl (by kernel_rfl) (by kernel_rfl) (by kernel_rfl) (fun _ _ _ h => h) (Or.inl ⟨by rfl, ?hyp19⟩) hHeld ?rp19
  case hyp19 => (intro w' hSw; (try dsimp only at hSw); go_simp; try with_reducible rfl)
  simp only [Act.put, List.setIfInBounds_toArray, List.set_cons_zero, List.set_cons_succ]
  refine' wpAnyH_take (i := 20) (oi := { dst := some 53, op := Op.load 27 (Operand.tmp 52), type := 27, pos := "more.go:15", after := #[{ on := 19, ground := Ground.data }], guard := none }) (v := _) rfl (by kernel_rfl) (by kernel_rfl) (by kernel_rfl) (fun _ _ _ h => h) (Or.inl ⟨by rfl, ?hyp20⟩) hHeld ?rp20
  case hyp20 => (intro w' hSw; (try dsimp only at hSw); go_simp; try with_reducible rfl)
  simp only [Act.put, List.setIfInBounds_toArray, List.set_cons_zero, List.set_cons_succ]
  refine' wpAnyH_take (i := 21) (oi := { dst := some 54, op := Op.move (Operand.tmp 9), type := 34, pos := "more.go:15", after := #[], guard := none }) (v := _) rfl (by kernel_rfl) (by kernel_rfl) (by kernel_rfl) (fun _ _ _ h => h) (Or.inl ⟨by rfl, ?hyp21⟩) hHeld ?rp21
  case hyp21 => (intro w' hSw; (try dsimp only at hSw); go_simp; try with_reducible rfl)
  simp only [Act.put, List.setIfInBounds_toArray, List.set_cons_zero, List.set_cons_succ]
  refine' wpAnyH_take (i := 22) (oi := { dst := some 55, op := Op.indexAddr 34 (Operand.tmp 54) (Operand.const (Value.int IntKind.i64 5)), type := 0, pos := "more.go:15", after := #[{ on := 21, ground := Ground.data }], guard := none }) (v := _) rfl (by kernel_rfl) (by kernel_rfl) (by kernel_rfl) (fun _ _ _ h => h) (Or.inl ⟨by rfl, ?hyp22⟩) hHeld ?rp22
  case hyp22 => (intro w' hSw; (try dsimp only at hSw); go_simp; try with_reducible rfl)
  simp only [Act.put, List.setIfInBounds_toArray, List.set_cons_zero, List.set_cons_succ]
  refine' wpAnyH_take (i := 23) (oi := { dst := some 56, op := Op.load 27 (Operand.tmp 55), type := 27, pos := "more.go:15", after := #[{ on := 22, ground := Ground.data }], guard := none }) (v := _) rfl (by kernel_rfl) (by kernel_rfl) (by kernel_rfl) (fun _ _ _ h => h) (Or.inl ⟨by rfl, ?hyp23⟩) hHeld ?rp23
  case hyp23 => (intro w' hSw; (try dsimp only at hSw); go_simp; try with_reducible rfl)
  simp only [Act.put, List.setIfInBounds_toArray, List.set_cons_zero, List.set_cons_succ]
  refine' wpAnyH_take (i := 24) (oi := { dst := some 57, op := Op.move (Operand.tmp 2), type := 9, pos := "more.go:15", after := #[], guard := none }) (v := _) rfl (by kernel_rfl) (by kernel_rfl) (by kernel_rfl) (fun _ _ _ h => h) (Or.inl ⟨by rfl, ?hyp24⟩) hHeld ?rp24
  case hyp24 => (intro w' hSw; (try dsimp only at hSw); go_simp; try with_reducible rfl)
  simp only [Act.put, List.setIfInBounds_toArray, List.set_cons_zero, List.set_cons_succ]
  refine wpAnyH_ready (rs := [25, 27]) (by kernel_rfl) (by simp) ?_
  refine AllReadyH.cons (o := { dst := some 58, op := Op.call { callee := Callee.value (Operand.func 12), args := #[Operand.tmp 57], argTypes := #[9] }, type := 28, pos := "more.go:15", after := #[{ on := 24, ground := Ground.data }], guard := none }) rfl (fun K hK => ?_) (AllReadyH.cons (o := { dst := some 11, op := Op.alloc 30, type := 0, pos := "more.go:15", after := #[], guard := none }) rfl (fun K hK => ?_) AllReadyH.nil)
  · refine step_call_post (vs := #[.string x]) (R := fun v w' => v = .agg (payA (sbyte x)) ∧ Keep (fun _ => False) w5 w') rfl 12 #[.tmp 57] #[9] rfl (by simp [Act.eval]) call12 (payp _ ((Keep.refl _ _).drew)) ?_
    rintro v wA ⟨rfl, hkA⟩
    refine hK.out _ _ (kSp _ hkA) (fun hHeld5 => ?_)
    clear hK K
    simp only [Act.put, List.setIfInBounds_toArray, List.set_cons_zero, List.set_cons_succ]
    refine' wpAnyH_take (i := 26) (oi := { dst := some 59, op := Op.build 30 #[(0, Operand.tmp 38), (1, Operand.tmp 41), (2, Operand.tmp 44), (3, Operand.tmp 47), (4, Operand.tmp 50), (5, Operand.tmp 53), (6, Operand.tmp 56), (7, Operand.tmp 58)], type := 30, pos := "more.go:15", after := #[{ on := 5, ground := Ground.data }, { on := 8, ground := Ground.data }, { on := 11, ground := Ground.data }, { on := 14, ground := Ground.data }, { on := 17, ground := Ground.data }, { on := 20, ground := Ground.data }, { on := 23, ground := Ground.data }, { on := 25, ground := Ground.data }], guard := none }) (v := .agg (pageA (1 + u 0 % 3) (six (u 0) (u 1) (u 2) (u 3) (u 4) (u 5)) (sbyte x))) rfl (by kernel_rfl) (by kernel_rfl) (by kernel_rfl) (fun _ _ _ h => h) (Or.inl ⟨by rfl, ?hbpA⟩) hHeld5 ?rbpA
    case hbpA => (intro w' hSw; clear hSw; go_simp; rw [build_page])
    simp only [Act.put, List.setIfInBounds_toArray, List.set_cons_zero, List.set_cons_succ]
    refine wpAnyH_ready (rs := [27]) (by kernel_rfl) (by simp) ?_
    refine AllReadyH.cons (o := { dst := some 11, op := Op.alloc 30, type := 0, pos := "more.go:15", after := #[], guard := none }) rfl (fun K hK => ?_) AllReadyH.nil
    go_simp
    refine hK.out _ _ (kSp _ (hkA.alloc _)) (fun hHeld7 => ?_)
    clear hK K hHeld7 hHeld hHeld5
    obtain ⟨wB, hstB, hbB, hkB⟩ := new_page wA (1 + u 0 % 3) (six (u 0) (u 1) (u 2) (u 3) (u 4) (u 5)) (sbyte x)
    have HKB : Keep (fun _ => False) w5 wB := hkA.trans hkB
    have hpB := (show w5.heap.size ≤ wA.heap.size from hkA.size)
    refine wpAnyH_ready (rs := [28]) (by kernel_rfl) (by simp) ?_
    refine AllReadyH.cons (o := { dst := none, op := Op.store 30 (Operand.tmp 11) (Operand.tmp 59), type := 0, pos := "more.go:15", after := #[{ on := 27, ground := Ground.data }, { on := 26, ground := Ground.data }, { on := 25, ground := Ground.chain }, { on := 0, ground := Ground.phase }, { on := 1, ground := Ground.phase }, { on := 2, ground := Ground.phase }, { on := 3, ground := Ground.phase }, { on := 4, ground := Ground.phase }, { on := 5, ground := Ground.phase }, { on := 6, ground := Ground.phase }, { on := 7, ground := Ground.phase }, { on := 8, ground := Ground.phase }, { on := 9, ground := Ground.phase }, { on := 10, ground := Ground.phase }, { on := 11, ground := Ground.phase }, { on := 12, ground := Ground.phase }, { on := 13, ground := Ground.phase }, { on := 14, ground := Ground.phase }, { on := 15, ground := Ground.phase }, { on := 16, ground := Ground.phase }, { on := 17, ground := Ground.phase }, { on := 18, ground := Ground.phase }, { on := 19, ground := Ground.phase }, { on := 20, ground := Ground.phase }, { on := 21, ground := Ground.phase }, { on := 22, ground := Ground.phase }, { on := 23, ground := Ground.phase }, { on := 24, ground := Ground.phase }, { on := 25, ground := Ground.phase }, { on := 26, ground := Ground.phase }, { on := 27, ground := Ground.phase }], guard := none }) rfl (fun K hK => ?_) AllReadyH.nil
    refine step_store_run rfl 30 (.tmp 11) (.tmp 59) rfl (by rfl) (by rfl) hstB ?_
    refine hK.out _ _ (kSp _ HKB) (fun hHeld6 => ?_)
    clear hK K hHeld6 hstB
    refine wpAnyH_done (by kernel_rfl) ?_ _
    refine NoPanic.normal ?_
    generalize wA.heap.size = pB at hbB hpB ⊢
    clear hkA hkB
    clear kSp payp payXp hkp hsp ip0 ip1 ip2 ip3 ip4 ip5
    go_wp2_with fail
    have kSq : ∀ w', Keep (fun _ => False) wB w' → w'.cell? ⟨gv, 0, none⟩ = some (.int .u32 (v 0)) ∧ w'.cell? ⟨gv, 1, none⟩ = some (.int .u32 (v 1)) ∧ w'.cell? ⟨gv, 2, none⟩ = some (.int .u32 (v 2)) ∧ w'.cell? ⟨gv, 3, none⟩ = some (.int .u32 (v 3)) ∧ w'.cell? ⟨gv, 4, none⟩ = some (.int .u32 (v 4)) ∧ w'.cell? ⟨gv, 5, none⟩ = some (.int .u32 (v 5)) := fun w' h => ⟨(fun w' h => hv5 w' (HKB.trans h)) w' h 0 (by omega), (fun w' h => hv5 w' (HKB.trans h)) w' h 1 (by omega), (fun w' h => hv5 w' (HKB.trans h)) w' h 2 (by omega), (fun w' h => hv5 w' (HKB.trans h)) w' h 3 (by omega), (fun w' h => hv5 w' (HKB.trans h)) w' h 4 (by omega), (fun w' h => hv5 w' (HKB.trans h)) w' h 5 (by omega)⟩
    have payq := pay_post y hy wB
    have payXq := pay_post' y hy
    have hkq : IntKind.i64.wrap (1 + IntKind.i64.wrap ((v 0).tmod 3)) = 1 + v 0 % 3 := kind3 vb0.1
    have hsq := payA_size (sbyte y)
    have iq0 : (0 : Int) < (len1 : Int) + 6 := by omega
    have iq1 : (1 : Int) < (len1 : Int) + 6 := by omega
    have iq2 : (2 : Int) < (len1 : Int) + 6 := by omega
    have iq3 : (3 : Int) < (len1 : Int) + 6 := by omega
    have iq4 : (4 : Int) < (len1 : Int) + 6 := by omega
    have iq5 : (5 : Int) < (len1 : Int) + 6 := by omega
    refine wp_region_noPanic ?_
    refine wp_region_held_drew (S := fun w' => w'.cell? ⟨gv, 0, none⟩ = some (.int .u32 (v 0)) ∧ w'.cell? ⟨gv, 1, none⟩ = some (.int .u32 (v 1)) ∧ w'.cell? ⟨gv, 2, none⟩ = some (.int .u32 (v 2)) ∧ w'.cell? ⟨gv, 3, none⟩ = some (.int .u32 (v 3)) ∧ w'.cell? ⟨gv, 4, none⟩ = some (.int .u32 (v 4)) ∧ w'.cell? ⟨gv, 5, none⟩ = some (.int .u32 (v 5))) (by kernel_rfl) (kSq _ ((Keep.refl _ _).drew)) (fun hHeld => ?_)
    refine' wpAnyH_take (i := 0) (oi := { dst := some 60, op := Op.move (Operand.tmp 10), type := 34, pos := "more.go:16", after := #[], guard := none }) (v := _) rfl (by kernel_rfl) (by kernel_rfl) (by kernel_rfl) (fun _ _ _ h => h) (Or.inl ⟨by rfl, ?hyqm0⟩) hHeld ?rqm0
    case hyqm0 => (intro w' hSw; (try dsimp only at hSw); go_simp; try with_reducible rfl)
    simp only [Act.put, List.setIfInBounds_toArray, List.set_cons_zero, List.set_cons_succ]
    refine' wpAnyH_take (i := 1) (oi := { dst := some 61, op := Op.indexAddr 34 (Operand.tmp 60) (Operand.const (Value.int IntKind.i64 0)), type := 0, pos := "more.go:16", after := #[{ on := 0, ground := Ground.data }], guard := none }) (v := _) rfl (by kernel_rfl) (by kernel_rfl) (by kernel_rfl) (fun _ _ _ h => h) (Or.inl ⟨by rfl, ?hyqm1⟩) hHeld ?rqm1
    case hyqm1 => (intro w' hSw; (try dsimp only at hSw); go_simp; try with_reducible rfl)
    simp only [Act.put, List.setIfInBounds_toArray, List.set_cons_zero, List.set_cons_succ]
    refine' wpAnyH_take (i := 2) (oi := { dst := some 62, op := Op.load 27 (Operand.tmp 61), type := 27, pos := "more.go:16", after := #[{ on := 1, ground := Ground.data }], guard := none }) (v := _) rfl (by kernel_rfl) (by kernel_rfl) (by kernel_rfl) (fun _ _ _ h => h) (Or.inl ⟨by rfl, ?hyqm2⟩) hHeld ?rqm2
    case hyqm2 => (intro w' hSw; (try dsimp only at hSw); go_simp; try with_reducible rfl)
    simp only [Act.put, List.setIfInBounds_toArray, List.set_cons_zero, List.set_cons_succ]
    refine' wpAnyH_take (i := 3) (oi := { dst := some 63, op := Op.binOp BinOp.rem 27 (Operand.tmp 62) (Operand.const (Value.int IntKind.u32 3)) 27, type := 27, pos := "more.go:16", after := #[{ on := 2, ground := Ground.data }], guard := none }) (v := _) rfl (by kernel_rfl) (by kernel_rfl) (by kernel_rfl) (fun _ _ _ h => h) (Or.inl ⟨by rfl, ?hyqm3⟩) hHeld ?rqm3
    case hyqm3 => (intro w' hSw; (try dsimp only at hSw); go_simp; try with_reducible rfl)
    simp only [Act.put, List.setIfInBounds_toArray, List.set_cons_zero, List.set_cons_succ]
    refine' wpAnyH_take (i := 4) (oi := { dst := some 64, op := Op.convert 27 3 (Operand.tmp 63), type := 3, pos := "more.go:16", after := #[{ on := 3, ground := Ground.data }], guard := none }) (v := _) rfl (by kernel_rfl) (by kernel_rfl) (by kernel_rfl) (fun _ _ _ h => h) (Or.inl ⟨by rfl, ?hyqm4⟩) hHeld ?rqm4
    case hyqm4 => (intro w' hSw; (try dsimp only at hSw); go_simp; try with_reducible rfl)
    simp only [Act.put, List.setIfInBounds_toArray, List.set_cons_zero, List.set_cons_succ]
    refine' wpAnyH_take (i := 5) (oi := { dst := some 65, op := Op.binOp BinOp.add 3 (Operand.const (Value.int IntKind.i64 1)) (Operand.tmp 64) 3, type := 3, pos := "more.go:16", after := #[{ on := 4, ground := Ground.data }], guard := none }) (v := _) rfl (by kernel_rfl) (by kernel_rfl) (by kernel_rfl) (fun _ _ _ h => h) (Or.inl ⟨by rfl, ?hyqm5⟩) hHeld ?rqm5
    case hyqm5 => (intro w' hSw; (try dsimp only at hSw); go_simp; try with_reducible rfl)
    simp only [Act.put, List.setIfInBounds_toArray, List.set_cons_zero, List.set_cons_succ]
    refine' wpAnyH_take (i := 6) (oi := { dst := some 66, op := Op.move (Operand.tmp 10), type := 34, pos := "more.go:16", after := #[], guard := none }) (v := _) rfl (by kernel_rfl) (by kernel_rfl) (by kernel_rfl) (fun _ _ _ h => h) (Or.inl ⟨by rfl, ?hyqm6⟩) hHeld ?rqm6
    case hyqm6 => (intro w' hSw; (try dsimp only at hSw); go_simp; try with_reducible rfl)
    simp only [Act.put, List.setIfInBounds_toArray, List.set_cons_zero, List.set_cons_succ]
    refine' wpAnyH_take (i := 7) (oi := { dst := some 67, op := Op.indexAddr 34 (Operand.tmp 66) (Operand.const (Value.int IntKind.i64 0)), type := 0, pos := "more.go:16", after := #[{ on := 6, ground := Ground.data }], guard := none }) (v := _) rfl (by kernel_rfl) (by kernel_rfl) (by kernel_rfl) (fun _ _ _ h => h) (Or.inl ⟨by rfl, ?hyqm7⟩) hHeld ?rqm7
    case hyqm7 => (intro w' hSw; (try dsimp only at hSw); go_simp; try with_reducible rfl)
    simp only [Act.put, List.setIfInBounds_toArray, List.set_cons_zero, List.set_cons_succ]
    refine' wpAnyH_take (i := 8) (oi := { dst := some 68, op := Op.load 27 (Operand.tmp 67), type := 27, pos := "more.go:16", after := #[{ on := 7, ground := Ground.data }], guard := none }) (v := _) rfl (by kernel_rfl) (by kernel_rfl) (by kernel_rfl) (fun _ _ _ h => h) (Or.inl ⟨by rfl, ?hyqm8⟩) hHeld ?rqm8
    case hyqm8 => (intro w' hSw; (try dsimp only at hSw); go_simp; try with_reducible rfl)
    simp only [Act.put, List.setIfInBounds_toArray, List.set_cons_zero, List.set_cons_succ]
    refine' wpAnyH_take (i := 9) (oi := { dst := some 69, op := Op.move (Operand.tmp 10), type := 34, pos := "more.go:16", after := #[], guard := none }) (v := _) rfl (by kernel_rfl) (by kernel_rfl) (by kernel_rfl) (fun _ _ _ h => h) (Or.inl ⟨by rfl, ?hyqm9⟩) hHeld ?rqm9
    case hyqm9 => (intro w' hSw; (try dsimp only at hSw); go_simp; try with_reducible rfl)
    simp only [Act.put, List.setIfInBounds_toArray, List.set_cons_zero, List.set_cons_succ]
    refine' wpAnyH_take (i := 10) (oi := { dst := some 70, op := Op.indexAddr 34 (Operand.tmp 69) (Operand.const (Value.int IntKind.i64 1)), type := 0, pos := "more.go:16", after := #[{ on := 9, ground := Ground.data }], guard := none }) (v := _) rfl (by kernel_rfl) (by kernel_rfl) (by kernel_rfl) (fun _ _ _ h => h) (Or.inl ⟨by rfl, ?hyqm10⟩) hHeld ?rqm10
    case hyqm10 => (intro w' hSw; (try dsimp only at hSw); go_simp; try with_reducible rfl)
    simp only [Act.put, List.setIfInBounds_toArray, List.set_cons_zero, List.set_cons_succ]
    refine' wpAnyH_take (i := 11) (oi := { dst := some 71, op := Op.load 27 (Operand.tmp 70), type := 27, pos := "more.go:16", after := #[{ on := 10, ground := Ground.data }], guard := none }) (v := _) rfl (by kernel_rfl) (by kernel_rfl) (by kernel_rfl) (fun _ _ _ h => h) (Or.inl ⟨by rfl, ?hyqm11⟩) hHeld ?rqm11
    case hyqm11 => (intro w' hSw; (try dsimp only at hSw); go_simp; try with_reducible rfl)
    simp only [Act.put, List.setIfInBounds_toArray, List.set_cons_zero, List.set_cons_succ]
    refine' wpAnyH_take (i := 12) (oi := { dst := some 72, op := Op.move (Operand.tmp 10), type := 34, pos := "more.go:16", after := #[], guard := none }) (v := _) rfl (by kernel_rfl) (by kernel_rfl) (by kernel_rfl) (fun _ _ _ h => h) (Or.inl ⟨by rfl, ?hyqm12⟩) hHeld ?rqm12
    case hyqm12 => (intro w' hSw; (try dsimp only at hSw); go_simp; try with_reducible rfl)
    simp only [Act.put, List.setIfInBounds_toArray, List.set_cons_zero, List.set_cons_succ]
    refine' wpAnyH_take (i := 13) (oi := { dst := some 73, op := Op.indexAddr 34 (Operand.tmp 72) (Operand.const (Value.int IntKind.i64 2)), type := 0, pos := "more.go:16", after := #[{ on := 12, ground := Ground.data }], guard := none }) (v := _) rfl (by kernel_rfl) (by kernel_rfl) (by kernel_rfl) (fun _ _ _ h => h) (Or.inl ⟨by rfl, ?hyqm13⟩) hHeld ?rqm13
    case hyqm13 => (intro w' hSw; (try dsimp only at hSw); go_simp; try with_reducible rfl)
    simp only [Act.put, List.setIfInBounds_toArray, List.set_cons_zero, List.set_cons_succ]
    refine' wpAnyH_take (i := 14) (oi := { dst := some 74, op := Op.load 27 (Operand.tmp 73), type := 27, pos := "more.go:16", after := #[{ on := 13, ground := Ground.data }], guard := none }) (v := _) rfl (by kernel_rfl) (by kernel_rfl) (by kernel_rfl) (fun _ _ _ h => h) (Or.inl ⟨by rfl, ?hyqm14⟩) hHeld ?rqm14
    case hyqm14 => (intro w' hSw; (try dsimp only at hSw); go_simp; try with_reducible rfl)
    simp only [Act.put, List.setIfInBounds_toArray, List.set_cons_zero, List.set_cons_succ]
    refine' wpAnyH_take (i := 15) (oi := { dst := some 75, op := Op.move (Operand.tmp 10), type := 34, pos := "more.go:16", after := #[], guard := none }) (v := _) rfl (by kernel_rfl) (by kernel_rfl) (by kernel_rfl) (fun _ _ _ h => h) (Or.inl ⟨by rfl, ?hyqm15⟩) hHeld ?rqm15
    case hyqm15 => (intro w' hSw; (try dsimp only at hSw); go_simp; try with_reducible rfl)
    simp only [Act.put, List.setIfInBounds_toArray, List.set_cons_zero, List.set_cons_succ]
    refine' wpAnyH_take (i := 16) (oi := { dst := some 76, op := Op.indexAddr 34 (Operand.tmp 75) (Operand.const (Value.int IntKind.i64 3)), type := 0, pos := "more.go:16", after := #[{ on := 15, ground := Ground.data }], guard := none }) (v := _) rfl (by kernel_rfl) (by kernel_rfl) (by kernel_rfl) (fun _ _ _ h => h) (Or.inl ⟨by rfl, ?hyqm16⟩) hHeld ?rqm16
    case hyqm16 => (intro w' hSw; (try dsimp only at hSw); go_simp; try with_reducible rfl)
    simp only [Act.put, List.setIfInBounds_toArray, List.set_cons_zero, List.set_cons_succ]
    refine' wpAnyH_take (i := 17) (oi := { dst := some 77, op := Op.load 27 (Operand.tmp 76), type := 27, pos := "more.go:16", after := #[{ on := 16, ground := Ground.data }], guard := none }) (v := _) rfl (by kernel_rfl) (by kernel_rfl) (by kernel_rfl) (fun _ _ _ h => h) (Or.inl ⟨by rfl, ?hyqm17⟩) hHeld ?rqm17
    case hyqm17 => (intro w' hSw; (try dsimp only at hSw); go_simp; try with_reducible rfl)
    simp only [Act.put, List.setIfInBounds_toArray, List.set_cons_zero, List.set_cons_succ]
    refine' wpAnyH_take (i := 18) (oi := { dst := some 78, op := Op.move (Operand.tmp 10), type := 34, pos := "more.go:16", after := #[], guard := none }) (v := _) rfl (by kernel_rfl) (by kernel_rfl) (by kernel_rfl) (fun _ _ _ h => h) (Or.inl ⟨by rfl, ?hyqm18⟩) hHeld ?rqm18
    case hyqm18 => (intro w' hSw; (try dsimp only at hSw); go_simp; try with_reducible rfl)
    simp only [Act.put, List.setIfInBounds_toArray, List.set_cons_zero, List.set_cons_succ]
    refine' wpAnyH_take (i := 19) (oi := { dst := some 79, op := Op.indexAddr 34 (Operand.tmp 78) (Operand.const (Value.int IntKind.i64 4)), type := 0, pos := "more.go:16", after := #[{ on := 18, ground := Ground.data }], guard := none }) (v := _) rfl (by kernel_rfl) (by kernel_rfl) (by kernel_rfl) (fun _ _ _ h => h) (Or.inl ⟨by rfl, ?hyqm19⟩) hHeld ?rqm19
    case hyqm19 => (intro w' hSw; (try dsimp only at hSw); go_simp; try with_reducible rfl)
    simp only [Act.put, List.setIfInBounds_toArray, List.set_cons_zero, List.set_cons_succ]
    refine' wpAnyH_take (i := 20) (oi := { dst := some 80, op := Op.load 27 (Operand.tmp 79), type := 27, pos := "more.go:16", after := #[{ on := 19, ground := Ground.data }], guard := none }) (v := _) rfl (by kernel_rfl) (by kernel_rfl) (by kernel_rfl) (fun _ _ _ h => h) (Or.inl ⟨by rfl, ?hyqm20⟩) hHeld ?rqm20
    case hyqm20 => (intro w' hSw; (try dsimp only at hSw); go_simp; try with_reducible rfl)
    simp only [Act.put, List.setIfInBounds_toArray, List.set_cons_zero, List.set_cons_succ]
    refine' wpAnyH_take (i := 21) (oi := { dst := some 81, op := Op.move (Operand.tmp 10), type := 34, pos := "more.go:16", after := #[], guard := none }) (v := _) rfl (by kernel_rfl) (by kernel_rfl) (by kernel_rfl) (fun _ _ _ h => h) (Or.inl ⟨by rfl, ?hyqm21⟩) hHeld ?rqm21
    case hyqm21 => (intro w' hSw; (try dsimp only at hSw); go_simp; try with_reducible rfl)
    simp only [Act.put, List.setIfInBounds_toArray, List.set_cons_zero, List.set_cons_succ]
    refine' wpAnyH_take (i := 22) (oi := { dst := some 82, op := Op.indexAddr 34 (Operand.tmp 81) (Operand.const (Value.int IntKind.i64 5)), type := 0, pos := "more.go:16", after := #[{ on := 21, ground := Ground.data }], guard := none }) (v := _) rfl (by kernel_rfl) (by kernel_rfl) (by kernel_rfl) (fun _ _ _ h => h) (Or.inl ⟨by rfl, ?hyqm22⟩) hHeld ?rqm22
    case hyqm22 => (intro w' hSw; (try dsimp only at hSw); go_simp; try with_reducible rfl)
    simp only [Act.put, List.setIfInBounds_toArray, List.set_cons_zero, List.set_cons_succ]
    refine' wpAnyH_take (i := 23) (oi := { dst := some 83, op := Op.load 27 (Operand.tmp 82), type := 27, pos := "more.go:16", after := #[{ on := 22, ground := Ground.data }], guard := none }) (v := _) rfl (by kernel_rfl) (by kernel_rfl) (by kernel_rfl) (fun _ _ _ h => h) (Or.inl ⟨by rfl, ?hyqm23⟩) hHeld ?rqm23
    case hyqm23 => (intro w' hSw; (try dsimp only at hSw); go_simp; try with_reducible rfl)
    simp only [Act.put, List.setIfInBounds_toArray, List.set_cons_zero, List.set_cons_succ]
    refine' wpAnyH_take (i := 24) (oi := { dst := some 84, op := Op.move (Operand.tmp 3), type := 9, pos := "more.go:16", after := #[], guard := none }) (v := _) rfl (by kernel_rfl) (by kernel_rfl) (by kernel_rfl) (fun _ _ _ h => h) (Or.inl ⟨by rfl, ?hyqm24⟩) hHeld ?rqm24
    case hyqm24 => (intro w' hSw; (try dsimp only at hSw); go_simp; try with_reducible rfl)
    simp only [Act.put, List.setIfInBounds_toArray, List.set_cons_zero, List.set_cons_succ]
    refine wpAnyH_ready (rs := [25, 27]) (by kernel_rfl) (by simp) ?_
    refine AllReadyH.cons (o := { dst := some 85, op := Op.call { callee := Callee.value (Operand.func 12), args := #[Operand.tmp 84], argTypes := #[9] }, type := 28, pos := "more.go:16", after := #[{ on := 24, ground := Ground.data }], guard := none }) rfl (fun K hK => ?_) (AllReadyH.cons (o := { dst := some 12, op := Op.alloc 30, type := 0, pos := "more.go:16", after := #[], guard := none }) rfl (fun K hK => ?_) AllReadyH.nil)
    · refine step_call_post (vs := #[.string y]) (R := fun v w' => v = .agg (payA (sbyte y)) ∧ Keep (fun _ => False) wB w') rfl 12 #[.tmp 84] #[9] rfl (by simp [Act.eval]) call12 (payq _ ((Keep.refl _ _).drew)) ?_
      rintro v wA ⟨rfl, hkA⟩
      refine hK.out _ _ (kSq _ hkA) (fun hHeld5 => ?_)
      clear hK K
      simp only [Act.put, List.setIfInBounds_toArray, List.set_cons_zero, List.set_cons_succ]
      refine' wpAnyH_take (i := 26) (oi := { dst := some 86, op := Op.build 30 #[(0, Operand.tmp 65), (1, Operand.tmp 68), (2, Operand.tmp 71), (3, Operand.tmp 74), (4, Operand.tmp 77), (5, Operand.tmp 80), (6, Operand.tmp 83), (7, Operand.tmp 85)], type := 30, pos := "more.go:16", after := #[{ on := 5, ground := Ground.data }, { on := 8, ground := Ground.data }, { on := 11, ground := Ground.data }, { on := 14, ground := Ground.data }, { on := 17, ground := Ground.data }, { on := 20, ground := Ground.data }, { on := 23, ground := Ground.data }, { on := 25, ground := Ground.data }], guard := none }) (v := .agg (pageA (1 + v 0 % 3) (six (v 0) (v 1) (v 2) (v 3) (v 4) (v 5)) (sbyte y))) rfl (by kernel_rfl) (by kernel_rfl) (by kernel_rfl) (fun _ _ _ h => h) (Or.inl ⟨by rfl, ?hbqAm⟩) hHeld5 ?rbqAm
      case hbqAm => (intro w' hSw; clear hSw; go_simp; rw [build_page])
      simp only [Act.put, List.setIfInBounds_toArray, List.set_cons_zero, List.set_cons_succ]
      refine wpAnyH_ready (rs := [27]) (by kernel_rfl) (by simp) ?_
      refine AllReadyH.cons (o := { dst := some 12, op := Op.alloc 30, type := 0, pos := "more.go:16", after := #[], guard := none }) rfl (fun K hK => ?_) AllReadyH.nil
      go_simp
      refine hK.out _ _ (kSq _ (hkA.alloc _)) (fun hHeld7 => ?_)
      clear hK K hHeld7 hHeld hHeld5
      obtain ⟨wC, hstC, hbC, hkC⟩ := new_page wA (1 + v 0 % 3) (six (v 0) (v 1) (v 2) (v 3) (v 4) (v 5)) (sbyte y)
      have HKC : Keep (fun _ => False) wB wC := hkA.trans hkC
      have hpC := (show wB.heap.size ≤ wA.heap.size from hkA.size)
      refine wpAnyH_ready (rs := [28]) (by kernel_rfl) (by simp) ?_
      refine AllReadyH.cons (o := { dst := none, op := Op.store 30 (Operand.tmp 12) (Operand.tmp 86), type := 0, pos := "more.go:16", after := #[{ on := 27, ground := Ground.data }, { on := 26, ground := Ground.data }, { on := 25, ground := Ground.chain }, { on := 0, ground := Ground.phase }, { on := 1, ground := Ground.phase }, { on := 2, ground := Ground.phase }, { on := 3, ground := Ground.phase }, { on := 4, ground := Ground.phase }, { on := 5, ground := Ground.phase }, { on := 6, ground := Ground.phase }, { on := 7, ground := Ground.phase }, { on := 8, ground := Ground.phase }, { on := 9, ground := Ground.phase }, { on := 10, ground := Ground.phase }, { on := 11, ground := Ground.phase }, { on := 12, ground := Ground.phase }, { on := 13, ground := Ground.phase }, { on := 14, ground := Ground.phase }, { on := 15, ground := Ground.phase }, { on := 16, ground := Ground.phase }, { on := 17, ground := Ground.phase }, { on := 18, ground := Ground.phase }, { on := 19, ground := Ground.phase }, { on := 20, ground := Ground.phase }, { on := 21, ground := Ground.phase }, { on := 22, ground := Ground.phase }, { on := 23, ground := Ground.phase }, { on := 24, ground := Ground.phase }, { on := 25, ground := Ground.phase }, { on := 26, ground := Ground.phase }, { on := 27, ground := Ground.phase }], guard := none }) rfl (fun K hK => ?_) AllReadyH.nil
      refine step_store_run rfl 30 (.tmp 12) (.tmp 86) rfl (by rfl) (by rfl) hstC ?_
      refine hK.out _ _ (kSq _ HKC) (fun hHeld6 => ?_)
      clear hK K hHeld6 hstC
      refine wpAnyH_done (by kernel_rfl) ?_ _
      refine NoPanic.normal ?_
      generalize wA.heap.size = pC at hbC hpC ⊢
      clear hkA hkC
      clear kSq payq payXq hkq hsq iq0 iq1 iq2 iq3 iq4 iq5
      have hP := hbB.keep HKC (fun e => e)
      have hld1 := loadAt_page hP
      have HKc := ((hk1.trans hk3).trans hk5).trans (HKB.trans HKC)
      clear hu5 hv5 hpB hpC
      go_wp2_with (guard_target =~ wpList _ _ _ (Oper.mk _ (Op.load 30 _) _ _ _ _ :: _) _ _; refine wpList_load_run rfl 30 (.tmp 11) rfl (by rfl) hld1 ?_)
      refine (enc_any (1 + u 0 % 3) (six (u 0) (u 1) (u 2) (u 3) (u 4) (u 5)) (sbyte x) wC kp3 (sbyte_bd x)).mono ?_
      rintro e wD ⟨gc, rfl, hgc, hbc, hkD⟩
      have hld2 := loadAt_page (hbC.keep hkD (fun e => e))
      clear hld1
      go_wp2_with (guard_target =~ wpList _ _ _ (Oper.mk _ (Op.load 30 _) _ _ _ _ :: _) _ _; refine wpList_load_run rfl 30 (.tmp 12) rfl (by rfl) hld2 ?_)
      refine (enc_any (1 + v 0 % 3) (six (v 0) (v 1) (v 2) (v 3) (v 4) (v 5)) (sbyte y) wD kq3 (sbyte_bd y)).mono ?_
      rintro e wE ⟨gd, rfl, hgd, hbd, hkE⟩
      have hbcE := hbc.keep hkE (fun e => e)
      have hd1 := dec_enc hbcE kp3 (sbyte_bd x) hu6
      clear hld2
      go_wp2_with fail
      refine hd1.mono ?_
      rintro e wF ⟨rfl, hkF⟩
      obtain ⟨wG, hstG, hbG, hkG⟩ := new_page wF (1 + u 0 % 3) (six (u 0) (u 1) (u 2) (u 3) (u 4) (u 5)) (sbyte x)
      have hd2 := dec_enc ((hbd.keep hkF (fun e => e)).keep hkG (fun e => e)) kq3 (sbyte_bd y) hv6
      clear hd1
      go_wp2_with (guard_target =~ wpList _ _ _ (Oper.mk _ (Op.store 30 _ _) _ _ _ _ :: _) _ _; refine wpList_store_run rfl 30 (.tmp 17) (.tmp 116) rfl (by rfl) (by rfl) hstG ?_)
      refine hd2.mono ?_
      rintro e wH ⟨rfl, hkH⟩
      obtain ⟨wI, hstI, hbI, hkI⟩ := new_page wH (1 + v 0 % 3) (six (v 0) (v 1) (v 2) (v 3) (v 4) (v 5)) (sbyte y)
      clear hd2 hstG
      go_wp2_with (guard_target =~ wpList _ _ _ (Oper.mk _ (Op.store 30 _ _) _ _ _ _ :: _) _ _; refine wpList_store_run rfl 30 (.tmp 19) (.tmp 121) rfl (by rfl) (by rfl) hstI ?_)
      have hFI := (hkF.trans hkG).trans (hkH.trans hkI)
      have hEI : Keep (fun _ => False) wC wI := hkD.trans (hkE.trans hFI)
      have HKw := HKc.trans hEI
      have same : ∀ w' : World, w'.heap = wI.heap → ∀ {b n : Nat} {f : Nat → Value}, Blk wI b n f → Blk w' b n f := fun w' h b n f hb => hb.of_block (by rw [h])
      have lp := fun (w' : World) (h : w'.heap = wI.heap) => loadAt_page (same w' h (hP.keep hEI (fun e => e)))
      have lq := fun (w' : World) (h : w'.heap = wI.heap) => loadAt_page (same w' h (hbC.keep hEI (fun e => e)))
      have lr := fun (w' : World) (h : w'.heap = wI.heap) => loadAt_page (same w' h (hbG.keep (hkH.trans hkI) (fun e => e)))
      have ls := fun (w' : World) (h : w'.heap = wI.heap) => loadAt_page (same w' h hbI)
      have htc := fun (w' : World) (h : w'.heap = wI.heap) => ((same w' h (hbcE.keep hFI (fun e => e))).page_row kp3 (sbyte_bd x)).text
      have htd := fun (w' : World) (h : w'.heap = wI.heap) => ((same w' h (hbd.keep hFI (fun e => e))).page_row kq3 (sbyte_bd y)).text
      have hS := bytes_same hu6 hv6 kp3 kq3 (sbyte_bd x) (sbyte_bd y)
      generalize strOfNums (tab 68 (ebyte (1 + u 0 % 3) (six (u 0) (u 1) (u 2) (u 3) (u 4) (u 5)) (sbyte x))) = Sc at htc hS
      generalize strOfNums (tab 68 (ebyte (1 + v 0 % 3) (six (v 0) (v 1) (v 2) (v 3) (v 4) (v 5)) (sbyte y))) = Sd at htd hS
      obtain ⟨s1, hs1⟩ : ∃ s1, samePage (1 + u 0 % 3) (1 + v 0 % 3) (six (u 0) (u 1) (u 2) (u 3) (u 4) (u 5)) (six (v 0) (v 1) (v 2) (v 3) (v 4) (v 5)) (sbyte x) (sbyte y) = s1 := ⟨_, rfl⟩
      rw [hs1] at hS
      clear hstI hbG hbI hP hbC hbc hbd hbcE hEI hFI same HKc HKB HKC hbB
      refine wp_region_noPanic ?_
      refine wp_region_held_drew (S := fun w' => w'.heap = wI.heap) (by kernel_rfl) rfl (fun hHeld => ?_)
      refine' wpAnyH_take (i := 0) (oi := { dst := some 123, op := Op.move (Operand.tmp 18), type := 24, pos := "more.go:24", after := #[], guard := none }) (v := _) rfl (by kernel_rfl) (by kernel_rfl) (by kernel_rfl) (fun _ _ _ h => h) (Or.inl ⟨by rfl, ?hyzma0⟩) hHeld ?rzma0
      case hyzma0 => (intro w' hSw; clear hSw; go_simp; try with_reducible rfl)
      simp only [Act.put, List.setIfInBounds_toArray, List.set_cons_zero, List.set_cons_succ]
      refine' wpAnyH_take (i := 1) (oi := { dst := some 124, op := Op.binOp BinOp.eql 24 (Operand.tmp 123) (Operand.const (Value.int IntKind.i64 0)) 24, type := 4, pos := "more.go:24", after := #[{ on := 0, ground := Ground.data }], guard := none }) (v := _) rfl (by kernel_rfl) (by kernel_rfl) (by kernel_rfl) (fun _ _ _ h => h) (Or.inl ⟨by rfl, ?hyzma1⟩) hHeld ?rzma1
      case hyzma1 => (intro w' hSw; clear hSw; go_simp; try with_reducible rfl)
      simp only [Act.put, List.setIfInBounds_toArray, List.set_cons_zero, List.set_cons_succ]
      refine' wpAnyH_take (i := 2) (oi := { dst := some 125, op := Op.move (Operand.tmp 124), type := 4, pos := "more.go:24", after := #[{ on := 1, ground := Ground.data }], guard := none }) (v := _) rfl (by kernel_rfl) (by kernel_rfl) (by kernel_rfl) (fun _ _ _ h => h) (Or.inl ⟨by rfl, ?hyzma2⟩) hHeld ?rzma2
      case hyzma2 => (intro w' hSw; clear hSw; go_simp; try with_reducible rfl)
      simp only [Act.put, List.setIfInBounds_toArray, List.set_cons_zero, List.set_cons_succ]
      refine' wpAnyH_take (i := 3) (oi := { dst := some 126, op := Op.move (Operand.tmp 20), type := 24, pos := "more.go:24", after := #[{ on := 2, ground := Ground.guard }], guard := some (2, true) }) (v := _) rfl (by kernel_rfl) (by kernel_rfl) (by kernel_rfl) (fun _ _ _ h => h) (Or.inl ⟨by rfl, ?hyzma3⟩) hHeld ?rzma3
      case hyzma3 => (intro w' hSw; clear hSw; go_simp; try with_reducible rfl)
      simp only [Act.put, List.setIfInBounds_toArray, List.set_cons_zero, List.set_cons_succ]
      refine' wpAnyH_take (i := 4) (oi := { dst := some 127, op := Op.binOp BinOp.eql 24 (Operand.tmp 126) (Operand.const (Value.int IntKind.i64 0)) 24, type := 4, pos := "more.go:24", after := #[{ on := 3, ground := Ground.data }, { on := 2, ground := Ground.guard }], guard := some (2, true) }) (v := _) rfl (by kernel_rfl) (by kernel_rfl) (by kernel_rfl) (fun _ _ _ h => h) (Or.inl ⟨by rfl, ?hyzma4⟩) hHeld ?rzma4
      case hyzma4 => (intro w' hSw; clear hSw; go_simp; try with_reducible rfl)
      simp only [Act.put, List.setIfInBounds_toArray, List.set_cons_zero, List.set_cons_succ]
      refine' wpAnyH_take (i := 5) (oi := { dst := some 128, op := Op.pick (Operand.tmp 125) (Operand.tmp 127) (Operand.const (Value.bool false)), type := 4, pos := "more.go:24", after := #[{ on := 2, ground := Ground.data }, { on := 4, ground := Ground.data }], guard := none }) (v := _) rfl (by kernel_rfl) (by kernel_rfl) (by kernel_rfl) (fun _ _ _ h => h) (Or.inl ⟨by rfl, ?hyzma5⟩) hHeld ?rzma5
      case hyzma5 => (intro w' hSw; clear hSw; go_simp; try with_reducible rfl)
      simp only [Act.put, List.setIfInBounds_toArray, List.set_cons_zero, List.set_cons_succ]
      refine' wpAnyH_take (i := 6) (oi := { dst := some 129, op := Op.move (Operand.tmp 128), type := 4, pos := "more.go:24", after := #[{ on := 5, ground := Ground.data }, { on := 2, ground := Ground.chain }], guard := none }) (v := _) rfl (by kernel_rfl) (by kernel_rfl) (by kernel_rfl) (fun _ _ _ h => h) (Or.inl ⟨by rfl, ?hyzma6⟩) hHeld ?rzma6
      case hyzma6 => (intro w' hSw; clear hSw; go_simp; try with_reducible rfl)
      simp only [Act.put, List.setIfInBounds_toArray, List.set_cons_zero, List.set_cons_succ]
      refine' wpAnyH_take (i := 7) (oi := { dst := some 130, op := Op.move (Operand.tmp 13), type := 23, pos := "more.go:24", after := #[{ on := 6, ground := Ground.guard }], guard := some (6, true) }) (v := _) rfl (by kernel_rfl) (by kernel_rfl) (by kernel_rfl) (fun _ _ _ h => h) (Or.inl ⟨by rfl, ?hyzma7⟩) hHeld ?rzma7
      case hyzma7 => (intro w' hSw; clear hSw; go_simp; try with_reducible rfl)
      simp only [Act.put, List.setIfInBounds_toArray, List.set_cons_zero, List.set_cons_succ]
      refine' wpAnyH_take (i := 8) (oi := { dst := some 131, op := Op.convert 23 9 (Operand.tmp 130), type := 9, pos := "more.go:24", after := #[{ on := 7, ground := Ground.data }, { on := 6, ground := Ground.guard }], guard := some (6, true) }) (v := (.string Sc)) rfl (by kernel_rfl) (by kernel_rfl) (by kernel_rfl) (fun _ _ _ h => h) (yields_conv (by rfl) 23 9 (.tmp 130) rfl (by rfl) (fun w' h => htc w' h)) hHeld ?rzma8
      simp only [Act.put, List.setIfInBounds_toArray, List.set_cons_zero, List.set_cons_succ]
      refine' wpAnyH_take (i := 9) (oi := { dst := some 132, op := Op.move (Operand.tmp 15), type := 23, pos := "more.go:24", after := #[{ on := 6, ground := Ground.guard }], guard := some (6, true) }) (v := _) rfl (by kernel_rfl) (by kernel_rfl) (by kernel_rfl) (fun _ _ _ h => h) (Or.inl ⟨by rfl, ?hyzma9⟩) hHeld ?rzma9
      case hyzma9 => (intro w' hSw; clear hSw; go_simp; try with_reducible rfl)
      simp only [Act.put, List.setIfInBounds_toArray, List.set_cons_zero, List.set_cons_succ]
      refine' wpAnyH_take (i := 10) (oi := { dst := some 133, op := Op.convert 23 9 (Operand.tmp 132), type := 9, pos := "more.go:24", after := #[{ on := 9, ground := Ground.data }, { on := 6, ground := Ground.guard }], guard := some (6, true) }) (v := (.string Sd)) rfl (by kernel_rfl) (by kernel_rfl) (by kernel_rfl) (fun _ _ _ h => h) (yields_conv (by rfl) 23 9 (.tmp 132) rfl (by rfl) (fun w' h => htd w' h)) hHeld ?rzma10
      simp only [Act.put, List.setIfInBounds_toArray, List.set_cons_zero, List.set_cons_succ]
      refine' wpAnyH_take (i := 11) (oi := { dst := some 134, op := Op.binOp BinOp.eql 9 (Operand.tmp 131) (Operand.tmp 133) 9, type := 4, pos := "more.go:24", after := #[{ on := 8, ground := Ground.data }, { on := 10, ground := Ground.data }, { on := 6, ground := Ground.guard }], guard := some (6, true) }) (v := _) rfl (by kernel_rfl) (by kernel_rfl) (by kernel_rfl) (fun _ _ _ h => h) (Or.inl ⟨by rfl, ?hyzma11⟩) hHeld ?rzma11
      case hyzma11 => (intro w' hSw; clear hSw; go_simp; try with_reducible rfl)
      simp only [Act.put, List.setIfInBounds_toArray, List.set_cons_zero, List.set_cons_succ]
      refine' wpAnyH_take (i := 12) (oi := { dst := some 135, op := Op.load 30 (Operand.tmp 11), type := 30, pos := "more.go:24", after := #[{ on := 6, ground := Ground.guard }], guard := some (6, true) }) (v := (.agg (pageA (1 + u 0 % 3) (six (u 0) (u 1) (u 2) (u 3) (u 4) (u 5)) (sbyte x)))) rfl (by kernel_rfl) (by kernel_rfl) (by kernel_rfl) (fun _ _ _ h => h) (yields_load (by rfl) 30 (.tmp 11) rfl (by rfl) (fun w' h => lp w' h)) hHeld ?rzma12
      simp only [Act.put, List.setIfInBounds_toArray, List.set_cons_zero, List.set_cons_succ]
      refine' wpAnyH_take (i := 13) (oi := { dst := some 136, op := Op.load 30 (Operand.tmp 12), type := 30, pos := "more.go:24", after := #[{ on := 6, ground := Ground.guard }], guard := some (6, true) }) (v := (.agg (pageA (1 + v 0 % 3) (six (v 0) (v 1) (v 2) (v 3) (v 4) (v 5)) (sbyte y)))) rfl (by kernel_rfl) (by kernel_rfl) (by kernel_rfl) (fun _ _ _ h => h) (yields_load (by rfl) 30 (.tmp 12) rfl (by rfl) (fun w' h => lq w' h)) hHeld ?rzma13
      simp only [Act.put, List.setIfInBounds_toArray, List.set_cons_zero, List.set_cons_succ]
      refine' wpAnyH_take (i := 14) (oi := { dst := some 137, op := Op.binOp BinOp.eql 30 (Operand.tmp 135) (Operand.tmp 136) 30, type := 4, pos := "more.go:24", after := #[{ on := 12, ground := Ground.data }, { on := 13, ground := Ground.data }, { on := 6, ground := Ground.guard }], guard := some (6, true) }) (v := (.bool s1)) rfl (by kernel_rfl) (by kernel_rfl) (by kernel_rfl) (fun _ _ _ h => h) (yields_eq30 (by rfl) (.tmp 135) (.tmp 136) rfl (by rfl) (by rfl) hs1) hHeld ?rzma14
      simp only [Act.put, List.setIfInBounds_toArray, List.set_cons_zero, List.set_cons_succ]
      refine' wpAnyH_take (i := 15) (oi := { dst := some 138, op := Op.binOp BinOp.eql 4 (Operand.tmp 134) (Operand.tmp 137) 4, type := 4, pos := "more.go:24", after := #[{ on := 11, ground := Ground.data }, { on := 14, ground := Ground.data }, { on := 6, ground := Ground.guard }], guard := some (6, true) }) (v := _) rfl (by kernel_rfl) (by kernel_rfl) (by kernel_rfl) (fun _ _ _ h => h) (Or.inl ⟨by rfl, ?hyzma15⟩) hHeld ?rzma15
      case hyzma15 => (intro w' hSw; clear hSw; go_simp; try with_reducible rfl)
      simp only [Act.put, List.setIfInBounds_toArray, List.set_cons_zero, List.set_cons_succ]
      refine' wpAnyH_take (i := 16) (oi := { dst := some 139, op := Op.pick (Operand.tmp 129) (Operand.tmp 138) (Operand.const (Value.bool false)), type := 4, pos := "more.go:24", after := #[{ on := 6, ground := Ground.data }, { on := 15, ground := Ground.data }], guard := none }) (v := _) rfl (by kernel_rfl) (by kernel_rfl) (by kernel_rfl) (fun _ _ _ h => h) (Or.inl ⟨by rfl, ?hyzma16⟩) hHeld ?rzma16
      case hyzma16 => (intro w' hSw; clear hSw; go_simp; try with_reducible rfl)
      simp only [Act.put, List.setIfInBounds_toArray, List.set_cons_zero, List.set_cons_succ]
      refine' wpAnyH_take (i := 17) (oi := { dst := some 140, op := Op.move (Operand.tmp 139), type := 4, pos := "more.go:24", after := #[{ on := 16, ground := Ground.data }, { on := 6, ground := Ground.chain }], guard := none }) (v := _) rfl (by kernel_rfl) (by kernel_rfl) (by kernel_rfl) (fun _ _ _ h => h) (Or.inl ⟨by rfl, ?hyzma17⟩) hHeld ?rzma17
      case hyzma17 => (intro w' hSw; clear hSw; go_simp; try with_reducible rfl)
      simp only [Act.put, List.setIfInBounds_toArray, List.set_cons_zero, List.set_cons_succ]
      refine' wpAnyH_take (i := 18) (oi := { dst := some 141, op := Op.load 30 (Operand.tmp 17), type := 30, pos := "more.go:24", after := #[{ on := 17, ground := Ground.guard }], guard := some (17, true) }) (v := (.agg (pageA (1 + u 0 % 3) (six (u 0) (u 1) (u 2) (u 3) (u 4) (u 5)) (sbyte x)))) rfl (by kernel_rfl) (by kernel_rfl) (by kernel_rfl) (fun _ _ _ h => h) (yields_load (by rfl) 30 (.tmp 17) rfl (by rfl) (fun w' h => lr w' h)) hHeld ?rzma18
      simp only [Act.put, List.setIfInBounds_toArray, List.set_cons_zero, List.set_cons_succ]
      refine' wpAnyH_take (i := 19) (oi := { dst := some 142, op := Op.load 30 (Operand.tmp 19), type := 30, pos := "more.go:24", after := #[{ on := 17, ground := Ground.guard }], guard := some (17, true) }) (v := (.agg (pageA (1 + v 0 % 3) (six (v 0) (v 1) (v 2) (v 3) (v 4) (v 5)) (sbyte y)))) rfl (by kernel_rfl) (by kernel_rfl) (by kernel_rfl) (fun _ _ _ h => h) (yields_load (by rfl) 30 (.tmp 19) rfl (by rfl) (fun w' h => ls w' h)) hHeld ?rzma19
      simp only [Act.put, List.setIfInBounds_toArray, List.set_cons_zero, List.set_cons_succ]
      refine' wpAnyH_take (i := 20) (oi := { dst := some 143, op := Op.binOp BinOp.eql 30 (Operand.tmp 141) (Operand.tmp 142) 30, type := 4, pos := "more.go:24", after := #[{ on := 18, ground := Ground.data }, { on := 19, ground := Ground.data }, { on := 17, ground := Ground.guard }], guard := some (17, true) }) (v := (.bool s1)) rfl (by kernel_rfl) (by kernel_rfl) (by kernel_rfl) (fun _ _ _ h => h) (yields_eq30 (by rfl) (.tmp 141) (.tmp 142) rfl (by rfl) (by rfl) hs1) hHeld ?rzma20
      simp only [Act.put, List.setIfInBounds_toArray, List.set_cons_zero, List.set_cons_succ]
      refine' wpAnyH_take (i := 21) (oi := { dst := some 144, op := Op.load 30 (Operand.tmp 11), type := 30, pos := "more.go:24", after := #[{ on := 17, ground := Ground.guard }], guard := some (17, true) }) (v := (.agg (pageA (1 + u 0 % 3) (six (u 0) (u 1) (u 2) (u 3) (u 4) (u 5)) (sbyte x)))) rfl (by kernel_rfl) (by kernel_rfl) (by kernel_rfl) (fun _ _ _ h => h) (yields_load (by rfl) 30 (.tmp 11) rfl (by rfl) (fun w' h => lp w' h)) hHeld ?rzma21
      simp only [Act.put, List.setIfInBounds_toArray, List.set_cons_zero, List.set_cons_succ]
      refine' wpAnyH_take (i := 22) (oi := { dst := some 145, op := Op.load 30 (Operand.tmp 12), type := 30, pos := "more.go:24", after := #[{ on := 17, ground := Ground.guard }], guard := some (17, true) }) (v := (.agg (pageA (1 + v 0 % 3) (six (v 0) (v 1) (v 2) (v 3) (v 4) (v 5)) (sbyte y)))) rfl (by kernel_rfl) (by kernel_rfl) (by kernel_rfl) (fun _ _ _ h => h) (yields_load (by rfl) 30 (.tmp 12) rfl (by rfl) (fun w' h => lq w' h)) hHeld ?rzma22
      simp only [Act.put, List.setIfInBounds_toArray, List.set_cons_zero, List.set_cons_succ]
      refine' wpAnyH_take (i := 23) (oi := { dst := some 146, op := Op.binOp BinOp.eql 30 (Operand.tmp 144) (Operand.tmp 145) 30, type := 4, pos := "more.go:24", after := #[{ on := 21, ground := Ground.data }, { on := 22, ground := Ground.data }, { on := 17, ground := Ground.guard }], guard := some (17, true) }) (v := (.bool s1)) rfl (by kernel_rfl) (by kernel_rfl) (by kernel_rfl) (fun _ _ _ h => h) (yields_eq30 (by rfl) (.tmp 144) (.tmp 145) rfl (by rfl) (by rfl) hs1) hHeld ?rzma23
      simp only [Act.put, List.setIfInBounds_toArray, List.set_cons_zero, List.set_cons_succ]
      refine' wpAnyH_take (i := 24) (oi := { dst := some 147, op := Op.binOp BinOp.eql 4 (Operand.tmp 143) (Operand.tmp 146) 4, type := 4, pos := "more.go:24", after := #[{ on := 20, ground := Ground.data }, { on := 23, ground := Ground.data }, { on := 17, ground := Ground.guard }], guard := some (17, true) }) (v := _) rfl (by kernel_rfl) (by kernel_rfl) (by kernel_rfl) (fun _ _ _ h => h) (Or.inl ⟨by rfl, ?hyzma24⟩) hHeld ?rzma24
      case hyzma24 => (intro w' hSw; clear hSw; go_simp; try with_reducible rfl)
      simp only [Act.put, List.setIfInBounds_toArray, List.set_cons_zero, List.set_cons_succ]
      refine' wpAnyH_take (i := 25) (oi := { dst := some 148, op := Op.pick (Operand.tmp 140) (Operand.tmp 147) (Operand.const (Value.bool false)), type := 4, pos := "more.go:24", after := #[{ on := 17, ground := Ground.data }, { on := 24, ground := Ground.data }], guard := none }) (v := _) rfl (by kernel_rfl) (by kernel_rfl) (by kernel_rfl) (fun _ _ _ h => h) (Or.inl ⟨by rfl, ?hyzma25⟩) hHeld ?rzma25
      case hyzma25 => (intro w' hSw; clear hSw; go_simp; try with_reducible rfl)
      simp only [Act.put, List.setIfInBounds_toArray, List.set_cons_zero, List.set_cons_succ]
      refine' wpAnyH_take (i := 26) (oi := { dst := some 8, op := Op.assign (Operand.tmp 148), type := 4, pos := "more.go:24", after := #[{ on := 25, ground := Ground.data }, { on := 17, ground := Ground.chain }, { on := 0, ground := Ground.phase }, { on := 1, ground := Ground.phase }, { on := 2, ground := Ground.phase }, { on := 3, ground := Ground.phase }, { on := 4, ground := Ground.phase }, { on := 5, ground := Ground.phase }, { on := 6, ground := Ground.phase }, { on := 7, ground := Ground.phase }, { on := 8, ground := Ground.phase }, { on := 9, ground := Ground.phase }, { on := 10, ground := Ground.phase }, { on := 11, ground := Ground.phase }, { on := 12, ground := Ground.phase }, { on := 13, ground := Ground.phase }, { on := 14, ground := Ground.phase }, { on := 15, ground := Ground.phase }, { on := 16, ground := Ground.phase }, { on := 17, ground := Ground.phase }, { on := 18, ground := Ground.phase }, { on := 19, ground := Ground.phase }, { on := 20, ground := Ground.phase }, { on := 21, ground := Ground.phase }, { on := 22, ground := Ground.phase }, { on := 23, ground := Ground.phase }, { on := 24, ground := Ground.phase }, { on := 25, ground := Ground.phase }], guard := none }) (v := _) rfl (by kernel_rfl) (by kernel_rfl) (by kernel_rfl) (fun _ _ _ h => h) (Or.inl ⟨by rfl, ?hyzma26⟩) hHeld ?rzma26
      case hyzma26 => (intro w' hSw; clear hSw; go_simp; try with_reducible rfl)
      simp only [Act.put, List.setIfInBounds_toArray, List.set_cons_zero, List.set_cons_succ]
      refine wpAnyH_done (by kernel_rfl) ?_ _
      refine NoPanic.normal ?_
      go_wp2_with fail
      go_ret
      exact ⟨rfl, HKw.drew⟩
    · go_simp
      have hb0 := blk_alloc wB.drew _ 30 39 _ (pageA_get 0 (fun _ => 0) (fun _ => 0))
      have hk0 : Keep (fun _ => False) wB (wB.drew.alloc (.cells (pageA 0 (fun _ => 0) (fun _ => 0)) 30)) := ((Keep.refl _ _).drew).alloc _
      rw [show pageA 0 (fun _ => 0) (fun _ => 0) = _ from noPage_eq] at hb0 hk0
      refine hK.out _ _ (kSq _ hk0) (fun hHeld7 => ?_)
      clear hK K hHeld
      refine wpAnyH_ready (rs := [25]) (by kernel_rfl) (by simp) ?_
      refine AllReadyH.cons (o := { dst := some 85, op := Op.call { callee := Callee.value (Operand.func 12), args := #[Operand.tmp 84], argTypes := #[9] }, type := 28, pos := "more.go:16", after := #[{ on := 24, ground := Ground.data }], guard := none }) rfl (fun K hK => ?_) AllReadyH.nil
      refine step_call_post (vs := #[.string y]) (R := fun v w' => v = .agg (payA (sbyte y)) ∧ Keep (fun _ => False) (wB.drew.alloc (.cells #[Value.int .i64 0, .int .u32 0, .int .u32 0, .int .u32 0, .int .u32 0, .int .u32 0, .int .u32 0, .int .u8 0, .int .u8 0, .int .u8 0, .int .u8 0, .int .u8 0, .int .u8 0, .int .u8 0, .int .u8 0, .int .u8 0, .int .u8 0, .int .u8 0, .int .u8 0, .int .u8 0, .int .u8 0, .int .u8 0, .int .u8 0, .int .u8 0, .int .u8 0, .int .u8 0, .int .u8 0, .int .u8 0, .int .u8 0, .int .u8 0, .int .u8 0, .int .u8 0, .int .u8 0, .int .u8 0, .int .u8 0, .int .u8 0, .int .u8 0, .int .u8 0, .int .u8 0] 30)) w') rfl 12 #[.tmp 84] #[9] rfl (by simp [Act.eval]) call12 (payXq _) ?_
      rintro v wA ⟨rfl, hkA⟩
      refine hK.out _ _ (kSq _ (hk0.trans hkA)) (fun hHeld5 => ?_)
      clear hK K hHeld7
      simp only [Act.put, List.setIfInBounds_toArray, List.set_cons_zero, List.set_cons_succ]
      refine' wpAnyH_take (i := 26) (oi := { dst := some 86, op := Op.build 30 #[(0, Operand.tmp 65), (1, Operand.tmp 68), (2, Operand.tmp 71), (3, Operand.tmp 74), (4, Operand.tmp 77), (5, Operand.tmp 80), (6, Operand.tmp 83), (7, Operand.tmp 85)], type := 30, pos := "more.go:16", after := #[{ on := 5, ground := Ground.data }, { on := 8, ground := Ground.data }, { on := 11, ground := Ground.data }, { on := 14, ground := Ground.data }, { on := 17, ground := Ground.data }, { on := 20, ground := Ground.data }, { on := 23, ground := Ground.data }, { on := 25, ground := Ground.data }], guard := none }) (v := .agg (pageA (1 + v 0 % 3) (six (v 0) (v 1) (v 2) (v 3) (v 4) (v 5)) (sbyte y))) rfl (by kernel_rfl) (by kernel_rfl) (by kernel_rfl) (fun _ _ _ h => h) (Or.inl ⟨by rfl, ?hbqBm⟩) hHeld5 ?rbqBm
      case hbqBm => (intro w' hSw; clear hSw; go_simp; rw [build_page])
      simp only [Act.put, List.setIfInBounds_toArray, List.set_cons_zero, List.set_cons_succ]
      obtain ⟨wC, hstC, hbC, hkC⟩ := store_page (hb0.keep hkA (fun e => e)) (1 + v 0 % 3) (six (v 0) (v 1) (v 2) (v 3) (v 4) (v 5)) (sbyte y)
      have HKC : Keep (fun _ => False) wB wC := (hk0.trans hkA).next hkC (fun y hy e => by have e2 : wB.drew.heap.size = wB.heap.size := rfl; omega)
      have hpC := (Nat.le_refl wB.heap.size)
      refine wpAnyH_ready (rs := [28]) (by kernel_rfl) (by simp) ?_
      clear hHeld5
      refine AllReadyH.cons (o := { dst := none, op := Op.store 30 (Operand.tmp 12) (Operand.tmp 86), type := 0, pos := "more.go:16", after := #[{ on := 27, ground := Ground.data }, { on := 26, ground := Ground.data }, { on := 25, ground := Ground.chain }, { on := 0, ground := Ground.phase }, { on := 1, ground := Ground.phase }, { on := 2, ground := Ground.phase }, { on := 3, ground := Ground.phase }, { on := 4, ground := Ground.phase }, { on := 5, ground := Ground.phase }, { on := 6, ground := Ground.phase }, { on := 7, ground := Ground.phase }, { on := 8, ground := Ground.phase }, { on := 9, ground := Ground.phase }, { on := 10, ground := Ground.phase }, { on := 11, ground := Ground.phase }, { on := 12, ground := Ground.phase }, { on := 13, ground := Ground.phase }, { on := 14, ground := Ground.phase }, { on := 15, ground := Ground.phase }, { on := 16, ground := Ground.phase }, { on := 17, ground := Ground.phase }, { on := 18, ground := Ground.phase }, { on := 19, ground := Ground.phase }, { on := 20, ground := Ground.phase }, { on := 21, ground := Ground.phase }, { on := 22, ground := Ground.phase }, { on := 23, ground := Ground.phase }, { on := 24, ground := Ground.phase }, { on := 25, ground := Ground.phase }, { on := 26, ground := Ground.phase }, { on := 27, ground := Ground.phase }], guard := none }) rfl (fun K hK => ?_) AllReadyH.nil
      refine step_store_run rfl 30 (.tmp 12) (.tmp 86) rfl (by rfl) (by rfl) hstC ?_
      refine hK.out _ _ (kSq _ HKC) (fun hHeld6 => ?_)
      clear hK K hHeld6 hstC
      refine wpAnyH_done (by kernel_rfl) ?_ _
      refine NoPanic.normal ?_
      rw [show wB.drew.heap.size = wB.heap.size from rfl] at hbC
      obtain ⟨pC, hpe⟩ : ∃ pC, pC = wB.heap.size := ⟨_, rfl⟩
      rw [← hpe] at hbC hpC ⊢
      clear hkA hkC hb0 hk0 hpe
      clear kSq payq payXq hkq hsq iq0 iq1 iq2 iq3 iq4 iq5
      have hP := hbB.keep HKC (fun e => e)
      have hld1 := loadAt_page hP
      have HKc := ((hk1.trans hk3).trans hk5).trans (HKB.trans HKC)
      clear hu5 hv5 hpB hpC
      go_wp2_with (guard_target =~ wpList _ _ _ (Oper.mk _ (Op.load 30 _) _ _ _ _ :: _) _ _; refine wpList_load_run rfl 30 (.tmp 11) rfl (by rfl) hld1 ?_)
      refine (enc_any (1 + u 0 % 3) (six (u 0) (u 1) (u 2) (u 3) (u 4) (u 5)) (sbyte x) wC kp3 (sbyte_bd x)).mono ?_
      rintro e wD ⟨gc, rfl, hgc, hbc, hkD⟩
      have hld2 := loadAt_page (hbC.keep hkD (fun e => e))
      clear hld1
      go_wp2_with (guard_target =~ wpList _ _ _ (Oper.mk _ (Op.load 30 _) _ _ _ _ :: _) _ _; refine wpList_load_run rfl 30 (.tmp 12) rfl (by rfl) hld2 ?_)
      refine (enc_any (1 + v 0 % 3) (six (v 0) (v 1) (v 2) (v 3) (v 4) (v 5)) (sbyte y) wD kq3 (sbyte_bd y)).mono ?_
      rintro e wE ⟨gd, rfl, hgd, hbd, hkE⟩
      have hbcE := hbc.keep hkE (fun e => e)
      have hd1 := dec_enc hbcE kp3 (sbyte_bd x) hu6
      clear hld2
      go_wp2_with fail
      refine hd1.mono ?_
      rintro e wF ⟨rfl, hkF⟩
      obtain ⟨wG, hstG, hbG, hkG⟩ := new_page wF (1 + u 0 % 3) (six (u 0) (u 1) (u 2) (u 3) (u 4) (u 5)) (sbyte x)
      have hd2 := dec_enc ((hbd.keep hkF (fun e => e)).keep hkG (fun e => e)) kq3 (sbyte_bd y) hv6
      clear hd1
      go_wp2_with (guard_target =~ wpList _ _ _ (Oper.mk _ (Op.store 30 _ _) _ _ _ _ :: _) _ _; refine wpList_store_run rfl 30 (.tmp 17) (.tmp 116) rfl (by rfl) (by rfl) hstG ?_)
      refine hd2.mono ?_
      rintro e wH ⟨rfl, hkH⟩
      obtain ⟨wI, hstI, hbI, hkI⟩ := new_page wH (1 + v 0 % 3) (six (v 0) (v 1) (v 2) (v 3) (v 4) (v 5)) (sbyte y)
      clear hd2 hstG
      go_wp2_with (guard_target =~ wpList _ _ _ (Oper.mk _ (Op.store 30 _ _) _ _ _ _ :: _) _ _; refine wpList_store_run rfl 30 (.tmp 19) (.tmp 121) rfl (by rfl) (by rfl) hstI ?_)
      have hFI := (hkF.trans hkG).trans (hkH.trans hkI)
      have hEI : Keep (fun _ => False) wC wI := hkD.trans (hkE.trans hFI)
      have HKw := HKc.trans hEI
      have same : ∀ w' : World, w'.heap = wI.heap → ∀ {b n : Nat} {f : Nat → Value}, Blk wI b n f → Blk w' b n f := fun w' h b n f hb => hb.of_block (by rw [h])
      have lp := fun (w' : World) (h : w'.heap = wI.heap) => loadAt_page (same w' h (hP.keep hEI (fun e => e)))
      have lq := fun (w' : World) (h : w'.heap = wI.heap) => loadAt_page (same w' h (hbC.keep hEI (fun e => e)))
      have lr := fun (w' : World) (h : w'.heap = wI.heap) => loadAt_page (same w' h (hbG.keep (hkH.trans hkI) (fun e => e)))
      have ls := fun (w' : World) (h : w'.heap = wI.heap) => loadAt_page (same w' h hbI)
      have htc := fun (w' : World) (h : w'.heap = wI.heap) => ((same w' h (hbcE.keep hFI (fun e => e))).page_row kp3 (sbyte_bd x)).text
      have htd := fun (w' : World) (h : w'.heap = wI.heap) => ((same w' h (hbd.keep hFI (fun e => e))).page_row kq3 (sbyte_bd y)).text
      have hS := bytes_same hu6 hv6 kp3 kq3 (sbyte_bd x) (sbyte_bd y)
      generalize strOfNums (tab 68 (ebyte (1 + u 0 % 3) (six (u 0) (u 1) (u 2) (u 3) (u 4) (u 5)) (sbyte x))) = Sc at htc hS
      generalize strOfNums (tab 68 (ebyte (1 + v 0 % 3) (six (v 0) (v 1) (v 2) (v 3) (v 4) (v 5)) (sbyte y))) = Sd at htd hS
      obtain ⟨s1, hs1⟩ : ∃ s1, samePage (1 + u 0 % 3) (1 + v 0 % 3) (six (u 0) (u 1) (u 2) (u 3) (u 4) (u 5)) (six (v 0) (v 1) (v 2) (v 3) (v 4) (v 5)) (sbyte x) (sbyte y) = s1 := ⟨_, rfl⟩
      rw [hs1] at hS
      clear hstI hbG hbI hP hbC hbc hbd hbcE hEI hFI same HKc HKB HKC hbB
      refine wp_region_noPanic ?_
      refine wp_region_held_drew (S := fun w' => w'.heap = wI.heap) (by kernel_rfl) rfl (fun hHeld => ?_)
      refine' wpAnyH_take (i := 0) (oi := { dst := some 123, op := Op.move (Operand.tmp 18), type := 24, pos := "more.go:24", after := #[], guard := none }) (v := _) rfl (by kernel_rfl) (by kernel_rfl) (by kernel_rfl) (fun _ _ _ h => h) (Or.inl ⟨by rfl, ?hyzmb0⟩) hHeld ?rzmb0
      case hyzmb0 => (intro w' hSw; clear hSw; go_simp; try with_reducible rfl)
      simp only [Act.put, List.setIfInBounds_toArray, List.set_cons_zero, List.set_cons_succ]
      refine' wpAnyH_take (i := 1) (oi := { dst := some 124, op := Op.binOp BinOp.eql 24 (Operand.tmp 123) (Operand.const (Value.int IntKind.i64 0)) 24, type := 4, pos := "more.go:24", after := #[{ on := 0, ground := Ground.data }], guard := none }) (v := _) rfl (by kernel_rfl) (by kernel_rfl) (by kernel_rfl) (fun _ _ _ h => h) (Or.inl ⟨by rfl, ?hyzmb1⟩) hHeld ?rzmb1
      case hyzmb1 => (intro w' hSw; clear hSw; go_simp; try with_reducible rfl)
      simp only [Act.put, List.setIfInBounds_toArray, List.set_cons_zero, List.set_cons_succ]
      refine' wpAnyH_take (i := 2) (oi := { dst := some 125, op := Op.move (Operand.tmp 124), type := 4, pos := "more.go:24", after := #[{ on := 1, ground := Ground.data }], guard := none }) (v := _) rfl (by kernel_rfl) (by kernel_rfl) (by kernel_rfl) (fun _ _ _ h => h) (Or.inl ⟨by rfl, ?hyzmb2⟩) hHeld ?rzmb2
      case hyzmb2 => (intro w' hSw; clear hSw; go_simp; try with_reducible rfl)
      simp only [Act.put, List.setIfInBounds_toArray, List.set_cons_zero, List.set_cons_succ]
      refine' wpAnyH_take (i := 3) (oi := { dst := some 126, op := Op.move (Operand.tmp 20), type := 24, pos := "more.go:24", after := #[{ on := 2, ground := Ground.guard }], guard := some (2, true) }) (v := _) rfl (by kernel_rfl) (by kernel_rfl) (by kernel_rfl) (fun _ _ _ h => h) (Or.inl ⟨by rfl, ?hyzmb3⟩) hHeld ?rzmb3
      case hyzmb3 => (intro w' hSw; clear hSw; go_simp; try with_reducible rfl)
      simp only [Act.put, List.setIfInBounds_toArray, List.set_cons_zero, List.set_cons_succ]
      refine' wpAnyH_take (i := 4) (oi := { dst := some 127, op := Op.binOp BinOp.eql 24 (Operand.tmp 126) (Operand.const (Value.int IntKind.i64 0)) 24, type := 4, pos := "more.go:24", after := #[{ on := 3, ground := Ground.data }, { on := 2, ground := Ground.guard }], guard := some (2, true) }) (v := _) rfl (by kernel_rfl) (by kernel_rfl) (by kernel_rfl) (fun _ _ _ h => h) (Or.inl ⟨by rfl, ?hyzmb4⟩) hHeld ?rzmb4
      case hyzmb4 => (intro w' hSw; clear hSw; go_simp; try with_reducible rfl)
      simp only [Act.put, List.setIfInBounds_toArray, List.set_cons_zero, List.set_cons_succ]
      refine' wpAnyH_take (i := 5) (oi := { dst := some 128, op := Op.pick (Operand.tmp 125) (Operand.tmp 127) (Operand.const (Value.bool false)), type := 4, pos := "more.go:24", after := #[{ on := 2, ground := Ground.data }, { on := 4, ground := Ground.data }], guard := none }) (v := _) rfl (by kernel_rfl) (by kernel_rfl) (by kernel_rfl) (fun _ _ _ h => h) (Or.inl ⟨by rfl, ?hyzmb5⟩) hHeld ?rzmb5
      case hyzmb5 => (intro w' hSw; clear hSw; go_simp; try with_reducible rfl)
      simp only [Act.put, List.setIfInBounds_toArray, List.set_cons_zero, List.set_cons_succ]
      refine' wpAnyH_take (i := 6) (oi := { dst := some 129, op := Op.move (Operand.tmp 128), type := 4, pos := "more.go:24", after := #[{ on := 5, ground := Ground.data }, { on := 2, ground := Ground.chain }], guard := none }) (v := _) rfl (by kernel_rfl) (by kernel_rfl) (by kernel_rfl) (fun _ _ _ h => h) (Or.inl ⟨by rfl, ?hyzmb6⟩) hHeld ?rzmb6
      case hyzmb6 => (intro w' hSw; clear hSw; go_simp; try with_reducible rfl)
      simp only [Act.put, List.setIfInBounds_toArray, List.set_cons_zero, List.set_cons_succ]
      refine' wpAnyH_take (i := 7) (oi := { dst := some 130, op := Op.move (Operand.tmp 13), type := 23, pos := "more.go:24", after := #[{ on := 6, ground := Ground.guard }], guard := some (6, true) }) (v := _) rfl (by kernel_rfl) (by kernel_rfl) (by kernel_rfl) (fun _ _ _ h => h) (Or.inl ⟨by rfl, ?hyzmb7⟩) hHeld ?rzmb7
      case hyzmb7 => (intro w' hSw; clear hSw; go_simp; try with_reducible rfl)
      simp only [Act.put, List.setIfInBounds_toArray, List.set_cons_zero, List.set_cons_succ]
      refine' wpAnyH_take (i := 8) (oi := { dst := some 131, op := Op.convert 23 9 (Operand.tmp 130), type := 9, pos := "more.go:24", after := #[{ on := 7, ground := Ground.data }, { on := 6, ground := Ground.guard }], guard := some (6, true) }) (v := (.string Sc)) rfl (by kernel_rfl) (by kernel_rfl) (by kernel_rfl) (fun _ _ _ h => h) (yields_conv (by rfl) 23 9 (.tmp 130) rfl (by rfl) (fun w' h => htc w' h)) hHeld ?rzmb8
      simp only [Act.put, List.setIfInBounds_toArray, List.set_cons_zero, List.set_cons_succ]
      refine' wpAnyH_take (i := 9) (oi := { dst := some 132, op := Op.move (Operand.tmp 15), type := 23, pos := "more.go:24", after := #[{ on := 6, ground := Ground.guard }], guard := some (6, true) }) (v := _) rfl (by kernel_rfl) (by kernel_rfl) (by kernel_rfl) (fun _ _ _ h => h) (Or.inl ⟨by rfl, ?hyzmb9⟩) hHeld ?rzmb9
      case hyzmb9 => (intro w' hSw; clear hSw; go_simp; try with_reducible rfl)
      simp only [Act.put, List.setIfInBounds_toArray, List.set_cons_zero, List.set_cons_succ]
      refine' wpAnyH_take (i := 10) (oi := { dst := some 133, op := Op.convert 23 9 (Operand.tmp 132), type := 9, pos := "more.go:24", after := #[{ on := 9, ground := Ground.data }, { on := 6, ground := Ground.guard }], guard := some (6, true) }) (v := (.string Sd)) rfl (by kernel_rfl) (by kernel_rfl) (by kernel_rfl) (fun _ _ _ h => h) (yields_conv (by rfl) 23 9 (.tmp 132) rfl (by rfl) (fun w' h => htd w' h)) hHeld ?rzmb10
      simp only [Act.put, List.setIfInBounds_toArray, List.set_cons_zero, List.set_cons_succ]
      refine' wpAnyH_take (i := 11) (oi := { dst := some 134, op := Op.binOp BinOp.eql 9 (Operand.tmp 131) (Operand.tmp 133) 9, type := 4, pos := "more.go:24", after := #[{ on := 8, ground := Ground.data }, { on := 10, ground := Ground.data }, { on := 6, ground := Ground.guard }], guard := some (6, true) }) (v := _) rfl (by kernel_rfl) (by kernel_rfl) (by kernel_rfl) (fun _ _ _ h => h) (Or.inl ⟨by rfl, ?hyzmb11⟩) hHeld ?rzmb11
      case hyzmb11 => (intro w' hSw; clear hSw; go_simp; try with_reducible rfl)
      simp only [Act.put, List.setIfInBounds_toArray, List.set_cons_zero, List.set_cons_succ]
      refine' wpAnyH_take (i := 12) (oi := { dst := some 135, op := Op.load 30 (Operand.tmp 11), type := 30, pos := "more.go:24", after := #[{ on := 6, ground := Ground.guard }], guard := some (6, true) }) (v := (.agg (pageA (1 + u 0 % 3) (six (u 0) (u 1) (u 2) (u 3) (u 4) (u 5)) (sbyte x)))) rfl (by kernel_rfl) (by kernel_rfl) (by kernel_rfl) (fun _ _ _ h => h) (yields_load (by rfl) 30 (.tmp 11) rfl (by rfl) (fun w' h => lp w' h)) hHeld ?rzmb12
      simp only [Act.put, List.setIfInBounds_toArray, List.set_cons_zero, List.set_cons_succ]
      refine' wpAnyH_take (i := 13) (oi := { dst := some 136, op := Op.load 30 (Operand.tmp 12), type := 30, pos := "more.go:24", after := #[{ on := 6, ground := Ground.guard }], guard := some (6, true) }) (v := (.agg (pageA (1 + v 0 % 3) (six (v 0) (v 1) (v 2) (v 3) (v 4) (v 5)) (sbyte y)))) rfl (by kernel_rfl) (by kernel_rfl) (by kernel_rfl) (fun _ _ _ h => h) (yields_load (by rfl) 30 (.tmp 12) rfl (by rfl) (fun w' h => lq w' h)) hHeld ?rzmb13
      simp only [Act.put, List.setIfInBounds_toArray, List.set_cons_zero, List.set_cons_succ]
      refine' wpAnyH_take (i := 14) (oi := { dst := some 137, op := Op.binOp BinOp.eql 30 (Operand.tmp 135) (Operand.tmp 136) 30, type := 4, pos := "more.go:24", after := #[{ on := 12, ground := Ground.data }, { on := 13, ground := Ground.data }, { on := 6, ground := Ground.guard }], guard := some (6, true) }) (v := (.bool s1)) rfl (by kernel_rfl) (by kernel_rfl) (by kernel_rfl) (fun _ _ _ h => h) (yields_eq30 (by rfl) (.tmp 135) (.tmp 136) rfl (by rfl) (by rfl) hs1) hHeld ?rzmb14
      simp only [Act.put, List.setIfInBounds_toArray, List.set_cons_zero, List.set_cons_succ]
      refine' wpAnyH_take (i := 15) (oi := { dst := some 138, op := Op.binOp BinOp.eql 4 (Operand.tmp 134) (Operand.tmp 137) 4, type := 4, pos := "more.go:24", after := #[{ on := 11, ground := Ground.data }, { on := 14, ground := Ground.data }, { on := 6, ground := Ground.guard }], guard := some (6, true) }) (v := _) rfl (by kernel_rfl) (by kernel_rfl) (by kernel_rfl) (fun _ _ _ h => h) (Or.inl ⟨by rfl, ?hyzmb15⟩) hHeld ?rzmb15
      case hyzmb15 => (intro w' hSw; clear hSw; go_simp; try with_reducible rfl)
      simp only [Act.put, List.setIfInBounds_toArray, List.set_cons_zero, List.set_cons_succ]
      refine' wpAnyH_take (i := 16) (oi := { dst := some 139, op := Op.pick (Operand.tmp 129) (Operand.tmp 138) (Operand.const (Value.bool false)), type := 4, pos := "more.go:24", after := #[{ on := 6, ground := Ground.data }, { on := 15, ground := Ground.data }], guard := none }) (v := _) rfl (by kernel_rfl) (by kernel_rfl) (by kernel_rfl) (fun _ _ _ h => h) (Or.inl ⟨by rfl, ?hyzmb16⟩) hHeld ?rzmb16
      case hyzmb16 => (intro w' hSw; clear hSw; go_simp; try with_reducible rfl)
      simp only [Act.put, List.setIfInBounds_toArray, List.set_cons_zero, List.set_cons_succ]
      refine' wpAnyH_take (i := 17) (oi := { dst := some 140, op := Op.move (Operand.tmp 139), type := 4, pos := "more.go:24", after := #[{ on := 16, ground := Ground.data }, { on := 6, ground := Ground.chain }], guard := none }) (v := _) rfl (by kernel_rfl) (by kernel_rfl) (by kernel_rfl) (fun _ _ _ h => h) (Or.inl ⟨by rfl, ?hyzmb17⟩) hHeld ?rzmb17
      case hyzmb17 => (intro w' hSw; clear hSw; go_simp; try with_reducible rfl)
      simp only [Act.put, List.setIfInBounds_toArray, List.set_cons_zero, List.set_cons_succ]
      refine' wpAnyH_take (i := 18) (oi := { dst := some 141, op := Op.load 30 (Operand.tmp 17), type := 30, pos := "more.go:24", after := #[{ on := 17, ground := Ground.guard }], guard := some (17, true) }) (v := (.agg (pageA (1 + u 0 % 3) (six (u 0) (u 1) (u 2) (u 3) (u 4) (u 5)) (sbyte x)))) rfl (by kernel_rfl) (by kernel_rfl) (by kernel_rfl) (fun _ _ _ h => h) (yields_load (by rfl) 30 (.tmp 17) rfl (by rfl) (fun w' h => lr w' h)) hHeld ?rzmb18
      simp only [Act.put, List.setIfInBounds_toArray, List.set_cons_zero, List.set_cons_succ]
      refine' wpAnyH_take (i := 19) (oi := { dst := some 142, op := Op.load 30 (Operand.tmp 19), type := 30, pos := "more.go:24", after := #[{ on := 17, ground := Ground.guard }], guard := some (17, true) }) (v := (.agg (pageA (1 + v 0 % 3) (six (v 0) (v 1) (v 2) (v 3) (v 4) (v 5)) (sbyte y)))) rfl (by kernel_rfl) (by kernel_rfl) (by kernel_rfl) (fun _ _ _ h => h) (yields_load (by rfl) 30 (.tmp 19) rfl (by rfl) (fun w' h => ls w' h)) hHeld ?rzmb19
      simp only [Act.put, List.setIfInBounds_toArray, List.set_cons_zero, List.set_cons_succ]
      refine' wpAnyH_take (i := 20) (oi := { dst := some 143, op := Op.binOp BinOp.eql 30 (Operand.tmp 141) (Operand.tmp 142) 30, type := 4, pos := "more.go:24", after := #[{ on := 18, ground := Ground.data }, { on := 19, ground := Ground.data }, { on := 17, ground := Ground.guard }], guard := some (17, true) }) (v := (.bool s1)) rfl (by kernel_rfl) (by kernel_rfl) (by kernel_rfl) (fun _ _ _ h => h) (yields_eq30 (by rfl) (.tmp 141) (.tmp 142) rfl (by rfl) (by rfl) hs1) hHeld ?rzmb20
      simp only [Act.put, List.setIfInBounds_toArray, List.set_cons_zero, List.set_cons_succ]
      refine' wpAnyH_take (i := 21) (oi := { dst := some 144, op := Op.load 30 (Operand.tmp 11), type := 30, pos := "more.go:24", after := #[{ on := 17, ground := Ground.guard }], guard := some (17, true) }) (v := (.agg (pageA (1 + u 0 % 3) (six (u 0) (u 1) (u 2) (u 3) (u 4) (u 5)) (sbyte x)))) rfl (by kernel_rfl) (by kernel_rfl) (by kernel_rfl) (fun _ _ _ h => h) (yields_load (by rfl) 30 (.tmp 11) rfl (by rfl) (fun w' h => lp w' h)) hHeld ?rzmb21
      simp only [Act.put, List.setIfInBounds_toArray, List.set_cons_zero, List.set_cons_succ]
      refine' wpAnyH_take (i := 22) (oi := { dst := some 145, op := Op.load 30 (Operand.tmp 12), type := 30, pos := "more.go:24", after := #[{ on := 17, ground := Ground.guard }], guard := some (17, true) }) (v := (.agg (pageA (1 + v 0 % 3) (six (v 0) (v 1) (v 2) (v 3) (v 4) (v 5)) (sbyte y)))) rfl (by kernel_rfl) (by kernel_rfl) (by kernel_rfl) (fun _ _ _ h => h) (yields_load (by rfl) 30 (.tmp 12) rfl (by rfl) (fun w' h => lq w' h)) hHeld ?rzmb22
      simp only [Act.put, List.setIfInBounds_toArray, List.set_cons_zero, List.set_cons_succ]
      refine' wpAnyH_take (i := 23) (oi := { dst := some 146, op := Op.binOp BinOp.eql 30 (Operand.tmp 144) (Operand.tmp 145) 30, type := 4, pos := "more.go:24", after := #[{ on := 21, ground := Ground.data }, { on := 22, ground := Ground.data }, { on := 17, ground := Ground.guard }], guard := some (17, true) }) (v := (.bool s1)) rfl (by kernel_rfl) (by kernel_rfl) (by kernel_rfl) (fun _ _ _ h => h) (yields_eq30 (by rfl) (.tmp 144) (.tmp 145) rfl (by rfl) (by rfl) hs1) hHeld ?rzmb23
      simp only [Act.put, List.setIfInBounds_toArray, List.set_cons_zero, List.set_cons_succ]
      refine' wpAnyH_take (i := 24) (oi := { dst := some 147, op := Op.binOp BinOp.eql 4 (Operand.tmp 143) (Operand.tmp 146) 4, type := 4, pos := "more.go:24", after := #[{ on := 20, ground := Ground.data }, { on := 23, ground := Ground.data }, { on := 17, ground := Ground.guard }], guard := some (17, true) }) (v := _) rfl (by kernel_rfl) (by kernel_rfl) (by kernel_rfl) (fun _ _ _ h => h) (Or.inl ⟨by rfl, ?hyzmb24⟩) hHeld ?rzmb24
      case hyzmb24 => (intro w' hSw; clear hSw; go_simp; try with_reducible rfl)
      simp only [Act.put, List.setIfInBounds_toArray, List.set_cons_zero, List.set_cons_succ]
      refine' wpAnyH_take (i := 25) (oi := { dst := some 148, op := Op.pick (Operand.tmp 140) (Operand.tmp 147) (Operand.const (Value.bool false)), type := 4, pos := "more.go:24", after := #[{ on := 17, ground := Ground.data }, { on := 24, ground := Ground.data }], guard := none }) (v := _) rfl (by kernel_rfl) (by kernel_rfl) (by kernel_rfl) (fun _ _ _ h => h) (Or.inl ⟨by rfl, ?hyzmb25⟩) hHeld ?rzmb25
      case hyzmb25 => (intro w' hSw; clear hSw; go_simp; try with_reducible rfl)
      simp only [Act.put, List.setIfInBounds_toArray, List.set_cons_zero, List.set_cons_succ]
      refine' wpAnyH_take (i := 26) (oi := { dst := some 8, op := Op.assign (Operand.tmp 148), type := 4, pos := "more.go:24", after := #[{ on := 25, ground := Ground.data }, { on := 17, ground := Ground.chain }, { on := 0, ground := Ground.phase }, { on := 1, ground := Ground.phase }, { on := 2, ground := Ground.phase }, { on := 3, ground := Ground.phase }, { on := 4, ground := Ground.phase }, { on := 5, ground := Ground.phase }, { on := 6, ground := Ground.phase }, { on := 7, ground := Ground.phase }, { on := 8, ground := Ground.phase }, { on := 9, ground := Ground.phase }, { on := 10, ground := Ground.phase }, { on := 11, ground := Ground.phase }, { on := 12, ground := Ground.phase }, { on := 13, ground := Ground.phase }, { on := 14, ground := Ground.phase }, { on := 15, ground := Ground.phase }, { on := 16, ground := Ground.phase }, { on := 17, ground := Ground.phase }, { on := 18, ground := Ground.phase }, { on := 19, ground := Ground.phase }, { on := 20, ground := Ground.phase }, { on := 21, ground := Ground.phase }, { on := 22, ground := Ground.phase }, { on := 23, ground := Ground.phase }, { on := 24, ground := Ground.phase }, { on := 25, ground := Ground.phase }], guard := none }) (v := _) rfl (by kernel_rfl) (by kernel_rfl) (by kernel_rfl) (fun _ _ _ h => h) (Or.inl ⟨by rfl, ?hyzmb26⟩) hHeld ?rzmb26
      case hyzmb26 => (intro w' hSw; clear hSw; go_simp; try with_reducible rfl)
      simp only [Act.put, List.setIfInBounds_toArray, List.set_cons_zero, List.set_cons_succ]
      refine wpAnyH_done (by kernel_rfl) ?_ _
      refine NoPanic.normal ?_
      go_wp2_with fail
      go_ret
      exact ⟨rfl, HKw.drew⟩
  · go_simp
    have hb0 := blk_alloc w5.drew _ 30 39 _ (pageA_get 0 (fun _ => 0) (fun _ => 0))
    have hk0 : Keep (fun _ => False) w5 (w5.drew.alloc (.cells (pageA 0 (fun _ => 0) (fun _ => 0)) 30)) := ((Keep.refl _ _).drew).alloc _
    rw [show pageA 0 (fun _ => 0) (fun _ => 0) = _ from noPage_eq] at hb0 hk0
    refine hK.out _ _ (kSp _ hk0) (fun hHeld7 => ?_)
    clear hK K hHeld
    refine wpAnyH_ready (rs := [25]) (by kernel_rfl) (by simp) ?_
    refine AllReadyH.cons (o := { dst := some 58, op := Op.call { callee := Callee.value (Operand.func 12), args := #[Operand.tmp 57], argTypes := #[9] }, type := 28, pos := "more.go:15", after := #[{ on := 24, ground := Ground.data }], guard := none }) rfl (fun K hK => ?_) AllReadyH.nil
    refine step_call_post (vs := #[.string x]) (R := fun v w' => v = .agg (payA (sbyte x)) ∧ Keep (fun _ => False) (w5.drew.alloc (.cells #[Value.int .i64 0, .int .u32 0, .int .u32 0, .int .u32 0, .int .u32 0, .int .u32 0, .int .u32 0, .int .u8 0, .int .u8 0, .int .u8 0, .int .u8 0, .int .u8 0, .int .u8 0, .int .u8 0, .int .u8 0, .int .u8 0, .int .u8 0, .int .u8 0, .int .u8 0, .int .u8 0, .int .u8 0, .int .u8 0, .int .u8 0, .int .u8 0, .int .u8 0, .int .u8 0, .int .u8 0, .int .u8 0, .int .u8 0, .int .u8 0, .int .u8 0, .int .u8 0, .int .u8 0, .int .u8 0, .int .u8 0, .int .u8 0, .int .u8 0, .int .u8 0, .int .u8 0] 30)) w') rfl 12 #[.tmp 57] #[9] rfl (by simp [Act.eval]) call12 (payXp _) ?_
    rintro v wA ⟨rfl, hkA⟩
    refine hK.out _ _ (kSp _ (hk0.trans hkA)) (fun hHeld5 => ?_)
    clear hK K hHeld7
    simp only [Act.put, List.setIfInBounds_toArray, List.set_cons_zero, List.set_cons_succ]
    refine' wpAnyH_take (i := 26) (oi := { dst := some 59, op := Op.build 30 #[(0, Operand.tmp 38), (1, Operand.tmp 41), (2, Operand.tmp 44), (3, Operand.tmp 47), (4, Operand.tmp 50), (5, Operand.tmp 53), (6, Operand.tmp 56), (7, Operand.tmp 58)], type := 30, pos := "more.go:15", after := #[{ on := 5, ground := Ground.data }, { on := 8, ground := Ground.data }, { on := 11, ground := Ground.data }, { on := 14, ground := Ground.data }, { on := 17, ground := Ground.data }, { on := 20, ground := Ground.data }, { on := 23, ground := Ground.data }, { on := 25, ground := Ground.data }], guard := none }) (v := .agg (pageA (1 + u 0 % 3) (six (u 0) (u 1) (u 2) (u 3) (u 4) (u 5)) (sbyte x))) rfl (by kernel_rfl) (by kernel_rfl) (by kernel_rfl) (fun _ _ _ h => h) (Or.inl ⟨by rfl, ?hbpB⟩) hHeld5 ?rbpB
    case hbpB => (intro w' hSw; clear hSw; go_simp; rw [build_page])
    simp only [Act.put, List.setIfInBounds_toArray, List.set_cons_zero, List.set_cons_succ]
    obtain ⟨wB, hstB, hbB, hkB⟩ := store_page (hb0.keep hkA (fun e => e)) (1 + u 0 % 3) (six (u 0) (u 1) (u 2) (u 3) (u 4) (u 5)) (sbyte x)
    have HKB : Keep (fun _ => False) w5 wB := (hk0.trans hkA).next hkB (fun y hy e => by have e2 : w5.drew.heap.size = w5.heap.size := rfl; omega)
    have hpB := (Nat.le_refl w5.heap.size)
    refine wpAnyH_ready (rs := [28]) (by kernel_rfl) (by simp) ?_
    clear hHeld5
    refine AllReadyH.cons (o := { dst := none, op := Op.store 30 (Operand.tmp 11) (Operand.tmp 59), type := 0, pos := "more.go:15", after := #[{ on := 27, ground := Ground.data }, { on := 26, ground := Ground.data }, { on := 25, ground := Ground.chain }, { on := 0, ground := Ground.phase }, { on := 1, ground := Ground.phase }, { on := 2, ground := Ground.phase }, { on := 3, ground := Ground.phase }, { on := 4, ground := Ground.phase }, { on := 5, ground := Ground.phase }, { on := 6, ground := Ground.phase }, { on := 7, ground := Ground.phase }, { on := 8, ground := Ground.phase }, { on := 9, ground := Ground.phase }, { on := 10, ground := Ground.phase }, { on := 11, ground := Ground.phase }, { on := 12, ground := Ground.phase }, { on := 13, ground := Ground.phase }, { on := 14, ground := Ground.phase }, { on := 15, ground := Ground.phase }, { on := 16, ground := Ground.phase }, { on := 17, ground := Ground.phase }, { on := 18, ground := Ground.phase }, { on := 19, ground := Ground.phase }, { on := 20, ground := Ground.phase }, { on := 21, ground := Ground.phase }, { on := 22, ground := Ground.phase }, { on := 23, ground := Ground.phase }, { on := 24, ground := Ground.phase }, { on := 25, ground := Ground.phase }, { on := 26, ground := Ground.phase }, { on := 27, ground := Ground.phase }], guard := none }) rfl (fun K hK => ?_) AllReadyH.nil
    refine step_store_run rfl 30 (.tmp 11) (.tmp 59) rfl (by rfl) (by rfl) hstB ?_
    refine hK.out _ _ (kSp _ HKB) (fun hHeld6 => ?_)
    clear hK K hHeld6 hstB
    refine wpAnyH_done (by kernel_rfl) ?_ _
    refine NoPanic.normal ?_
    rw [show w5.drew.heap.size = w5.heap.size from rfl] at hbB
    obtain ⟨pB, hpe⟩ : ∃ pB, pB = w5.heap.size := ⟨_, rfl⟩
    rw [← hpe] at hbB hpB ⊢
    clear hkA hkB hb0 hk0 hpe
    clear kSp payp payXp hkp hsp ip0 ip1 ip2 ip3 ip4 ip5
    go_wp2_with fail
    have kSq : ∀ w', Keep (fun _ => False) wB w' → w'.cell? ⟨gv, 0, none⟩ = some (.int .u32 (v 0)) ∧ w'.cell? ⟨gv, 1, none⟩ = some (.int .u32 (v 1)) ∧ w'.cell? ⟨gv, 2, none⟩ = some (.int .u32 (v 2)) ∧ w'.cell? ⟨gv, 3, none⟩ = some (.int .u32 (v 3)) ∧ w'.cell? ⟨gv, 4, none⟩ = some (.int .u32 (v 4)) ∧ w'.cell? ⟨gv, 5, none⟩ = some (.int .u32 (v 5)) := fun w' h => ⟨(fun w' h => hv5 w' (HKB.trans h)) w' h 0 (by omega), (fun w' h => hv5 w' (HKB.trans h)) w' h 1 (by omega), (fun w' h => hv5 w' (HKB.trans h)) w' h 2 (by omega), (fun w' h => hv5 w' (HKB.trans h)) w' h 3 (by omega), (fun w' h => hv5 w' (HKB.trans h)) w' h 4 (by omega), (fun w' h => hv5 w' (HKB.trans h)) w' h 5 (by omega)⟩
    have payq := pay_post y hy wB
    have payXq := pay_post' y hy
    have hkq : IntKind.i64.wrap (1 + IntKind.i64.wrap ((v 0).tmod 3)) = 1 + v 0 % 3 := kind3 vb0.1
    have hsq := payA_size (sbyte y)
    have iq0 : (0 : Int) < (len1 : Int) + 6 := by omega
    have iq1 : (1 : Int) < (len1 : Int) + 6 := by omega
    have iq2 : (2 : Int) < (len1 : Int) + 6 := by omega
    have iq3 : (3 : Int) < (len1 : Int) + 6 := by omega
    have iq4 : (4 : Int) < (len1 : Int) + 6 := by omega
    have iq5 : (5 : Int) < (len1 : Int) + 6 := by omega
    refine wp_region_noPanic ?_
    refine wp_region_held_drew (S := fun w' => w'.cell? ⟨gv, 0, none⟩ = some (.int .u32 (v 0)) ∧ w'.cell? ⟨gv, 1, none⟩ = some (.int .u32 (v 1)) ∧ w'.cell? ⟨gv, 2, none⟩ = some (.int .u32 (v 2)) ∧ w'.cell? ⟨gv, 3, none⟩ = some (.int .u32 (v 3)) ∧ w'.cell? ⟨gv, 4, none⟩ = some (.int .u32 (v 4)) ∧ w'.cell? ⟨gv, 5, none⟩ = some (.int .u32 (v 5))) (by kernel_rfl) (kSq _ ((Keep.refl _ _).drew)) (fun hHeld => ?_)
    refine' wpAnyH_take (i := 0) (oi := { dst := some 60, op := Op.move (Operand.tmp 10), type := 34, pos := "more.go:16", after := #[], guard := none }) (v := _) rfl (by kernel_rfl) (by kernel_rfl) (by kernel_rfl) (fun _ _ _ h => h) (Or.inl ⟨by rfl, ?hyqn0⟩) hHeld ?rqn0
    case hyqn0 => (intro w' hSw; (try dsimp only at hSw); go_simp; try with_reducible rfl)
    simp only [Act.put, List.setIfInBounds_toArray, List.set_cons_zero, List.set_cons_succ]
    refine' wpAnyH_take (i := 1) (oi := { dst := some 61, op := Op.indexAddr 34 (Operand.tmp 60) (Operand.const (Value.int IntKind.i64 0)), type := 0, pos := "more.go:16", after := #[{ on := 0, ground := Ground.data }], guard := none }) (v := _) rfl (by kernel_rfl) (by kernel_rfl) (by kernel_rfl) (fun _ _ _ h => h) (Or.inl ⟨by rfl, ?hyqn1⟩) hHeld ?rqn1
    case hyqn1 => (intro w' hSw; (try dsimp only at hSw); go_simp; try with_reducible rfl)
    simp only [Act.put, List.setIfInBounds_toArray, List.set_cons_zero, List.set_cons_succ]
    refine' wpAnyH_take (i := 2) (oi := { dst := some 62, op := Op.load 27 (Operand.tmp 61), type := 27, pos := "more.go:16", after := #[{ on := 1, ground := Ground.data }], guard := none }) (v := _) rfl (by kernel_rfl) (by kernel_rfl) (by kernel_rfl) (fun _ _ _ h => h) (Or.inl ⟨by rfl, ?hyqn2⟩) hHeld ?rqn2
    case hyqn2 => (intro w' hSw; (try dsimp only at hSw); go_simp; try with_reducible rfl)
    simp only [Act.put, List.setIfInBounds_toArray, List.set_cons_zero, List.set_cons_succ]
    refine' wpAnyH_take (i := 3) (oi := { dst := some 63, op := Op.binOp BinOp.rem 27 (Operand.tmp 62) (Operand.const (Value.int IntKind.u32 3)) 27, type := 27, pos := "more.go:16", after := #[{ on := 2, ground := Ground.data }], guard := none }) (v := _) rfl (by kernel_rfl) (by kernel_rfl) (by kernel_rfl) (fun _ _ _ h => h) (Or.inl ⟨by rfl, ?hyqn3⟩) hHeld ?rqn3
    case hyqn3 => (intro w' hSw; (try dsimp only at hSw); go_simp; try with_reducible rfl)
    simp only [Act.put, List.setIfInBounds_toArray, List.set_cons_zero, List.set_cons_succ]
    refine' wpAnyH_take (i := 4) (oi := { dst := some 64, op := Op.convert 27 3 (Operand.tmp 63), type := 3, pos := "more.go:16", after := #[{ on := 3, ground := Ground.data }], guard := none }) (v := _) rfl (by kernel_rfl) (by kernel_rfl) (by kernel_rfl) (fun _ _ _ h => h) (Or.inl ⟨by rfl, ?hyqn4⟩) hHeld ?rqn4
    case hyqn4 => (intro w' hSw; (try dsimp only at hSw); go_simp; try with_reducible rfl)
    simp only [Act.put, List.setIfInBounds_toArray, List.set_cons_zero, List.set_cons_succ]
    refine' wpAnyH_take (i := 5) (oi := { dst := some 65, op := Op.binOp BinOp.add 3 (Operand.const (Value.int IntKind.i64 1)) (Operand.tmp 64) 3, type := 3, pos := "more.go:16", after := #[{ on := 4, ground := Ground.data }], guard := none }) (v := _) rfl (by kernel_rfl) (by kernel_rfl) (by kernel_rfl) (fun _ _ _ h => h) (Or.inl ⟨by rfl, ?hyqn5⟩) hHeld ?rqn5
    case hyqn5 => (intro w' hSw; (try dsimp only at hSw); go_simp; try with_reducible rfl)
    simp only [Act.put, List.setIfInBounds_toArray, List.set_cons_zero, List.set_cons_succ]
    refine' wpAnyH_take (i := 6) (oi := { dst := some 66, op := Op.move (Operand.tmp 10), type := 34, pos := "more.go:16", after := #[], guard := none }) (v := _) rfl (by kernel_rfl) (by kernel_rfl) (by kernel_rfl) (fun _ _ _ h => h) (Or.inl ⟨by rfl, ?hyqn6⟩) hHeld ?rqn6
    case hyqn6 => (intro w' hSw; (try dsimp only at hSw); go_simp; try with_reducible rfl)
    simp only [Act.put, List.setIfInBounds_toArray, List.set_cons_zero, List.set_cons_succ]
    refine' wpAnyH_take (i := 7) (oi := { dst := some 67, op := Op.indexAddr 34 (Operand.tmp 66) (Operand.const (Value.int IntKind.i64 0)), type := 0, pos := "more.go:16", after := #[{ on := 6, ground := Ground.data }], guard := none }) (v := _) rfl (by kernel_rfl) (by kernel_rfl) (by kernel_rfl) (fun _ _ _ h => h) (Or.inl ⟨by rfl, ?hyqn7⟩) hHeld ?rqn7
    case hyqn7 => (intro w' hSw; (try dsimp only at hSw); go_simp; try with_reducible rfl)
    simp only [Act.put, List.setIfInBounds_toArray, List.set_cons_zero, List.set_cons_succ]
    refine' wpAnyH_take (i := 8) (oi := { dst := some 68, op := Op.load 27 (Operand.tmp 67), type := 27, pos := "more.go:16", after := #[{ on := 7, ground := Ground.data }], guard := none }) (v := _) rfl (by kernel_rfl) (by kernel_rfl) (by kernel_rfl) (fun _ _ _ h => h) (Or.inl ⟨by rfl, ?hyqn8⟩) hHeld ?rqn8
    case hyqn8 => (intro w' hSw; (try dsimp only at hSw); go_simp; try with_reducible rfl)
    simp only [Act.put, List.setIfInBounds_toArray, List.set_cons_zero, List.set_cons_succ]
    refine' wpAnyH_take (i := 9) (oi := { dst := some 69, op := Op.move (Operand.tmp 10), type := 34, pos := "more.go:16", after := #[], guard := none }) (v := _) rfl (by kernel_rfl) (by kernel_rfl) (by kernel_rfl) (fun _ _ _ h => h) (Or.inl ⟨by rfl, ?hyqn9⟩) hHeld ?rqn9
    case hyqn9 => (intro w' hSw; (try dsimp only at hSw); go_simp; try with_reducible rfl)
    simp only [Act.put, List.setIfInBounds_toArray, List.set_cons_zero, List.set_cons_succ]
    refine' wpAnyH_take (i := 10) (oi := { dst := some 70, op := Op.indexAddr 34 (Operand.tmp 69) (Operand.const (Value.int IntKind.i64 1)), type := 0, pos := "more.go:16", after := #[{ on := 9, ground := Ground.data }], guard := none }) (v := _) rfl (by kernel_rfl) (by kernel_rfl) (by kernel_rfl) (fun _ _ _ h => h) (Or.inl ⟨by rfl, ?hyqn10⟩) hHeld ?rqn10
    case hyqn10 => (intro w' hSw; (try dsimp only at hSw); go_simp; try with_reducible rfl)
    simp only [Act.put, List.setIfInBounds_toArray, List.set_cons_zero, List.set_cons_succ]
    refine' wpAnyH_take (i := 11) (oi := { dst := some 71, op := Op.load 27 (Operand.tmp 70), type := 27, pos := "more.go:16", after := #[{ on := 10, ground := Ground.data }], guard := none }) (v := _) rfl (by kernel_rfl) (by kernel_rfl) (by kernel_rfl) (fun _ _ _ h => h) (Or.inl ⟨by rfl, ?hyqn11⟩) hHeld ?rqn11
    case hyqn11 => (intro w' hSw; (try dsimp only at hSw); go_simp; try with_reducible rfl)
    simp only [Act.put, List.setIfInBounds_toArray, List.set_cons_zero, List.set_cons_succ]
    refine' wpAnyH_take (i := 12) (oi := { dst := some 72, op := Op.move (Operand.tmp 10), type := 34, pos := "more.go:16", after := #[], guard := none }) (v := _) rfl (by kernel_rfl) (by kernel_rfl) (by kernel_rfl) (fun _ _ _ h => h) (Or.inl ⟨by rfl, ?hyqn12⟩) hHeld ?rqn12
    case hyqn12 => (intro w' hSw; (try dsimp only at hSw); go_simp; try with_reducible rfl)
    simp only [Act.put, List.setIfInBounds_toArray, List.set_cons_zero, List.set_cons_succ]
    refine' wpAnyH_take (i := 13) (oi := { dst := some 73, op := Op.indexAddr 34 (Operand.tmp 72) (Operand.const (Value.int IntKind.i64 2)), type := 0, pos := "more.go:16", after := #[{ on := 12, ground := Ground.data }], guard := none }) (v := _) rfl (by kernel_rfl) (by kernel_rfl) (by kernel_rfl) (fun _ _ _ h => h) (Or.inl ⟨by rfl, ?hyqn13⟩) hHeld ?rqn13
    case hyqn13 => (intro w' hSw; (try dsimp only at hSw); go_simp; try with_reducible rfl)
    simp only [Act.put, List.setIfInBounds_toArray, List.set_cons_zero, List.set_cons_succ]
    refine' wpAnyH_take (i := 14) (oi := { dst := some 74, op := Op.load 27 (Operand.tmp 73), type := 27, pos := "more.go:16", after := #[{ on := 13, ground := Ground.data }], guard := none }) (v := _) rfl (by kernel_rfl) (by kernel_rfl) (by kernel_rfl) (fun _ _ _ h => h) (Or.inl ⟨by rfl, ?hyqn14⟩) hHeld ?rqn14
    case hyqn14 => (intro w' hSw; (try dsimp only at hSw); go_simp; try with_reducible rfl)
    simp only [Act.put, List.setIfInBounds_toArray, List.set_cons_zero, List.set_cons_succ]
    refine' wpAnyH_take (i := 15) (oi := { dst := some 75, op := Op.move (Operand.tmp 10), type := 34, pos := "more.go:16", after := #[], guard := none }) (v := _) rfl (by kernel_rfl) (by kernel_rfl) (by kernel_rfl) (fun _ _ _ h => h) (Or.inl ⟨by rfl, ?hyqn15⟩) hHeld ?rqn15
    case hyqn15 => (intro w' hSw; (try dsimp only at hSw); go_simp; try with_reducible rfl)
    simp only [Act.put, List.setIfInBounds_toArray, List.set_cons_zero, List.set_cons_succ]
    refine' wpAnyH_take (i := 16) (oi := { dst := some 76, op := Op.indexAddr 34 (Operand.tmp 75) (Operand.const (Value.int IntKind.i64 3)), type := 0, pos := "more.go:16", after := #[{ on := 15, ground := Ground.data }], guard := none }) (v := _) rfl (by kernel_rfl) (by kernel_rfl) (by kernel_rfl) (fun _ _ _ h => h) (Or.inl ⟨by rfl, ?hyqn16⟩) hHeld ?rqn16
    case hyqn16 => (intro w' hSw; (try dsimp only at hSw); go_simp; try with_reducible rfl)
    simp only [Act.put, List.setIfInBounds_toArray, List.set_cons_zero, List.set_cons_succ]
    refine' wpAnyH_take (i := 17) (oi := { dst := some 77, op := Op.load 27 (Operand.tmp 76), type := 27, pos := "more.go:16", after := #[{ on := 16, ground := Ground.data }], guard := none }) (v := _) rfl (by kernel_rfl) (by kernel_rfl) (by kernel_rfl) (fun _ _ _ h => h) (Or.inl ⟨by rfl, ?hyqn17⟩) hHeld ?rqn17
    case hyqn17 => (intro w' hSw; (try dsimp only at hSw); go_simp; try with_reducible rfl)
    simp only [Act.put, List.setIfInBounds_toArray, List.set_cons_zero, List.set_cons_succ]
    refine' wpAnyH_take (i := 18) (oi := { dst := some 78, op := Op.move (Operand.tmp 10), type := 34, pos := "more.go:16", after := #[], guard := none }) (v := _) rfl (by kernel_rfl) (by kernel_rfl) (by kernel_rfl) (fun _ _ _ h => h) (Or.inl ⟨by rfl, ?hyqn18⟩) hHeld ?rqn18
    case hyqn18 => (intro w' hSw; (try dsimp only at hSw); go_simp; try with_reducible rfl)
    simp only [Act.put, List.setIfInBounds_toArray, List.set_cons_zero, List.set_cons_succ]
    refine' wpAnyH_take (i := 19) (oi := { dst := some 79, op := Op.indexAddr 34 (Operand.tmp 78) (Operand.const (Value.int IntKind.i64 4)), type := 0, pos := "more.go:16", after := #[{ on := 18, ground := Ground.data }], guard := none }) (v := _) rfl (by kernel_rfl) (by kernel_rfl) (by kernel_rfl) (fun _ _ _ h => h) (Or.inl ⟨by rfl, ?hyqn19⟩) hHeld ?rqn19
    case hyqn19 => (intro w' hSw; (try dsimp only at hSw); go_simp; try with_reducible rfl)
    simp only [Act.put, List.setIfInBounds_toArray, List.set_cons_zero, List.set_cons_succ]
    refine' wpAnyH_take (i := 20) (oi := { dst := some 80, op := Op.load 27 (Operand.tmp 79), type := 27, pos := "more.go:16", after := #[{ on := 19, ground := Ground.data }], guard := none }) (v := _) rfl (by kernel_rfl) (by kernel_rfl) (by kernel_rfl) (fun _ _ _ h => h) (Or.inl ⟨by rfl, ?hyqn20⟩) hHeld ?rqn20
    case hyqn20 => (intro w' hSw; (try dsimp only at hSw); go_simp; try with_reducible rfl)
    simp only [Act.put, List.setIfInBounds_toArray, List.set_cons_zero, List.set_cons_succ]
    refine' wpAnyH_take (i := 21) (oi := { dst := some 81, op := Op.move (Operand.tmp 10), type := 34, pos := "more.go:16", after := #[], guard := none }) (v := _) rfl (by kernel_rfl) (by kernel_rfl) (by kernel_rfl) (fun _ _ _ h => h) (Or.inl ⟨by rfl, ?hyqn21⟩) hHeld ?rqn21
    case hyqn21 => (intro w' hSw; (try dsimp only at hSw); go_simp; try with_reducible rfl)
    simp only [Act.put, List.setIfInBounds_toArray, List.set_cons_zero, List.set_cons_succ]
    refine' wpAnyH_take (i := 22) (oi := { dst := some 82, op := Op.indexAddr 34 (Operand.tmp 81) (Operand.const (Value.int IntKind.i64 5)), type := 0, pos := "more.go:16", after := #[{ on := 21, ground := Ground.data }], guard := none }) (v := _) rfl (by kernel_rfl) (by kernel_rfl) (by kernel_rfl) (fun _ _ _ h => h) (Or.inl ⟨by rfl, ?hyqn22⟩) hHeld ?rqn22
    case hyqn22 => (intro w' hSw; (try dsimp only at hSw); go_simp; try with_reducible rfl)
    simp only [Act.put, List.setIfInBounds_toArray, List.set_cons_zero, List.set_cons_succ]
    refine' wpAnyH_take (i := 23) (oi := { dst := some 83, op := Op.load 27 (Operand.tmp 82), type := 27, pos := "more.go:16", after := #[{ on := 22, ground := Ground.data }], guard := none }) (v := _) rfl (by kernel_rfl) (by kernel_rfl) (by kernel_rfl) (fun _ _ _ h => h) (Or.inl ⟨by rfl, ?hyqn23⟩) hHeld ?rqn23
    case hyqn23 => (intro w' hSw; (try dsimp only at hSw); go_simp; try with_reducible rfl)
    simp only [Act.put, List.setIfInBounds_toArray, List.set_cons_zero, List.set_cons_succ]
    refine' wpAnyH_take (i := 24) (oi := { dst := some 84, op := Op.move (Operand.tmp 3), type := 9, pos := "more.go:16", after := #[], guard := none }) (v := _) rfl (by kernel_rfl) (by kernel_rfl) (by kernel_rfl) (fun _ _ _ h => h) (Or.inl ⟨by rfl, ?hyqn24⟩) hHeld ?rqn24
    case hyqn24 => (intro w' hSw; (try dsimp only at hSw); go_simp; try with_reducible rfl)
    simp only [Act.put, List.setIfInBounds_toArray, List.set_cons_zero, List.set_cons_succ]
    refine wpAnyH_ready (rs := [25, 27]) (by kernel_rfl) (by simp) ?_
    refine AllReadyH.cons (o := { dst := some 85, op := Op.call { callee := Callee.value (Operand.func 12), args := #[Operand.tmp 84], argTypes := #[9] }, type := 28, pos := "more.go:16", after := #[{ on := 24, ground := Ground.data }], guard := none }) rfl (fun K hK => ?_) (AllReadyH.cons (o := { dst := some 12, op := Op.alloc 30, type := 0, pos := "more.go:16", after := #[], guard := none }) rfl (fun K hK => ?_) AllReadyH.nil)
    · refine step_call_post (vs := #[.string y]) (R := fun v w' => v = .agg (payA (sbyte y)) ∧ Keep (fun _ => False) wB w') rfl 12 #[.tmp 84] #[9] rfl (by simp [Act.eval]) call12 (payq _ ((Keep.refl _ _).drew)) ?_
      rintro v wA ⟨rfl, hkA⟩
      refine hK.out _ _ (kSq _ hkA) (fun hHeld5 => ?_)
      clear hK K
      simp only [Act.put, List.setIfInBounds_toArray, List.set_cons_zero, List.set_cons_succ]
      refine' wpAnyH_take (i := 26) (oi := { dst := some 86, op := Op.build 30 #[(0, Operand.tmp 65), (1, Operand.tmp 68), (2, Operand.tmp 71), (3, Operand.tmp 74), (4, Operand.tmp 77), (5, Operand.tmp 80), (6, Operand.tmp 83), (7, Operand.tmp 85)], type := 30, pos := "more.go:16", after := #[{ on := 5, ground := Ground.data }, { on := 8, ground := Ground.data }, { on := 11, ground := Ground.data }, { on := 14, ground := Ground.data }, { on := 17, ground := Ground.data }, { on := 20, ground := Ground.data }, { on := 23, ground := Ground.data }, { on := 25, ground := Ground.data }], guard := none }) (v := .agg (pageA (1 + v 0 % 3) (six (v 0) (v 1) (v 2) (v 3) (v 4) (v 5)) (sbyte y))) rfl (by kernel_rfl) (by kernel_rfl) (by kernel_rfl) (fun _ _ _ h => h) (Or.inl ⟨by rfl, ?hbqAn⟩) hHeld5 ?rbqAn
      case hbqAn => (intro w' hSw; clear hSw; go_simp; rw [build_page])
      simp only [Act.put, List.setIfInBounds_toArray, List.set_cons_zero, List.set_cons_succ]
      refine wpAnyH_ready (rs := [27]) (by kernel_rfl) (by simp) ?_
      refine AllReadyH.cons (o := { dst := some 12, op := Op.alloc 30, type := 0, pos := "more.go:16", after := #[], guard := none }) rfl (fun K hK => ?_) AllReadyH.nil
      go_simp
      refine hK.out _ _ (kSq _ (hkA.alloc _)) (fun hHeld7 => ?_)
      clear hK K hHeld7 hHeld hHeld5
      obtain ⟨wC, hstC, hbC, hkC⟩ := new_page wA (1 + v 0 % 3) (six (v 0) (v 1) (v 2) (v 3) (v 4) (v 5)) (sbyte y)
      have HKC : Keep (fun _ => False) wB wC := hkA.trans hkC
      have hpC := (show wB.heap.size ≤ wA.heap.size from hkA.size)
      refine wpAnyH_ready (rs := [28]) (by kernel_rfl) (by simp) ?_
      refine AllReadyH.cons (o := { dst := none, op := Op.store 30 (Operand.tmp 12) (Operand.tmp 86), type := 0, pos := "more.go:16", after := #[{ on := 27, ground := Ground.data }, { on := 26, ground := Ground.data }, { on := 25, ground := Ground.chain }, { on := 0, ground := Ground.phase }, { on := 1, ground := Ground.phase }, { on := 2, ground := Ground.phase }, { on := 3, ground := Ground.phase }, { on := 4, ground := Ground.phase }, { on := 5, ground := Ground.phase }, { on := 6, ground := Ground.phase }, { on := 7, ground := Ground.phase }, { on := 8, ground := Ground.phase }, { on := 9, ground := Ground.phase }, { on := 10, ground := Ground.phase }, { on := 11, ground := Ground.phase }, { on := 12, ground := Ground.phase }, { on := 13, ground := Ground.phase }, { on := 14, ground := Ground.phase }, { on := 15, ground := Ground.phase }, { on := 16, ground := Ground.phase }, { on := 17, ground := Ground.phase }, { on := 18, ground := Ground.phase }, { on := 19, ground := Ground.phase }, { on := 20, ground := Ground.phase }, { on := 21, ground := Ground.phase }, { on := 22, ground := Ground.phase }, { on := 23, ground := Ground.phase }, { on := 24, ground := Ground.phase }, { on := 25, ground := Ground.phase }, { on := 26, ground := Ground.phase }, { on := 27, ground := Ground.phase }], guard := none }) rfl (fun K hK => ?_) AllReadyH.nil
      refine step_store_run rfl 30 (.tmp 12) (.tmp 86) rfl (by rfl) (by rfl) hstC ?_
      refine hK.out _ _ (kSq _ HKC) (fun hHeld6 => ?_)
      clear hK K hHeld6 hstC
      refine wpAnyH_done (by kernel_rfl) ?_ _
      refine NoPanic.normal ?_
      generalize wA.heap.size = pC at hbC hpC ⊢
      clear hkA hkC
      clear kSq payq payXq hkq hsq iq0 iq1 iq2 iq3 iq4 iq5
      have hP := hbB.keep HKC (fun e => e)
      have hld1 := loadAt_page hP
      have HKc := ((hk1.trans hk3).trans hk5).trans (HKB.trans HKC)
      clear hu5 hv5 hpB hpC
      go_wp2_with (guard_target =~ wpList _ _ _ (Oper.mk _ (Op.load 30 _) _ _ _ _ :: _) _ _; refine wpList_load_run rfl 30 (.tmp 11) rfl (by rfl) hld1 ?_)
      refine (enc_any (1 + u 0 % 3) (six (u 0) (u 1) (u 2) (u 3) (u 4) (u 5)) (sbyte x) wC kp3 (sbyte_bd x)).mono ?_
      rintro e wD ⟨gc, rfl, hgc, hbc, hkD⟩
      have hld2 := loadAt_page (hbC.keep hkD (fun e => e))
      clear hld1
      go_wp2_with (guard_target =~ wpList _ _ _ (Oper.mk _ (Op.load 30 _) _ _ _ _ :: _) _ _; refine wpList_load_run rfl 30 (.tmp 12) rfl (by rfl) hld2 ?_)
      refine (enc_any (1 + v 0 % 3) (six (v 0) (v 1) (v 2) (v 3) (v 4) (v 5)) (sbyte y) wD kq3 (sbyte_bd y)).mono ?_
      rintro e wE ⟨gd, rfl, hgd, hbd, hkE⟩
      have hbcE := hbc.keep hkE (fun e => e)
      have hd1 := dec_enc hbcE kp3 (sbyte_bd x) hu6
      clear hld2
      go_wp2_with fail
      refine hd1.mono ?_
      rintro e wF ⟨rfl, hkF⟩
      obtain ⟨wG, hstG, hbG, hkG⟩ := new_page wF (1 + u 0 % 3) (six (u 0) (u 1) (u 2) (u 3) (u 4) (u 5)) (sbyte x)
      have hd2 := dec_enc ((hbd.keep hkF (fun e => e)).keep hkG (fun e => e)) kq3 (sbyte_bd y) hv6
      clear hd1
      go_wp2_with (guard_target =~ wpList _ _ _ (Oper.mk _ (Op.store 30 _ _) _ _ _ _ :: _) _ _; refine wpList_store_run rfl 30 (.tmp 17) (.tmp 116) rfl (by rfl) (by rfl) hstG ?_)
      refine hd2.mono ?_
      rintro e wH ⟨rfl, hkH⟩
      obtain ⟨wI, hstI, hbI, hkI⟩ := new_page wH (1 + v 0 % 3) (six (v 0) (v 1) (v 2) (v 3) (v 4) (v 5)) (sbyte y)
      clear hd2 hstG
      go_wp2_with (guard_target =~ wpList _ _ _ (Oper.mk _ (Op.store 30 _ _) _ _ _ _ :: _) _ _; refine wpList_store_run rfl 30 (.tmp 19) (.tmp 121) rfl (by rfl) (by rfl) hstI ?_)
      have hFI := (hkF.trans hkG).trans (hkH.trans hkI)
      have hEI : Keep (fun _ => False) wC wI := hkD.trans (hkE.trans hFI)
      have HKw := HKc.trans hEI
      have same : ∀ w' : World, w'.heap = wI.heap → ∀ {b n : Nat} {f : Nat → Value}, Blk wI b n f → Blk w' b n f := fun w' h b n f hb => hb.of_block (by rw [h])
      have lp := fun (w' : World) (h : w'.heap = wI.heap) => loadAt_page (same w' h (hP.keep hEI (fun e => e)))
      have lq := fun (w' : World) (h : w'.heap = wI.heap) => loadAt_page (same w' h (hbC.keep hEI (fun e => e)))
      have lr := fun (w' : World) (h : w'.heap = wI.heap) => loadAt_page (same w' h (hbG.keep (hkH.trans hkI) (fun e => e)))
      have ls := fun (w' : World) (h : w'.heap = wI.heap) => loadAt_page (same w' h hbI)
      have htc := fun (w' : World) (h : w'.heap = wI.heap) => ((same w' h (hbcE.keep hFI (fun e => e))).page_row kp3 (sbyte_bd x)).text
      have htd := fun (w' : World) (h : w'.heap = wI.heap) => ((same w' h (hbd.keep hFI (fun e => e))).page_row kq3 (sbyte_bd y)).text
      have hS := bytes_same hu6 hv6 kp3 kq3 (sbyte_bd x) (sbyte_bd y)
      generalize strOfNums (tab 68 (ebyte (1 + u 0 % 3) (six (u 0) (u 1) (u 2) (u 3) (u 4) (u 5)) (sbyte x))) = Sc at htc hS
      generalize strOfNums (tab 68 (ebyte (1 + v 0 % 3) (six (v 0) (v 1) (v 2) (v 3) (v 4) (v 5)) (sbyte y))) = Sd at htd hS
      obtain ⟨s1, hs1⟩ : ∃ s1, samePage (1 + u 0 % 3) (1 + v 0 % 3) (six (u 0) (u 1) (u 2) (u 3) (u 4) (u 5)) (six (v 0) (v 1) (v 2) (v 3) (v 4) (v 5)) (sbyte x) (sbyte y) = s1 := ⟨_, rfl⟩
      rw [hs1] at hS
      clear hstI hbG hbI hP hbC hbc hbd hbcE hEI hFI same HKc HKB HKC hbB
      refine wp_region_noPanic ?_
      refine wp_region_held_drew (S := fun w' => w'.heap = wI.heap) (by kernel_rfl) rfl (fun hHeld => ?_)
      refine' wpAnyH_take (i := 0) (oi := { dst := some 123, op := Op.move (Operand.tmp 18), type := 24, pos := "more.go:24", after := #[], guard := none }) (v := _) rfl (by kernel_rfl) (by kernel_rfl) (by kernel_rfl) (fun _ _ _ h => h) (Or.inl ⟨by rfl, ?hyzna0⟩) hHeld ?rzna0
      case hyzna0 => (intro w' hSw; clear hSw; go_simp; try with_reducible rfl)
      simp only [Act.put, List.setIfInBounds_toArray, List.set_cons_zero, List.set_cons_succ]
      refine' wpAnyH_take (i := 1) (oi := { dst := some 124, op := Op.binOp BinOp.eql 24 (Operand.tmp 123) (Operand.const (Value.int IntKind.i64 0)) 24, type := 4, pos := "more.go:24", after := #[{ on := 0, ground := Ground.data }], guard := none }) (v := _) rfl (by kernel_rfl) (by kernel_rfl) (by kernel_rfl) (fun _ _ _ h => h) (Or.inl ⟨by rfl, ?hyzna1⟩) hHeld ?rzna1
      case hyzna1 => (intro w' hSw; clear hSw; go_simp; try with_reducible rfl)
      simp only [Act.put, List.setIfInBounds_toArray, List.set_cons_zero, List.set_cons_succ]
      refine' wpAnyH_take (i := 2) (oi := { dst := some 125, op := Op.move (Operand.tmp 124), type := 4, pos := "more.go:24", after := #[{ on := 1, ground := Ground.data }], guard := none }) (v := _) rfl (by kernel_rfl) (by kernel_rfl) (by kernel_rfl) (fun _ _ _ h => h) (Or.inl ⟨by rfl, ?hyzna2⟩) hHeld ?rzna2
      case hyzna2 => (intro w' hSw; clear hSw; go_simp; try with_reducible rfl)
      simp only [Act.put, List.setIfInBounds_toArray, List.set_cons_zero, List.set_cons_succ]
      refine' wpAnyH_take (i := 3) (oi := { dst := some 126, op := Op.move (Operand.tmp 20), type := 24, pos := "more.go:24", after := #[{ on := 2, ground := Ground.guard }], guard := some (2, true) }) (v := _) rfl (by kernel_rfl) (by kernel_rfl) (by kernel_rfl) (fun _ _ _ h => h) (Or.inl ⟨by rfl, ?hyzna3⟩) hHeld ?rzna3
      case hyzna3 => (intro w' hSw; clear hSw; go_simp; try with_reducible rfl)
      simp only [Act.put, List.setIfInBounds_toArray, List.set_cons_zero, List.set_cons_succ]
      refine' wpAnyH_take (i := 4) (oi := { dst := some 127, op := Op.binOp BinOp.eql 24 (Operand.tmp 126) (Operand.const (Value.int IntKind.i64 0)) 24, type := 4, pos := "more.go:24", after := #[{ on := 3, ground := Ground.data }, { on := 2, ground := Ground.guard }], guard := some (2, true) }) (v := _) rfl (by kernel_rfl) (by kernel_rfl) (by kernel_rfl) (fun _ _ _ h => h) (Or.inl ⟨by rfl, ?hyzna4⟩) hHeld ?rzna4
      case hyzna4 => (intro w' hSw; clear hSw; go_simp; try with_reducible rfl)
      simp only [Act.put, List.setIfInBounds_toArray, List.set_cons_zero, List.set_cons_succ]
      refine' wpAnyH_take (i := 5) (oi := { dst := some 128, op := Op.pick (Operand.tmp 125) (Operand.tmp 127) (Operand.const (Value.bool false)), type := 4, pos := "more.go:24", after := #[{ on := 2, ground := Ground.data }, { on := 4, ground := Ground.data }], guard := none }) (v := _) rfl (by kernel_rfl) (by kernel_rfl) (by kernel_rfl) (fun _ _ _ h => h) (Or.inl ⟨by rfl, ?hyzna5⟩) hHeld ?rzna5
      case hyzna5 => (intro w' hSw; clear hSw; go_simp; try with_reducible rfl)
      simp only [Act.put, List.setIfInBounds_toArray, List.set_cons_zero, List.set_cons_succ]
      refine' wpAnyH_take (i := 6) (oi := { dst := some 129, op := Op.move (Operand.tmp 128), type := 4, pos := "more.go:24", after := #[{ on := 5, ground := Ground.data }, { on := 2, ground := Ground.chain }], guard := none }) (v := _) rfl (by kernel_rfl) (by kernel_rfl) (by kernel_rfl) (fun _ _ _ h => h) (Or.inl ⟨by rfl, ?hyzna6⟩) hHeld ?rzna6
      case hyzna6 => (intro w' hSw; clear hSw; go_simp; try with_reducible rfl)
      simp only [Act.put, List.setIfInBounds_toArray, List.set_cons_zero, List.set_cons_succ]
      refine' wpAnyH_take (i := 7) (oi := { dst := some 130, op := Op.move (Operand.tmp 13), type := 23, pos := "more.go:24", after := #[{ on := 6, ground := Ground.guard }], guard := some (6, true) }) (v := _) rfl (by kernel_rfl) (by kernel_rfl) (by kernel_rfl) (fun _ _ _ h => h) (Or.inl ⟨by rfl, ?hyzna7⟩) hHeld ?rzna7
      case hyzna7 => (intro w' hSw; clear hSw; go_simp; try with_reducible rfl)
      simp only [Act.put, List.setIfInBounds_toArray, List.set_cons_zero, List.set_cons_succ]
      refine' wpAnyH_take (i := 8) (oi := { dst := some 131, op := Op.convert 23 9 (Operand.tmp 130), type := 9, pos := "more.go:24", after := #[{ on := 7, ground := Ground.data }, { on := 6, ground := Ground.guard }], guard := some (6, true) }) (v := (.string Sc)) rfl (by kernel_rfl) (by kernel_rfl) (by kernel_rfl) (fun _ _ _ h => h) (yields_conv (by rfl) 23 9 (.tmp 130) rfl (by rfl) (fun w' h => htc w' h)) hHeld ?rzna8
      simp only [Act.put, List.setIfInBounds_toArray, List.set_cons_zero, List.set_cons_succ]
      refine' wpAnyH_take (i := 9) (oi := { dst := some 132, op := Op.move (Operand.tmp 15), type := 23, pos := "more.go:24", after := #[{ on := 6, ground := Ground.guard }], guard := some (6, true) }) (v := _) rfl (by kernel_rfl) (by kernel_rfl) (by kernel_rfl) (fun _ _ _ h => h) (Or.inl ⟨by rfl, ?hyzna9⟩) hHeld ?rzna9
      case hyzna9 => (intro w' hSw; clear hSw; go_simp; try with_reducible rfl)
      simp only [Act.put, List.setIfInBounds_toArray, List.set_cons_zero, List.set_cons_succ]
      refine' wpAnyH_take (i := 10) (oi := { dst := some 133, op := Op.convert 23 9 (Operand.tmp 132), type := 9, pos := "more.go:24", after := #[{ on := 9, ground := Ground.data }, { on := 6, ground := Ground.guard }], guard := some (6, true) }) (v := (.string Sd)) rfl (by kernel_rfl) (by kernel_rfl) (by kernel_rfl) (fun _ _ _ h => h) (yields_conv (by rfl) 23 9 (.tmp 132) rfl (by rfl) (fun w' h => htd w' h)) hHeld ?rzna10
      simp only [Act.put, List.setIfInBounds_toArray, List.set_cons_zero, List.set_cons_succ]
      refine' wpAnyH_take (i := 11) (oi := { dst := some 134, op := Op.binOp BinOp.eql 9 (Operand.tmp 131) (Operand.tmp 133) 9, type := 4, pos := "more.go:24", after := #[{ on := 8, ground := Ground.data }, { on := 10, ground := Ground.data }, { on := 6, ground := Ground.guard }], guard := some (6, true) }) (v := _) rfl (by kernel_rfl) (by kernel_rfl) (by kernel_rfl) (fun _ _ _ h => h) (Or.inl ⟨by rfl, ?hyzna11⟩) hHeld ?rzna11
      case hyzna11 => (intro w' hSw; clear hSw; go_simp; try with_reducible rfl)
      simp only [Act.put, List.setIfInBounds_toArray, List.set_cons_zero, List.set_cons_succ]
      refine' wpAnyH_take (i := 12) (oi := { dst := some 135, op := Op.load 30 (Operand.tmp 11), type := 30, pos := "more.go:24", after := #[{ on := 6, ground := Ground.guard }], guard := some (6, true) }) (v := (.agg (pageA (1 + u 0 % 3) (six (u 0) (u 1) (u 2) (u 3) (u 4) (u 5)) (sbyte x)))) rfl (by kernel_rfl) (by kernel_rfl) (by kernel_rfl) (fun _ _ _ h => h) (yields_load (by rfl) 30 (.tmp 11) rfl (by rfl) (fun w' h => lp w' h)) hHeld ?rzna12
      simp only [Act.put, List.setIfInBounds_toArray, List.set_cons_zero, List.set_cons_succ]
      refine' wpAnyH_take (i := 13) (oi := { dst := some 136, op := Op.load 30 (Operand.tmp 12), type := 30, pos := "more.go:24", after := #[{ on := 6, ground := Ground.guard }], guard := some (6, true) }) (v := (.agg (pageA (1 + v 0 % 3) (six (v 0) (v 1) (v 2) (v 3) (v 4) (v 5)) (sbyte y)))) rfl (by kernel_rfl) (by kernel_rfl) (by kernel_rfl) (fun _ _ _ h => h) (yields_load (by rfl) 30 (.tmp 12) rfl (by rfl) (fun w' h => lq w' h)) hHeld ?rzna13
      simp only [Act.put, List.setIfInBounds_toArray, List.set_cons_zero, List.set_cons_succ]
      refine' wpAnyH_take (i := 14) (oi := { dst := some 137, op := Op.binOp BinOp.eql 30 (Operand.tmp 135) (Operand.tmp 136) 30, type := 4, pos := "more.go:24", after := #[{ on := 12, ground := Ground.data }, { on := 13, ground := Ground.data }, { on := 6, ground := Ground.guard }], guard := some (6, true) }) (v := (.bool s1)) rfl (by kernel_rfl) (by kernel_rfl) (by kernel_rfl) (fun _ _ _ h => h) (yields_eq30 (by rfl) (.tmp 135) (.tmp 136) rfl (by rfl) (by rfl) hs1) hHeld ?rzna14
      simp only [Act.put, List.setIfInBounds_toArray, List.set_cons_zero, List.set_cons_succ]
      refine' wpAnyH_take (i := 15) (oi := { dst := some 138, op := Op.binOp BinOp.eql 4 (Operand.tmp 134) (Operand.tmp 137) 4, type := 4, pos := "more.go:24", after := #[{ on := 11, ground := Ground.data }, { on := 14, ground := Ground.data }, { on := 6, ground := Ground.guard }], guard := some (6, true) }) (v := _) rfl (by kernel_rfl) (by kernel_rfl) (by kernel_rfl) (fun _ _ _ h => h) (Or.inl ⟨by rfl, ?hyzna15⟩) hHeld ?rzna15
      case hyzna15 => (intro w' hSw; clear hSw; go_simp; try with_reducible rfl)
      simp only [Act.put, List.setIfInBounds_toArray, List.set_cons_zero, List.set_cons_succ]
      refine' wpAnyH_take (i := 16) (oi := { dst := some 139, op := Op.pick (Operand.tmp 129) (Operand.tmp 138) (Operand.const (Value.bool false)), type := 4, pos := "more.go:24", after := #[{ on := 6, ground := Ground.data }, { on := 15, ground := Ground.data }], guard := none }) (v := _) rfl (by kernel_rfl) (by kernel_rfl) (by kernel_rfl) (fun _ _ _ h => h) (Or.inl ⟨by rfl, ?hyzna16⟩) hHeld ?rzna16
      case hyzna16 => (intro w' hSw; clear hSw; go_simp; try with_reducible rfl)
      simp only [Act.put, List.setIfInBounds_toArray, List.set_cons_zero, List.set_cons_succ]
      refine' wpAnyH_take (i := 17) (oi := { dst := some 140, op := Op.move (Operand.tmp 139), type := 4, pos := "more.go:24", after := #[{ on := 16, ground := Ground.data }, { on := 6, ground := Ground.chain }], guard := none }) (v := _) rfl (by kernel_rfl) (by kernel_rfl) (by kernel_rfl) (fun _ _ _ h => h) (Or.inl ⟨by rfl, ?hyzna17⟩) hHeld ?rzna17
      case hyzna17 => (intro w' hSw; clear hSw; go_simp; try with_reducible rfl)
      simp only [Act.put, List.setIfInBounds_toArray, List.set_cons_zero, List.set_cons_succ]
      refine' wpAnyH_take (i := 18) (oi := { dst := some 141, op := Op.load 30 (Operand.tmp 17), type := 30, pos := "more.go:24", after := #[{ on := 17, ground := Ground.guard }], guard := some (17, true) }) (v := (.agg (pageA (1 + u 0 % 3) (six (u 0) (u 1) (u 2) (u 3) (u 4) (u 5)) (sbyte x)))) rfl (by kernel_rfl) (by kernel_rfl) (by kernel_rfl) (fun _ _ _ h => h) (yields_load (by rfl) 30 (.tmp 17) rfl (by rfl) (fun w' h => lr w' h)) hHeld ?rzna18
      simp only [Act.put, List.setIfInBounds_toArray, List.set_cons_zero, List.set_cons_succ]
      refine' wpAnyH_take (i := 19) (oi := { dst := some 142, op := Op.load 30 (Operand.tmp 19), type := 30, pos := "more.go:24", after := #[{ on := 17, ground := Ground.guard }], guard := some (17, true) }) (v := (.agg (pageA (1 + v 0 % 3) (six (v 0) (v 1) (v 2) (v 3) (v 4) (v 5)) (sbyte y)))) rfl (by kernel_rfl) (by kernel_rfl) (by kernel_rfl) (fun _ _ _ h => h) (yields_load (by rfl) 30 (.tmp 19) rfl (by rfl) (fun w' h => ls w' h)) hHeld ?rzna19
      simp only [Act.put, List.setIfInBounds_toArray, List.set_cons_zero, List.set_cons_succ]
      refine' wpAnyH_take (i := 20) (oi := { dst := some 143, op := Op.binOp BinOp.eql 30 (Operand.tmp 141) (Operand.tmp 142) 30, type := 4, pos := "more.go:24", after := #[{ on := 18, ground := Ground.data }, { on := 19, ground := Ground.data }, { on := 17, ground := Ground.guard }], guard := some (17, true) }) (v := (.bool s1)) rfl (by kernel_rfl) (by kernel_rfl) (by kernel_rfl) (fun _ _ _ h => h) (yields_eq30 (by rfl) (.tmp 141) (.tmp 142) rfl (by rfl) (by rfl) hs1) hHeld ?rzna20
      simp only [Act.put, List.setIfInBounds_toArray, List.set_cons_zero, List.set_cons_succ]
      refine' wpAnyH_take (i := 21) (oi := { dst := some 144, op := Op.load 30 (Operand.tmp 11), type := 30, pos := "more.go:24", after := #[{ on := 17, ground := Ground.guard }], guard := some (17, true) }) (v := (.agg (pageA (1 + u 0 % 3) (six (u 0) (u 1) (u 2) (u 3) (u 4) (u 5)) (sbyte x)))) rfl (by kernel_rfl) (by kernel_rfl) (by kernel_rfl) (fun _ _ _ h => h) (yields_load (by rfl) 30 (.tmp 11) rfl (by rfl) (fun w' h => lp w' h)) hHeld ?rzna21
      simp only [Act.put, List.setIfInBounds_toArray, List.set_cons_zero, List.set_cons_succ]
      refine' wpAnyH_take (i := 22) (oi := { dst := some 145, op := Op.load 30 (Operand.tmp 12), type := 30, pos := "more.go:24", after := #[{ on := 17, ground := Ground.guard }], guard := some (17, true) }) (v := (.agg (pageA (1 + v 0 % 3) (six (v 0) (v 1) (v 2) (v 3) (v 4) (v 5)) (sbyte y)))) rfl (by kernel_rfl) (by kernel_rfl) (by kernel_rfl) (fun _ _ _ h => h) (yields_load (by rfl) 30 (.tmp 12) rfl (by rfl) (fun w' h => lq w' h)) hHeld ?rzna22
      simp only [Act.put, List.setIfInBounds_toArray, List.set_cons_zero, List.set_cons_succ]
      refine' wpAnyH_take (i := 23) (oi := { dst := some 146, op := Op.binOp BinOp.eql 30 (Operand.tmp 144) (Operand.tmp 145) 30, type := 4, pos := "more.go:24", after := #[{ on := 21, ground := Ground.data }, { on := 22, ground := Ground.data }, { on := 17, ground := Ground.guard }], guard := some (17, true) }) (v := (.bool s1)) rfl (by kernel_rfl) (by kernel_rfl) (by kernel_rfl) (fun _ _ _ h => h) (yields_eq30 (by rfl) (.tmp 144) (.tmp 145) rfl (by rfl) (by rfl) hs1) hHeld ?rzna23
      simp only [Act.put, List.setIfInBounds_toArray, List.set_cons_zero, List.set_cons_succ]
      refine' wpAnyH_take (i := 24) (oi := { dst := some 147, op := Op.binOp BinOp.eql 4 (Operand.tmp 143) (Operand.tmp 146) 4, type := 4, pos := "more.go:24", after := #[{ on := 20, ground := Ground.data }, { on := 23, ground := Ground.data }, { on := 17, ground := Ground.guard }], guard := some (17, true) }) (v := _) rfl (by kernel_rfl) (by kernel_rfl) (by kernel_rfl) (fun _ _ _ h => h) (Or.inl ⟨by rfl, ?hyzna24⟩) hHeld ?rzna24
      case hyzna24 => (intro w' hSw; clear hSw; go_simp; try with_reducible rfl)
      simp only [Act.put, List.setIfInBounds_toArray, List.set_cons_zero, List.set_cons_succ]
      refine' wpAnyH_take (i := 25) (oi := { dst := some 148, op := Op.pick (Operand.tmp 140) (Operand.tmp 147) (Operand.const (Value.bool false)), type := 4, pos := "more.go:24", after := #[{ on := 17, ground := Ground.data }, { on := 24, ground := Ground.data }], guard := none }) (v := _) rfl (by kernel_rfl) (by kernel_rfl) (by kernel_rfl) (fun _ _ _ h => h) (Or.inl ⟨by rfl, ?hyzna25⟩) hHeld ?rzna25
      case hyzna25 => (intro w' hSw; clear hSw; go_simp; try with_reducible rfl)
      simp only [Act.put, List.setIfInBounds_toArray, List.set_cons_zero, List.set_cons_succ]
      refine' wpAnyH_take (i := 26) (oi := { dst := some 8, op := Op.assign (Operand.tmp 148), type := 4, pos := "more.go:24", after := #[{ on := 25, ground := Ground.data }, { on := 17, ground := Ground.chain }, { on := 0, ground := Ground.phase }, { on := 1, ground := Ground.phase }, { on := 2, ground := Ground.phase }, { on := 3, ground := Ground.phase }, { on := 4, ground := Ground.phase }, { on := 5, ground := Ground.phase }, { on := 6, ground := Ground.phase }, { on := 7, ground := Ground.phase }, { on := 8, ground := Ground.phase }, { on := 9, ground := Ground.phase }, { on := 10, ground := Ground.phase }, { on := 11, ground := Ground.phase }, { on := 12, ground := Ground.phase }, { on := 13, ground := Ground.phase }, { on := 14, ground := Ground.phase }, { on := 15, ground := Ground.phase }, { on := 16, ground := Ground.phase }, { on := 17, ground := Ground.phase }, { on := 18, ground := Ground.phase }, { on := 19, ground := Ground.phase }, { on := 20, ground := Ground.phase }, { on := 21, ground := Ground.phase }, { on := 22, ground := Ground.phase }, { on := 23, ground := Ground.phase }, { on := 24, ground := Ground.phase }, { on := 25, ground := Ground.phase }], guard := none }) (v := _) rfl (by kernel_rfl) (by kernel_rfl) (by kernel_rfl) (fun _ _ _ h => h) (Or.inl ⟨by rfl, ?hyzna26⟩) hHeld ?rzna26
      case hyzna26 => (intro w' hSw; clear hSw; go_simp; try with_reducible rfl)
      simp only [Act.put, List.setIfInBounds_toArray, List.set_cons_zero, List.set_cons_succ]
      refine wpAnyH_done (by kernel_rfl) ?_ _
      refine NoPanic.normal ?_
      go_wp2_with fail
      go_ret
      exact ⟨rfl, HKw.drew⟩
    · go_simp
      have hb0 := blk_alloc wB.drew _ 30 39 _ (pageA_get 0 (fun _ => 0) (fun _ => 0))
      have hk0 : Keep (fun _ => False) wB (wB.drew.alloc (.cells (pageA 0 (fun _ => 0) (fun _ => 0)) 30)) := ((Keep.refl _ _).drew).alloc _
      rw [show pageA 0 (fun _ => 0) (fun _ => 0) = _ from noPage_eq] at hb0 hk0
      refine hK.out _ _ (kSq _ hk0) (fun hHeld7 => ?_)
      clear hK K hHeld
      refine wpAnyH_ready (rs := [25]) (by kernel_rfl) (by simp) ?_
      refine AllReadyH.cons (o := { dst := some 85, op := Op.call { callee := Callee.value (Operand.func 12), args := #[Operand.tmp 84], argTypes := #[9] }, type := 28, pos := "more.go:16", after := #[{ on := 24, ground := Ground.data }], guard := none }) rfl (fun K hK => ?_) AllReadyH.nil
      refine step_call_post (vs := #[.string y]) (R := fun v w' => v = .agg (payA (sbyte y)) ∧ Keep (fun _ => False) (wB.drew.alloc (.cells #[Value.int .i64 0, .int .u32 0, .int .u32 0, .int .u32 0, .int .u32 0, .int .u32 0, .int .u32 0, .int .u8 0, .int .u8 0, .int .u8 0, .int .u8 0, .int .u8 0, .int .u8 0, .int .u8 0, .int .u8 0, .int .u8 0, .int .u8 0, .int .u8 0, .int .u8 0, .int .u8 0, .int .u8 0, .int .u8 0, .int .u8 0, .int .u8 0, .int .u8 0, .int .u8 0, .int .u8 0, .int .u8 0, .int .u8 0, .int .u8 0, .int .u8 0, .int .u8 0, .int .u8 0, .int .u8 0, .int .u8 0, .int .u8 0, .int .u8 0, .int .u8 0, .int .u8 0] 30)) w') rfl 12 #[.tmp 84] #[9] rfl (by simp [Act.eval]) call12 (payXq _) ?_
      rintro v wA ⟨rfl, hkA⟩
      refine hK.out _ _ (kSq _ (hk0.trans hkA)) (fun hHeld5 => ?_)
      clear hK K hHeld7
      simp only [Act.put, List.setIfInBounds_toArray, List.set_cons_zero, List.set_cons_succ]
      refine' wpAnyH_take (i := 26) (oi := { dst := some 86, op := Op.build 30 #[(0, Operand.tmp 65), (1, Operand.tmp 68), (2, Operand.tmp 71), (3, Operand.tmp 74), (4, Operand.tmp 77), (5, Operand.tmp 80), (6, Operand.tmp 83), (7, Operand.tmp 85)], type := 30, pos := "more.go:16", after := #[{ on := 5, ground := Ground.data }, { on := 8, ground := Ground.data }, { on := 11, ground := Ground.data }, { on := 14, ground := Ground.data }, { on := 17, ground := Ground.data }, { on := 20, ground := Ground.data }, { on := 23, ground := Ground.data }, { on := 25, ground := Ground.data }], guard := none }) (v := .agg (pageA (1 + v 0 % 3) (six (v 0) (v 1) (v 2) (v 3) (v 4) (v 5)) (sbyte y))) rfl (by kernel_rfl) (by kernel_rfl) (by kernel_rfl) (fun _ _ _ h => h) (Or.inl ⟨by rfl, ?hbqBn⟩) hHeld5 ?rbqBn
      case hbqBn => (intro w' hSw; clear hSw; go_simp; rw [build_page])
      simp only [Act.put, List.setIfInBounds_toArray, List.set_cons_zero, List.set_cons_succ]
      obtain ⟨wC, hstC, hbC, hkC⟩ := store_page (hb0.keep hkA (fun e => e)) (1 + v 0 % 3) (six (v 0) (v 1) (v 2) (v 3) (v 4) (v 5)) (sbyte y)
      have HKC : Keep (fun _ => False) wB wC := (hk0.trans hkA).next hkC (fun y hy e => by have e2 : wB.drew.heap.size = wB.heap.size := rfl; omega)
      have hpC := (Nat.le_refl wB.heap.size)
      refine wpAnyH_ready (rs := [28]) (by kernel_rfl) (by simp) ?_
      clear hHeld5
      refine AllReadyH.cons (o := { dst := none, op := Op.store 30 (Operand.tmp 12) (Operand.tmp 86), type := 0, pos := "more.go:16", after := #[{ on := 27, ground := Ground.data }, { on := 26, ground := Ground.data }, { on := 25, ground := Ground.chain }, { on := 0, ground := Ground.phase }, { on := 1, ground := Ground.phase }, { on := 2, ground := Ground.phase }, { on := 3, ground := Ground.phase }, { on := 4, ground := Ground.phase }, { on := 5, ground := Ground.phase }, { on := 6, ground := Ground.phase }, { on := 7, ground := Ground.phase }, { on := 8, ground := Ground.phase }, { on := 9, ground := Ground.phase }, { on := 10, ground := Ground.phase }, { on := 11, ground := Ground.phase }, { on := 12, ground := Ground.phase }, { on := 13, ground := Ground.phase }, { on := 14, ground := Ground.phase }, { on := 15, ground := Ground.phase }, { on := 16, ground := Ground.phase }, { on := 17, ground := Ground.phase }, { on := 18, ground := Ground.phase }, { on := 19, ground := Ground.phase }, { on := 20, ground := Ground.phase }, { on := 21, ground := Ground.phase }, { on := 22, ground := Ground.phase }, { on := 23, ground := Ground.phase }, { on := 24, ground := Ground.phase }, { on := 25, ground := Ground.phase }, { on := 26, ground := Ground.phase }, { on := 27, ground := Ground.phase }], guard := none }) rfl (fun K hK => ?_) AllReadyH.nil
      refine step_store_run rfl 30 (.tmp 12) (.tmp 86) rfl (by rfl) (by rfl) hstC ?_
      refine hK.out _ _ (kSq _ HKC) (fun hHeld6 => ?_)
      clear hK K hHeld6 hstC
      refine wpAnyH_done (by kernel_rfl) ?_ _
      refine NoPanic.normal ?_
      rw [show wB.drew.heap.size = wB.heap.size from rfl] at hbC
      obtain ⟨pC, hpe⟩ : ∃ pC, pC = wB.heap.size := ⟨_, rfl⟩
      rw [← hpe] at hbC hpC ⊢
      clear hkA hkC hb0 hk0 hpe
      clear kSq payq payXq hkq hsq iq0 iq1 iq2 iq3 iq4 iq5
      have hP := hbB.keep HKC (fun e => e)
      have hld1 := loadAt_page hP
      have HKc := ((hk1.trans hk3).trans hk5).trans (HKB.trans HKC)
      clear hu5 hv5 hpB hpC
      go_wp2_with (guard_target =~ wpList _ _ _ (Oper.mk _ (Op.load 30 _) _ _ _ _ :: _) _ _; refine wpList_load_run rfl 30 (.tmp 11) rfl (by rfl) hld1 ?_)
      refine (enc_any (1 + u 0 % 3) (six (u 0) (u 1) (u 2) (u 3) (u 4) (u 5)) (sbyte x) wC kp3 (sbyte_bd x)).mono ?_
      rintro e wD ⟨gc, rfl, hgc, hbc, hkD⟩
      have hld2 := loadAt_page (hbC.keep hkD (fun e => e))
      clear hld1
      go_wp2_with (guard_target =~ wpList _ _ _ (Oper.mk _ (Op.load 30 _) _ _ _ _ :: _) _ _; refine wpList_load_run rfl 30 (.tmp 12) rfl (by rfl) hld2 ?_)
      refine (enc_any (1 + v 0 % 3) (six (v 0) (v 1) (v 2) (v 3) (v 4) (v 5)) (sbyte y) wD kq3 (sbyte_bd y)).mono ?_
      rintro e wE ⟨gd, rfl, hgd, hbd, hkE⟩
      have hbcE := hbc.keep hkE (fun e => e)
      have hd1 := dec_enc hbcE kp3 (sbyte_bd x) hu6
      clear hld2
      go_wp2_with fail
      refine hd1.mono ?_
      rintro e wF ⟨rfl, hkF⟩
      obtain ⟨wG, hstG, hbG, hkG⟩ := new_page wF (1 + u 0 % 3) (six (u 0) (u 1) (u 2) (u 3) (u 4) (u 5)) (sbyte x)
      have hd2 := dec_enc ((hbd.keep hkF (fun e => e)).keep hkG (fun e => e)) kq3 (sbyte_bd y) hv6
      clear hd1
      go_wp2_with (guard_target =~ wpList _ _ _ (Oper.mk _ (Op.store 30 _ _) _ _ _ _ :: _) _ _; refine wpList_store_run rfl 30 (.tmp 17) (.tmp 116) rfl (by rfl) (by rfl) hstG ?_)
      refine hd2.mono ?_
      rintro e wH ⟨rfl, hkH⟩
      obtain ⟨wI, hstI, hbI, hkI⟩ := new_page wH (1 + v 0 % 3) (six (v 0) (v 1) (v 2) (v 3) (v 4) (v 5)) (sbyte y)
      clear hd2 hstG
      go_wp2_with (guard_target =~ wpList _ _ _ (Oper.mk _ (Op.store 30 _ _) _ _ _ _ :: _) _ _; refine wpList_store_run rfl 30 (.tmp 19) (.tmp 121) rfl (by rfl) (by rfl) hstI ?_)
      have hFI := (hkF.trans hkG).trans (hkH.trans hkI)
      have hEI : Keep (fun _ => False) wC wI := hkD.trans (hkE.trans hFI)
      have HKw := HKc.trans hEI
      have same : ∀ w' : World, w'.heap = wI.heap → ∀ {b n : Nat} {f : Nat → Value}, Blk wI b n f → Blk w' b n f := fun w' h b n f hb => hb.of_block (by rw [h])
      have lp := fun (w' : World) (h : w'.heap = wI.heap) => loadAt_page (same w' h (hP.keep hEI (fun e => e)))
      have lq := fun (w' : World) (h : w'.heap = wI.heap) => loadAt_page (same w' h (hbC.keep hEI (fun e => e)))
      have lr := fun (w' : World) (h : w'.heap = wI.heap) => loadAt_page (same w' h (hbG.keep (hkH.trans hkI) (fun e => e)))
      have ls := fun (w' : World) (h : w'.heap = wI.heap) => loadAt_page (same w' h hbI)
      have htc := fun (w' : World) (h : w'.heap = wI.heap) => ((same w' h (hbcE.keep hFI (fun e => e))).page_row kp3 (sbyte_bd x)).text
      have htd := fun (w' : World) (h : w'.heap = wI.heap) => ((same w' h (hbd.keep hFI (fun e => e))).page_row kq3 (sbyte_bd y)).text
      have hS := bytes_same hu6 hv6 kp3 kq3 (sbyte_bd x) (sbyte_bd y)
      generalize strOfNums (tab 68 (ebyte (1 + u 0 % 3) (six (u 0) (u 1) (u 2) (u 3) (u 4) (u 5)) (sbyte x))) = Sc at htc hS
      generalize strOfNums (tab 68 (ebyte (1 + v 0 % 3) (six (v 0) (v 1) (v 2) (v 3) (v 4) (v 5)) (sbyte y))) = Sd at htd hS
      obtain ⟨s1, hs1⟩ : ∃ s1, samePage (1 + u 0 % 3) (1 + v 0 % 3) (six (u 0) (u 1) (u 2) (u 3) (u 4) (u 5)) (six (v 0) (v 1) (v 2) (v 3) (v 4) (v 5)) (sbyte x) (sbyte y) = s1 := ⟨_, rfl⟩
      rw [hs1] at hS
      clear hstI hbG hbI hP hbC hbc hbd hbcE hEI hFI same HKc HKB HKC hbB
      refine wp_region_noPanic ?_
      refine wp_region_held_drew (S := fun w' => w'.heap = wI.heap) (by kernel_rfl) rfl (fun hHeld => ?_)
      refine' wpAnyH_take (i := 0) (oi := { dst := some 123, op := Op.move (Operand.tmp 18), type := 24, pos := "more.go:24", after := #[], guard := none }) (v := _) rfl (by kernel_rfl) (by kernel_rfl) (by kernel_rfl) (fun _ _ _ h => h) (Or.inl ⟨by rfl, ?hyznb0⟩) hHeld ?rznb0
      case hyznb0 => (intro w' hSw; clear hSw; go_simp; try with_reducible rfl)
      simp only [Act.put, List.setIfInBounds_toArray, List.set_cons_zero, List.set_cons_succ]
      refine' wpAnyH_take (i := 1) (oi := { dst := some 124, op := Op.binOp BinOp.eql 24 (Operand.tmp 123) (Operand.const (Value.int IntKind.i64 0)) 24, type := 4, pos := "more.go:24", after := #[{ on := 0, ground := Ground.data }], guard := none }) (v := _) rfl (by kernel_rfl) (by kernel_rfl) (by kernel_rfl) (fun _ _ _ h => h) (Or.inl ⟨by rfl, ?hyznb1⟩) hHeld ?rznb1
      case hyznb1 => (intro w' hSw; clear hSw; go_simp; try with_reducible rfl)
      simp only [Act.put, List.setIfInBounds_toArray, List.set_cons_zero, List.set_cons_succ]
      refine' wpAnyH_take (i := 2) (oi := { dst := some 125, op := Op.move (Operand.tmp 124), type := 4, pos := "more.go:24", after := #[{ on := 1, ground := Ground.data }], guard := none }) (v := _) rfl (by kernel_rfl) (by kernel_rfl) (by kernel_rfl) (fun _ _ _ h => h) (Or.inl ⟨by rfl, ?hyznb2⟩) hHeld ?rznb2
      case hyznb2 => (intro w' hSw; clear hSw; go_simp; try with_reducible rfl)
      simp only [Act.put, List.setIfInBounds_toArray, List.set_cons_zero, List.set_cons_succ]
      refine' wpAnyH_take (i := 3) (oi := { dst := some 126, op := Op.move (Operand.tmp 20), type := 24, pos := "more.go:24", after := #[{ on := 2, ground := Ground.guard }], guard := some (2, true) }) (v := _) rfl (by kernel_rfl) (by kernel_rfl) (by kernel_rfl) (fun _ _ _ h => h) (Or.inl ⟨by rfl, ?hyznb3⟩) hHeld ?rznb3
      case hyznb3 => (intro w' hSw; clear hSw; go_simp; try with_reducible rfl)
      simp only [Act.put, List.setIfInBounds_toArray, List.set_cons_zero, List.set_cons_succ]
      refine' wpAnyH_take (i := 4) (oi := { dst := some 127, op := Op.binOp BinOp.eql 24 (Operand.tmp 126) (Operand.const (Value.int IntKind.i64 0)) 24, type := 4, pos := "more.go:24", after := #[{ on := 3, ground := Ground.data }, { on := 2, ground := Ground.guard }], guard := some (2, true) }) (v := _) rfl (by kernel_rfl) (by kernel_rfl) (by kernel_rfl) (fun _ _ _ h => h) (Or.inl ⟨by rfl, ?hyznb4⟩) hHeld ?rznb4
      case hyznb4 => (intro w' hSw; clear hSw; go_simp; try with_reducible rfl)
      simp only [Act.put, List.setIfInBounds_toArray, List.set_cons_zero, List.set_cons_succ]
      refine' wpAnyH_take (i := 5) (oi := { dst := some 128, op := Op.pick (Operand.tmp 125) (Operand.tmp 127) (Operand.const (Value.bool false)), type := 4, pos := "more.go:24", after := #[{ on := 2, ground := Ground.data }, { on := 4, ground := Ground.data }], guard := none }) (v := _) rfl (by kernel_rfl) (by kernel_rfl) (by kernel_rfl) (fun _ _ _ h => h) (Or.inl ⟨by rfl, ?hyznb5⟩) hHeld ?rznb5
      case hyznb5 => (intro w' hSw; clear hSw; go_simp; try with_reducible rfl)
      simp only [Act.put, List.setIfInBounds_toArray, List.set_cons_zero, List.set_cons_succ]
      refine' wpAnyH_take (i := 6) (oi := { dst := some 129, op := Op.move (Operand.tmp 128), type := 4, pos := "more.go:24", after := #[{ on := 5, ground := Ground.data }, { on := 2, ground := Ground.chain }], guard := none }) (v := _) rfl (by kernel_rfl) (by kernel_rfl) (by kernel_rfl) (fun _ _ _ h => h) (Or.inl ⟨by rfl, ?hyznb6⟩) hHeld ?rznb6
      case hyznb6 => (intro w' hSw; clear hSw; go_simp; try with_reducible rfl)
      simp only [Act.put, List.setIfInBounds_toArray, List.set_cons_zero, List.set_cons_succ]
      refine' wpAnyH_take (i := 7) (oi := { dst := some 130, op := Op.move (Operand.tmp 13), type := 23, pos := "more.go:24", after := #[{ on := 6, ground := Ground.guard }], guard := some (6, true) }) (v := _) rfl (by kernel_rfl) (by kernel_rfl) (by kernel_rfl) (fun _ _ _ h => h) (Or.inl ⟨by rfl, ?hyznb7⟩) hHeld ?rznb7
      case hyznb7 => (intro w' hSw; clear hSw; go_simp; try with_reducible rfl)
      simp only [Act.put, List.setIfInBounds_toArray, List.set_cons_zero, List.set_cons_succ]
      refine' wpAnyH_take (i := 8) (oi := { dst := some 131, op := Op.convert 23 9 (Operand.tmp 130), type := 9, pos := "more.go:24", after := #[{ on := 7, ground := Ground.data }, { on := 6, ground := Ground.guard }], guard := some (6, true) }) (v := (.string Sc)) rfl (by kernel_rfl) (by kernel_rfl) (by kernel_rfl) (fun _ _ _ h => h) (yields_conv (by rfl) 23 9 (.tmp 130) rfl (by rfl) (fun w' h => htc w' h)) hHeld ?rznb8
      simp only [Act.put, List.setIfInBounds_toArray, List.set_cons_zero, List.set_cons_succ]
      refine' wpAnyH_take (i := 9) (oi := { dst := some 132, op := Op.move (Operand.tmp 15), type := 23, pos := "more.go:24", after := #[{ on := 6, ground := Ground.guard }], guard := some (6, true) }) (v := _) rfl (by kernel_rfl) (by kernel_rfl) (by kernel_rfl) (fun _ _ _ h => h) (Or.inl ⟨by rfl, ?hyznb9⟩) hHeld ?rznb9
      case hyznb9 => (intro w' hSw; clear hSw; go_simp; try with_reducible rfl)
      simp only [Act.put, List.setIfInBounds_toArray, List.set_cons_zero, List.set_cons_succ]
      refine' wpAnyH_take (i := 10) (oi := { dst := some 133, op := Op.convert 23 9 (Operand.tmp 132), type := 9, pos := "more.go:24", after := #[{ on := 9, ground := Ground.data }, { on := 6, ground := Ground.guard }], guard := some (6, true) }) (v := (.string Sd)) rfl (by kernel_rfl) (by kernel_rfl) (by kernel_rfl) (fun _ _ _ h => h) (yields_conv (by rfl) 23 9 (.tmp 132) rfl (by rfl) (fun w' h => htd w' h)) hHeld ?rznb10
      simp only [Act.put, List.setIfInBounds_toArray, List.set_cons_zero, List.set_cons_succ]
      refine' wpAnyH_take (i := 11) (oi := { dst := some 134, op := Op.binOp BinOp.eql 9 (Operand.tmp 131) (Operand.tmp 133) 9, type := 4, pos := "more.go:24", after := #[{ on := 8, ground := Ground.data }, { on := 10, ground := Ground.data }, { on := 6, ground := Ground.guard }], guard := some (6, true) }) (v := _) rfl (by kernel_rfl) (by kernel_rfl) (by kernel_rfl) (fun _ _ _ h => h) (Or.inl ⟨by rfl, ?hyznb11⟩) hHeld ?rznb11
      case hyznb11 => (intro w' hSw; clear hSw; go_simp; try with_reducible rfl)
      simp only [Act.put, List.setIfInBounds_toArray, List.set_cons_zero, List.set_cons_succ]
      refine' wpAnyH_take (i := 12) (oi := { dst := some 135, op := Op.load 30 (Operand.tmp 11), type := 30, pos := "more.go:24", after := #[{ on := 6, ground := Ground.guard }], guard := some (6, true) }) (v := (.agg (pageA (1 + u 0 % 3) (six (u 0) (u 1) (u 2) (u 3) (u 4) (u 5)) (sbyte x)))) rfl (by kernel_rfl) (by kernel_rfl) (by kernel_rfl) (fun _ _ _ h => h) (yields_load (by rfl) 30 (.tmp 11) rfl (by rfl) (fun w' h => lp w' h)) hHeld ?rznb12
      simp only [Act.put, List.setIfInBounds_toArray, List.set_cons_zero, List.set_cons_succ]
      refine' wpAnyH_take (i := 13) (oi := { dst := some 136, op := Op.load 30 (Operand.tmp 12), type := 30, pos := "more.go:24", after := #[{ on := 6, ground := Ground.guard }], guard := some (6, true) }) (v := (.agg (pageA (1 + v 0 % 3) (six (v 0) (v 1) (v 2) (v 3) (v 4) (v 5)) (sbyte y)))) rfl (by kernel_rfl) (by kernel_rfl) (by kernel_rfl) (fun _ _ _ h => h) (yields_load (by rfl) 30 (.tmp 12) rfl (by rfl) (fun w' h => lq w' h)) hHeld ?rznb13
      simp only [Act.put, List.setIfInBounds_toArray, List.set_cons_zero, List.set_cons_succ]
      refine' wpAnyH_take (i := 14) (oi := { dst := some 137, op := Op.binOp BinOp.eql 30 (Operand.tmp 135) (Operand.tmp 136) 30, type := 4, pos := "more.go:24", after := #[{ on := 12, ground := Ground.data }, { on := 13, ground := Ground.data }, { on := 6, ground := Ground.guard }], guard := some (6, true) }) (v := (.bool s1)) rfl (by kernel_rfl) (by kernel_rfl) (by kernel_rfl) (fun _ _ _ h => h) (yields_eq30 (by rfl) (.tmp 135) (.tmp 136) rfl (by rfl) (by rfl) hs1) hHeld ?rznb14
      simp only [Act.put, List.setIfInBounds_toArray, List.set_cons_zero, List.set_cons_succ]
      refine' wpAnyH_take (i := 15) (oi := { dst := some 138, op := Op.binOp BinOp.eql 4 (Operand.tmp 134) (Operand.tmp 137) 4, type := 4, pos := "more.go:24", after := #[{ on := 11, ground := Ground.data }, { on := 14, ground := Ground.data }, { on := 6, ground := Ground.guard }], guard := some (6, true) }) (v := _) rfl (by kernel_rfl) (by kernel_rfl) (by kernel_rfl) (fun _ _ _ h => h) (Or.inl ⟨by rfl, ?hyznb15⟩) hHeld ?rznb15
      case hyznb15 => (intro w' hSw; clear hSw; go_simp; try with_reducible rfl)
      simp only [Act.put, List.setIfInBounds_toArray, List.set_cons_zero, List.set_cons_succ]
      refine' wpAnyH_take (i := 16) (oi := { dst := some 139, op := Op.pick (Operand.tmp 129) (Operand.tmp 138) (Operand.const (Value.bool false)), type := 4, pos := "more.go:24", after := #[{ on := 6, ground := Ground.data }, { on := 15, ground := Ground.data }], guard := none }) (v := _) rfl (by kernel_rfl) (by kernel_rfl) (by kernel_rfl) (fun _ _ _ h => h) (Or.inl ⟨by rfl, ?hyznb16⟩) hHeld ?rznb16
      case hyznb16 => (intro w' hSw; clear hSw; go_simp; try with_reducible rfl)
      simp only [Act.put, List.setIfInBounds_toArray, List.set_cons_zero, List.set_cons_succ]
      refine' wpAnyH_take (i := 17) (oi := { dst := some 140, op := Op.move (Operand.tmp 139), type := 4, pos := "more.go:24", after := #[{ on := 16, ground := Ground.data }, { on := 6, ground := Ground.chain }], guard := none }) (v := _) rfl (by kernel_rfl) (by kernel_rfl) (by kernel_rfl) (fun _ _ _ h => h) (Or.inl ⟨by rfl, ?hyznb17⟩) hHeld ?rznb17
      case hyznb17 => (intro w' hSw; clear hSw; go_simp; try with_reducible rfl)
      simp only [Act.put, List.setIfInBounds_toArray, List.set_cons_zero, List.set_cons_succ]
      refine' wpAnyH_take (i := 18) (oi := { dst := some 141, op := Op.load 30 (Operand.tmp 17), type := 30, pos := "more.go:24", after := #[{ on := 17, ground := Ground.guard }], guard := some (17, true) }) (v := (.agg (pageA (1 + u 0 % 3) (six (u 0) (u 1) (u 2) (u 3) (u 4) (u 5)) (sbyte x)))) rfl (by kernel_rfl) (by kernel_rfl) (by kernel_rfl) (fun _ _ _ h => h) (yields_load (by rfl) 30 (.tmp 17) rfl (by rfl) (fun w' h => lr w' h)) hHeld ?rznb18
      simp only [Act.put, List.setIfInBounds_toArray, List.set_cons_zero, List.set_cons_succ]
      refine' wpAnyH_take (i := 19) (oi := { dst := some 142, op := Op.load 30 (Operand.tmp 19), type := 30, pos := "more.go:24", after := #[{ on := 17, ground := Ground.guard }], guard := some (17, true) }) (v := (.agg (pageA (1 + v 0 % 3) (six (v 0) (v 1) (v 2) (v 3) (v 4) (v 5)) (sbyte y)))) rfl (by kernel_rfl) (by kernel_rfl) (by kernel_rfl) (fun _ _ _ h => h) (yields_load (by rfl) 30 (.tmp 19) rfl (by rfl) (fun w' h => ls w' h)) hHeld ?rznb19
      simp only [Act.put, List.setIfInBounds_toArray, List.set_cons_zero, List.set_cons_succ]
      refine' wpAnyH_take (i := 20) (oi := { dst := some 143, op := Op.binOp BinOp.eql 30 (Operand.tmp 141) (Operand.tmp 142) 30, type := 4, pos := "more.go:24", after := #[{ on := 18, ground := Ground.data }, { on := 19, ground := Ground.data }, { on := 17, ground := Ground.guard }], guard := some (17, true) }) (v := (.bool s1)) rfl (by kernel_rfl) (by kernel_rfl) (by kernel_rfl) (fun _ _ _ h => h) (yields_eq30 (by rfl) (.tmp 141) (.tmp 142) rfl (by rfl) (by rfl) hs1) hHeld ?rznb20
      simp only [Act.put, List.setIfInBounds_toArray, List.set_cons_zero, List.set_cons_succ]
      refine' wpAnyH_take (i := 21) (oi := { dst := some 144, op := Op.load 30 (Operand.tmp 11), type := 30, pos := "more.go:24", after := #[{ on := 17, ground := Ground.guard }], guard := some (17, true) }) (v := (.agg (pageA (1 + u 0 % 3) (six (u 0) (u 1) (u 2) (u 3) (u 4) (u 5)) (sbyte x)))) rfl (by kernel_rfl) (by kernel_rfl) (by kernel_rfl) (fun _ _ _ h => h) (yields_load (by rfl) 30 (.tmp 11) rfl (by rfl) (fun w' h => lp w' h)) hHeld ?rznb21
      simp only [Act.put, List.setIfInBounds_toArray, List.set_cons_zero, List.set_cons_succ]
      refine' wpAnyH_take (i := 22) (oi := { dst := some 145, op := Op.load 30 (Operand.tmp 12), type := 30, pos := "more.go:24", after := #[{ on := 17, ground := Ground.guard }], guard := some (17, true) }) (v := (.agg (pageA (1 + v 0 % 3) (six (v 0) (v 1) (v 2) (v 3) (v 4) (v 5)) (sbyte y)))) rfl (by kernel_rfl) (by kernel_rfl) (by kernel_rfl) (fun _ _ _ h => h) (yields_load (by rfl) 30 (.tmp 12) rfl (by rfl) (fun w' h => lq w' h)) hHeld ?rznb22
      simp only [Act.put, List.setIfInBounds_toArray, List.set_cons_zero, List.set_cons_succ]
      refine' wpAnyH_take (i := 23) (oi := { dst := some 146, op := Op.binOp BinOp.eql 30 (Operand.tmp 144) (Operand.tmp 145) 30, type := 4, pos := "more.go:24", after := #[{ on := 21, ground := Ground.data }, { on := 22, ground := Ground.data }, { on := 17, ground := Ground.guard }], guard := some (17, true) }) (v := (.bool s1)) rfl (by kernel_rfl) (by kernel_rfl) (by kernel_rfl) (fun _ _ _ h => h) (yields_eq30 (by rfl) (.tmp 144) (.tmp 145) rfl (by rfl) (by rfl) hs1) hHeld ?rznb23
      simp only [Act.put, List.setIfInBounds_toArray, List.set_cons_zero, List.set_cons_succ]
      refine' wpAnyH_take (i := 24) (oi := { dst := some 147, op := Op.binOp BinOp.eql 4 (Operand.tmp 143) (Operand.tmp 146) 4, type := 4, pos := "more.go:24", after := #[{ on := 20, ground := Ground.data }, { on := 23, ground := Ground.data }, { on := 17, ground := Ground.guard }], guard := some (17, true) }) (v := _) rfl (by kernel_rfl) (by kernel_rfl) (by kernel_rfl) (fun _ _ _ h => h) (Or.inl ⟨by rfl, ?hyznb24⟩) hHeld ?rznb24
      case hyznb24 => (intro w' hSw; clear hSw; go_simp; try with_reducible rfl)
      simp only [Act.put, List.setIfInBounds_toArray, List.set_cons_zero, List.set_cons_succ]
      refine' wpAnyH_take (i := 25) (oi := { dst := some 148, op := Op.pick (Operand.tmp 140) (Operand.tmp 147) (Operand.const (Value.bool false)), type := 4, pos := "more.go:24", after := #[{ on := 17, ground := Ground.data }, { on := 24, ground := Ground.data }], guard := none }) (v := _) rfl (by kernel_rfl) (by kernel_rfl) (by kernel_rfl) (fun _ _ _ h => h) (Or.inl ⟨by rfl, ?hyznb25⟩) hHeld ?rznb25
      case hyznb25 => (intro w' hSw; clear hSw; go_simp; try with_reducible rfl)
      simp only [Act.put, List.setIfInBounds_toArray, List.set_cons_zero, List.set_cons_succ]
      refine' wpAnyH_take (i := 26) (oi := { dst := some 8, op := Op.assign (Operand.tmp 148), type := 4, pos := "more.go:24", after := #[{ on := 25, ground := Ground.data }, { on := 17, ground := Ground.chain }, { on := 0, ground := Ground.phase }, { on := 1, ground := Ground.phase }, { on := 2, ground := Ground.phase }, { on := 3, ground := Ground.phase }, { on := 4, ground := Ground.phase }, { on := 5, ground := Ground.phase }, { on := 6, ground := Ground.phase }, { on := 7, ground := Ground.phase }, { on := 8, ground := Ground.phase }, { on := 9, ground := Ground.phase }, { on := 10, ground := Ground.phase }, { on := 11, ground := Ground.phase }, { on := 12, ground := Ground.phase }, { on := 13, ground := Ground.phase }, { on := 14, ground := Ground.phase }, { on := 15, ground := Ground.phase }, { on := 16, ground := Ground.phase }, { on := 17, ground := Ground.phase }, { on := 18, ground := Ground.phase }, { on := 19, ground := Ground.phase }, { on := 20, ground := Ground.phase }, { on := 21, ground := Ground.phase }, { on := 22, ground := Ground.phase }, { on := 23, ground := Ground.phase }, { on := 24, ground := Ground.phase }, { on := 25, ground := Ground.phase }], guard := none }) (v := _) rfl (by kernel_rfl) (by kernel_rfl) (by kernel_rfl) (fun _ _ _ h => h) (Or.inl ⟨by rfl, ?hyznb26⟩) hHeld ?rznb26
      case hyznb26 => (intro w' hSw; clear hSw; go_simp; try with_reducible rfl)
      simp only [Act.put, List.setIfInBounds_toArray, List.set_cons_zero, List.set_cons_succ]
      refine wpAnyH_done (by kernel_rfl) ?_ _
      refine NoPanic.normal ?_
      go_wp2_with fail
      go_ret
      exact ⟨rfl, HKw.drew⟩
end Tg
end Go.Proofs.Ytgohmjidbbecpaa
