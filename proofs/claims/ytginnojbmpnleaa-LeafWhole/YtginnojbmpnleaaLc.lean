/-
  A page with one field changed, as the statements change it: some page or other.
-/
import Derived.Test.YtginnojbmpnleaaLs
namespace Go.Proofs.Ytginnojbmpnleaa
open Go.ChangeShapes Go.WideShapes Go.ChangeAt Go.RowKit
namespace Tg
theorem u32_bd (x : Int) : 0 ≤ IntKind.u32.wrap x ∧ IntKind.u32.wrap x ≤ 4294967295 := by rw [IntKind.wrap_u32]; omega
theorem u8_bd (x : Int) : 0 ≤ IntKind.u8.wrap x ∧ IntKind.u8.wrap x ≤ 255 := by rw [IntKind.wrap_u8]; omega
theorem xor32_bd (a b : Int) : 0 ≤ bits .xor .u32 a b ∧ bits .xor .u32 a b ≤ 4294967295 := u32_bd _
theorem xor8_bd (a b : Int) : 0 ≤ bits .xor .u8 a b ∧ bits .xor .u8 a b ≤ 255 := u8_bd _
theorem and64_bd (a b : Int) : -9223372036854775808 ≤ bits .and .i64 a b ∧ bits .and .i64 a b ≤ 9223372036854775807 := wrap_rng _
theorem and31 (v : Int) : ∃ j : Nat, j < 32 ∧ bits .and .i64 v 31 = (j : Int) := by
  refine ⟨(BitVec.ofInt 64 v &&& BitVec.ofInt 64 31).toNat, ?_, ?_⟩
  · rw [BitVec.toNat_and]
    exact Nat.and_lt_two_pow (n := 5) _ (by decide)
  · have h : (BitVec.ofInt 64 v &&& BitVec.ofInt 64 31).toNat < 32 := by
      rw [BitVec.toNat_and]
      exact Nat.and_lt_two_pow (n := 5) _ (by decide)
    show IntKind.i64.wrap ((BitVec.ofInt 64 v &&& BitVec.ofInt 64 31).toNat : Int) = _
    rw [IntKind.wrap_i64]
    omega
theorem pg0_lst : pgA pg0 = List.toArray (Value.int IntKind.i64 0 :: Value.int IntKind.u32 0 :: Value.int IntKind.u32 0 :: Value.int IntKind.u32 0 :: Value.int IntKind.u32 0 :: Value.int IntKind.u32 0 :: Value.int IntKind.u32 0 :: Value.int IntKind.u8 0 :: Value.int IntKind.u8 0 :: Value.int IntKind.u8 0 :: Value.int IntKind.u8 0 :: Value.int IntKind.u8 0 :: Value.int IntKind.u8 0 :: Value.int IntKind.u8 0 :: Value.int IntKind.u8 0 :: Value.int IntKind.u8 0 :: Value.int IntKind.u8 0 :: Value.int IntKind.u8 0 :: Value.int IntKind.u8 0 :: Value.int IntKind.u8 0 :: Value.int IntKind.u8 0 :: Value.int IntKind.u8 0 :: Value.int IntKind.u8 0 :: Value.int IntKind.u8 0 :: Value.int IntKind.u8 0 :: Value.int IntKind.u8 0 :: Value.int IntKind.u8 0 :: Value.int IntKind.u8 0 :: Value.int IntKind.u8 0 :: Value.int IntKind.u8 0 :: Value.int IntKind.u8 0 :: Value.int IntKind.u8 0 :: Value.int IntKind.u8 0 :: Value.int IntKind.u8 0 :: Value.int IntKind.u8 0 :: Value.int IntKind.u8 0 :: Value.int IntKind.u8 0 :: Value.int IntKind.u8 0 :: Value.int IntKind.u8 0 :: []) := rfl
theorem step_load_run {P : Program} {ops : Array Oper} {o : Oper} {a : Act} {w : World} {K : Act → World → Prop} {Q : Exit → Act → World → Prop} {E : Prop}
    (hw : Region.wanted o (yielded ops a.tmps) = true) (t : TypeId) (x : Operand) (hop : o.op = Op.load t x) {v1 v' : Value} {w' : World} (hx : a.eval x = v1) (hrun : (Instr.loadAt t v1).run P w = .ok v' w')
    (hK : K (a.put o.dst v') w') : if Region.wanted o (yielded ops a.tmps) = true then Oper.wp P o a w K Q else E := by
  rw [if_pos hw]
  unfold Oper.wp
  simp [execOp, hop, hx, hrun, Result.andThen]
  exact hK
theorem load5 {w : World} {b o : Nat} {v : Int} (h : w.cell? ⟨b, o, none⟩ = some (.int .u8 v)) : (Instr.loadAt 5 (.pointer (some ⟨b, o, none⟩))).run Try.prog w = .ok (.int .u8 v) w := by
  go_simp
theorem store5 {w : World} {b o : Nat} {u v : Int} (h : w.cell? ⟨b, o, none⟩ = some (.int .u8 u)) (hf : w.frozen? ⟨b, o, none⟩ = false) : (Instr.storeAt 5 (.pointer (some ⟨b, o, none⟩)) (.int .u8 v)).run Try.prog w = .ok () (w.setCell ⟨b, o, none⟩ (.int .u8 v)) := by
  go_simp
/-- One field of a page in memory is stored. -/
theorem Pv.set {w : World} {b : Nat} {p q : Pg} (h : Pv w b p) (j : Nat) (v : Value) (e : ∀ i, i < 39 → pcl q i = if i = j then v else pcl p i) : Pv (w.setCell ⟨b, j, none⟩ v) b q :=
  Blk.congr (Blk.set h j v) (fun i hi => (e i hi).symm)
theorem pcl_pay (p : Pg) {j : Nat} (h : 7 ≤ j) : pcl p j = .int .u8 (p.pay.getD (j - 7) 0) := by
  unfold pcl
  rw [if_neg (by omega), if_neg (by omega), if_neg (by omega), if_neg (by omega), if_neg (by omega), if_neg (by omega), if_neg (by omega)]
set_option maxRecDepth 100000 in
set_option maxHeartbeats 1000000 in
theorem changed_any {q : Pg} (hq : q.Ok) (f0 f1 f2 f3 : Int) (w : World) :
    Calls Try.prog 16 #[.agg (pgA q), .agg #[.int .i64 f0, .int .i64 f1, .int .i64 f2, .int .i64 f3]] w fun e w' => ∃ q' : Pg, q'.Ok ∧ e = .returned (.agg (pgA q')) ∧ Keep (fun _ => False) w w' := by
  have hsz := pgA_size q
  have P1 := Pv.new w q
  have K3 := (((Keep.refl (fun _ => False) w).alloc (.cells (pgA q) 33)).alloc (.cells #[.int .i64 f0, .int .i64 f1, .int .i64 f2, .int .i64 f3] 45)).alloc (.cells (pgA pg0) 33)
  have k1 := ((Keep.refl (fun _ => False) (w.alloc (.cells (pgA q) 33))).alloc (.cells #[.int .i64 f0, .int .i64 f1, .int .i64 f2, .int .i64 f3] 45)).alloc (.cells (pgA pg0) 33)
  have P3 := P1.more k1
  have e1 : (w.alloc (.cells (pgA q) 33)).heap.size = w.heap.size + 1 := by simp
  have e2 : ((w.alloc (.cells (pgA q) 33)).alloc (.cells #[.int .i64 f0, .int .i64 f1, .int .i64 f2, .int .i64 f3] 45)).heap.size = w.heap.size + 1 + 1 := by simp
  have B2 := blk_alloc (w.alloc (.cells (pgA q) 33)) #[.int .i64 f0, .int .i64 f1, .int .i64 f2, .int .i64 f3] 45 4 (fun i => if i = 0 then .int .i64 f0 else if i = 1 then .int .i64 f1 else if i = 2 then .int .i64 f2 else .int .i64 f3) (by intro k hk; rcases (by omega : k = 0 ∨ k = 1 ∨ k = 2 ∨ k = 3) with rfl | rfl | rfl | rfl <;> rfl)
  rw [e1] at B2
  have B3 := B2.keep ((Keep.refl (fun _ => False) _).alloc (.cells (pgA pg0) 33)) (fun e => e)
  have Z3 := Pv.new ((w.alloc (.cells (pgA q) 33)).alloc (.cells #[.int .i64 f0, .int .i64 f1, .int .i64 f2, .int .i64 f3] 45)) pg0
  rw [e2] at Z3
  have c2 : _ = some (Value.int .i64 f2) := (B3 2 (by omega)).1
  have c3 : _ = some (Value.int .i64 f3) := (B3 3 (by omega)).1
  have hlw : w.heap.size ≤ w.heap.size := Nat.le_refl _
  generalize hA : pgA q = A at hsz K3 P3 Z3 c2 c3
  generalize hb : w.heap.size = b at P3 Z3 c2 c3 hlw
  clear P1 k1 e1 e2 B2 B3
  have fin : ∀ (wx : World) (q' : Pg), q'.Ok → Pv wx b q' → Pv wx (b + 1 + 1) pg0 → Keep (fun _ => False) w wx → (Instr.loadAt 33 (.pointer (some ⟨b, 0, none⟩))).run Try.prog wx = .ok (.agg (pgA q')) wx ∧ ∃ w', (Instr.storeAt 33 (.pointer (some ⟨b + 1 + 1, 0, none⟩)) (.agg (pgA q'))).run Try.prog wx = .ok () w' ∧ Keep (fun _ => False) w w' ∧ (Go.loadVar 33 ⟨b + 1 + 1, 0, none⟩).run Try.prog w' = .ok (.agg (pgA q')) w' := fun wx q' ho hp hz hk => by
    obtain ⟨w', h1, h2, h3⟩ := hz.over q'
    exact ⟨hp.load, w', h1, hk.next h3 (fun x hx e => by omega), h2.loadVar⟩
  have oth : ∀ (wx : World) (j : Nat) (v : Value), Pv wx (b + 1 + 1) pg0 → Pv (wx.setCell ⟨b, j, none⟩ v) (b + 1 + 1) pg0 := fun wx j v h => Blk.other h (by show b + 1 + 1 ≠ b; omega) v
  have kst : ∀ (wx : World) (j : Nat) (v : Value), Keep (fun _ => False) w wx → Keep (fun _ => False) w (wx.setCell ⟨b, j, none⟩ v) := fun wx j v h => h.setCell (Or.inr (by show w.heap.size ≤ b; omega)) v
  go_enter Try.func16, Try.ntmps16
  go_upto_region 1 with fail
  rw [← pg0_lst]
  generalize ((w.alloc (.cells A 33)).alloc (.cells #[.int .i64 f0, .int .i64 f1, .int .i64 f2, .int .i64 f3] 45)).alloc (.cells (pgA pg0) 33) = w3 at K3 P3 Z3 c2 c3
  clear hsz hA hlw hb
  have x0 := P3.kind
  have x1 := P3.lba
  have x2 : w3.cell? ⟨b, 2, none⟩ = some (.int .u32 q.seq) := (P3 2 (by omega)).1
  have x5 := P3.ix
  have x6 := P3.tot
  have y0 := (P3 0 (by omega)).2
  have y1 := (P3 1 (by omega)).2
  have y2 := (P3 2 (by omega)).2
  have y5 := (P3 5 (by omega)).2
  have y6 := (P3 6 (by omega)).2
  generalize hV : IntKind.u32.wrap (bits .and .i64 f3 255) = V
  have hVb : 0 ≤ V ∧ V ≤ 4294967295 := by rw [← hV]; exact u32_bd _
  by_cases d1 : f2 = 1
  · subst d1
    have ho : ({ q with lba := bits .xor .u32 q.lba V } : Pg).Ok := ⟨hq.kind, xor32_bd _ _, hq.seq, hq.ep, hq.gr, hq.ix, hq.tot, hq.len, hq.pay⟩
    have P4 : Pv (w3.setCell ⟨b, 1, none⟩ (.int .u32 (bits .xor .u32 q.lba V))) b { q with lba := bits .xor .u32 q.lba V } := P3.set 1 _ (fun i hi => by
      by_cases e : i = 1
      · subst e; rfl
      · rw [if_neg e]
        by_cases h7 : 7 ≤ i
        · rw [pcl_pay _ h7, pcl_pay _ h7]
        · rcases (by omega : i = 0 ∨ i = 1 ∨ i = 2 ∨ i = 3 ∨ i = 4 ∨ i = 5 ∨ i = 6) with rfl | rfl | rfl | rfl | rfl | rfl | rfl <;> first | rfl | exact absurd rfl e)
    have Z4 := oth _ 1 (.int .u32 (bits .xor .u32 q.lba V)) Z3
    have K4 := kst _ 1 (.int .u32 (bits .xor .u32 q.lba V)) K3
    obtain ⟨hld, wz, hst, kz, hlv⟩ := fin _ _ ho P4 Z4 K4
    clear fin oth kst
    go_wp2_with (first | (guard_target =~ wpList _ _ _ (Oper.mk _ (Op.load 33 _) _ _ _ _ :: _) _ _; refine wpList_load_run (by rfl) 33 (.tmp 2) rfl (by rfl) hld ?_) | (guard_target =~ wpList _ _ _ (Oper.mk _ (Op.store 33 _ _) _ _ _ _ :: _) _ _; refine wpList_store_run rfl 33 (.tmp 4) (.tmp 62) rfl (by rfl) (by rfl) hst ?_))
    refine bodyPost_ret (v := .agg (pgA { q with lba := bits .xor .u32 q.lba V })) ?_ rfl ⟨_, ho, rfl, kz⟩
    rw [results_cell rfl]
    simp [asAddr, Result.andThen, hlv, Act.put]
  have g1 : (f2 == 1) = false := by simp [d1]
  by_cases d2 : f2 = 2
  · subst d2
    have ho : ({ q with tot := bits .xor .u32 q.tot V } : Pg).Ok := ⟨hq.kind, hq.lba, hq.seq, hq.ep, hq.gr, hq.ix, xor32_bd _ _, hq.len, hq.pay⟩
    have P4 : Pv (w3.setCell ⟨b, 6, none⟩ (.int .u32 (bits .xor .u32 q.tot V))) b { q with tot := bits .xor .u32 q.tot V } := P3.set 6 _ (fun i hi => by
      by_cases e : i = 6
      · subst e; rfl
      · rw [if_neg e]
        by_cases h7 : 7 ≤ i
        · rw [pcl_pay _ h7, pcl_pay _ h7]
        · rcases (by omega : i = 0 ∨ i = 1 ∨ i = 2 ∨ i = 3 ∨ i = 4 ∨ i = 5 ∨ i = 6) with rfl | rfl | rfl | rfl | rfl | rfl | rfl <;> first | rfl | exact absurd rfl e)
    have Z4 := oth _ 6 (.int .u32 (bits .xor .u32 q.tot V)) Z3
    have K4 := kst _ 6 (.int .u32 (bits .xor .u32 q.tot V)) K3
    obtain ⟨hld, wz, hst, kz, hlv⟩ := fin _ _ ho P4 Z4 K4
    clear fin oth kst
    go_wp2_with (first | (guard_target =~ wpList _ _ _ (Oper.mk _ (Op.load 33 _) _ _ _ _ :: _) _ _; refine wpList_load_run (by rfl) 33 (.tmp 2) rfl (by rfl) hld ?_) | (guard_target =~ wpList _ _ _ (Oper.mk _ (Op.store 33 _ _) _ _ _ _ :: _) _ _; refine wpList_store_run rfl 33 (.tmp 4) (.tmp 62) rfl (by rfl) (by rfl) hst ?_))
    refine bodyPost_ret (v := .agg (pgA { q with tot := bits .xor .u32 q.tot V })) ?_ rfl ⟨_, ho, rfl, kz⟩
    rw [results_cell rfl]
    simp [asAddr, Result.andThen, hlv, Act.put]
  have g2 : (f2 == 2) = false := by simp [d2]
  by_cases d3 : f2 = 3
  · subst d3
    have ho : ({ q with ix := bits .xor .u32 q.ix V } : Pg).Ok := ⟨hq.kind, hq.lba, hq.seq, hq.ep, hq.gr, xor32_bd _ _, hq.tot, hq.len, hq.pay⟩
    have P4 : Pv (w3.setCell ⟨b, 5, none⟩ (.int .u32 (bits .xor .u32 q.ix V))) b { q with ix := bits .xor .u32 q.ix V } := P3.set 5 _ (fun i hi => by
      by_cases e : i = 5
      · subst e; rfl
      · rw [if_neg e]
        by_cases h7 : 7 ≤ i
        · rw [pcl_pay _ h7, pcl_pay _ h7]
        · rcases (by omega : i = 0 ∨ i = 1 ∨ i = 2 ∨ i = 3 ∨ i = 4 ∨ i = 5 ∨ i = 6) with rfl | rfl | rfl | rfl | rfl | rfl | rfl <;> first | rfl | exact absurd rfl e)
    have Z4 := oth _ 5 (.int .u32 (bits .xor .u32 q.ix V)) Z3
    have K4 := kst _ 5 (.int .u32 (bits .xor .u32 q.ix V)) K3
    obtain ⟨hld, wz, hst, kz, hlv⟩ := fin _ _ ho P4 Z4 K4
    clear fin oth kst
    go_wp2_with (first | (guard_target =~ wpList _ _ _ (Oper.mk _ (Op.load 33 _) _ _ _ _ :: _) _ _; refine wpList_load_run (by rfl) 33 (.tmp 2) rfl (by rfl) hld ?_) | (guard_target =~ wpList _ _ _ (Oper.mk _ (Op.store 33 _ _) _ _ _ _ :: _) _ _; refine wpList_store_run rfl 33 (.tmp 4) (.tmp 62) rfl (by rfl) (by rfl) hst ?_))
    refine bodyPost_ret (v := .agg (pgA { q with ix := bits .xor .u32 q.ix V })) ?_ rfl ⟨_, ho, rfl, kz⟩
    rw [results_cell rfl]
    simp [asAddr, Result.andThen, hlv, Act.put]
  have g3 : (f2 == 3) = false := by simp [d3]
  by_cases d4 : f2 = 4
  · subst d4
    obtain ⟨j, hj, hjv⟩ := and31 f3
    have p7 := P3.pay hj
    have pf := (P3 (7 + j) (by omega)).2
    have dj : (j : Int) < 32 := by omega
    obtain ⟨Y, hY⟩ : ∃ Y, q.pay.getD j 0 = Y := ⟨_, rfl⟩
    rw [hY] at p7
    obtain ⟨X, hX⟩ : ∃ X, X = bits .xor .u8 Y (IntKind.u8.wrap (bits .and .i64 (f3 / 32) 255)) := ⟨_, rfl⟩
    have hXb : 0 ≤ X ∧ X ≤ 255 := by rw [hX]; exact xor8_bd _ _
    have ho : ({ q with pay := q.pay.set j X } : Pg).Ok := ⟨hq.kind, hq.lba, hq.seq, hq.ep, hq.gr, hq.ix, hq.tot, by show (q.pay.set j X).length = 32; rw [List.length_set]; exact hq.len, fun x hx => by rcases List.mem_or_eq_of_mem_set hx with h | h; exact hq.pay x h; subst h; exact hXb⟩
    have P4 : Pv (w3.drew.setCell ⟨b, 7 + j, none⟩ (.int .u8 X)) b { q with pay := q.pay.set j X } := Pv.set (P3.more (Keep.refl _ w3).drew) (7 + j) _ (fun i hi => by
      by_cases h7 : 7 ≤ i
      · rw [pcl_pay _ h7, pcl_pay _ h7]
        by_cases e : i = 7 + j
        · subst e
          rw [if_pos rfl, show 7 + j - 7 = j by omega]
          show Value.int .u8 ((q.pay.set j X).getD j 0) = _
          simp [List.getD, hq.len, hj]
        · rw [if_neg e]
          show Value.int .u8 ((q.pay.set j X).getD (i - 7) 0) = _
          have : j ≠ i - 7 := by omega
          simp [List.getD, this]
      · rw [if_neg (by omega)]
        rcases (by omega : i = 0 ∨ i = 1 ∨ i = 2 ∨ i = 3 ∨ i = 4 ∨ i = 5 ∨ i = 6) with rfl | rfl | rfl | rfl | rfl | rfl | rfl <;> rfl)
    have Z4 := oth _ (7 + j) (.int .u8 X) (Z3.more (Keep.refl _ w3).drew)
    have K4 := kst _ (7 + j) (.int .u8 X) K3.drew
    obtain ⟨hld, wz, hst, kz, hlv⟩ := fin _ _ ho P4 Z4 K4
    clear fin oth kst
    have hhold : (w3.drew.setCell ⟨b, 7 + j, none⟩ (.int .u8 X)).cell? ⟨b + 1, 3, none⟩ = some (.int .i64 f3) := by rw [World.cell?_setCell_other (h := fun x => by have := congrArg Addr.block x; simp at this)]; exact c3
    go_upto_region 10 with fail
    refine wp_region_noPanic ?_
    refine wp_region_held_drew (S := fun w' => w'.cell? ⟨b + 1, 3, none⟩ = some (.int .i64 f3)) (by kernel_rfl) (c3) (fun hH0 => ?_)
    refine' wpAnyH_take (i := 0) (oi := { dst := some 35, op := Op.fieldAddr 45 (Operand.tmp 3) 3, type := 0, pos := "law.go:129", after := #[], guard := none }) (v := _) rfl (by kernel_rfl) (by kernel_rfl) (by kernel_rfl) (fun _ _ _ h => h) (Or.inl ⟨by rfl, ?hyz0⟩) hH0 ?rz0
    case hyz0 => (intro w' hSw; clear hSw; go_simp; try with_reducible rfl)
    simp only [Act.put, List.setIfInBounds_toArray, List.set_cons_zero, List.set_cons_succ]
    refine' wpAnyH_take (i := 1) (oi := { dst := some 36, op := Op.load 3 (Operand.tmp 35), type := 3, pos := "law.go:129", after := #[{ on := 0, ground := Ground.data }], guard := none }) (v := _) rfl (by kernel_rfl) (by kernel_rfl) (by kernel_rfl) (fun _ _ _ h => h) (Or.inl ⟨by rfl, ?hyz1⟩) hH0 ?rz1
    case hyz1 => (intro w' hSw; go_simp; try with_reducible rfl)
    simp only [Act.put, List.setIfInBounds_toArray, List.set_cons_zero, List.set_cons_succ]
    refine' wpAnyH_take (i := 2) (oi := { dst := some 37, op := Op.binOp BinOp.and 3 (Operand.tmp 36) (Operand.const (Value.int IntKind.i64 31)) 3, type := 3, pos := "law.go:129", after := #[{ on := 1, ground := Ground.data }], guard := none }) (v := _) rfl (by kernel_rfl) (by kernel_rfl) (by kernel_rfl) (fun _ _ _ h => h) (Or.inl ⟨by rfl, ?hyz2⟩) hH0 ?rz2
    case hyz2 => (intro w' hSw; clear hSw; go_simp; try with_reducible rfl)
    simp only [Act.put, List.setIfInBounds_toArray, List.set_cons_zero, List.set_cons_succ]
    refine' wpAnyH_take (i := 3) (oi := { dst := some 38, op := Op.fieldAddr 45 (Operand.tmp 3) 3, type := 0, pos := "law.go:129", after := #[], guard := none }) (v := _) rfl (by kernel_rfl) (by kernel_rfl) (by kernel_rfl) (fun _ _ _ h => h) (Or.inl ⟨by rfl, ?hyz3⟩) hH0 ?rz3
    case hyz3 => (intro w' hSw; clear hSw; go_simp; try with_reducible rfl)
    simp only [Act.put, List.setIfInBounds_toArray, List.set_cons_zero, List.set_cons_succ]
    refine' wpAnyH_take (i := 4) (oi := { dst := some 39, op := Op.load 3 (Operand.tmp 38), type := 3, pos := "law.go:129", after := #[{ on := 3, ground := Ground.data }], guard := none }) (v := _) rfl (by kernel_rfl) (by kernel_rfl) (by kernel_rfl) (fun _ _ _ h => h) (Or.inl ⟨by rfl, ?hyz4⟩) hH0 ?rz4
    case hyz4 => (intro w' hSw; go_simp; try with_reducible rfl)
    simp only [Act.put, List.setIfInBounds_toArray, List.set_cons_zero, List.set_cons_succ]
    refine' wpAnyH_take (i := 5) (oi := { dst := some 40, op := Op.binOp BinOp.and 3 (Operand.tmp 39) (Operand.const (Value.int IntKind.i64 31)) 3, type := 3, pos := "law.go:129", after := #[{ on := 4, ground := Ground.data }], guard := none }) (v := _) rfl (by kernel_rfl) (by kernel_rfl) (by kernel_rfl) (fun _ _ _ h => h) (Or.inl ⟨by rfl, ?hyz5⟩) hH0 ?rz5
    case hyz5 => (intro w' hSw; clear hSw; go_simp; try with_reducible rfl)
    simp only [Act.put, List.setIfInBounds_toArray, List.set_cons_zero, List.set_cons_succ]
    refine' wpAnyH_take (i := 6) (oi := { dst := some 41, op := Op.fieldAddr 33 (Operand.tmp 2) 7, type := 0, pos := "law.go:129", after := #[], guard := none }) (v := _) rfl (by kernel_rfl) (by kernel_rfl) (by kernel_rfl) (fun _ _ _ h => h) (Or.inl ⟨by rfl, ?hyz6⟩) hH0 ?rz6
    case hyz6 => (intro w' hSw; clear hSw; go_simp; try with_reducible rfl)
    simp only [Act.put, List.setIfInBounds_toArray, List.set_cons_zero, List.set_cons_succ]
    refine' wpAnyH_take (i := 7) (oi := { dst := some 42, op := Op.indexAddr 31 (Operand.tmp 41) (Operand.tmp 40), type := 0, pos := "law.go:129", after := #[{ on := 6, ground := Ground.data }, { on := 5, ground := Ground.data }], guard := none }) (v := _) rfl (by kernel_rfl) (by kernel_rfl) (by kernel_rfl) (fun _ _ _ h => h) (Or.inl ⟨by rfl, ?hyz7⟩) hH0 ?rz7
    case hyz7 => (intro w' hSw; clear hSw; go_simp; try with_reducible rfl)
    simp only [Act.put, List.setIfInBounds_toArray, List.set_cons_zero, List.set_cons_succ]
    refine' wpAnyH_take (i := 9) (oi := { dst := some 44, op := Op.fieldAddr 45 (Operand.tmp 3) 3, type := 0, pos := "law.go:129", after := #[], guard := none }) (v := _) rfl (by kernel_rfl) (by kernel_rfl) (by kernel_rfl) (fun _ _ _ h => h) (Or.inl ⟨by rfl, ?hyz9⟩) hH0 ?rz9
    case hyz9 => (intro w' hSw; clear hSw; go_simp; try with_reducible rfl)
    simp only [Act.put, List.setIfInBounds_toArray, List.set_cons_zero, List.set_cons_succ]
    refine' wpAnyH_take (i := 10) (oi := { dst := some 45, op := Op.load 3 (Operand.tmp 44), type := 3, pos := "law.go:129", after := #[{ on := 9, ground := Ground.data }], guard := none }) (v := _) rfl (by kernel_rfl) (by kernel_rfl) (by kernel_rfl) (fun _ _ _ h => h) (Or.inl ⟨by rfl, ?hyz10⟩) hH0 ?rz10
    case hyz10 => (intro w' hSw; go_simp; try with_reducible rfl)
    simp only [Act.put, List.setIfInBounds_toArray, List.set_cons_zero, List.set_cons_succ]
    refine' wpAnyH_take (i := 11) (oi := { dst := some 46, op := Op.binOp BinOp.shr 3 (Operand.tmp 45) (Operand.const (Value.int IntKind.u64 5)) 57, type := 3, pos := "law.go:129", after := #[{ on := 10, ground := Ground.data }], guard := none }) (v := _) rfl (by kernel_rfl) (by kernel_rfl) (by kernel_rfl) (fun _ _ _ h => h) (Or.inl ⟨by rfl, ?hyz11⟩) hH0 ?rz11
    case hyz11 => (intro w' hSw; clear hSw; go_simp; try with_reducible rfl)
    simp only [Act.put, List.setIfInBounds_toArray, List.set_cons_zero, List.set_cons_succ]
    refine' wpAnyH_take (i := 12) (oi := { dst := some 47, op := Op.binOp BinOp.and 3 (Operand.tmp 46) (Operand.const (Value.int IntKind.i64 255)) 3, type := 3, pos := "law.go:129", after := #[{ on := 11, ground := Ground.data }], guard := none }) (v := _) rfl (by kernel_rfl) (by kernel_rfl) (by kernel_rfl) (fun _ _ _ h => h) (Or.inl ⟨by rfl, ?hyz12⟩) hH0 ?rz12
    case hyz12 => (intro w' hSw; clear hSw; go_simp; try with_reducible rfl)
    simp only [Act.put, List.setIfInBounds_toArray, List.set_cons_zero, List.set_cons_succ]
    refine' wpAnyH_take (i := 13) (oi := { dst := some 48, op := Op.convert 3 5 (Operand.tmp 47), type := 5, pos := "law.go:129", after := #[{ on := 12, ground := Ground.data }], guard := none }) (v := _) rfl (by kernel_rfl) (by kernel_rfl) (by kernel_rfl) (fun _ _ _ h => h) (Or.inl ⟨by rfl, ?hyz13⟩) hH0 ?rz13
    case hyz13 => (intro w' hSw; clear hSw; go_simp; try with_reducible rfl)
    simp only [Act.put, List.setIfInBounds_toArray, List.set_cons_zero, List.set_cons_succ]
    refine' wpAnyH_take (i := 15) (oi := { dst := some 50, op := Op.fieldAddr 33 (Operand.tmp 2) 7, type := 0, pos := "law.go:129", after := #[], guard := none }) (v := _) rfl (by kernel_rfl) (by kernel_rfl) (by kernel_rfl) (fun _ _ _ h => h) (Or.inl ⟨by rfl, ?hyz15⟩) hH0 ?rz15
    case hyz15 => (intro w' hSw; clear hSw; go_simp; try with_reducible rfl)
    simp only [Act.put, List.setIfInBounds_toArray, List.set_cons_zero, List.set_cons_succ]
    refine wpAnyH_ready (rs := [8]) (by kernel_rfl) (by simp) ?_
    refine AllReadyH.cons (o := { dst := some 43, op := Op.load 5 (Operand.tmp 42), type := 5, pos := "law.go:129", after := #[{ on := 7, ground := Ground.data }], guard := none }) rfl (fun K hK => ?_) AllReadyH.nil
    refine step_load_run (by rfl) 5 (.tmp 42) rfl (by rfl) (load5 (w := w3.drew) p7) ?_
    refine hK.out _ _ (c3) (fun hH1 => ?_)
    clear hK K hH0
    simp only [Act.put, List.setIfInBounds_toArray, List.set_cons_zero, List.set_cons_succ]
    refine' wpAnyH_take (i := 14) (oi := { dst := some 49, op := Op.binOp BinOp.xor 5 (Operand.tmp 43) (Operand.tmp 48) 5, type := 5, pos := "law.go:129", after := #[{ on := 8, ground := Ground.data }, { on := 13, ground := Ground.data }], guard := none }) (v := _) rfl (by kernel_rfl) (by kernel_rfl) (by kernel_rfl) (fun _ _ _ h => h) (Or.inl ⟨by rfl, ?hyz14⟩) hH1 ?rz14
    case hyz14 => (intro w' hSw; clear hSw; go_simp; try with_reducible rfl)
    simp only [Act.put, List.setIfInBounds_toArray, List.set_cons_zero, List.set_cons_succ]
    refine' wpAnyH_take (i := 16) (oi := { dst := some 51, op := Op.indexAddr 31 (Operand.tmp 50) (Operand.tmp 37), type := 0, pos := "law.go:129", after := #[{ on := 15, ground := Ground.data }, { on := 2, ground := Ground.data }, { on := 0, ground := Ground.phase }, { on := 1, ground := Ground.phase }, { on := 2, ground := Ground.phase }, { on := 3, ground := Ground.phase }, { on := 4, ground := Ground.phase }, { on := 5, ground := Ground.phase }, { on := 6, ground := Ground.phase }, { on := 7, ground := Ground.phase }, { on := 8, ground := Ground.phase }, { on := 9, ground := Ground.phase }, { on := 10, ground := Ground.phase }, { on := 11, ground := Ground.phase }, { on := 12, ground := Ground.phase }, { on := 13, ground := Ground.phase }, { on := 14, ground := Ground.phase }], guard := none }) (v := _) rfl (by kernel_rfl) (by kernel_rfl) (by kernel_rfl) (fun _ _ _ h => h) (Or.inl ⟨by rfl, ?hyz16⟩) hH1 ?rz16
    case hyz16 => (intro w' hSw; clear hSw; go_simp; try with_reducible rfl)
    simp only [Act.put, List.setIfInBounds_toArray, List.set_cons_zero, List.set_cons_succ]
    refine wpAnyH_ready (rs := [17]) (by kernel_rfl) (by simp) ?_
    refine AllReadyH.cons (o := { dst := none, op := Op.store 5 (Operand.tmp 51) (Operand.tmp 49), type := 0, pos := "law.go:129", after := #[{ on := 16, ground := Ground.data }, { on := 14, ground := Ground.data }, { on := 0, ground := Ground.phase }, { on := 1, ground := Ground.phase }, { on := 2, ground := Ground.phase }, { on := 3, ground := Ground.phase }, { on := 4, ground := Ground.phase }, { on := 5, ground := Ground.phase }, { on := 6, ground := Ground.phase }, { on := 7, ground := Ground.phase }, { on := 8, ground := Ground.phase }, { on := 9, ground := Ground.phase }, { on := 10, ground := Ground.phase }, { on := 11, ground := Ground.phase }, { on := 12, ground := Ground.phase }, { on := 13, ground := Ground.phase }, { on := 14, ground := Ground.phase }], guard := none }) rfl (fun K hK => ?_) AllReadyH.nil
    refine step_store_run (by rfl) 5 (.tmp 51) (.tmp 49) rfl (by rfl) (by rw [← hX]; rfl) (store5 (w := w3.drew) (v := X) p7 pf) ?_
    refine hK.out _ _ (hhold) (fun hH2 => ?_)
    clear hK K hH1
    simp only [Act.put]
    refine wpAnyH_done (by kernel_rfl) ?_ _
    refine NoPanic.normal ?_
    go_wp2_with (first | (guard_target =~ wpList _ _ _ (Oper.mk _ (Op.load 33 _) _ _ _ _ :: _) _ _; refine wpList_load_run (by rfl) 33 (.tmp 2) rfl (by rfl) hld ?_) | (guard_target =~ wpList _ _ _ (Oper.mk _ (Op.store 33 _ _) _ _ _ _ :: _) _ _; refine wpList_store_run rfl 33 (.tmp 4) (.tmp 62) rfl (by rfl) (by rfl) hst ?_))
    refine bodyPost_ret (v := .agg (pgA { q with pay := q.pay.set j X })) ?_ rfl ⟨_, ho, rfl, kz⟩
    rw [results_cell rfl]
    simp [asAddr, Result.andThen, hlv, Act.put]
  have g4 : (f2 == 4) = false := by simp [d4]
  by_cases d5 : f2 = 5
  · subst d5
    have ho : ({ q with kind := bits .and .i64 f3 3 } : Pg).Ok := ⟨and64_bd _ _, hq.lba, hq.seq, hq.ep, hq.gr, hq.ix, hq.tot, hq.len, hq.pay⟩
    have P4 : Pv (w3.setCell ⟨b, 0, none⟩ (.int .i64 (bits .and .i64 f3 3))) b { q with kind := bits .and .i64 f3 3 } := P3.set 0 _ (fun i hi => by
      by_cases e : i = 0
      · subst e; rfl
      · rw [if_neg e]
        by_cases h7 : 7 ≤ i
        · rw [pcl_pay _ h7, pcl_pay _ h7]
        · rcases (by omega : i = 0 ∨ i = 1 ∨ i = 2 ∨ i = 3 ∨ i = 4 ∨ i = 5 ∨ i = 6) with rfl | rfl | rfl | rfl | rfl | rfl | rfl <;> first | rfl | exact absurd rfl e)
    have Z4 := oth _ 0 (.int .i64 (bits .and .i64 f3 3)) Z3
    have K4 := kst _ 0 (.int .i64 (bits .and .i64 f3 3)) K3
    obtain ⟨hld, wz, hst, kz, hlv⟩ := fin _ _ ho P4 Z4 K4
    clear fin oth kst
    go_wp2_with (first | (guard_target =~ wpList _ _ _ (Oper.mk _ (Op.load 33 _) _ _ _ _ :: _) _ _; refine wpList_load_run (by rfl) 33 (.tmp 2) rfl (by rfl) hld ?_) | (guard_target =~ wpList _ _ _ (Oper.mk _ (Op.store 33 _ _) _ _ _ _ :: _) _ _; refine wpList_store_run rfl 33 (.tmp 4) (.tmp 62) rfl (by rfl) (by rfl) hst ?_))
    refine bodyPost_ret (v := .agg (pgA { q with kind := bits .and .i64 f3 3 })) ?_ rfl ⟨_, ho, rfl, kz⟩
    rw [results_cell rfl]
    simp [asAddr, Result.andThen, hlv, Act.put]
  have g5 : (f2 == 5) = false := by simp [d5]
  by_cases d6 : f2 = 6
  · subst d6
    have ho : ({ q with seq := V } : Pg).Ok := ⟨hq.kind, hq.lba, hVb, hq.ep, hq.gr, hq.ix, hq.tot, hq.len, hq.pay⟩
    have P4 : Pv (w3.setCell ⟨b, 2, none⟩ (.int .u32 V)) b { q with seq := V } := P3.set 2 _ (fun i hi => by
      by_cases e : i = 2
      · subst e; rfl
      · rw [if_neg e]
        by_cases h7 : 7 ≤ i
        · rw [pcl_pay _ h7, pcl_pay _ h7]
        · rcases (by omega : i = 0 ∨ i = 1 ∨ i = 2 ∨ i = 3 ∨ i = 4 ∨ i = 5 ∨ i = 6) with rfl | rfl | rfl | rfl | rfl | rfl | rfl <;> first | rfl | exact absurd rfl e)
    have Z4 := oth _ 2 (.int .u32 V) Z3
    have K4 := kst _ 2 (.int .u32 V) K3
    obtain ⟨hld, wz, hst, kz, hlv⟩ := fin _ _ ho P4 Z4 K4
    clear fin oth kst
    go_wp2_with (first | (guard_target =~ wpList _ _ _ (Oper.mk _ (Op.load 33 _) _ _ _ _ :: _) _ _; refine wpList_load_run (by rfl) 33 (.tmp 2) rfl (by rfl) hld ?_) | (guard_target =~ wpList _ _ _ (Oper.mk _ (Op.store 33 _ _) _ _ _ _ :: _) _ _; refine wpList_store_run rfl 33 (.tmp 4) (.tmp 62) rfl (by rfl) (by rfl) hst ?_))
    refine bodyPost_ret (v := .agg (pgA { q with seq := V })) ?_ rfl ⟨_, ho, rfl, kz⟩
    rw [results_cell rfl]
    simp [asAddr, Result.andThen, hlv, Act.put]
  have g6 : (f2 == 6) = false := by simp [d6]
  obtain ⟨hld, wz, hst, kz, hlv⟩ := fin _ _ hq P3 Z3 K3
  clear fin oth kst
  go_wp2_with (first | (guard_target =~ wpList _ _ _ (Oper.mk _ (Op.load 33 _) _ _ _ _ :: _) _ _; refine wpList_load_run (by rfl) 33 (.tmp 2) rfl (by rfl) hld ?_) | (guard_target =~ wpList _ _ _ (Oper.mk _ (Op.store 33 _ _) _ _ _ _ :: _) _ _; refine wpList_store_run rfl 33 (.tmp 4) (.tmp 62) rfl (by rfl) (by rfl) hst ?_))
  refine bodyPost_ret (v := .agg (pgA q)) ?_ rfl ⟨_, hq, rfl, kz⟩
  rw [results_cell rfl]
  simp [asAddr, Result.andThen, hlv, Act.put]
end Tg
end Go.Proofs.Ytginnojbmpnleaa
