/-
  Pages held against each other, and a last page's noughts: the program's agree and filledUp, walked.
-/
import Derived.Test.YtginnojbmpnleaaMa
import Derived.Test.YtginnojbmpnleaaMc
import Derived.Test.YtginnojbmpnleaaLe
namespace Go.Proofs.Ytginnojbmpnleaa
open Go.ChangeShapes Go.WideShapes Go.ChangeAt Go.RowKit
namespace Tg
theorem alloc33 (w : World) : (Instr.alloc 33 true (.tuple #[])).run Try.prog w = .ok (.pointer (some ⟨w.heap.size, 0, none⟩)) (w.alloc (.cells (pgA pg0) 33)) := by kernel_rfl
theorem step_alloc_run {P : Program} {ops : Array Oper} {o : Oper} {a : Act} {w : World} {K : Act → World → Prop} {Q : Exit → Act → World → Prop} {E : Prop}
    (hw : Region.wanted o (yielded ops a.tmps) = true) (t : TypeId) (hop : o.op = Op.alloc t) {v' : Value} {w' : World} (hrun : (Instr.alloc t true (.tuple #[])).run P w = .ok v' w')
    (hK : K (a.put o.dst v') w') : if Region.wanted o (yielded ops a.tmps) = true then Oper.wp P o a w K Q else E := by
  rw [if_pos hw]
  unfold Oper.wp
  simp [execOp, hop, hrun, Result.andThen]
  exact hK
/-- Two new variables, of which each is given a page: the first is made first. -/
theorem two_pages (w : World) (p q : Pg) : ∃ wa wb, (Instr.storeAt 33 (.pointer (some ⟨w.heap.size, 0, none⟩)) (.agg (pgA p))).run Try.prog ((w.drew.alloc (.cells (pgA pg0) 33)).alloc (.cells (pgA pg0) 33)) = .ok () wa ∧
      (Instr.storeAt 33 (.pointer (some ⟨w.heap.size + 1, 0, none⟩)) (.agg (pgA q))).run Try.prog wa = .ok () wb ∧ Pv wb w.heap.size p ∧ Pv wb (w.heap.size + 1) q ∧ Keep (fun b => w.heap.size ≤ b) w wa ∧ Keep (fun b => w.heap.size ≤ b) w wb := by
  have e1 : (w.drew.alloc (.cells (pgA pg0) 33)).heap.size = w.drew.heap.size + 1 := by simp
  change _ = w.heap.size + 1 at e1
  have A1 : Pv (w.drew.alloc (.cells (pgA pg0) 33)) w.heap.size pg0 := Pv.new w.drew pg0
  have A2 := Pv.new (w.drew.alloc (.cells (pgA pg0) 33)) pg0
  rw [e1] at A2
  have B1 : Pv ((w.drew.alloc (.cells (pgA pg0) 33)).alloc (.cells (pgA pg0) 33)) w.heap.size pg0 := A1.more ((Keep.refl _ _).alloc _)
  obtain ⟨wa, h1, C1, K1⟩ := B1.over p
  have C2 : Pv wa (w.heap.size + 1) pg0 := Blk.keep A2 K1 (by omega)
  obtain ⟨wb, h2, D2, K2⟩ := C2.over q
  have D1 : Pv wb w.heap.size p := Blk.keep C1 K2 (by omega)
  have K0 : Keep (fun b => w.heap.size ≤ b) w ((w.drew.alloc (.cells (pgA pg0) 33)).alloc (.cells (pgA pg0) 33)) := (((Keep.refl _ w).drew).alloc _).alloc _
  have KA : Keep (fun b => w.heap.size ≤ b) w wa := K0.next K1 (fun x hx e => by omega)
  exact ⟨wa, wb, h1, h2, D1, D2, KA, KA.next K2 (fun x hx e => by omega)⟩
/-- The same, the second is made first. -/
theorem two_pages' (w : World) (p q : Pg) : ∃ wa wb, (Instr.storeAt 33 (.pointer (some ⟨w.heap.size + 1, 0, none⟩)) (.agg (pgA p))).run Try.prog ((w.drew.alloc (.cells (pgA pg0) 33)).alloc (.cells (pgA pg0) 33)) = .ok () wa ∧
      (Instr.storeAt 33 (.pointer (some ⟨w.heap.size, 0, none⟩)) (.agg (pgA q))).run Try.prog wa = .ok () wb ∧ Pv wb (w.heap.size + 1) p ∧ Pv wb w.heap.size q ∧ Keep (fun b => w.heap.size ≤ b) w wa ∧ Keep (fun b => w.heap.size ≤ b) w wb := by
  have e1 : (w.drew.alloc (.cells (pgA pg0) 33)).heap.size = w.drew.heap.size + 1 := by simp
  change _ = w.heap.size + 1 at e1
  have A1 : Pv (w.drew.alloc (.cells (pgA pg0) 33)) w.heap.size pg0 := Pv.new w.drew pg0
  have A2 := Pv.new (w.drew.alloc (.cells (pgA pg0) 33)) pg0
  rw [e1] at A2
  have B1 : Pv ((w.drew.alloc (.cells (pgA pg0) 33)).alloc (.cells (pgA pg0) 33)) w.heap.size pg0 := A1.more ((Keep.refl _ _).alloc _)
  obtain ⟨wa, h1, C1, K1⟩ := A2.over p
  have C2 : Pv wa w.heap.size pg0 := Blk.keep B1 K1 (by omega)
  obtain ⟨wb, h2, D2, K2⟩ := C2.over q
  have D1 : Pv wb (w.heap.size + 1) p := Blk.keep C1 K2 (by omega)
  have K0 : Keep (fun b => w.heap.size ≤ b) w ((w.drew.alloc (.cells (pgA pg0) 33)).alloc (.cells (pgA pg0) 33)) := (((Keep.refl _ w).drew).alloc _).alloc _
  have KA : Keep (fun b => w.heap.size ≤ b) w wa := K0.next K1 (fun x hx e => by omega)
  exact ⟨wa, wb, h1, h2, D1, D2, KA, KA.next K2 (fun x hx e => by omega)⟩
theorem keep_new {w w' : World} (k : Keep (fun b => w.heap.size ≤ b) w w') : Keep (fun _ => False) w w' := k.mono (fun x hx e => by omega)
/-- Answers whether something holds, and leaves what was. -/
def Bl (A : Prop) (w : World) (e : Ending) (w' : World) : Prop := ∃ b, e = .returned (.bool b) ∧ (b = true ↔ A) ∧ Keep (fun _ => False) w w'
theorem Bl.yes {A : Prop} {w w' : World} {e : Ending} (he : e = .returned (.bool true)) (h : A) (k : Keep (fun _ => False) w w') : Bl A w e w' := ⟨true, he, ⟨fun _ => h, fun _ => rfl⟩, k⟩
theorem Bl.no {A : Prop} {w w' : World} {e : Ending} (he : e = .returned (.bool false)) (h : ¬ A) (k : Keep (fun _ => False) w w') : Bl A w e w' := ⟨false, he, ⟨fun e => absurd e (by decide), fun x => absurd x h⟩, k⟩
/-- Are two payloads alike? -/
def smP (p q : Pg) : Bool := (List.range 32).all fun i => p.pay.getD i 0 == q.pay.getD i 0
theorem smP_iff {p q : Pg} (hp : p.pay.length = 32) (hq : q.pay.length = 32) : smP p q = true ↔ p.pay = q.pay := by
  unfold smP
  simp only [List.all_eq_true, List.mem_range, beq_iff_eq]
  constructor
  · intro h
    exact list_ext (by omega) (fun k hk => h k (by omega))
  · intro h i _
    rw [h]
theorem items_two (p q : Pg) (w : World) : ∀ (l : List Nat), (∀ i ∈ l, i < 32) → (Op.eqItems 9999 5 1 (payA p) (payA q) l).run Try.prog w = .ok (l.all fun i => p.pay.getD i 0 == q.pay.getD i 0) w
  | [], _ => by simp [Op.eqItems]
  | i :: l, h => by
    have hi := h i (by simp)
    have ih := items_two p q w l (fun j hj => h j (by simp [hj]))
    have he : (Op.equalIn 9999 5 (.int .u8 (p.pay.getD i 0)) (.int .u8 (q.pay.getD i 0))).run Try.prog w = .ok (p.pay.getD i 0 == q.pay.getD i 0) w := run_equalIn_int w 9998 5 .u8 .u8 _ _ Try.underlying5
    simp only [Op.eqItems, Sem.run_bind, part_pay p i hi, part_pay q i hi, he, Result.andThen_ok, List.all_cons]
    cases (p.pay.getD i 0 == q.pay.getD i 0) <;> simp [ih]
theorem two31 (p q : Pg) (w : World) : (Op.equalIn 10000 31 (.agg (payA p)) (.agg (payA q))).run Try.prog w = .ok (smP p q) w := by
  obtain ⟨i, hi, _⟩ := info_parts info5
  rw [run_equalIn_array w 9999 (payA p) (payA q) Try.underlying31 hi, cells5]
  exact items_two p q w (List.range 32) (fun i hi => by simpa using hi)
theorem guard31 : Try.prog.eqGuardType Try.prog.depth 31 = false := by kernel_rfl
theorem wpList_eql31 {w : World} {ops : Array Oper} {rest : List Oper} {o : Oper} {a : Act} {Q : Exit → Act → World → Prop} {p q : Pg}
    (hw : Region.wanted o (yielded ops a.tmps) = true) (x y : Operand) (hop : o.op = Op.binOp .eql 31 x y 31) (hx : a.eval x = .agg (payA p)) (hy : a.eval y = .agg (payA q))
    (hK : wpList Try.prog ops Q rest (a.put o.dst (.bool (smP p q))) w) : wpList Try.prog ops Q (o :: rest) a w := by
  refine BigFrame.wpList_want hw fun K hK' => ?_
  have h1 := run_eqGuard_agg (P := Try.prog) w .eql 31 x y (payA p) (payA q) guard31
  have h2 := run_eql_struct (P := Try.prog) w 31 (payA p) (payA q)
  rw [two31] at h2
  simp only [Result.andThen_ok] at h2
  unfold Oper.wp
  simp only [execOp, hop, hx, hy, Sem.run_bind, h1, h2, Result.andThen_ok, Sem.run_pure]
  exact hK' _ _ hK
theorem size31 : (Try.prog.info? 31).map (·.size) = some 32 := by kernel_rfl
theorem pay_load {w : World} {b : Nat} {p : Pg} (h : Pv w b p) : (Instr.loadAt 31 (.pointer (some ⟨b, 7, none⟩))).run Try.prog w = .ok (.agg (payA p)) w := by
  have hr : w.rangeAt b 7 (payA p).toList := by
    intro j v hv
    have hj : j < 32 := by have := (List.getElem?_eq_some_iff.1 hv).1; simpa [payA] using this
    rw [h.pay hj, ← hv]
    simp [payA, hj]
  have := run_loadAt_mid (P := Try.prog) w b 7 31 (payA p).toList _ hr Try.underlying31 rfl (by rw [size31]; simp [payA])
  simpa using this
set_option maxRecDepth 100000 in
set_option maxHeartbeats 1000000 in
theorem filled_any {p : Pg} (T : Nat) (hT : p.lba = p.ix * 32 + (T : Int)) (hT32 : T ≤ 32) (h0 : 0 ≤ p.ix) (h1 : p.ix ≤ 100000) (w : World) :
    Calls Try.prog 31 #[.agg (pgA p)] w (Bl (∀ k, T ≤ k → k < 32 → p.pay.getD k 0 = 0) w) := by
  have P1 := Pv.new w p
  have hsz1 := pgA_size p
  have K1 := (Keep.refl (fun _ => False) w).alloc (.cells (pgA p) 33)
  have c1 := P1.lba
  have c5 := P1.ix
  have hpay : ∀ k, k < 32 → (w.alloc (.cells (pgA p) 33)).cell? ⟨w.heap.size, 7 + k, none⟩ = some (.int .u8 (p.pay.getD k 0)) := fun k hk => P1.pay hk
  obtain ⟨M, hM⟩ : ∃ M : Int, M = p.ix * 32 := ⟨_, rfl⟩
  have f1 : IntKind.u32.wrap (p.ix * 32) = M := by rw [IntKind.wrap_u32]; omega
  have f2 : IntKind.u32.wrap (p.lba - M) = (T : Int) := by rw [IntKind.wrap_u32]; omega
  have d1 : (T : Int) ≤ 32 := by omega
  clear P1 hM hT h0 h1
  generalize pgA p = A at *
  generalize hbs : w.heap.size = bs at *
  generalize hw1 : w.alloc (.cells A 33) = w1 at *
  by_cases hT2 : T = 32
  · subst hT2
    go_enter Try.func31, Try.ntmps31
    go_wp2_with fail
    refine wp_loop_rounds 1 ?_
    rw [rounds_succ]
    go_wp2_with fail
    go_ret
    exact Bl.yes rfl (fun k h1 h2 => by omega) K1
  · have hne : ¬ 32 = T := by omega
    have hlt : T < 32 := by omega
    go_enter Try.func31, Try.ntmps31
    go_wp2_with fail
    go_loop [14] (fun v => ∃ k : Nat, k ≤ 32 - T ∧ v = .int .i64 (k : Int) ∧ Hid (∀ j, T ≤ j → j < T + k → p.pay.getD j 0 = 0)) (fun v => 32 - T - (intOf v).toNat)
    case atStart => exact ⟨0, by omega, rfl, fun j h1 h2 => by omega⟩
    case round =>
      obtain ⟨k, hk, rfl, hz⟩ := hrel
      by_cases hlt2 : k < 32 - T
      · have di : (k : Int) < ((32 - T : Nat) : Int) := by omega
        have dw := wrapI (x := (k : Int) + 1) (by omega) (by omega)
        have c := hpay (T + k) (by omega)
        rw [← Nat.add_assoc] at c
        by_cases hx : p.pay.getD (T + k) 0 = 0
        · rw [hx] at c
          have hz2 : Hid (∀ j, T ≤ j → j < T + (k + 1) → p.pay.getD j 0 = 0) := fun j h1 h2 => by
            by_cases e : j = T + k
            · rw [e]; exact hx
            · exact (show ∀ j, T ≤ j → j < T + k → p.pay.getD j 0 = 0 from hz) j h1 (by omega)
          clear hz hx hpay
          go_wp2_with fail
          go_round
          case rel => exact ⟨k + 1, hlt2, by go_num, hz2⟩
          case measure => simp [intOf]; omega
        · have hx' : Hid (¬ p.pay.getD (T + k) 0 = 0 ∧ T + k < 32) := ⟨hx, by omega⟩
          have hb : (p.pay.getD (T + k) 0 != 0) = true := by rw [bne_iff_ne]; exact hx
          generalize p.pay.getD (T + k) 0 = V at c hb hx
          clear hz hpay
          go_wp2_with fail
          go_ret
          exact Bl.no rfl (fun h => hx'.1 (h (T + k) (by omega) hx'.2)) K1
      · obtain rfl : k = 32 - T := by omega
        have di : ¬ ((32 - T : Nat) : Int) < ((32 - T : Nat) : Int) := by omega
        clear hpay
        go_wp2_with fail
        go_ret
        exact Bl.yes rfl (fun j h1 h2 => (show ∀ j, T ≤ j → j < T + (32 - T) → p.pay.getD j 0 = 0 from hz) j h1 (by omega)) K1
end Tg
end Go.Proofs.Ytginnojbmpnleaa
