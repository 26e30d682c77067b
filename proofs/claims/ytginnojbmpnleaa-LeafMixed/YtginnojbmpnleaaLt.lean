/-
  The document's own Join, walked.
-/
import Derived.Test.YtginnojbmpnleaaLk
namespace Go.Proofs.Ytginnojbmpnleaa
open Go.ChangeShapes Go.WideShapes Go.ChangeAt Go.RowKit
namespace Tg
theorem call20 (args : Array Value) (w : World) : (callFunc 23 args).run Try.prog w = .ok (.enter 23 args) w := enters Try.func23 (by kernel_rfl) (by kernel_rfl) args w
theorem post_of {f : FuncId} {vs : Array Value} {v : Value} {w : World} (h : Calls Try.prog f vs w fun e w' => e = .returned v ∧ Keep (fun _ => False) w w') : Calls Try.prog f vs w fun e w2 => ∃ u, e = .returned u ∧ (fun u wz => u = v ∧ Keep (fun _ => False) w wz) u w2 :=
  h.mono (by rintro e w' ⟨rfl, k⟩; exact ⟨_, rfl, rfl, k⟩)
theorem yields_load {P : Program} {ops : Array Oper} {S : World → Prop} {o : Oper} {a : Act} {v v1 : Value} (hw : Region.wanted o (yielded ops a.tmps) = true) (t : TypeId) (x : Operand) (hop : o.op = Op.load t x) (hx : a.eval x = v1) (h : ∀ w, S w → (Instr.loadAt t v1).run P w = .ok v w) : YieldsIf P ops S o v a := by
  refine Or.inl ⟨hw, fun w hS => ?_⟩
  simp [execOp, hop, hx, h w hS]
theorem yields_first {P : Program} {ops : Array Oper} {S : World → Prop} {o : Oper} {a : Act} {v v1 v2 : Value} (hw : Region.wanted o (yielded ops a.tmps) = true) (t : TypeId) (x y : Operand) (hop : o.op = Op.slice t x none (some y) none) (hx : a.eval x = v1) (hy : a.eval y = v2) (h : ∀ w, (Instr.sliceAt t v1 none (some v2) none).run P w = .ok v w) : YieldsIf P ops S o v a := by
  refine Or.inl ⟨hw, fun w hS => ?_⟩
  simp [execOp, hop, hx, hy, h w]
theorem yields_rest {P : Program} {ops : Array Oper} {S : World → Prop} {o : Oper} {a : Act} {v v1 v2 : Value} (hw : Region.wanted o (yielded ops a.tmps) = true) (t : TypeId) (x y : Operand) (hop : o.op = Op.slice t x (some y) none none) (hx : a.eval x = v1) (hy : a.eval y = v2) (h : ∀ w, (Instr.sliceAt t v1 (some v2) none none).run P w = .ok v w) : YieldsIf P ops S o v a := by
  refine Or.inl ⟨hw, fun w hS => ?_⟩
  simp [execOp, hop, hx, hy, h w]
theorem step_build_run {P : Program} {ops : Array Oper} {o : Oper} {a : Act} {w : World} {K : Act → World → Prop} {Q : Exit → Act → World → Prop} {E : Prop}
    (hw : Region.wanted o (yielded ops a.tmps) = true) (t : TypeId) (n : Nat) (x : Operand) (hop : o.op = Op.buildSlice t n #[(0, x)]) {v1 v' : Value} {w' : World} (hx : a.eval x = v1) (hrun : (Instr.buildSlice t n #[(0, v1)]).run P w = .ok v' w')
    (hK : K (a.put o.dst v') w') : if Region.wanted o (yielded ops a.tmps) = true then Oper.wp P o a w K Q else E := by
  rw [if_pos hw]
  unfold Oper.wp
  simp [execOp, hop, hx, hrun, Result.andThen]
  exact hK
theorem step_build0_run {P : Program} {ops : Array Oper} {o : Oper} {a : Act} {w : World} {K : Act → World → Prop} {Q : Exit → Act → World → Prop} {E : Prop}
    (hw : Region.wanted o (yielded ops a.tmps) = true) (t : TypeId) (hop : o.op = Op.buildSlice t 0 #[]) {v' : Value} {w' : World} (hrun : (Instr.buildSlice t 0 #[]).run P w = .ok v' w')
    (hK : K (a.put o.dst v') w') : if Region.wanted o (yielded ops a.tmps) = true then Oper.wp P o a w K Q else E := by
  rw [if_pos hw]
  unfold Oper.wp
  simp [execOp, hop, hrun, Result.andThen]
  exact hK
theorem build0_pg (w : World) : (Instr.buildSlice 23 0 #[]).run Try.prog w = .ok (.slice (some ⟨w.heap.size, 0, none⟩) 0 0) (w.alloc (.cells #[] 33)) := by kernel_rfl
/-- A row of one page. -/
theorem rg_one (w : World) (p : Pg) : Rg (w.alloc (.cells (pgA p) 33)) (some ⟨w.heap.size, 0, none⟩) 1 [p] := by
  refine ⟨by simp, by omega, Or.inr ⟨_, _, rfl, fun i q hq j hj => ?_⟩⟩
  have hi : i = 0 := by
    refine Decidable.byContradiction (fun c => ?_)
    rw [List.getElem?_eq_none (by simp; omega)] at hq
    cases hq
  subst hi
  simp at hq
  subst hq
  have := (Pv.new w p j hj).1
  simpa using this
theorem make_str0 (w : World) : (Instr.makeSlice 47 (.int .i64 0) (.int .i64 0)).run Try.prog w = .ok (.slice (some ⟨w.heap.size, 0, none⟩) 0 0) (w.alloc (.cells #[] 36)) := by kernel_rfl
theorem rwR_made {w0 w : World} (k : Keep (fun _ => False) w0 w) : RwR w0 (w.alloc (.cells #[] 36)) (some ⟨w.heap.size, 0, none⟩) 0 [] :=
  ⟨World.ownsRow_lit (e := 36) (size := 4) (base := w0.heap.size) w #[] 0 k.size (by unfold maxLen; omega) rfl, k.alloc _⟩
theorem Says.keep {S : Nat → Prop} {w w' : World} {rs : List Raw} {L : List St} (h : Says w rs L) (k : Keep S w w') (hs : ∀ r ∈ rs, ∀ x : Addr, r.a = some x → ¬ S x.block) : Says w' rs L :=
  ⟨h.1, fun i r s h1 h2 => by
    obtain ⟨a, b, c, d⟩ := h.2 i r s h1 h2
    exact ⟨a, b, c, d.keep k (fun b' o e => hs r (List.mem_of_getElem? h1) _ e)⟩⟩
/-- The row of streams lies apart from the streams' bytes, and from another row. -/
def Apart (wx : World) (ao af : Option Addr) (rs : List Raw) : Prop := (∀ g, ao = some ⟨g, 0, none⟩ → af ≠ some ⟨g, 0, none⟩) ∧ ∀ r ∈ rs, ∀ x : Addr, r.a = some x → x.block < wx.heap.size ∧ ao ≠ some ⟨x.block, 0, none⟩
/-- No page of a stream? -/
def nkB (q : Pg) : Bool := decide (q.kind ≠ 2 ∧ q.kind ≠ 3)
set_option maxRecDepth 100000 in
set_option maxHeartbeats 2000000 in
theorem rjoin_any {w : World} {a : Option Addr} {cap : Nat} {l : List Pg} (hR : Rg w a cap l) (hok : ∀ q ∈ l, q.Ok) (hl : l.length ≤ 1000) :
    Calls Try.prog 17 #[.slice a l.length cap] w fun e w' => ∃ a' c' rs L, e = .returned (.slice a' rs.length c') ∧ RwR w w' a' c' rs ∧ Says w' rs L ∧ JoinS l L := by
  have hlc := hR.1
  have hlc2 := hR.2.1
  go_enter Try.func17, Try.ntmps17
  go_wp2_with fail
  go_loopw [3, 4] (fun fv v wx => ∃ (i n c : Nat) (af : Option Addr) (fs : List Pg), i ≤ l.length ∧ v = .int .i64 (i : Int) ∧ fv = .slice af n c ∧ Ro w wx af c fs ∧ Hid (fs.length = n) ∧ Hid (Fst (l.take i) fs) ∧ n ≤ i) (fun _ v _ => l.length - (intOf v).toNat)
  case atStart => exact ⟨0, 0, 0, none, [], by omega, rfl, rfl, Ro.nil w, rfl, Fst.nil, by omega⟩
  case round =>
    obtain ⟨i, n, c, af, fs, hi, rfl, rfl, F, hfn, hF, hni⟩ := hrel
    by_cases hlt : i < l.length
    · obtain ⟨q, hq⟩ := get_pg hlt
      have hqm := List.mem_of_getElem? hq
      obtain ⟨g, o, rfl, hc⟩ := (hR.more F.keep).at hq
      have c0 := hc 0 (by omega)
      rw [Nat.add_zero] at c0
      have hnext' : Hid (l.take (i + 1) = l.take i ++ [q]) := by show _ = _; rw [List.take_add_one, hq]; rfl
      have hlq0 : ∀ w', Keep (fun _ => False) w w' → (Instr.loadAt 33 (.pointer (some ⟨g, o + i * 39, none⟩))).run Try.prog w' = .ok (.agg (pgA q)) w' := fun w' k => by
        obtain ⟨g', o', e, hc'⟩ := (hR.more k).at hq
        injection e with e
        injection e with e1 e2
        subst e1 e2
        exact pg_load hc'
      have di : (i : Int) < (l.length : Int) := by omega
      have dw := wrapI (x := (i : Int) + 1) (by omega) (by omega)
      have hlt' : Hid (i < l.length) := hlt
      have hcn : n ≤ c ∧ c ≤ 9223372036854775807 := by have := F.rg; rw [← show fs.length = n from hfn]; exact ⟨this.1, this.2.1⟩
      obtain ⟨hn1, hn2⟩ := hcn
      clear hlt hq hc
      go_upto_region 5 with fail
      go_cut [29] from 10 to 77 (fun v wx => v = .bool (nkB q) ∧ wx = wr)
      case first =>
        clear hlq0
        by_cases k2 : q.kind = 2
        · have g1 : (q.kind != 2) = false := by simp [k2]
          have e : nkB q = false := decide_eq_false (fun h => h.1 k2)
          have c0' : wr.cell? ⟨g, o + i * 39, none⟩ = some (.int .i64 q.kind) := c0
          clear k2 c0
          go_wp2_with fail
          go_meet
          exact ⟨by rw [e], rfl⟩
        · have g1 : (q.kind != 2) = true := by simp [k2]
          have c0' : wr.cell? ⟨g, o + i * 39, none⟩ = some (.int .i64 q.kind) := c0
          by_cases k3 : q.kind = 3
          · have g2 : (q.kind != 3) = false := by simp [k3]
            have e : nkB q = false := decide_eq_false (fun h => h.2 k3)
            clear k2 k3 c0
            go_wp2_with fail
            go_meet
            exact ⟨by rw [e], rfl⟩
          · have g2 : (q.kind != 3) = true := by simp [k3]
            have e : nkB q = true := decide_eq_true ⟨k2, k3⟩
            clear k2 k3 c0
            go_wp2_with fail
            go_meet
            exact ⟨by rw [e], rfl⟩
      case rest =>
        obtain ⟨rfl, rfl⟩ := hcut
        cases hnk : nkB q with
        | true =>
          have hF2 : Hid (Fst (l.take (i + 1)) fs) := by
            rw [show l.take (i + 1) = _ from hnext']
            exact Fst.skip hF (fun h => by have := of_decide_eq_true hnk; rcases h with h | h; exact this.1 h; exact this.2 h)
          have hni2 : Hid (n ≤ i + 1) := Nat.le_succ_of_le hni
          clear hnk hlq0
          go_wp2_with fail
          go_roundw
          case rel => exact ⟨i + 1, n, c, af, fs, hlt', by go_num, rfl, F, hfn, hF2, hni2⟩
          case measure => have : i < l.length := hlt'; simp [intOf]; omega
        | false =>
          have hqk : Hid (isK q) := by
            have := of_decide_eq_false hnk
            show q.kind = 2 ∨ q.kind = 3
            omega
          clear hnk c0
          go_wp2_with fail
          go_loopw [5] (fun v wx => ∃ t : Nat, t ≤ n ∧ v = .int .i64 (t : Int) ∧ Keep (fun _ => False) wc wx ∧ Hid (∀ j x, j < t → fs[j]? = some x → ahB x q = true)) (fun v _ => n - (intOf v).toNat)
          case atStart => exact ⟨0, by omega, rfl, Keep.refl _ _, fun j x h => by omega⟩
          case round =>
            obtain ⟨t, ht, rfl, k9, hah⟩ := hrel
            have hlq : ∀ w', Keep (fun _ => False) wr w' → (Instr.loadAt 33 (.pointer (some ⟨g, o + i * 39, none⟩))).run Try.prog w' = .ok (.agg (pgA q)) w' := fun w' k => hlq0 w' (F.keep.trans (k9.trans k))
            by_cases htn : t < n
            · obtain ⟨x, hx⟩ := get_pg (show t < fs.length by rw [show fs.length = n from hfn]; exact htn)
              obtain ⟨gf, of, haf, -⟩ := F.rg.at hx
              subst haf
              have hlx : ∀ w', Keep (fun _ => False) wr w' → (Instr.loadAt 33 (.pointer (some ⟨gf, of + t * 39, none⟩))).run Try.prog w' = .ok (.agg (pgA x)) w' := fun w' k => by
                obtain ⟨g', o', e, hc'⟩ := (F.rg.more (k9.trans k)).at hx
                injection e with e
                injection e with e1 e2
                subst e1 e2
                exact pg_load hc'
              have dt : (t : Int) < (n : Int) := by omega
              have dwt := wrapI (x := (t : Int) + 1) (by omega) (by omega)
              have htn' : Hid (t < n) := htn
              have hxm := List.mem_of_getElem? hx
              have hx' : Hid (fs[t]? = some x) := hx
              clear hx htn
              go_upto_region 7 with fail
              refine wp_region_noPanic ?_
              refine wp_region_held_drew (S := fun w' => Keep (fun _ => False) wr w') (by kernel_rfl) ((Keep.refl _ wr).drew) (fun hH0 => ?_)
              refine' wpAnyH_take (i := 0) (oi := { dst := some 30, op := Op.move (Operand.tmp 5), type := 3, pos := "ref.go:97", after := #[], guard := none }) (v := _) rfl (by kernel_rfl) (by kernel_rfl) (by kernel_rfl) (fun _ _ _ h => h) (Or.inl ⟨by rfl, ?hya0⟩) hH0 ?ra0
              case hya0 => (intro w' hSw; clear hSw; go_simp; try with_reducible rfl)
              simp only [Act.put, List.setIfInBounds_toArray, List.set_cons_zero, List.set_cons_succ]
              refine' wpAnyH_take (i := 1) (oi := { dst := some 31, op := Op.move (Operand.tmp 3), type := 23, pos := "ref.go:97", after := #[], guard := none }) (v := _) rfl (by kernel_rfl) (by kernel_rfl) (by kernel_rfl) (fun _ _ _ h => h) (Or.inl ⟨by rfl, ?hya1⟩) hH0 ?ra1
              case hya1 => (intro w' hSw; clear hSw; go_simp; try with_reducible rfl)
              simp only [Act.put, List.setIfInBounds_toArray, List.set_cons_zero, List.set_cons_succ]
              refine' wpAnyH_take (i := 2) (oi := { dst := some 32, op := Op.call { callee := Callee.builtin Builtin.len, args := #[Operand.tmp 31], argTypes := #[23] }, type := 3, pos := "ref.go:97", after := #[{ on := 1, ground := Ground.data }], guard := none }) (v := _) rfl (by kernel_rfl) (by kernel_rfl) (by kernel_rfl) (fun _ _ _ h => h) (Or.inl ⟨by rfl, ?hya2⟩) hH0 ?ra2
              case hya2 => (intro w' hSw; clear hSw; go_simp; try with_reducible rfl)
              simp only [Act.put, List.setIfInBounds_toArray, List.set_cons_zero, List.set_cons_succ]
              refine' wpAnyH_take (i := 3) (oi := { dst := some 33, op := Op.binOp BinOp.lss 3 (Operand.tmp 30) (Operand.tmp 32) 3, type := 4, pos := "ref.go:97", after := #[{ on := 0, ground := Ground.data }, { on := 2, ground := Ground.data }], guard := none }) (v := _) rfl (by kernel_rfl) (by kernel_rfl) (by kernel_rfl) (fun _ _ _ h => h) (Or.inl ⟨by rfl, ?hya3⟩) hH0 ?ra3
              case hya3 => (intro w' hSw; clear hSw; go_simp; try with_reducible rfl)
              simp only [Act.put, List.setIfInBounds_toArray, List.set_cons_zero, List.set_cons_succ]
              refine' wpAnyH_take (i := 4) (oi := { dst := some 34, op := Op.move (Operand.tmp 33), type := 4, pos := "ref.go:97", after := #[{ on := 3, ground := Ground.data }], guard := none }) (v := _) rfl (by kernel_rfl) (by kernel_rfl) (by kernel_rfl) (fun _ _ _ h => h) (Or.inl ⟨by rfl, ?hya4⟩) hH0 ?ra4
              case hya4 => (intro w' hSw; clear hSw; go_simp; try with_reducible rfl)
              simp only [Act.put, List.setIfInBounds_toArray, List.set_cons_zero, List.set_cons_succ]
              refine' wpAnyH_take (i := 5) (oi := { dst := some 35, op := Op.move (Operand.tmp 3), type := 23, pos := "ref.go:97", after := #[{ on := 4, ground := Ground.guard }], guard := some (4, true) }) (v := _) rfl (by kernel_rfl) (by kernel_rfl) (by kernel_rfl) (fun _ _ _ h => h) (Or.inl ⟨by rfl, ?hya5⟩) hH0 ?ra5
              case hya5 => (intro w' hSw; clear hSw; go_simp; try with_reducible rfl)
              simp only [Act.put, List.setIfInBounds_toArray, List.set_cons_zero, List.set_cons_succ]
              refine' wpAnyH_take (i := 6) (oi := { dst := some 36, op := Op.move (Operand.tmp 5), type := 3, pos := "ref.go:97", after := #[{ on := 4, ground := Ground.guard }], guard := some (4, true) }) (v := _) rfl (by kernel_rfl) (by kernel_rfl) (by kernel_rfl) (fun _ _ _ h => h) (Or.inl ⟨by rfl, ?hya6⟩) hH0 ?ra6
              case hya6 => (intro w' hSw; clear hSw; go_simp; try with_reducible rfl)
              simp only [Act.put, List.setIfInBounds_toArray, List.set_cons_zero, List.set_cons_succ]
              refine' wpAnyH_take (i := 7) (oi := { dst := some 37, op := Op.indexAddr 23 (Operand.tmp 35) (Operand.tmp 36), type := 0, pos := "ref.go:97", after := #[{ on := 5, ground := Ground.data }, { on := 6, ground := Ground.data }, { on := 4, ground := Ground.guard }], guard := some (4, true) }) (v := _) rfl (by kernel_rfl) (by kernel_rfl) (by kernel_rfl) (fun _ _ _ h => h) (Or.inl ⟨by rfl, ?hya7⟩) hH0 ?ra7
              case hya7 => (intro w' hSw; clear hSw; go_simp; try with_reducible rfl)
              simp only [Act.put, List.setIfInBounds_toArray, List.set_cons_zero, List.set_cons_succ]
              refine' wpAnyH_take (i := 8) (oi := { dst := some 38, op := Op.load 33 (Operand.tmp 37), type := 33, pos := "ref.go:97", after := #[{ on := 7, ground := Ground.data }, { on := 4, ground := Ground.guard }], guard := some (4, true) }) (v := .agg (pgA x)) rfl (by kernel_rfl) (by kernel_rfl) (by kernel_rfl) (fun _ _ _ h => h) (yields_load (by rfl) 33 (.tmp 37) rfl (by rfl) hlx) hH0 ?ra8
              simp only [Act.put, List.setIfInBounds_toArray, List.set_cons_zero, List.set_cons_succ]
              refine' wpAnyH_take (i := 9) (oi := { dst := some 39, op := Op.move (Operand.tmp 0), type := 23, pos := "ref.go:97", after := #[{ on := 4, ground := Ground.guard }], guard := some (4, true) }) (v := _) rfl (by kernel_rfl) (by kernel_rfl) (by kernel_rfl) (fun _ _ _ h => h) (Or.inl ⟨by rfl, ?hya9⟩) hH0 ?ra9
              case hya9 => (intro w' hSw; clear hSw; go_simp; try with_reducible rfl)
              simp only [Act.put, List.setIfInBounds_toArray, List.set_cons_zero, List.set_cons_succ]
              refine' wpAnyH_take (i := 10) (oi := { dst := some 40, op := Op.move (Operand.tmp 4), type := 3, pos := "ref.go:97", after := #[{ on := 4, ground := Ground.guard }], guard := some (4, true) }) (v := _) rfl (by kernel_rfl) (by kernel_rfl) (by kernel_rfl) (fun _ _ _ h => h) (Or.inl ⟨by rfl, ?hya10⟩) hH0 ?ra10
              case hya10 => (intro w' hSw; clear hSw; go_simp; try with_reducible rfl)
              simp only [Act.put, List.setIfInBounds_toArray, List.set_cons_zero, List.set_cons_succ]
              refine' wpAnyH_take (i := 11) (oi := { dst := some 41, op := Op.indexAddr 23 (Operand.tmp 39) (Operand.tmp 40), type := 0, pos := "ref.go:97", after := #[{ on := 9, ground := Ground.data }, { on := 10, ground := Ground.data }, { on := 4, ground := Ground.guard }], guard := some (4, true) }) (v := _) rfl (by kernel_rfl) (by kernel_rfl) (by kernel_rfl) (fun _ _ _ h => h) (Or.inl ⟨by rfl, ?hya11⟩) hH0 ?ra11
              case hya11 => (intro w' hSw; clear hSw; go_simp; try with_reducible rfl)
              simp only [Act.put, List.setIfInBounds_toArray, List.set_cons_zero, List.set_cons_succ]
              refine' wpAnyH_take (i := 12) (oi := { dst := some 42, op := Op.load 33 (Operand.tmp 41), type := 33, pos := "ref.go:97", after := #[{ on := 11, ground := Ground.data }, { on := 4, ground := Ground.guard }], guard := some (4, true) }) (v := .agg (pgA q)) rfl (by kernel_rfl) (by kernel_rfl) (by kernel_rfl) (fun _ _ _ h => h) (yields_load (by rfl) 33 (.tmp 41) rfl (by rfl) hlq) hH0 ?ra12
              simp only [Act.put, List.setIfInBounds_toArray, List.set_cons_zero, List.set_cons_succ]
              refine wpAnyH_ready (rs := [13]) (by kernel_rfl) (by simp) ?_
              refine AllReadyH.cons (o := { dst := some 43, op := Op.call { callee := Callee.value (Operand.func 23), args := #[Operand.tmp 38, Operand.tmp 42], argTypes := #[33, 33] }, type := 4, pos := "ref.go:97", after := #[{ on := 8, ground := Ground.data }, { on := 12, ground := Ground.data }, { on := 4, ground := Ground.chain }, { on := 4, ground := Ground.guard }], guard := some (4, true) }) rfl (fun K hK => ?_) AllReadyH.nil
              refine step_call_want (vs := #[.agg (pgA x), .agg (pgA q)]) (R := fun u wz => u = .bool (ahB x q) ∧ Keep (fun _ => False) wr.drew wz) (by rfl) 23 #[Operand.tmp 38, Operand.tmp 42] #[33, 33] rfl (by simp [Act.eval]) call20 (post_of (ahead_any x q _)) ?_
              rintro _ w3 ⟨rfl, k3⟩
              refine hK.out _ _ (((Keep.refl _ wr).drew).trans k3) (fun hH1 => ?_)
              clear hK K hH0
              simp only [Act.put, List.setIfInBounds_toArray, List.set_cons_zero, List.set_cons_succ]
              refine' wpAnyH_take (i := 14) (oi := { dst := some 44, op := Op.pick (Operand.tmp 34) (Operand.tmp 43) (Operand.const (Value.bool false)), type := 4, pos := "ref.go:97", after := #[{ on := 4, ground := Ground.data }, { on := 13, ground := Ground.data }], guard := none }) (v := _) rfl (by kernel_rfl) (by kernel_rfl) (by kernel_rfl) (fun _ _ _ h => h) (Or.inl ⟨by rfl, ?hya14⟩) hH1 ?ra14
              case hya14 => (intro w' hSw; clear hSw; go_simp; try with_reducible rfl)
              simp only [Act.put, List.setIfInBounds_toArray, List.set_cons_zero, List.set_cons_succ]
              refine wpAnyH_done (by kernel_rfl) ?_ _
              refine NoPanic.normal ?_
              have k4 : Keep (fun _ => False) wr w3 := ((Keep.refl _ wr).drew).trans k3
              cases hb : ahB x q with
              | true =>
                have hah2 : Hid (∀ j y, j < t + 1 → fs[j]? = some y → ahB y q = true) := fun j y hj hy => by
                  by_cases e : j = t
                  · subst e
                    rw [show fs[j]? = some x from hx'] at hy
                    injection hy with hy
                    subst hy
                    exact hb
                  · exact (show ∀ j x, j < t → fs[j]? = some x → ahB x q = true from hah) j y (by omega) hy
                clear hb hlx hlq
                go_wp2_with fail
                go_roundw
                case rel => exact ⟨t + 1, htn', by go_num, k9.trans k4, hah2⟩
                case measure => have : t < n := htn'; simp [intOf]; omega
              | false =>
                have k9' : Keep (fun _ => False) wc w3 := k9.trans k4
                have hlq2 : ∀ w', Keep (fun _ => False) w3 w' → (Instr.loadAt 33 (.pointer (some ⟨g, o + i * 39, none⟩))).run Try.prog w' = .ok (.agg (pgA q)) w' := fun w' k => hlq w' (k4.trans k)
                have hlx2 : ∀ w', Keep (fun _ => False) w3 w' → (Instr.loadAt 33 (.pointer (some ⟨gf, of + t * 39, none⟩))).run Try.prog w' = .ok (.agg (pgA x)) w' := fun w' k => hlx w' (k4.trans k)
                have hb' : Hid (ahB x q = false) := hb
                clear hb hlx hlq hH1 k3
                go_upto_region 9 with fail
                refine wp_region_noPanic ?_
                refine wp_region_held_drew (S := fun w' => Keep (fun _ => False) w3 w') (by kernel_rfl) ((Keep.refl _ w3).drew) (fun hH0 => ?_)
                refine' wpAnyH_take (i := 0) (oi := { dst := some 47, op := Op.move (Operand.tmp 5), type := 3, pos := "ref.go:100", after := #[], guard := none }) (v := _) rfl (by kernel_rfl) (by kernel_rfl) (by kernel_rfl) (fun _ _ _ h => h) (Or.inl ⟨by rfl, ?hyc0⟩) hH0 ?rc0
                case hyc0 => (intro w' hSw; clear hSw; go_simp; try with_reducible rfl)
                simp only [Act.put, List.setIfInBounds_toArray, List.set_cons_zero, List.set_cons_succ]
                refine' wpAnyH_take (i := 1) (oi := { dst := some 48, op := Op.move (Operand.tmp 3), type := 23, pos := "ref.go:100", after := #[], guard := none }) (v := _) rfl (by kernel_rfl) (by kernel_rfl) (by kernel_rfl) (fun _ _ _ h => h) (Or.inl ⟨by rfl, ?hyc1⟩) hH0 ?rc1
                case hyc1 => (intro w' hSw; clear hSw; go_simp; try with_reducible rfl)
                simp only [Act.put, List.setIfInBounds_toArray, List.set_cons_zero, List.set_cons_succ]
                refine' wpAnyH_take (i := 2) (oi := { dst := some 49, op := Op.call { callee := Callee.builtin Builtin.len, args := #[Operand.tmp 48], argTypes := #[23] }, type := 3, pos := "ref.go:100", after := #[{ on := 1, ground := Ground.data }], guard := none }) (v := _) rfl (by kernel_rfl) (by kernel_rfl) (by kernel_rfl) (fun _ _ _ h => h) (Or.inl ⟨by rfl, ?hyc2⟩) hH0 ?rc2
                case hyc2 => (intro w' hSw; clear hSw; go_simp; try with_reducible rfl)
                simp only [Act.put, List.setIfInBounds_toArray, List.set_cons_zero, List.set_cons_succ]
                refine' wpAnyH_take (i := 3) (oi := { dst := some 50, op := Op.binOp BinOp.lss 3 (Operand.tmp 47) (Operand.tmp 49) 3, type := 4, pos := "ref.go:100", after := #[{ on := 0, ground := Ground.data }, { on := 2, ground := Ground.data }], guard := none }) (v := _) rfl (by kernel_rfl) (by kernel_rfl) (by kernel_rfl) (fun _ _ _ h => h) (Or.inl ⟨by rfl, ?hyc3⟩) hH0 ?rc3
                case hyc3 => (intro w' hSw; clear hSw; go_simp; try with_reducible rfl)
                simp only [Act.put, List.setIfInBounds_toArray, List.set_cons_zero, List.set_cons_succ]
                refine' wpAnyH_take (i := 4) (oi := { dst := some 51, op := Op.move (Operand.tmp 50), type := 4, pos := "ref.go:100", after := #[{ on := 3, ground := Ground.data }], guard := none }) (v := _) rfl (by kernel_rfl) (by kernel_rfl) (by kernel_rfl) (fun _ _ _ h => h) (Or.inl ⟨by rfl, ?hyc4⟩) hH0 ?rc4
                case hyc4 => (intro w' hSw; clear hSw; go_simp; try with_reducible rfl)
                simp only [Act.put, List.setIfInBounds_toArray, List.set_cons_zero, List.set_cons_succ]
                refine' wpAnyH_take (i := 5) (oi := { dst := some 52, op := Op.move (Operand.tmp 0), type := 23, pos := "ref.go:100", after := #[{ on := 4, ground := Ground.guard }], guard := some (4, true) }) (v := _) rfl (by kernel_rfl) (by kernel_rfl) (by kernel_rfl) (fun _ _ _ h => h) (Or.inl ⟨by rfl, ?hyc5⟩) hH0 ?rc5
                case hyc5 => (intro w' hSw; clear hSw; go_simp; try with_reducible rfl)
                simp only [Act.put, List.setIfInBounds_toArray, List.set_cons_zero, List.set_cons_succ]
                refine' wpAnyH_take (i := 6) (oi := { dst := some 53, op := Op.move (Operand.tmp 4), type := 3, pos := "ref.go:100", after := #[{ on := 4, ground := Ground.guard }], guard := some (4, true) }) (v := _) rfl (by kernel_rfl) (by kernel_rfl) (by kernel_rfl) (fun _ _ _ h => h) (Or.inl ⟨by rfl, ?hyc6⟩) hH0 ?rc6
                case hyc6 => (intro w' hSw; clear hSw; go_simp; try with_reducible rfl)
                simp only [Act.put, List.setIfInBounds_toArray, List.set_cons_zero, List.set_cons_succ]
                refine' wpAnyH_take (i := 7) (oi := { dst := some 54, op := Op.indexAddr 23 (Operand.tmp 52) (Operand.tmp 53), type := 0, pos := "ref.go:100", after := #[{ on := 5, ground := Ground.data }, { on := 6, ground := Ground.data }, { on := 4, ground := Ground.guard }], guard := some (4, true) }) (v := _) rfl (by kernel_rfl) (by kernel_rfl) (by kernel_rfl) (fun _ _ _ h => h) (Or.inl ⟨by rfl, ?hyc7⟩) hH0 ?rc7
                case hyc7 => (intro w' hSw; clear hSw; go_simp; try with_reducible rfl)
                simp only [Act.put, List.setIfInBounds_toArray, List.set_cons_zero, List.set_cons_succ]
                refine' wpAnyH_take (i := 8) (oi := { dst := some 55, op := Op.load 33 (Operand.tmp 54), type := 33, pos := "ref.go:100", after := #[{ on := 7, ground := Ground.data }, { on := 4, ground := Ground.guard }], guard := some (4, true) }) (v := .agg (pgA q)) rfl (by kernel_rfl) (by kernel_rfl) (by kernel_rfl) (fun _ _ _ h => h) (yields_load (by rfl) 33 (.tmp 54) rfl (by rfl) hlq2) hH0 ?rc8
                simp only [Act.put, List.setIfInBounds_toArray, List.set_cons_zero, List.set_cons_succ]
                refine' wpAnyH_take (i := 9) (oi := { dst := some 56, op := Op.move (Operand.tmp 3), type := 23, pos := "ref.go:100", after := #[{ on := 4, ground := Ground.guard }], guard := some (4, true) }) (v := _) rfl (by kernel_rfl) (by kernel_rfl) (by kernel_rfl) (fun _ _ _ h => h) (Or.inl ⟨by rfl, ?hyc9⟩) hH0 ?rc9
                case hyc9 => (intro w' hSw; clear hSw; go_simp; try with_reducible rfl)
                simp only [Act.put, List.setIfInBounds_toArray, List.set_cons_zero, List.set_cons_succ]
                refine' wpAnyH_take (i := 10) (oi := { dst := some 57, op := Op.move (Operand.tmp 5), type := 3, pos := "ref.go:100", after := #[{ on := 4, ground := Ground.guard }], guard := some (4, true) }) (v := _) rfl (by kernel_rfl) (by kernel_rfl) (by kernel_rfl) (fun _ _ _ h => h) (Or.inl ⟨by rfl, ?hyc10⟩) hH0 ?rc10
                case hyc10 => (intro w' hSw; clear hSw; go_simp; try with_reducible rfl)
                simp only [Act.put, List.setIfInBounds_toArray, List.set_cons_zero, List.set_cons_succ]
                refine' wpAnyH_take (i := 11) (oi := { dst := some 58, op := Op.indexAddr 23 (Operand.tmp 56) (Operand.tmp 57), type := 0, pos := "ref.go:100", after := #[{ on := 9, ground := Ground.data }, { on := 10, ground := Ground.data }, { on := 4, ground := Ground.guard }], guard := some (4, true) }) (v := _) rfl (by kernel_rfl) (by kernel_rfl) (by kernel_rfl) (fun _ _ _ h => h) (Or.inl ⟨by rfl, ?hyc11⟩) hH0 ?rc11
                case hyc11 => (intro w' hSw; clear hSw; go_simp; try with_reducible rfl)
                simp only [Act.put, List.setIfInBounds_toArray, List.set_cons_zero, List.set_cons_succ]
                refine' wpAnyH_take (i := 12) (oi := { dst := some 59, op := Op.load 33 (Operand.tmp 58), type := 33, pos := "ref.go:100", after := #[{ on := 11, ground := Ground.data }, { on := 4, ground := Ground.guard }], guard := some (4, true) }) (v := .agg (pgA x)) rfl (by kernel_rfl) (by kernel_rfl) (by kernel_rfl) (fun _ _ _ h => h) (yields_load (by rfl) 33 (.tmp 58) rfl (by rfl) hlx2) hH0 ?rc12
                simp only [Act.put, List.setIfInBounds_toArray, List.set_cons_zero, List.set_cons_succ]
                refine wpAnyH_ready (rs := [13]) (by kernel_rfl) (by simp) ?_
                refine AllReadyH.cons (o := { dst := some 60, op := Op.call { callee := Callee.value (Operand.func 23), args := #[Operand.tmp 55, Operand.tmp 59], argTypes := #[33, 33] }, type := 4, pos := "ref.go:100", after := #[{ on := 8, ground := Ground.data }, { on := 12, ground := Ground.data }, { on := 4, ground := Ground.chain }, { on := 4, ground := Ground.guard }], guard := some (4, true) }) rfl (fun K hK => ?_) AllReadyH.nil
                refine step_call_want (vs := #[.agg (pgA q), .agg (pgA x)]) (R := fun u wz => u = .bool (ahB q x) ∧ Keep (fun _ => False) w3.drew wz) (by rfl) 23 #[Operand.tmp 55, Operand.tmp 59] #[33, 33] rfl (by simp [Act.eval]) call20 (post_of (ahead_any q x _)) ?_
                rintro _ w5 ⟨rfl, k5⟩
                refine hK.out _ _ (((Keep.refl _ w3).drew).trans k5) (fun hH1 => ?_)
                clear hK K hH0
                simp only [Act.put, List.setIfInBounds_toArray, List.set_cons_zero, List.set_cons_succ]
                refine' wpAnyH_take (i := 14) (oi := { dst := some 61, op := Op.unOp UnOp.not 4 (Operand.tmp 60), type := 4, pos := "ref.go:100", after := #[{ on := 13, ground := Ground.data }, { on := 4, ground := Ground.guard }], guard := some (4, true) }) (v := _) rfl (by kernel_rfl) (by kernel_rfl) (by kernel_rfl) (fun _ _ _ h => h) (Or.inl ⟨by rfl, ?hyc14⟩) hH1 ?rc14
                case hyc14 => (intro w' hSw; clear hSw; go_simp; try with_reducible rfl)
                simp only [Act.put, List.setIfInBounds_toArray, List.set_cons_zero, List.set_cons_succ]
                refine' wpAnyH_take (i := 15) (oi := { dst := some 62, op := Op.pick (Operand.tmp 51) (Operand.tmp 61) (Operand.const (Value.bool false)), type := 4, pos := "ref.go:100", after := #[{ on := 4, ground := Ground.data }, { on := 14, ground := Ground.data }], guard := none }) (v := _) rfl (by kernel_rfl) (by kernel_rfl) (by kernel_rfl) (fun _ _ _ h => h) (Or.inl ⟨by rfl, ?hyc15⟩) hH1 ?rc15
                case hyc15 => (intro w' hSw; clear hSw; go_simp; try with_reducible rfl)
                simp only [Act.put, List.setIfInBounds_toArray, List.set_cons_zero, List.set_cons_succ]
                refine wpAnyH_done (by kernel_rfl) ?_ _
                refine NoPanic.normal ?_
                have k6 : Keep (fun _ => False) w3 w5 := ((Keep.refl _ w3).drew).trans k5
                cases hb2 : ahB q x with
                | false =>
                  have hF2 : Hid (Fst (l.take (i + 1)) fs) := by
                    rw [show l.take (i + 1) = _ from hnext']
                    exact Fst.same hF hxm (ah_same.1 ⟨hb', hb2⟩)
                  have hni2 : Hid (n ≤ i + 1) := Nat.le_succ_of_le hni
                  have F6 := F.more (k9'.trans k6)
                  clear hb2 hlq2 hlx2 hlq0
                  go_wp2_with fail
                  go_roundw
                  case rel => exact ⟨i + 1, n, c, _, fs, hlt', by go_num, rfl, F6, hfn, hF2, hni2⟩
                  case measure => have : i < l.length := hlt'; simp [intOf]; omega
                | true =>
                  have hins : Hid (Fst (l.take (i + 1)) (fs.take t ++ [q] ++ fs.drop t)) := by
                    rw [show l.take (i + 1) = _ from hnext']
                    exact Fst.ins hF hqk hah (fun y hy => by rw [show fs[t]? = some x from hx'] at hy; injection hy with hy; subst hy; exact hb2)
                  clear hb2 hlq2 hlx2
                  have kB : Keep (fun _ => False) w w5 := F.keep.trans (k9'.trans k6)
                  have F2 : Ro w w5 (some ⟨gf, of, none⟩) c fs := F.more ((k9'.trans k6))
                  have hlq : ∀ w', Keep (fun _ => False) w5 w' → (Instr.loadAt 33 (.pointer (some ⟨g, o + i * 39, none⟩))).run Try.prog w' = .ok (.agg (pgA q)) w' := fun w' k => hlq0 w' (kB.trans k)
                  have hs1 := fun w' => first_run w' (some ⟨gf, of, none⟩) (len := n) (cap := c) (t := t) (by omega)
                  have hs2 := fun w' => rest_run w' (some ⟨gf, of, none⟩) (len := n) (cap := c) (t := t) ht
                  have hfn' : fs.length = n := hfn
                  have hft : (fs.take t).length = t := by rw [List.length_take]; omega
                  have hft2 : (fs.take t ++ [q]).length = t + 1 := by rw [List.length_append, hft]; rfl
                  have hfd : (fs.drop t).length = n - t := by rw [List.length_drop, hfn']
                  have hfn1 : t + 1 + (n - t) = n + 1 := by omega
                  have mkF : ∀ w', Keep (fun _ => False) w5.drew w' → Rg w' (some ⟨gf, of, none⟩) c (fs.take t) ∧ ((some (⟨gf, of, none⟩ : Addr)) = none → fs.take t = [] ∧ c = 0) ∧ Rg w' (cutP (some ⟨gf, of, none⟩) c t) (c - t) (fs.drop t) ∧ (cutP (some ⟨gf, of, none⟩) c t = none → fs.drop t = [] ∧ c - t = 0) := fun w' k => by
                    have G := F2.rg.more (((Keep.refl (fun _ => False) w5).drew).trans k)
                    have hno : (some (⟨gf, of, none⟩ : Addr)) = none → fs = [] ∧ c = 0 := fun e => absurd e (by simp)
                    refine ⟨G.first t, fun e => ?_, G.cut (by omega), fun e => ?_⟩
                    · obtain ⟨h1, h2⟩ := hno e
                      rw [h1]; simp [h2]
                    · have e2 : (some (⟨gf, of, none⟩ : Addr)) = none := by
                        unfold cutP at e
                        split at e
                        · exact e
                        · cases e
                      obtain ⟨h1, h2⟩ := hno e2
                      rw [h1]; simp [h2]
                  have hlen5 : n + 5 ≤ 1000000 := by omega
                  have hl8 : Hid ((fs.take t ++ [q] ++ fs.drop t).length = n + 1) := by show _ = _; rw [List.length_append, hft2, hfd, hfn1]
                  go_upto_region 10 with fail
                  refine wp_region_noPanic ?_
                  refine wp_region_held_drew (S := fun w' => Keep (fun _ => False) w5 w') (by kernel_rfl) ((Keep.refl _ w5).drew) (fun hH0 => ?_)
                  refine' wpAnyH_take (i := 1) (oi := { dst := some 64, op := Op.move (Operand.tmp 3), type := 23, pos := "ref.go:103", after := #[], guard := none }) (v := _) rfl (by kernel_rfl) (by kernel_rfl) (by kernel_rfl) (fun _ _ _ h => h) (Or.inl ⟨by rfl, ?hye11⟩) hH0 ?re11
                  case hye11 => (intro w' hSw; clear hSw; go_simp; try with_reducible rfl)
                  simp only [Act.put, List.setIfInBounds_toArray, List.set_cons_zero, List.set_cons_succ]
                  refine' wpAnyH_take (i := 2) (oi := { dst := some 65, op := Op.move (Operand.tmp 5), type := 3, pos := "ref.go:103", after := #[], guard := none }) (v := _) rfl (by kernel_rfl) (by kernel_rfl) (by kernel_rfl) (fun _ _ _ h => h) (Or.inl ⟨by rfl, ?hye12⟩) hH0 ?re12
                  case hye12 => (intro w' hSw; clear hSw; go_simp; try with_reducible rfl)
                  simp only [Act.put, List.setIfInBounds_toArray, List.set_cons_zero, List.set_cons_succ]
                  refine' wpAnyH_take (i := 3) (oi := { dst := some 66, op := Op.slice 23 (Operand.tmp 64) none (some (Operand.tmp 65)) none, type := 23, pos := "ref.go:103", after := #[{ on := 1, ground := Ground.data }, { on := 2, ground := Ground.data }], guard := none }) (v := .slice (some ⟨gf, of, none⟩) t c) rfl (by kernel_rfl) (by kernel_rfl) (by kernel_rfl) (fun _ _ _ h => h) (yields_first (by rfl) 23 (.tmp 64) (.tmp 65) rfl (by rfl) (by rfl) hs1) hH0 ?re13
                  simp only [Act.put, List.setIfInBounds_toArray, List.set_cons_zero, List.set_cons_succ]
                  refine' wpAnyH_take (i := 5) (oi := { dst := some 68, op := Op.move (Operand.tmp 0), type := 23, pos := "ref.go:103", after := #[], guard := none }) (v := _) rfl (by kernel_rfl) (by kernel_rfl) (by kernel_rfl) (fun _ _ _ h => h) (Or.inl ⟨by rfl, ?hye15⟩) hH0 ?re15
                  case hye15 => (intro w' hSw; clear hSw; go_simp; try with_reducible rfl)
                  simp only [Act.put, List.setIfInBounds_toArray, List.set_cons_zero, List.set_cons_succ]
                  refine' wpAnyH_take (i := 6) (oi := { dst := some 69, op := Op.move (Operand.tmp 4), type := 3, pos := "ref.go:103", after := #[], guard := none }) (v := _) rfl (by kernel_rfl) (by kernel_rfl) (by kernel_rfl) (fun _ _ _ h => h) (Or.inl ⟨by rfl, ?hye16⟩) hH0 ?re16
                  case hye16 => (intro w' hSw; clear hSw; go_simp; try with_reducible rfl)
                  simp only [Act.put, List.setIfInBounds_toArray, List.set_cons_zero, List.set_cons_succ]
                  refine' wpAnyH_take (i := 7) (oi := { dst := some 70, op := Op.indexAddr 23 (Operand.tmp 68) (Operand.tmp 69), type := 0, pos := "ref.go:103", after := #[{ on := 5, ground := Ground.data }, { on := 6, ground := Ground.data }], guard := none }) (v := _) rfl (by kernel_rfl) (by kernel_rfl) (by kernel_rfl) (fun _ _ _ h => h) (Or.inl ⟨by rfl, ?hye17⟩) hH0 ?re17
                  case hye17 => (intro w' hSw; clear hSw; go_simp; try with_reducible rfl)
                  simp only [Act.put, List.setIfInBounds_toArray, List.set_cons_zero, List.set_cons_succ]
                  refine' wpAnyH_take (i := 8) (oi := { dst := some 71, op := Op.load 33 (Operand.tmp 70), type := 33, pos := "ref.go:103", after := #[{ on := 7, ground := Ground.data }], guard := none }) (v := .agg (pgA q)) rfl (by kernel_rfl) (by kernel_rfl) (by kernel_rfl) (fun _ _ _ h => h) (yields_load (by rfl) 33 (.tmp 70) rfl (by rfl) hlq) hH0 ?re18
                  simp only [Act.put, List.setIfInBounds_toArray, List.set_cons_zero, List.set_cons_succ]
                  refine' wpAnyH_take (i := 11) (oi := { dst := some 74, op := Op.move (Operand.tmp 3), type := 23, pos := "ref.go:103", after := #[], guard := none }) (v := _) rfl (by kernel_rfl) (by kernel_rfl) (by kernel_rfl) (fun _ _ _ h => h) (Or.inl ⟨by rfl, ?hye111⟩) hH0 ?re111
                  case hye111 => (intro w' hSw; clear hSw; go_simp; try with_reducible rfl)
                  simp only [Act.put, List.setIfInBounds_toArray, List.set_cons_zero, List.set_cons_succ]
                  refine' wpAnyH_take (i := 12) (oi := { dst := some 75, op := Op.move (Operand.tmp 5), type := 3, pos := "ref.go:103", after := #[], guard := none }) (v := _) rfl (by kernel_rfl) (by kernel_rfl) (by kernel_rfl) (fun _ _ _ h => h) (Or.inl ⟨by rfl, ?hye112⟩) hH0 ?re112
                  case hye112 => (intro w' hSw; clear hSw; go_simp; try with_reducible rfl)
                  simp only [Act.put, List.setIfInBounds_toArray, List.set_cons_zero, List.set_cons_succ]
                  refine' wpAnyH_take (i := 13) (oi := { dst := some 76, op := Op.slice 23 (Operand.tmp 74) (some (Operand.tmp 75)) none none, type := 23, pos := "ref.go:103", after := #[{ on := 11, ground := Ground.data }, { on := 12, ground := Ground.data }], guard := none }) (v := .slice (cutP (some ⟨gf, of, none⟩) c t) (n - t) (c - t)) rfl (by kernel_rfl) (by kernel_rfl) (by kernel_rfl) (fun _ _ _ h => h) (yields_rest (by rfl) 23 (.tmp 74) (.tmp 75) rfl (by rfl) (by rfl) hs2) hH0 ?re113
                  simp only [Act.put, List.setIfInBounds_toArray, List.set_cons_zero, List.set_cons_succ]
                  refine wpAnyH_ready (rs := [0, 9]) (by kernel_rfl) (by simp) ?_
                  refine AllReadyH.cons (o := { dst := some 63, op := Op.buildSlice 23 0 #[], type := 23, pos := "ref.go:103", after := #[], guard := none }) rfl (fun K hK => ?_) (AllReadyH.cons (o := { dst := some 72, op := Op.buildSlice 23 1 #[(0, Operand.tmp 71)], type := 23, pos := "ref.go:103", after := #[{ on := 8, ground := Ground.data }], guard := none }) rfl (fun K hK => ?_) AllReadyH.nil)
                  · refine step_build0_run (by rfl) 23 rfl (build0_pg _) ?_
                    refine hK.out _ _ (((Keep.refl (fun _ => False) w5).drew).alloc _) (fun hH1 => ?_)
                    clear hK K
                    simp only [Act.put, List.setIfInBounds_toArray, List.set_cons_zero, List.set_cons_succ]
                    have R1 := ro_made w5.drew
                    refine wpAnyH_ready (rs := [4, 9]) (by kernel_rfl) (by simp) ?_
                    refine AllReadyH.cons (o := { dst := some 67, op := Op.call { callee := Callee.builtin Builtin.append, args := #[Operand.tmp 63, Operand.tmp 66], argTypes := #[23, 23] }, type := 23, pos := "ref.go:103", after := #[{ on := 0, ground := Ground.data }, { on := 3, ground := Ground.data }], guard := none }) rfl (fun K hK => ?_) (AllReadyH.cons (o := { dst := some 72, op := Op.buildSlice 23 1 #[(0, Operand.tmp 71)], type := 23, pos := "ref.go:103", after := #[{ on := 8, ground := Ground.data }], guard := none }) rfl (fun K hK => ?_) AllReadyH.nil)
                    · obtain ⟨a4, c4, w4, hr4, R4, -, -⟩ := R1.appZ (mkF _ R1.keep).1 (mkF _ R1.keep).2.1 (by rw [hft]; simp; omega)
                      simp only [List.length_nil, Nat.zero_add, hft, List.nil_append] at hr4 R4
                      refine step_append_run (by rfl) (.tmp 63) (.tmp 66) 23 rfl (by rfl) (by rfl) hr4 ?_
                      refine hK.out _ _ (((Keep.refl (fun _ => False) w5).drew).trans R4.keep) (fun hH2 => ?_)
                      clear hK K
                      simp only [Act.put, List.setIfInBounds_toArray, List.set_cons_zero, List.set_cons_succ]
                      refine wpAnyH_ready (rs := [9]) (by kernel_rfl) (by simp) ?_
                      refine AllReadyH.cons (o := { dst := some 72, op := Op.buildSlice 23 1 #[(0, Operand.tmp 71)], type := 23, pos := "ref.go:103", after := #[{ on := 8, ground := Ground.data }], guard := none }) rfl (fun K hK => ?_) AllReadyH.nil
                      refine step_build_run (by rfl) 23 1 (.tmp 71) rfl (by rfl) (build_pg q _) ?_
                      refine hK.out _ _ ((((Keep.refl (fun _ => False) w5).drew).trans R4.keep).alloc _) (fun hH3 => ?_)
                      clear hK K
                      simp only [Act.put, List.setIfInBounds_toArray, List.set_cons_zero, List.set_cons_succ]
                      have Z4 := rg_one w4 q
                      have R5 := R4.more ((Keep.refl _ w4).alloc (.cells (pgA q) 33))
                      obtain ⟨a6, c6, w6, hr6, R6, -, -⟩ := R5.appZ Z4 (fun e => absurd e (by simp)) (by rw [hft]; simp; omega)
                      simp only [hft, List.length_singleton] at hr6
                      refine wpAnyH_ready (rs := [10]) (by kernel_rfl) (by simp) ?_
                      refine AllReadyH.cons (o := { dst := some 73, op := Op.call { callee := Callee.builtin Builtin.append, args := #[Operand.tmp 67, Operand.tmp 72], argTypes := #[23, 23] }, type := 23, pos := "ref.go:103", after := #[{ on := 4, ground := Ground.data }, { on := 9, ground := Ground.data }, { on := 4, ground := Ground.chain }], guard := none }) rfl (fun K hK => ?_) AllReadyH.nil
                      refine step_append_run (by rfl) (.tmp 67) (.tmp 72) 23 rfl (by rfl) (by rfl) hr6 ?_
                      refine hK.out _ _ (((Keep.refl (fun _ => False) w5).drew).trans R6.keep) (fun hH8 => ?_)
                      clear hK K
                      simp only [Act.put, List.setIfInBounds_toArray, List.set_cons_zero, List.set_cons_succ]
                      obtain ⟨a7, c7, w7, hr7, R7, -, -⟩ := R6.appZ (mkF _ R6.keep).2.2.1 (mkF _ R6.keep).2.2.2 (by rw [hft2, hfd]; omega)
                      rw [hft2, hfd, hfn1] at hr7
                      refine wpAnyH_ready (rs := [14]) (by kernel_rfl) (by simp) ?_
                      refine AllReadyH.cons (o := { dst := some 77, op := Op.call { callee := Callee.builtin Builtin.append, args := #[Operand.tmp 73, Operand.tmp 76], argTypes := #[23, 23] }, type := 23, pos := "ref.go:103", after := #[{ on := 10, ground := Ground.data }, { on := 13, ground := Ground.data }, { on := 10, ground := Ground.chain }], guard := none }) rfl (fun K hK => ?_) AllReadyH.nil
                      refine step_append_run (by rfl) (.tmp 73) (.tmp 76) 23 rfl (by rfl) (by rfl) hr7 ?_
                      refine hK.out _ _ (((Keep.refl (fun _ => False) w5).drew).trans R7.keep) (fun hH9 => ?_)
                      clear hK K
                      simp only [Act.put, List.setIfInBounds_toArray, List.set_cons_zero, List.set_cons_succ]
                      refine' wpAnyH_take (i := 15) (oi := { dst := some 3, op := Op.assign (Operand.tmp 77), type := 23, pos := "ref.go:103", after := #[{ on := 14, ground := Ground.data }, { on := 14, ground := Ground.chain }, { on := 0, ground := Ground.phase }, { on := 1, ground := Ground.phase }, { on := 2, ground := Ground.phase }, { on := 3, ground := Ground.phase }, { on := 4, ground := Ground.phase }, { on := 5, ground := Ground.phase }, { on := 6, ground := Ground.phase }, { on := 7, ground := Ground.phase }, { on := 8, ground := Ground.phase }, { on := 9, ground := Ground.phase }, { on := 10, ground := Ground.phase }, { on := 11, ground := Ground.phase }, { on := 12, ground := Ground.phase }, { on := 13, ground := Ground.phase }, { on := 14, ground := Ground.phase }], guard := none }) (v := _) rfl (by kernel_rfl) (by kernel_rfl) (by kernel_rfl) (fun _ _ _ h => h) (Or.inl ⟨by rfl, ?hyp1⟩) hH9 ?rp1
                      case hyp1 => (intro w' hSw; clear hSw; go_simp; try with_reducible rfl)
                      simp only [Act.put, List.setIfInBounds_toArray, List.set_cons_zero, List.set_cons_succ]
                      refine wpAnyH_done (by kernel_rfl) ?_ _
                      refine NoPanic.normal ?_
                      go_wp2_with fail
                      go_roundw
                      case rel => exact ⟨i + 1, n + 1, c7, a7, _, hlt', by go_num, rfl, R7.older kB.drew, hl8, hins, Nat.succ_le_succ hni⟩
                      case measure => have : i < l.length := hlt'; simp [intOf]; omega
                    · refine step_build_run (by rfl) 23 1 (.tmp 71) rfl (by rfl) (build_pg q _) ?_
                      refine hK.out _ _ ((((Keep.refl (fun _ => False) w5).drew).alloc _).alloc _) (fun hH2 => ?_)
                      clear hK K
                      simp only [Act.put, List.setIfInBounds_toArray, List.set_cons_zero, List.set_cons_succ]
                      have Z3 := rg_one (w5.drew.alloc (.cells #[] 33)) q
                      have R3 := R1.more ((Keep.refl _ (w5.drew.alloc (.cells #[] 33))).alloc (.cells (pgA q) 33))
                      obtain ⟨a4, c4, w4, hr4, R5, k4, -⟩ := R3.appZ (mkF _ R3.keep).1 (mkF _ R3.keep).2.1 (by rw [hft]; simp; omega)
                      simp only [List.length_nil, Nat.zero_add, hft, List.nil_append] at hr4 R5
                      have hz : (w5.drew.alloc (.cells #[] 33)).heap.size = w5.drew.heap.size + 1 := by simp
                      have Z4 := Z3.keep k4 (fun g o e _ e2 => by injection e with e; injection e with e; injection e2 with e2; injection e2 with e2; rw [hz] at e; omega)
                      refine wpAnyH_ready (rs := [4]) (by kernel_rfl) (by simp) ?_
                      refine AllReadyH.cons (o := { dst := some 67, op := Op.call { callee := Callee.builtin Builtin.append, args := #[Operand.tmp 63, Operand.tmp 66], argTypes := #[23, 23] }, type := 23, pos := "ref.go:103", after := #[{ on := 0, ground := Ground.data }, { on := 3, ground := Ground.data }], guard := none }) rfl (fun K hK => ?_) AllReadyH.nil
                      refine step_append_run (by rfl) (.tmp 63) (.tmp 66) 23 rfl (by rfl) (by rfl) hr4 ?_
                      refine hK.out _ _ (((Keep.refl (fun _ => False) w5).drew).trans R5.keep) (fun hH3 => ?_)
                      clear hK K
                      simp only [Act.put, List.setIfInBounds_toArray, List.set_cons_zero, List.set_cons_succ]
                      obtain ⟨a6, c6, w6, hr6, R6, -, -⟩ := R5.appZ Z4 (fun e => absurd e (by simp)) (by rw [hft]; simp; omega)
                      simp only [hft, List.length_singleton] at hr6
                      refine wpAnyH_ready (rs := [10]) (by kernel_rfl) (by simp) ?_
                      refine AllReadyH.cons (o := { dst := some 73, op := Op.call { callee := Callee.builtin Builtin.append, args := #[Operand.tmp 67, Operand.tmp 72], argTypes := #[23, 23] }, type := 23, pos := "ref.go:103", after := #[{ on := 4, ground := Ground.data }, { on := 9, ground := Ground.data }, { on := 4, ground := Ground.chain }], guard := none }) rfl (fun K hK => ?_) AllReadyH.nil
                      refine step_append_run (by rfl) (.tmp 67) (.tmp 72) 23 rfl (by rfl) (by rfl) hr6 ?_
                      refine hK.out _ _ (((Keep.refl (fun _ => False) w5).drew).trans R6.keep) (fun hH8 => ?_)
                      clear hK K
                      simp only [Act.put, List.setIfInBounds_toArray, List.set_cons_zero, List.set_cons_succ]
                      obtain ⟨a7, c7, w7, hr7, R7, -, -⟩ := R6.appZ (mkF _ R6.keep).2.2.1 (mkF _ R6.keep).2.2.2 (by rw [hft2, hfd]; omega)
                      rw [hft2, hfd, hfn1] at hr7
                      refine wpAnyH_ready (rs := [14]) (by kernel_rfl) (by simp) ?_
                      refine AllReadyH.cons (o := { dst := some 77, op := Op.call { callee := Callee.builtin Builtin.append, args := #[Operand.tmp 73, Operand.tmp 76], argTypes := #[23, 23] }, type := 23, pos := "ref.go:103", after := #[{ on := 10, ground := Ground.data }, { on := 13, ground := Ground.data }, { on := 10, ground := Ground.chain }], guard := none }) rfl (fun K hK => ?_) AllReadyH.nil
                      refine step_append_run (by rfl) (.tmp 73) (.tmp 76) 23 rfl (by rfl) (by rfl) hr7 ?_
                      refine hK.out _ _ (((Keep.refl (fun _ => False) w5).drew).trans R7.keep) (fun hH9 => ?_)
                      clear hK K
                      simp only [Act.put, List.setIfInBounds_toArray, List.set_cons_zero, List.set_cons_succ]
                      refine' wpAnyH_take (i := 15) (oi := { dst := some 3, op := Op.assign (Operand.tmp 77), type := 23, pos := "ref.go:103", after := #[{ on := 14, ground := Ground.data }, { on := 14, ground := Ground.chain }, { on := 0, ground := Ground.phase }, { on := 1, ground := Ground.phase }, { on := 2, ground := Ground.phase }, { on := 3, ground := Ground.phase }, { on := 4, ground := Ground.phase }, { on := 5, ground := Ground.phase }, { on := 6, ground := Ground.phase }, { on := 7, ground := Ground.phase }, { on := 8, ground := Ground.phase }, { on := 9, ground := Ground.phase }, { on := 10, ground := Ground.phase }, { on := 11, ground := Ground.phase }, { on := 12, ground := Ground.phase }, { on := 13, ground := Ground.phase }, { on := 14, ground := Ground.phase }], guard := none }) (v := _) rfl (by kernel_rfl) (by kernel_rfl) (by kernel_rfl) (fun _ _ _ h => h) (Or.inl ⟨by rfl, ?hyq1⟩) hH9 ?rq1
                      case hyq1 => (intro w' hSw; clear hSw; go_simp; try with_reducible rfl)
                      simp only [Act.put, List.setIfInBounds_toArray, List.set_cons_zero, List.set_cons_succ]
                      refine wpAnyH_done (by kernel_rfl) ?_ _
                      refine NoPanic.normal ?_
                      go_wp2_with fail
                      go_roundw
                      case rel => exact ⟨i + 1, n + 1, c7, a7, _, hlt', by go_num, rfl, R7.older kB.drew, hl8, hins, Nat.succ_le_succ hni⟩
                      case measure => have : i < l.length := hlt'; simp [intOf]; omega
                  · refine step_build_run (by rfl) 23 1 (.tmp 71) rfl (by rfl) (build_pg q _) ?_
                    refine hK.out _ _ (((Keep.refl (fun _ => False) w5).drew).alloc _) (fun hH1 => ?_)
                    clear hK K
                    simp only [Act.put, List.setIfInBounds_toArray, List.set_cons_zero, List.set_cons_succ]
                    have Z2 := rg_one w5.drew q
                    refine wpAnyH_ready (rs := [0]) (by kernel_rfl) (by simp) ?_
                    refine AllReadyH.cons (o := { dst := some 63, op := Op.buildSlice 23 0 #[], type := 23, pos := "ref.go:103", after := #[], guard := none }) rfl (fun K hK => ?_) AllReadyH.nil
                    refine step_build0_run (by rfl) 23 rfl (build0_pg _) ?_
                    refine hK.out _ _ ((((Keep.refl (fun _ => False) w5).drew).alloc _).alloc _) (fun hH2 => ?_)
                    clear hK K
                    simp only [Act.put, List.setIfInBounds_toArray, List.set_cons_zero, List.set_cons_succ]
                    have Z3 := Z2.more ((Keep.refl _ (w5.drew.alloc (.cells (pgA q) 33))).alloc (.cells #[] 33))
                    have R3 := (ro_made (w5.drew.alloc (.cells (pgA q) 33))).older ((Keep.refl _ w5.drew).alloc (.cells (pgA q) 33))
                    obtain ⟨a4, c4, w4, hr4, R5, k4, -⟩ := R3.appZ (mkF _ R3.keep).1 (mkF _ R3.keep).2.1 (by rw [hft]; simp; omega)
                    simp only [List.length_nil, Nat.zero_add, hft, List.nil_append] at hr4 R5
                    have hz : (w5.drew.alloc (.cells (pgA q) 33)).heap.size = w5.drew.heap.size + 1 := by simp
                    have Z4 := Z3.keep k4 (fun g o e _ e2 => by injection e with e; injection e with e; injection e2 with e2; injection e2 with e2; rw [hz] at e2; omega)
                    refine wpAnyH_ready (rs := [4]) (by kernel_rfl) (by simp) ?_
                    refine AllReadyH.cons (o := { dst := some 67, op := Op.call { callee := Callee.builtin Builtin.append, args := #[Operand.tmp 63, Operand.tmp 66], argTypes := #[23, 23] }, type := 23, pos := "ref.go:103", after := #[{ on := 0, ground := Ground.data }, { on := 3, ground := Ground.data }], guard := none }) rfl (fun K hK => ?_) AllReadyH.nil
                    refine step_append_run (by rfl) (.tmp 63) (.tmp 66) 23 rfl (by rfl) (by rfl) hr4 ?_
                    refine hK.out _ _ (((Keep.refl (fun _ => False) w5).drew).trans R5.keep) (fun hH3 => ?_)
                    clear hK K
                    simp only [Act.put, List.setIfInBounds_toArray, List.set_cons_zero, List.set_cons_succ]
                    obtain ⟨a6, c6, w6, hr6, R6, -, -⟩ := R5.appZ Z4 (fun e => absurd e (by simp)) (by rw [hft]; simp; omega)
                    simp only [hft, List.length_singleton] at hr6
                    refine wpAnyH_ready (rs := [10]) (by kernel_rfl) (by simp) ?_
                    refine AllReadyH.cons (o := { dst := some 73, op := Op.call { callee := Callee.builtin Builtin.append, args := #[Operand.tmp 67, Operand.tmp 72], argTypes := #[23, 23] }, type := 23, pos := "ref.go:103", after := #[{ on := 4, ground := Ground.data }, { on := 9, ground := Ground.data }, { on := 4, ground := Ground.chain }], guard := none }) rfl (fun K hK => ?_) AllReadyH.nil
                    refine step_append_run (by rfl) (.tmp 67) (.tmp 72) 23 rfl (by rfl) (by rfl) hr6 ?_
                    refine hK.out _ _ (((Keep.refl (fun _ => False) w5).drew).trans R6.keep) (fun hH8 => ?_)
                    clear hK K
                    simp only [Act.put, List.setIfInBounds_toArray, List.set_cons_zero, List.set_cons_succ]
                    obtain ⟨a7, c7, w7, hr7, R7, -, -⟩ := R6.appZ (mkF _ R6.keep).2.2.1 (mkF _ R6.keep).2.2.2 (by rw [hft2, hfd]; omega)
                    rw [hft2, hfd, hfn1] at hr7
                    refine wpAnyH_ready (rs := [14]) (by kernel_rfl) (by simp) ?_
                    refine AllReadyH.cons (o := { dst := some 77, op := Op.call { callee := Callee.builtin Builtin.append, args := #[Operand.tmp 73, Operand.tmp 76], argTypes := #[23, 23] }, type := 23, pos := "ref.go:103", after := #[{ on := 10, ground := Ground.data }, { on := 13, ground := Ground.data }, { on := 10, ground := Ground.chain }], guard := none }) rfl (fun K hK => ?_) AllReadyH.nil
                    refine step_append_run (by rfl) (.tmp 73) (.tmp 76) 23 rfl (by rfl) (by rfl) hr7 ?_
                    refine hK.out _ _ (((Keep.refl (fun _ => False) w5).drew).trans R7.keep) (fun hH9 => ?_)
                    clear hK K
                    simp only [Act.put, List.setIfInBounds_toArray, List.set_cons_zero, List.set_cons_succ]
                    refine' wpAnyH_take (i := 15) (oi := { dst := some 3, op := Op.assign (Operand.tmp 77), type := 23, pos := "ref.go:103", after := #[{ on := 14, ground := Ground.data }, { on := 14, ground := Ground.chain }, { on := 0, ground := Ground.phase }, { on := 1, ground := Ground.phase }, { on := 2, ground := Ground.phase }, { on := 3, ground := Ground.phase }, { on := 4, ground := Ground.phase }, { on := 5, ground := Ground.phase }, { on := 6, ground := Ground.phase }, { on := 7, ground := Ground.phase }, { on := 8, ground := Ground.phase }, { on := 9, ground := Ground.phase }, { on := 10, ground := Ground.phase }, { on := 11, ground := Ground.phase }, { on := 12, ground := Ground.phase }, { on := 13, ground := Ground.phase }, { on := 14, ground := Ground.phase }], guard := none }) (v := _) rfl (by kernel_rfl) (by kernel_rfl) (by kernel_rfl) (fun _ _ _ h => h) (Or.inl ⟨by rfl, ?hyr1⟩) hH9 ?rr1
                    case hyr1 => (intro w' hSw; clear hSw; go_simp; try with_reducible rfl)
                    simp only [Act.put, List.setIfInBounds_toArray, List.set_cons_zero, List.set_cons_succ]
                    refine wpAnyH_done (by kernel_rfl) ?_ _
                    refine NoPanic.normal ?_
                    go_wp2_with fail
                    go_roundw
                    case rel => exact ⟨i + 1, n + 1, c7, a7, _, hlt', by go_num, rfl, R7.older kB.drew, hl8, hins, Nat.succ_le_succ hni⟩
                    case measure => have : i < l.length := hlt'; simp [intOf]; omega
            · have dt : ¬ (t : Int) < (n : Int) := by omega
              have hins : Hid (Fst (l.take (i + 1)) (fs.take t ++ [q] ++ fs.drop t)) := by
                rw [show l.take (i + 1) = _ from hnext']
                exact Fst.ins hF hqk hah (fun y hy => by rw [List.getElem?_eq_none (by rw [show fs.length = n from hfn]; omega)] at hy; cases hy)
              clear htn hlq
              go_upto_region 7 with fail
              refine wp_region_noPanic ?_
              refine wp_region_held_drew (S := fun w' => Keep (fun _ => False) wr w') (by kernel_rfl) ((Keep.refl _ wr).drew) (fun hH0 => ?_)
              refine' wpAnyH_take (i := 0) (oi := { dst := some 30, op := Op.move (Operand.tmp 5), type := 3, pos := "ref.go:97", after := #[], guard := none }) (v := _) rfl (by kernel_rfl) (by kernel_rfl) (by kernel_rfl) (fun _ _ _ h => h) (Or.inl ⟨by rfl, ?hyb0⟩) hH0 ?rb0
              case hyb0 => (intro w' hSw; clear hSw; go_simp; try with_reducible rfl)
              simp only [Act.put, List.setIfInBounds_toArray, List.set_cons_zero, List.set_cons_succ]
              refine' wpAnyH_take (i := 1) (oi := { dst := some 31, op := Op.move (Operand.tmp 3), type := 23, pos := "ref.go:97", after := #[], guard := none }) (v := _) rfl (by kernel_rfl) (by kernel_rfl) (by kernel_rfl) (fun _ _ _ h => h) (Or.inl ⟨by rfl, ?hyb1⟩) hH0 ?rb1
              case hyb1 => (intro w' hSw; clear hSw; go_simp; try with_reducible rfl)
              simp only [Act.put, List.setIfInBounds_toArray, List.set_cons_zero, List.set_cons_succ]
              refine' wpAnyH_take (i := 2) (oi := { dst := some 32, op := Op.call { callee := Callee.builtin Builtin.len, args := #[Operand.tmp 31], argTypes := #[23] }, type := 3, pos := "ref.go:97", after := #[{ on := 1, ground := Ground.data }], guard := none }) (v := _) rfl (by kernel_rfl) (by kernel_rfl) (by kernel_rfl) (fun _ _ _ h => h) (Or.inl ⟨by rfl, ?hyb2⟩) hH0 ?rb2
              case hyb2 => (intro w' hSw; clear hSw; go_simp; try with_reducible rfl)
              simp only [Act.put, List.setIfInBounds_toArray, List.set_cons_zero, List.set_cons_succ]
              refine' wpAnyH_take (i := 3) (oi := { dst := some 33, op := Op.binOp BinOp.lss 3 (Operand.tmp 30) (Operand.tmp 32) 3, type := 4, pos := "ref.go:97", after := #[{ on := 0, ground := Ground.data }, { on := 2, ground := Ground.data }], guard := none }) (v := _) rfl (by kernel_rfl) (by kernel_rfl) (by kernel_rfl) (fun _ _ _ h => h) (Or.inl ⟨by rfl, ?hyb3⟩) hH0 ?rb3
              case hyb3 => (intro w' hSw; clear hSw; go_simp; try with_reducible rfl)
              simp only [Act.put, List.setIfInBounds_toArray, List.set_cons_zero, List.set_cons_succ]
              refine' wpAnyH_take (i := 4) (oi := { dst := some 34, op := Op.move (Operand.tmp 33), type := 4, pos := "ref.go:97", after := #[{ on := 3, ground := Ground.data }], guard := none }) (v := _) rfl (by kernel_rfl) (by kernel_rfl) (by kernel_rfl) (fun _ _ _ h => h) (Or.inl ⟨by rfl, ?hyb4⟩) hH0 ?rb4
              case hyb4 => (intro w' hSw; clear hSw; go_simp; try with_reducible rfl)
              simp only [Act.put, List.setIfInBounds_toArray, List.set_cons_zero, List.set_cons_succ]
              refine' wpAnyH_take (i := 5) (oi := { dst := some 35, op := Op.move (Operand.tmp 3), type := 23, pos := "ref.go:97", after := #[{ on := 4, ground := Ground.guard }], guard := some (4, true) }) (v := undef) rfl (by kernel_rfl) (by kernel_rfl) (by kernel_rfl) (fun _ _ _ h => h) (Or.inr ⟨by rfl, rfl⟩) hH0 ?rb5
              simp only [Act.put, List.setIfInBounds_toArray, List.set_cons_zero, List.set_cons_succ]
              refine' wpAnyH_take (i := 6) (oi := { dst := some 36, op := Op.move (Operand.tmp 5), type := 3, pos := "ref.go:97", after := #[{ on := 4, ground := Ground.guard }], guard := some (4, true) }) (v := undef) rfl (by kernel_rfl) (by kernel_rfl) (by kernel_rfl) (fun _ _ _ h => h) (Or.inr ⟨by rfl, rfl⟩) hH0 ?rb6
              simp only [Act.put, List.setIfInBounds_toArray, List.set_cons_zero, List.set_cons_succ]
              refine' wpAnyH_take (i := 7) (oi := { dst := some 37, op := Op.indexAddr 23 (Operand.tmp 35) (Operand.tmp 36), type := 0, pos := "ref.go:97", after := #[{ on := 5, ground := Ground.data }, { on := 6, ground := Ground.data }, { on := 4, ground := Ground.guard }], guard := some (4, true) }) (v := undef) rfl (by kernel_rfl) (by kernel_rfl) (by kernel_rfl) (fun _ _ _ h => h) (Or.inr ⟨by rfl, rfl⟩) hH0 ?rb7
              simp only [Act.put, List.setIfInBounds_toArray, List.set_cons_zero, List.set_cons_succ]
              refine' wpAnyH_take (i := 8) (oi := { dst := some 38, op := Op.load 33 (Operand.tmp 37), type := 33, pos := "ref.go:97", after := #[{ on := 7, ground := Ground.data }, { on := 4, ground := Ground.guard }], guard := some (4, true) }) (v := undef) rfl (by kernel_rfl) (by kernel_rfl) (by kernel_rfl) (fun _ _ _ h => h) (Or.inr ⟨by rfl, rfl⟩) hH0 ?rb8
              simp only [Act.put, List.setIfInBounds_toArray, List.set_cons_zero, List.set_cons_succ]
              refine' wpAnyH_take (i := 9) (oi := { dst := some 39, op := Op.move (Operand.tmp 0), type := 23, pos := "ref.go:97", after := #[{ on := 4, ground := Ground.guard }], guard := some (4, true) }) (v := undef) rfl (by kernel_rfl) (by kernel_rfl) (by kernel_rfl) (fun _ _ _ h => h) (Or.inr ⟨by rfl, rfl⟩) hH0 ?rb9
              simp only [Act.put, List.setIfInBounds_toArray, List.set_cons_zero, List.set_cons_succ]
              refine' wpAnyH_take (i := 10) (oi := { dst := some 40, op := Op.move (Operand.tmp 4), type := 3, pos := "ref.go:97", after := #[{ on := 4, ground := Ground.guard }], guard := some (4, true) }) (v := undef) rfl (by kernel_rfl) (by kernel_rfl) (by kernel_rfl) (fun _ _ _ h => h) (Or.inr ⟨by rfl, rfl⟩) hH0 ?rb10
              simp only [Act.put, List.setIfInBounds_toArray, List.set_cons_zero, List.set_cons_succ]
              refine' wpAnyH_take (i := 11) (oi := { dst := some 41, op := Op.indexAddr 23 (Operand.tmp 39) (Operand.tmp 40), type := 0, pos := "ref.go:97", after := #[{ on := 9, ground := Ground.data }, { on := 10, ground := Ground.data }, { on := 4, ground := Ground.guard }], guard := some (4, true) }) (v := undef) rfl (by kernel_rfl) (by kernel_rfl) (by kernel_rfl) (fun _ _ _ h => h) (Or.inr ⟨by rfl, rfl⟩) hH0 ?rb11
              simp only [Act.put, List.setIfInBounds_toArray, List.set_cons_zero, List.set_cons_succ]
              refine' wpAnyH_take (i := 12) (oi := { dst := some 42, op := Op.load 33 (Operand.tmp 41), type := 33, pos := "ref.go:97", after := #[{ on := 11, ground := Ground.data }, { on := 4, ground := Ground.guard }], guard := some (4, true) }) (v := undef) rfl (by kernel_rfl) (by kernel_rfl) (by kernel_rfl) (fun _ _ _ h => h) (Or.inr ⟨by rfl, rfl⟩) hH0 ?rb12
              simp only [Act.put, List.setIfInBounds_toArray, List.set_cons_zero, List.set_cons_succ]
              refine' wpAnyH_take (i := 13) (oi := { dst := some 43, op := Op.call { callee := Callee.value (Operand.func 23), args := #[Operand.tmp 38, Operand.tmp 42], argTypes := #[33, 33] }, type := 4, pos := "ref.go:97", after := #[{ on := 8, ground := Ground.data }, { on := 12, ground := Ground.data }, { on := 4, ground := Ground.chain }, { on := 4, ground := Ground.guard }], guard := some (4, true) }) (v := undef) rfl (by kernel_rfl) (by kernel_rfl) (by kernel_rfl) (fun _ _ _ h => h) (Or.inr ⟨by rfl, rfl⟩) hH0 ?rb13
              simp only [Act.put, List.setIfInBounds_toArray, List.set_cons_zero, List.set_cons_succ]
              refine' wpAnyH_take (i := 14) (oi := { dst := some 44, op := Op.pick (Operand.tmp 34) (Operand.tmp 43) (Operand.const (Value.bool false)), type := 4, pos := "ref.go:97", after := #[{ on := 4, ground := Ground.data }, { on := 13, ground := Ground.data }], guard := none }) (v := _) rfl (by kernel_rfl) (by kernel_rfl) (by kernel_rfl) (fun _ _ _ h => h) (Or.inl ⟨by rfl, ?hyb14⟩) hH0 ?rb14
              case hyb14 => (intro w' hSw; clear hSw; go_simp; try with_reducible rfl)
              simp only [Act.put, List.setIfInBounds_toArray, List.set_cons_zero, List.set_cons_succ]
              refine wpAnyH_done (by kernel_rfl) ?_ _
              refine NoPanic.normal ?_
              go_upto_region 9 with fail
              refine wp_region_noPanic ?_
              refine wp_region_held_drew (S := fun w' => Keep (fun _ => False) wr.drew w') (by kernel_rfl) ((Keep.refl _ wr.drew).drew) (fun hH0 => ?_)
              refine' wpAnyH_take (i := 0) (oi := { dst := some 47, op := Op.move (Operand.tmp 5), type := 3, pos := "ref.go:100", after := #[], guard := none }) (v := _) rfl (by kernel_rfl) (by kernel_rfl) (by kernel_rfl) (fun _ _ _ h => h) (Or.inl ⟨by rfl, ?hyd0⟩) hH0 ?rd0
              case hyd0 => (intro w' hSw; clear hSw; go_simp; try with_reducible rfl)
              simp only [Act.put, List.setIfInBounds_toArray, List.set_cons_zero, List.set_cons_succ]
              refine' wpAnyH_take (i := 1) (oi := { dst := some 48, op := Op.move (Operand.tmp 3), type := 23, pos := "ref.go:100", after := #[], guard := none }) (v := _) rfl (by kernel_rfl) (by kernel_rfl) (by kernel_rfl) (fun _ _ _ h => h) (Or.inl ⟨by rfl, ?hyd1⟩) hH0 ?rd1
              case hyd1 => (intro w' hSw; clear hSw; go_simp; try with_reducible rfl)
              simp only [Act.put, List.setIfInBounds_toArray, List.set_cons_zero, List.set_cons_succ]
              refine' wpAnyH_take (i := 2) (oi := { dst := some 49, op := Op.call { callee := Callee.builtin Builtin.len, args := #[Operand.tmp 48], argTypes := #[23] }, type := 3, pos := "ref.go:100", after := #[{ on := 1, ground := Ground.data }], guard := none }) (v := _) rfl (by kernel_rfl) (by kernel_rfl) (by kernel_rfl) (fun _ _ _ h => h) (Or.inl ⟨by rfl, ?hyd2⟩) hH0 ?rd2
              case hyd2 => (intro w' hSw; clear hSw; go_simp; try with_reducible rfl)
              simp only [Act.put, List.setIfInBounds_toArray, List.set_cons_zero, List.set_cons_succ]
              refine' wpAnyH_take (i := 3) (oi := { dst := some 50, op := Op.binOp BinOp.lss 3 (Operand.tmp 47) (Operand.tmp 49) 3, type := 4, pos := "ref.go:100", after := #[{ on := 0, ground := Ground.data }, { on := 2, ground := Ground.data }], guard := none }) (v := _) rfl (by kernel_rfl) (by kernel_rfl) (by kernel_rfl) (fun _ _ _ h => h) (Or.inl ⟨by rfl, ?hyd3⟩) hH0 ?rd3
              case hyd3 => (intro w' hSw; clear hSw; go_simp; try with_reducible rfl)
              simp only [Act.put, List.setIfInBounds_toArray, List.set_cons_zero, List.set_cons_succ]
              refine' wpAnyH_take (i := 4) (oi := { dst := some 51, op := Op.move (Operand.tmp 50), type := 4, pos := "ref.go:100", after := #[{ on := 3, ground := Ground.data }], guard := none }) (v := _) rfl (by kernel_rfl) (by kernel_rfl) (by kernel_rfl) (fun _ _ _ h => h) (Or.inl ⟨by rfl, ?hyd4⟩) hH0 ?rd4
              case hyd4 => (intro w' hSw; clear hSw; go_simp; try with_reducible rfl)
              simp only [Act.put, List.setIfInBounds_toArray, List.set_cons_zero, List.set_cons_succ]
              refine' wpAnyH_take (i := 5) (oi := { dst := some 52, op := Op.move (Operand.tmp 0), type := 23, pos := "ref.go:100", after := #[{ on := 4, ground := Ground.guard }], guard := some (4, true) }) (v := undef) rfl (by kernel_rfl) (by kernel_rfl) (by kernel_rfl) (fun _ _ _ h => h) (Or.inr ⟨by rfl, rfl⟩) hH0 ?rd5
              simp only [Act.put, List.setIfInBounds_toArray, List.set_cons_zero, List.set_cons_succ]
              refine' wpAnyH_take (i := 6) (oi := { dst := some 53, op := Op.move (Operand.tmp 4), type := 3, pos := "ref.go:100", after := #[{ on := 4, ground := Ground.guard }], guard := some (4, true) }) (v := undef) rfl (by kernel_rfl) (by kernel_rfl) (by kernel_rfl) (fun _ _ _ h => h) (Or.inr ⟨by rfl, rfl⟩) hH0 ?rd6
              simp only [Act.put, List.setIfInBounds_toArray, List.set_cons_zero, List.set_cons_succ]
              refine' wpAnyH_take (i := 7) (oi := { dst := some 54, op := Op.indexAddr 23 (Operand.tmp 52) (Operand.tmp 53), type := 0, pos := "ref.go:100", after := #[{ on := 5, ground := Ground.data }, { on := 6, ground := Ground.data }, { on := 4, ground := Ground.guard }], guard := some (4, true) }) (v := undef) rfl (by kernel_rfl) (by kernel_rfl) (by kernel_rfl) (fun _ _ _ h => h) (Or.inr ⟨by rfl, rfl⟩) hH0 ?rd7
              simp only [Act.put, List.setIfInBounds_toArray, List.set_cons_zero, List.set_cons_succ]
              refine' wpAnyH_take (i := 8) (oi := { dst := some 55, op := Op.load 33 (Operand.tmp 54), type := 33, pos := "ref.go:100", after := #[{ on := 7, ground := Ground.data }, { on := 4, ground := Ground.guard }], guard := some (4, true) }) (v := undef) rfl (by kernel_rfl) (by kernel_rfl) (by kernel_rfl) (fun _ _ _ h => h) (Or.inr ⟨by rfl, rfl⟩) hH0 ?rd8
              simp only [Act.put, List.setIfInBounds_toArray, List.set_cons_zero, List.set_cons_succ]
              refine' wpAnyH_take (i := 9) (oi := { dst := some 56, op := Op.move (Operand.tmp 3), type := 23, pos := "ref.go:100", after := #[{ on := 4, ground := Ground.guard }], guard := some (4, true) }) (v := undef) rfl (by kernel_rfl) (by kernel_rfl) (by kernel_rfl) (fun _ _ _ h => h) (Or.inr ⟨by rfl, rfl⟩) hH0 ?rd9
              simp only [Act.put, List.setIfInBounds_toArray, List.set_cons_zero, List.set_cons_succ]
              refine' wpAnyH_take (i := 10) (oi := { dst := some 57, op := Op.move (Operand.tmp 5), type := 3, pos := "ref.go:100", after := #[{ on := 4, ground := Ground.guard }], guard := some (4, true) }) (v := undef) rfl (by kernel_rfl) (by kernel_rfl) (by kernel_rfl) (fun _ _ _ h => h) (Or.inr ⟨by rfl, rfl⟩) hH0 ?rd10
              simp only [Act.put, List.setIfInBounds_toArray, List.set_cons_zero, List.set_cons_succ]
              refine' wpAnyH_take (i := 11) (oi := { dst := some 58, op := Op.indexAddr 23 (Operand.tmp 56) (Operand.tmp 57), type := 0, pos := "ref.go:100", after := #[{ on := 9, ground := Ground.data }, { on := 10, ground := Ground.data }, { on := 4, ground := Ground.guard }], guard := some (4, true) }) (v := undef) rfl (by kernel_rfl) (by kernel_rfl) (by kernel_rfl) (fun _ _ _ h => h) (Or.inr ⟨by rfl, rfl⟩) hH0 ?rd11
              simp only [Act.put, List.setIfInBounds_toArray, List.set_cons_zero, List.set_cons_succ]
              refine' wpAnyH_take (i := 12) (oi := { dst := some 59, op := Op.load 33 (Operand.tmp 58), type := 33, pos := "ref.go:100", after := #[{ on := 11, ground := Ground.data }, { on := 4, ground := Ground.guard }], guard := some (4, true) }) (v := undef) rfl (by kernel_rfl) (by kernel_rfl) (by kernel_rfl) (fun _ _ _ h => h) (Or.inr ⟨by rfl, rfl⟩) hH0 ?rd12
              simp only [Act.put, List.setIfInBounds_toArray, List.set_cons_zero, List.set_cons_succ]
              refine' wpAnyH_take (i := 13) (oi := { dst := some 60, op := Op.call { callee := Callee.value (Operand.func 23), args := #[Operand.tmp 55, Operand.tmp 59], argTypes := #[33, 33] }, type := 4, pos := "ref.go:100", after := #[{ on := 8, ground := Ground.data }, { on := 12, ground := Ground.data }, { on := 4, ground := Ground.chain }, { on := 4, ground := Ground.guard }], guard := some (4, true) }) (v := undef) rfl (by kernel_rfl) (by kernel_rfl) (by kernel_rfl) (fun _ _ _ h => h) (Or.inr ⟨by rfl, rfl⟩) hH0 ?rd13
              simp only [Act.put, List.setIfInBounds_toArray, List.set_cons_zero, List.set_cons_succ]
              refine' wpAnyH_take (i := 14) (oi := { dst := some 61, op := Op.unOp UnOp.not 4 (Operand.tmp 60), type := 4, pos := "ref.go:100", after := #[{ on := 13, ground := Ground.data }, { on := 4, ground := Ground.guard }], guard := some (4, true) }) (v := undef) rfl (by kernel_rfl) (by kernel_rfl) (by kernel_rfl) (fun _ _ _ h => h) (Or.inr ⟨by rfl, rfl⟩) hH0 ?rd14
              simp only [Act.put, List.setIfInBounds_toArray, List.set_cons_zero, List.set_cons_succ]
              refine' wpAnyH_take (i := 15) (oi := { dst := some 62, op := Op.pick (Operand.tmp 51) (Operand.tmp 61) (Operand.const (Value.bool false)), type := 4, pos := "ref.go:100", after := #[{ on := 4, ground := Ground.data }, { on := 14, ground := Ground.data }], guard := none }) (v := _) rfl (by kernel_rfl) (by kernel_rfl) (by kernel_rfl) (fun _ _ _ h => h) (Or.inl ⟨by rfl, ?hyd15⟩) hH0 ?rd15
              case hyd15 => (intro w' hSw; clear hSw; go_simp; try with_reducible rfl)
              simp only [Act.put, List.setIfInBounds_toArray, List.set_cons_zero, List.set_cons_succ]
              refine wpAnyH_done (by kernel_rfl) ?_ _
              refine NoPanic.normal ?_
              have k6 : Keep (fun _ => False) wr wr.drew.drew := ((Keep.refl _ wr).drew).drew
              generalize wr.drew.drew = w5 at k6
              have kB : Keep (fun _ => False) w w5 := F.keep.trans (k9.trans k6)
              have F2 : Ro w w5 af c fs := F.more ((k9.trans k6))
              have hlq : ∀ w', Keep (fun _ => False) w5 w' → (Instr.loadAt 33 (.pointer (some ⟨g, o + i * 39, none⟩))).run Try.prog w' = .ok (.agg (pgA q)) w' := fun w' k => hlq0 w' (kB.trans k)
              have hs1 := fun w' => first_run w' af (len := n) (cap := c) (t := t) (by omega)
              have hs2 := fun w' => rest_run w' af (len := n) (cap := c) (t := t) ht
              have hfn' : fs.length = n := hfn
              have hft : (fs.take t).length = t := by rw [List.length_take]; omega
              have hft2 : (fs.take t ++ [q]).length = t + 1 := by rw [List.length_append, hft]; rfl
              have hfd : (fs.drop t).length = n - t := by rw [List.length_drop, hfn']
              have hfn1 : t + 1 + (n - t) = n + 1 := by omega
              have mkF : ∀ w', Keep (fun _ => False) w5.drew w' → Rg w' af c (fs.take t) ∧ (af = none → fs.take t = [] ∧ c = 0) ∧ Rg w' (cutP af c t) (c - t) (fs.drop t) ∧ (cutP af c t = none → fs.drop t = [] ∧ c - t = 0) := fun w' k => by
                have G := F2.rg.more (((Keep.refl (fun _ => False) w5).drew).trans k)
                have hno : af = none → fs = [] ∧ c = 0 := fun e => by subst e; exact F2.none_cap
                refine ⟨G.first t, fun e => ?_, G.cut (by omega), fun e => ?_⟩
                · obtain ⟨h1, h2⟩ := hno e
                  rw [h1]; simp [h2]
                · have e2 : af = none := by
                    unfold cutP at e
                    split at e
                    · exact e
                    · cases af with
                      | none => rfl
                      | some y => cases e
                  obtain ⟨h1, h2⟩ := hno e2
                  rw [h1]; simp [h2]
              have hlen5 : n + 5 ≤ 1000000 := by omega
              have hl8 : Hid ((fs.take t ++ [q] ++ fs.drop t).length = n + 1) := by show _ = _; rw [List.length_append, hft2, hfd, hfn1]
              go_upto_region 10 with fail
              refine wp_region_noPanic ?_
              refine wp_region_held_drew (S := fun w' => Keep (fun _ => False) w5 w') (by kernel_rfl) ((Keep.refl _ w5).drew) (fun hH0 => ?_)
              refine' wpAnyH_take (i := 1) (oi := { dst := some 64, op := Op.move (Operand.tmp 3), type := 23, pos := "ref.go:103", after := #[], guard := none }) (v := _) rfl (by kernel_rfl) (by kernel_rfl) (by kernel_rfl) (fun _ _ _ h => h) (Or.inl ⟨by rfl, ?hye21⟩) hH0 ?re21
              case hye21 => (intro w' hSw; clear hSw; go_simp; try with_reducible rfl)
              simp only [Act.put, List.setIfInBounds_toArray, List.set_cons_zero, List.set_cons_succ]
              refine' wpAnyH_take (i := 2) (oi := { dst := some 65, op := Op.move (Operand.tmp 5), type := 3, pos := "ref.go:103", after := #[], guard := none }) (v := _) rfl (by kernel_rfl) (by kernel_rfl) (by kernel_rfl) (fun _ _ _ h => h) (Or.inl ⟨by rfl, ?hye22⟩) hH0 ?re22
              case hye22 => (intro w' hSw; clear hSw; go_simp; try with_reducible rfl)
              simp only [Act.put, List.setIfInBounds_toArray, List.set_cons_zero, List.set_cons_succ]
              refine' wpAnyH_take (i := 3) (oi := { dst := some 66, op := Op.slice 23 (Operand.tmp 64) none (some (Operand.tmp 65)) none, type := 23, pos := "ref.go:103", after := #[{ on := 1, ground := Ground.data }, { on := 2, ground := Ground.data }], guard := none }) (v := .slice af t c) rfl (by kernel_rfl) (by kernel_rfl) (by kernel_rfl) (fun _ _ _ h => h) (yields_first (by rfl) 23 (.tmp 64) (.tmp 65) rfl (by rfl) (by rfl) hs1) hH0 ?re23
              simp only [Act.put, List.setIfInBounds_toArray, List.set_cons_zero, List.set_cons_succ]
              refine' wpAnyH_take (i := 5) (oi := { dst := some 68, op := Op.move (Operand.tmp 0), type := 23, pos := "ref.go:103", after := #[], guard := none }) (v := _) rfl (by kernel_rfl) (by kernel_rfl) (by kernel_rfl) (fun _ _ _ h => h) (Or.inl ⟨by rfl, ?hye25⟩) hH0 ?re25
              case hye25 => (intro w' hSw; clear hSw; go_simp; try with_reducible rfl)
              simp only [Act.put, List.setIfInBounds_toArray, List.set_cons_zero, List.set_cons_succ]
              refine' wpAnyH_take (i := 6) (oi := { dst := some 69, op := Op.move (Operand.tmp 4), type := 3, pos := "ref.go:103", after := #[], guard := none }) (v := _) rfl (by kernel_rfl) (by kernel_rfl) (by kernel_rfl) (fun _ _ _ h => h) (Or.inl ⟨by rfl, ?hye26⟩) hH0 ?re26
              case hye26 => (intro w' hSw; clear hSw; go_simp; try with_reducible rfl)
              simp only [Act.put, List.setIfInBounds_toArray, List.set_cons_zero, List.set_cons_succ]
              refine' wpAnyH_take (i := 7) (oi := { dst := some 70, op := Op.indexAddr 23 (Operand.tmp 68) (Operand.tmp 69), type := 0, pos := "ref.go:103", after := #[{ on := 5, ground := Ground.data }, { on := 6, ground := Ground.data }], guard := none }) (v := _) rfl (by kernel_rfl) (by kernel_rfl) (by kernel_rfl) (fun _ _ _ h => h) (Or.inl ⟨by rfl, ?hye27⟩) hH0 ?re27
              case hye27 => (intro w' hSw; clear hSw; go_simp; try with_reducible rfl)
              simp only [Act.put, List.setIfInBounds_toArray, List.set_cons_zero, List.set_cons_succ]
              refine' wpAnyH_take (i := 8) (oi := { dst := some 71, op := Op.load 33 (Operand.tmp 70), type := 33, pos := "ref.go:103", after := #[{ on := 7, ground := Ground.data }], guard := none }) (v := .agg (pgA q)) rfl (by kernel_rfl) (by kernel_rfl) (by kernel_rfl) (fun _ _ _ h => h) (yields_load (by rfl) 33 (.tmp 70) rfl (by rfl) hlq) hH0 ?re28
              simp only [Act.put, List.setIfInBounds_toArray, List.set_cons_zero, List.set_cons_succ]
              refine' wpAnyH_take (i := 11) (oi := { dst := some 74, op := Op.move (Operand.tmp 3), type := 23, pos := "ref.go:103", after := #[], guard := none }) (v := _) rfl (by kernel_rfl) (by kernel_rfl) (by kernel_rfl) (fun _ _ _ h => h) (Or.inl ⟨by rfl, ?hye211⟩) hH0 ?re211
              case hye211 => (intro w' hSw; clear hSw; go_simp; try with_reducible rfl)
              simp only [Act.put, List.setIfInBounds_toArray, List.set_cons_zero, List.set_cons_succ]
              refine' wpAnyH_take (i := 12) (oi := { dst := some 75, op := Op.move (Operand.tmp 5), type := 3, pos := "ref.go:103", after := #[], guard := none }) (v := _) rfl (by kernel_rfl) (by kernel_rfl) (by kernel_rfl) (fun _ _ _ h => h) (Or.inl ⟨by rfl, ?hye212⟩) hH0 ?re212
              case hye212 => (intro w' hSw; clear hSw; go_simp; try with_reducible rfl)
              simp only [Act.put, List.setIfInBounds_toArray, List.set_cons_zero, List.set_cons_succ]
              refine' wpAnyH_take (i := 13) (oi := { dst := some 76, op := Op.slice 23 (Operand.tmp 74) (some (Operand.tmp 75)) none none, type := 23, pos := "ref.go:103", after := #[{ on := 11, ground := Ground.data }, { on := 12, ground := Ground.data }], guard := none }) (v := .slice (cutP af c t) (n - t) (c - t)) rfl (by kernel_rfl) (by kernel_rfl) (by kernel_rfl) (fun _ _ _ h => h) (yields_rest (by rfl) 23 (.tmp 74) (.tmp 75) rfl (by rfl) (by rfl) hs2) hH0 ?re213
              simp only [Act.put, List.setIfInBounds_toArray, List.set_cons_zero, List.set_cons_succ]
              refine wpAnyH_ready (rs := [0, 9]) (by kernel_rfl) (by simp) ?_
              refine AllReadyH.cons (o := { dst := some 63, op := Op.buildSlice 23 0 #[], type := 23, pos := "ref.go:103", after := #[], guard := none }) rfl (fun K hK => ?_) (AllReadyH.cons (o := { dst := some 72, op := Op.buildSlice 23 1 #[(0, Operand.tmp 71)], type := 23, pos := "ref.go:103", after := #[{ on := 8, ground := Ground.data }], guard := none }) rfl (fun K hK => ?_) AllReadyH.nil)
              · refine step_build0_run (by rfl) 23 rfl (build0_pg _) ?_
                refine hK.out _ _ (((Keep.refl (fun _ => False) w5).drew).alloc _) (fun hH1 => ?_)
                clear hK K
                simp only [Act.put, List.setIfInBounds_toArray, List.set_cons_zero, List.set_cons_succ]
                have R1 := ro_made w5.drew
                refine wpAnyH_ready (rs := [4, 9]) (by kernel_rfl) (by simp) ?_
                refine AllReadyH.cons (o := { dst := some 67, op := Op.call { callee := Callee.builtin Builtin.append, args := #[Operand.tmp 63, Operand.tmp 66], argTypes := #[23, 23] }, type := 23, pos := "ref.go:103", after := #[{ on := 0, ground := Ground.data }, { on := 3, ground := Ground.data }], guard := none }) rfl (fun K hK => ?_) (AllReadyH.cons (o := { dst := some 72, op := Op.buildSlice 23 1 #[(0, Operand.tmp 71)], type := 23, pos := "ref.go:103", after := #[{ on := 8, ground := Ground.data }], guard := none }) rfl (fun K hK => ?_) AllReadyH.nil)
                · obtain ⟨a4, c4, w4, hr4, R4, -, -⟩ := R1.appZ (mkF _ R1.keep).1 (mkF _ R1.keep).2.1 (by rw [hft]; simp; omega)
                  simp only [List.length_nil, Nat.zero_add, hft, List.nil_append] at hr4 R4
                  refine step_append_run (by rfl) (.tmp 63) (.tmp 66) 23 rfl (by rfl) (by rfl) hr4 ?_
                  refine hK.out _ _ (((Keep.refl (fun _ => False) w5).drew).trans R4.keep) (fun hH2 => ?_)
                  clear hK K
                  simp only [Act.put, List.setIfInBounds_toArray, List.set_cons_zero, List.set_cons_succ]
                  refine wpAnyH_ready (rs := [9]) (by kernel_rfl) (by simp) ?_
                  refine AllReadyH.cons (o := { dst := some 72, op := Op.buildSlice 23 1 #[(0, Operand.tmp 71)], type := 23, pos := "ref.go:103", after := #[{ on := 8, ground := Ground.data }], guard := none }) rfl (fun K hK => ?_) AllReadyH.nil
                  refine step_build_run (by rfl) 23 1 (.tmp 71) rfl (by rfl) (build_pg q _) ?_
                  refine hK.out _ _ ((((Keep.refl (fun _ => False) w5).drew).trans R4.keep).alloc _) (fun hH3 => ?_)
                  clear hK K
                  simp only [Act.put, List.setIfInBounds_toArray, List.set_cons_zero, List.set_cons_succ]
                  have Z4 := rg_one w4 q
                  have R5 := R4.more ((Keep.refl _ w4).alloc (.cells (pgA q) 33))
                  obtain ⟨a6, c6, w6, hr6, R6, -, -⟩ := R5.appZ Z4 (fun e => absurd e (by simp)) (by rw [hft]; simp; omega)
                  simp only [hft, List.length_singleton] at hr6
                  refine wpAnyH_ready (rs := [10]) (by kernel_rfl) (by simp) ?_
                  refine AllReadyH.cons (o := { dst := some 73, op := Op.call { callee := Callee.builtin Builtin.append, args := #[Operand.tmp 67, Operand.tmp 72], argTypes := #[23, 23] }, type := 23, pos := "ref.go:103", after := #[{ on := 4, ground := Ground.data }, { on := 9, ground := Ground.data }, { on := 4, ground := Ground.chain }], guard := none }) rfl (fun K hK => ?_) AllReadyH.nil
                  refine step_append_run (by rfl) (.tmp 67) (.tmp 72) 23 rfl (by rfl) (by rfl) hr6 ?_
                  refine hK.out _ _ (((Keep.refl (fun _ => False) w5).drew).trans R6.keep) (fun hH8 => ?_)
                  clear hK K
                  simp only [Act.put, List.setIfInBounds_toArray, List.set_cons_zero, List.set_cons_succ]
                  obtain ⟨a7, c7, w7, hr7, R7, -, -⟩ := R6.appZ (mkF _ R6.keep).2.2.1 (mkF _ R6.keep).2.2.2 (by rw [hft2, hfd]; omega)
                  rw [hft2, hfd, hfn1] at hr7
                  refine wpAnyH_ready (rs := [14]) (by kernel_rfl) (by simp) ?_
                  refine AllReadyH.cons (o := { dst := some 77, op := Op.call { callee := Callee.builtin Builtin.append, args := #[Operand.tmp 73, Operand.tmp 76], argTypes := #[23, 23] }, type := 23, pos := "ref.go:103", after := #[{ on := 10, ground := Ground.data }, { on := 13, ground := Ground.data }, { on := 10, ground := Ground.chain }], guard := none }) rfl (fun K hK => ?_) AllReadyH.nil
                  refine step_append_run (by rfl) (.tmp 73) (.tmp 76) 23 rfl (by rfl) (by rfl) hr7 ?_
                  refine hK.out _ _ (((Keep.refl (fun _ => False) w5).drew).trans R7.keep) (fun hH9 => ?_)
                  clear hK K
                  simp only [Act.put, List.setIfInBounds_toArray, List.set_cons_zero, List.set_cons_succ]
                  refine' wpAnyH_take (i := 15) (oi := { dst := some 3, op := Op.assign (Operand.tmp 77), type := 23, pos := "ref.go:103", after := #[{ on := 14, ground := Ground.data }, { on := 14, ground := Ground.chain }, { on := 0, ground := Ground.phase }, { on := 1, ground := Ground.phase }, { on := 2, ground := Ground.phase }, { on := 3, ground := Ground.phase }, { on := 4, ground := Ground.phase }, { on := 5, ground := Ground.phase }, { on := 6, ground := Ground.phase }, { on := 7, ground := Ground.phase }, { on := 8, ground := Ground.phase }, { on := 9, ground := Ground.phase }, { on := 10, ground := Ground.phase }, { on := 11, ground := Ground.phase }, { on := 12, ground := Ground.phase }, { on := 13, ground := Ground.phase }, { on := 14, ground := Ground.phase }], guard := none }) (v := _) rfl (by kernel_rfl) (by kernel_rfl) (by kernel_rfl) (fun _ _ _ h => h) (Or.inl ⟨by rfl, ?hyp2⟩) hH9 ?rp2
                  case hyp2 => (intro w' hSw; clear hSw; go_simp; try with_reducible rfl)
                  simp only [Act.put, List.setIfInBounds_toArray, List.set_cons_zero, List.set_cons_succ]
                  refine wpAnyH_done (by kernel_rfl) ?_ _
                  refine NoPanic.normal ?_
                  go_wp2_with fail
                  go_roundw
                  case rel => exact ⟨i + 1, n + 1, c7, a7, _, hlt', by go_num, rfl, R7.older kB.drew, hl8, hins, Nat.succ_le_succ hni⟩
                  case measure => have : i < l.length := hlt'; simp [intOf]; omega
                · refine step_build_run (by rfl) 23 1 (.tmp 71) rfl (by rfl) (build_pg q _) ?_
                  refine hK.out _ _ ((((Keep.refl (fun _ => False) w5).drew).alloc _).alloc _) (fun hH2 => ?_)
                  clear hK K
                  simp only [Act.put, List.setIfInBounds_toArray, List.set_cons_zero, List.set_cons_succ]
                  have Z3 := rg_one (w5.drew.alloc (.cells #[] 33)) q
                  have R3 := R1.more ((Keep.refl _ (w5.drew.alloc (.cells #[] 33))).alloc (.cells (pgA q) 33))
                  obtain ⟨a4, c4, w4, hr4, R5, k4, -⟩ := R3.appZ (mkF _ R3.keep).1 (mkF _ R3.keep).2.1 (by rw [hft]; simp; omega)
                  simp only [List.length_nil, Nat.zero_add, hft, List.nil_append] at hr4 R5
                  have hz : (w5.drew.alloc (.cells #[] 33)).heap.size = w5.drew.heap.size + 1 := by simp
                  have Z4 := Z3.keep k4 (fun g o e _ e2 => by injection e with e; injection e with e; injection e2 with e2; injection e2 with e2; rw [hz] at e; omega)
                  refine wpAnyH_ready (rs := [4]) (by kernel_rfl) (by simp) ?_
                  refine AllReadyH.cons (o := { dst := some 67, op := Op.call { callee := Callee.builtin Builtin.append, args := #[Operand.tmp 63, Operand.tmp 66], argTypes := #[23, 23] }, type := 23, pos := "ref.go:103", after := #[{ on := 0, ground := Ground.data }, { on := 3, ground := Ground.data }], guard := none }) rfl (fun K hK => ?_) AllReadyH.nil
                  refine step_append_run (by rfl) (.tmp 63) (.tmp 66) 23 rfl (by rfl) (by rfl) hr4 ?_
                  refine hK.out _ _ (((Keep.refl (fun _ => False) w5).drew).trans R5.keep) (fun hH3 => ?_)
                  clear hK K
                  simp only [Act.put, List.setIfInBounds_toArray, List.set_cons_zero, List.set_cons_succ]
                  obtain ⟨a6, c6, w6, hr6, R6, -, -⟩ := R5.appZ Z4 (fun e => absurd e (by simp)) (by rw [hft]; simp; omega)
                  simp only [hft, List.length_singleton] at hr6
                  refine wpAnyH_ready (rs := [10]) (by kernel_rfl) (by simp) ?_
                  refine AllReadyH.cons (o := { dst := some 73, op := Op.call { callee := Callee.builtin Builtin.append, args := #[Operand.tmp 67, Operand.tmp 72], argTypes := #[23, 23] }, type := 23, pos := "ref.go:103", after := #[{ on := 4, ground := Ground.data }, { on := 9, ground := Ground.data }, { on := 4, ground := Ground.chain }], guard := none }) rfl (fun K hK => ?_) AllReadyH.nil
                  refine step_append_run (by rfl) (.tmp 67) (.tmp 72) 23 rfl (by rfl) (by rfl) hr6 ?_
                  refine hK.out _ _ (((Keep.refl (fun _ => False) w5).drew).trans R6.keep) (fun hH8 => ?_)
                  clear hK K
                  simp only [Act.put, List.setIfInBounds_toArray, List.set_cons_zero, List.set_cons_succ]
                  obtain ⟨a7, c7, w7, hr7, R7, -, -⟩ := R6.appZ (mkF _ R6.keep).2.2.1 (mkF _ R6.keep).2.2.2 (by rw [hft2, hfd]; omega)
                  rw [hft2, hfd, hfn1] at hr7
                  refine wpAnyH_ready (rs := [14]) (by kernel_rfl) (by simp) ?_
                  refine AllReadyH.cons (o := { dst := some 77, op := Op.call { callee := Callee.builtin Builtin.append, args := #[Operand.tmp 73, Operand.tmp 76], argTypes := #[23, 23] }, type := 23, pos := "ref.go:103", after := #[{ on := 10, ground := Ground.data }, { on := 13, ground := Ground.data }, { on := 10, ground := Ground.chain }], guard := none }) rfl (fun K hK => ?_) AllReadyH.nil
                  refine step_append_run (by rfl) (.tmp 73) (.tmp 76) 23 rfl (by rfl) (by rfl) hr7 ?_
                  refine hK.out _ _ (((Keep.refl (fun _ => False) w5).drew).trans R7.keep) (fun hH9 => ?_)
                  clear hK K
                  simp only [Act.put, List.setIfInBounds_toArray, List.set_cons_zero, List.set_cons_succ]
                  refine' wpAnyH_take (i := 15) (oi := { dst := some 3, op := Op.assign (Operand.tmp 77), type := 23, pos := "ref.go:103", after := #[{ on := 14, ground := Ground.data }, { on := 14, ground := Ground.chain }, { on := 0, ground := Ground.phase }, { on := 1, ground := Ground.phase }, { on := 2, ground := Ground.phase }, { on := 3, ground := Ground.phase }, { on := 4, ground := Ground.phase }, { on := 5, ground := Ground.phase }, { on := 6, ground := Ground.phase }, { on := 7, ground := Ground.phase }, { on := 8, ground := Ground.phase }, { on := 9, ground := Ground.phase }, { on := 10, ground := Ground.phase }, { on := 11, ground := Ground.phase }, { on := 12, ground := Ground.phase }, { on := 13, ground := Ground.phase }, { on := 14, ground := Ground.phase }], guard := none }) (v := _) rfl (by kernel_rfl) (by kernel_rfl) (by kernel_rfl) (fun _ _ _ h => h) (Or.inl ⟨by rfl, ?hyq2⟩) hH9 ?rq2
                  case hyq2 => (intro w' hSw; clear hSw; go_simp; try with_reducible rfl)
                  simp only [Act.put, List.setIfInBounds_toArray, List.set_cons_zero, List.set_cons_succ]
                  refine wpAnyH_done (by kernel_rfl) ?_ _
                  refine NoPanic.normal ?_
                  go_wp2_with fail
                  go_roundw
                  case rel => exact ⟨i + 1, n + 1, c7, a7, _, hlt', by go_num, rfl, R7.older kB.drew, hl8, hins, Nat.succ_le_succ hni⟩
                  case measure => have : i < l.length := hlt'; simp [intOf]; omega
              · refine step_build_run (by rfl) 23 1 (.tmp 71) rfl (by rfl) (build_pg q _) ?_
                refine hK.out _ _ (((Keep.refl (fun _ => False) w5).drew).alloc _) (fun hH1 => ?_)
                clear hK K
                simp only [Act.put, List.setIfInBounds_toArray, List.set_cons_zero, List.set_cons_succ]
                have Z2 := rg_one w5.drew q
                refine wpAnyH_ready (rs := [0]) (by kernel_rfl) (by simp) ?_
                refine AllReadyH.cons (o := { dst := some 63, op := Op.buildSlice 23 0 #[], type := 23, pos := "ref.go:103", after := #[], guard := none }) rfl (fun K hK => ?_) AllReadyH.nil
                refine step_build0_run (by rfl) 23 rfl (build0_pg _) ?_
                refine hK.out _ _ ((((Keep.refl (fun _ => False) w5).drew).alloc _).alloc _) (fun hH2 => ?_)
                clear hK K
                simp only [Act.put, List.setIfInBounds_toArray, List.set_cons_zero, List.set_cons_succ]
                have Z3 := Z2.more ((Keep.refl _ (w5.drew.alloc (.cells (pgA q) 33))).alloc (.cells #[] 33))
                have R3 := (ro_made (w5.drew.alloc (.cells (pgA q) 33))).older ((Keep.refl _ w5.drew).alloc (.cells (pgA q) 33))
                obtain ⟨a4, c4, w4, hr4, R5, k4, -⟩ := R3.appZ (mkF _ R3.keep).1 (mkF _ R3.keep).2.1 (by rw [hft]; simp; omega)
                simp only [List.length_nil, Nat.zero_add, hft, List.nil_append] at hr4 R5
                have hz : (w5.drew.alloc (.cells (pgA q) 33)).heap.size = w5.drew.heap.size + 1 := by simp
                have Z4 := Z3.keep k4 (fun g o e _ e2 => by injection e with e; injection e with e; injection e2 with e2; injection e2 with e2; rw [hz] at e2; omega)
                refine wpAnyH_ready (rs := [4]) (by kernel_rfl) (by simp) ?_
                refine AllReadyH.cons (o := { dst := some 67, op := Op.call { callee := Callee.builtin Builtin.append, args := #[Operand.tmp 63, Operand.tmp 66], argTypes := #[23, 23] }, type := 23, pos := "ref.go:103", after := #[{ on := 0, ground := Ground.data }, { on := 3, ground := Ground.data }], guard := none }) rfl (fun K hK => ?_) AllReadyH.nil
                refine step_append_run (by rfl) (.tmp 63) (.tmp 66) 23 rfl (by rfl) (by rfl) hr4 ?_
                refine hK.out _ _ (((Keep.refl (fun _ => False) w5).drew).trans R5.keep) (fun hH3 => ?_)
                clear hK K
                simp only [Act.put, List.setIfInBounds_toArray, List.set_cons_zero, List.set_cons_succ]
                obtain ⟨a6, c6, w6, hr6, R6, -, -⟩ := R5.appZ Z4 (fun e => absurd e (by simp)) (by rw [hft]; simp; omega)
                simp only [hft, List.length_singleton] at hr6
                refine wpAnyH_ready (rs := [10]) (by kernel_rfl) (by simp) ?_
                refine AllReadyH.cons (o := { dst := some 73, op := Op.call { callee := Callee.builtin Builtin.append, args := #[Operand.tmp 67, Operand.tmp 72], argTypes := #[23, 23] }, type := 23, pos := "ref.go:103", after := #[{ on := 4, ground := Ground.data }, { on := 9, ground := Ground.data }, { on := 4, ground := Ground.chain }], guard := none }) rfl (fun K hK => ?_) AllReadyH.nil
                refine step_append_run (by rfl) (.tmp 67) (.tmp 72) 23 rfl (by rfl) (by rfl) hr6 ?_
                refine hK.out _ _ (((Keep.refl (fun _ => False) w5).drew).trans R6.keep) (fun hH8 => ?_)
                clear hK K
                simp only [Act.put, List.setIfInBounds_toArray, List.set_cons_zero, List.set_cons_succ]
                obtain ⟨a7, c7, w7, hr7, R7, -, -⟩ := R6.appZ (mkF _ R6.keep).2.2.1 (mkF _ R6.keep).2.2.2 (by rw [hft2, hfd]; omega)
                rw [hft2, hfd, hfn1] at hr7
                refine wpAnyH_ready (rs := [14]) (by kernel_rfl) (by simp) ?_
                refine AllReadyH.cons (o := { dst := some 77, op := Op.call { callee := Callee.builtin Builtin.append, args := #[Operand.tmp 73, Operand.tmp 76], argTypes := #[23, 23] }, type := 23, pos := "ref.go:103", after := #[{ on := 10, ground := Ground.data }, { on := 13, ground := Ground.data }, { on := 10, ground := Ground.chain }], guard := none }) rfl (fun K hK => ?_) AllReadyH.nil
                refine step_append_run (by rfl) (.tmp 73) (.tmp 76) 23 rfl (by rfl) (by rfl) hr7 ?_
                refine hK.out _ _ (((Keep.refl (fun _ => False) w5).drew).trans R7.keep) (fun hH9 => ?_)
                clear hK K
                simp only [Act.put, List.setIfInBounds_toArray, List.set_cons_zero, List.set_cons_succ]
                refine' wpAnyH_take (i := 15) (oi := { dst := some 3, op := Op.assign (Operand.tmp 77), type := 23, pos := "ref.go:103", after := #[{ on := 14, ground := Ground.data }, { on := 14, ground := Ground.chain }, { on := 0, ground := Ground.phase }, { on := 1, ground := Ground.phase }, { on := 2, ground := Ground.phase }, { on := 3, ground := Ground.phase }, { on := 4, ground := Ground.phase }, { on := 5, ground := Ground.phase }, { on := 6, ground := Ground.phase }, { on := 7, ground := Ground.phase }, { on := 8, ground := Ground.phase }, { on := 9, ground := Ground.phase }, { on := 10, ground := Ground.phase }, { on := 11, ground := Ground.phase }, { on := 12, ground := Ground.phase }, { on := 13, ground := Ground.phase }, { on := 14, ground := Ground.phase }], guard := none }) (v := _) rfl (by kernel_rfl) (by kernel_rfl) (by kernel_rfl) (fun _ _ _ h => h) (Or.inl ⟨by rfl, ?hyr2⟩) hH9 ?rr2
                case hyr2 => (intro w' hSw; clear hSw; go_simp; try with_reducible rfl)
                simp only [Act.put, List.setIfInBounds_toArray, List.set_cons_zero, List.set_cons_succ]
                refine wpAnyH_done (by kernel_rfl) ?_ _
                refine NoPanic.normal ?_
                go_wp2_with fail
                go_roundw
                case rel => exact ⟨i + 1, n + 1, c7, a7, _, hlt', by go_num, rfl, R7.older kB.drew, hl8, hins, Nat.succ_le_succ hni⟩
                case measure => have : i < l.length := hlt'; simp [intOf]; omega
    · obtain rfl : i = l.length := by omega
      have hF' : Hid (Fst l fs) := by have := show Fst (l.take l.length) fs from hF; rw [List.take_length] at this; exact this
      have hmk := make_str0 wr
      have O1 := rwR_made F.keep
      have F1 := F.more ((Keep.refl _ wr).alloc (.cells #[] 36))
      have hcn : n ≤ c ∧ c ≤ 9223372036854775807 := by have := F.rg; rw [← show fs.length = n from hfn]; exact ⟨this.1, this.2.1⟩
      obtain ⟨hn1, hn2⟩ := hcn
      have hap : Hid (Apart (wr.alloc (.cells #[] 36)) (some ⟨wr.heap.size, 0, none⟩) af []) := ⟨fun g e e2 => by
        injection e with e; injection e with e; subst e
        have := (F.block e2).2; omega, fun r hr => by cases hr⟩
      generalize hbo : wr.heap.size = bo at O1 hmk hap
      clear hF F hlt hi
      go_wp2_with fail
      generalize wr.alloc (.cells #[] 36) = w1 at O1 F1 hap
      clear hmk hbo
      go_loopw [6, 7] (fun ov v wx => ∃ (j m co : Nat) (ao : Option Addr) (rs : List Raw) (L : List St), j ≤ n ∧ v = .int .i64 (j : Int) ∧ ov = .slice ao m co ∧ RwR w wx ao co rs ∧ Ro w wx af c fs ∧ Hid (rs.length = m) ∧ Hid (Says wx rs L) ∧ Hid (Told l (fs.take j) L) ∧ Hid (Apart wx ao af rs) ∧ m ≤ j) (fun _ v _ => n - (intOf v).toNat)
      case atStart => exact ⟨0, 0, 0, _, [], [], by omega, rfl, rfl, O1, F1, rfl, Says.nil _, by rw [List.take_zero]; exact Told.nil l, hap, by omega⟩
      case round =>
        clear O1 F1 hap
        obtain ⟨j, m, co, ao, rs, L, hj, rfl, rfl, Q, F, hrm, hsy, htd, hap, hmj⟩ := hrel
        by_cases hjn : j < n
        · obtain ⟨p, hp⟩ := get_pg (show j < fs.length by rw [show fs.length = n from hfn]; exact hjn)
          have hpm := List.mem_of_getElem? hp
          obtain ⟨gf, of, haf, hc⟩ := F.rg.at hp
          subst haf
          have hld := pg_load hc
          obtain ⟨hpl, hpk⟩ := (show Fst l fs from hF').from_ p hpm
          have hwh := rwhole_any (hR.more F.keep) hok hpl hpk
          have hsort : Hid ((fs.take j ++ [p]).Pairwise (fun x y => ahB x y = true)) := by
            have e : fs.take j ++ [p] = fs.take (j + 1) := by rw [List.take_add_one, hp]; rfl
            rw [e]
            exact (show Fst l fs from hF').sorted.sublist (List.take_sublist _ _)
          have hnx : Hid (fs.take (j + 1) = fs.take j ++ [p]) := by show _ = _; rw [List.take_add_one, hp]; rfl
          have dj : (j : Int) < (n : Int) := by omega
          have dwj := wrapI (x := (j : Int) + 1) (by omega) (by omega)
          have hjn' : Hid (j < n) := hjn
          have hrm' : rs.length = m := hrm
          clear hp hc hjn
          go_wp2_with (guard_target =~ wpList _ _ _ (Oper.mk _ (Op.load 33 _) _ _ _ _ :: _) _ _; refine wpList_load_run (by rfl) 33 (.tmp 89) rfl (by rfl) hld ?_)
          refine hwh.mono ?_
          rintro e w3 h3
          rcases (show _ ∨ _ from h3) with ⟨a', n', c', b, rfl, hrow, hwo, hfr, k3⟩ | ⟨rfl, hno, k3⟩
          · have ht2 : Hid (Told l (fs.take (j + 1)) (L ++ [⟨p.kind, p.ep, p.gr, b⟩])) := by
              rw [show fs.take (j + 1) = _ from hnx]
              exact Told.yes htd hsort hwo
            have ka := (Keep.refl (fun _ => False) w3).alloc (.cells #[.int .i64 p.kind, .int .u32 p.ep, .int .u32 p.gr, .slice a' n' c'] 36)
            have k4 := k3.trans ka
            have Q4 := Q.more k4
            have F4 := F.more k4
            have s4 := (show Says wr rs L from hsy).more k4
            have r4 := hrow.moreV ka
            obtain ⟨a6, c6, w6, hrun, Q6, K6, h6⟩ := Q4.app1 (by omega) ⟨p.kind, p.ep, p.gr, a', n', c'⟩
            rw [hrm'] at hrun
            simp only [World.size_alloc] at hrun
            obtain ⟨ap1, ap2⟩ := show Apart wr ao (some ⟨gf, of, none⟩) rs from hap
            have hF6 : Ro w w6 (some ⟨gf, of, none⟩) c fs := F4.other K6 (fun g e e2 => ap1 g e2 e) (fun x e => (Q4.block e).1)
            have hsz4 : wr.heap.size ≤ w3.heap.size := k3.size
            have hsz5 : w3.heap.size ≤ (w3.alloc (.cells #[.int .i64 p.kind, .int .u32 p.ep, .int .u32 p.gr, .slice a' n' c'] 36)).heap.size := ka.size
            have haol : ∀ x : Addr, a' = some x → ao ≠ some ⟨x.block, 0, none⟩ := fun x hx e => by
              have h1 := (hfr x hx).1
              have h2 := (Q.block e).2
              omega
            have s6 : Hid (Says w6 (rs ++ [⟨p.kind, p.ep, p.gr, a', n', c'⟩]) (L ++ [⟨p.kind, p.ep, p.gr, b⟩])) :=
              Says.keep (s4.snoc (r := ⟨p.kind, p.ep, p.gr, a', n', c'⟩) (s := ⟨p.kind, p.ep, p.gr, b⟩) rfl rfl rfl r4) K6 (fun r hr x hx e => by
                rcases List.mem_append.1 hr with h | h
                · exact (ap2 r h x hx).2 e
                · simp at h; subst h; exact haol x hx e)
            have hap6 : Hid (Apart w6 a6 (some ⟨gf, of, none⟩) (rs ++ [⟨p.kind, p.ep, p.gr, a', n', c'⟩])) := by
              have hw6 : (w3.alloc (.cells #[.int .i64 p.kind, .int .u32 p.ep, .int .u32 p.gr, .slice a' n' c'] 36)).heap.size ≤ w6.heap.size := K6.size
              refine ⟨fun g e e2 => ?_, fun r hr x hx => ?_⟩
              · rcases h6 with rfl | ⟨g6, rfl, hg6⟩
                · exact ap1 g e e2
                · injection e with e; injection e with e
                  have := (F4.block e2).2
                  omega
              · have hb1 : x.block < w3.heap.size := by
                  rcases List.mem_append.1 hr with h | h
                  · have := (ap2 r h x hx).1; omega
                  · simp at h; subst h; exact (hfr x hx).2
                refine ⟨by omega, fun e => ?_⟩
                rcases h6 with rfl | ⟨g6, rfl, hg6⟩
                · rcases List.mem_append.1 hr with h | h
                  · exact (ap2 r h x hx).2 e
                  · simp at h; subst h; exact haol x hx e
                · injection e with e; injection e with e
                  omega
            have hm6 : Hid ((rs ++ [(⟨p.kind, p.ep, p.gr, a', n', c'⟩ : Raw)]).length = m + 1) := by show _ = _; rw [List.length_append, hrm']; rfl
            clear hwh hld h3 hwo hfr k3 hrow s4 r4 Q4 F4 ap1 ap2 Q F K6 h6 haol hsy htd hap hrm hrm' ka k4
            go_wp2_with (at_builtin; refine wpList_append_run rfl (.tmp 95) (.tmp 97) 47 rfl (by rfl) (by rfl) hrun ?_)
            go_roundw
            case rel => exact ⟨j + 1, m + 1, c6, a6, _, _, hjn', by go_num, rfl, Q6, hF6, hm6, s6, ht2, hap6, Nat.succ_le_succ hmj⟩
            case measure => have : j < n := hjn'; simp [intOf]; omega
          · have ht2 : Hid (Told l (fs.take (j + 1)) L) := by
              rw [show fs.take (j + 1) = _ from hnx]
              exact Told.no htd hno
            have ka := (Keep.refl (fun _ => False) w3).alloc (.cells #[.int .i64 p.kind, .int .u32 p.ep, .int .u32 p.gr, .slice none 0 0] 36)
            have k4 := k3.trans ka
            have Q4 := Q.more k4
            have F4 := F.more k4
            have s4 : Hid (Says _ rs L) := (show Says wr rs L from hsy).more k4
            have hap4 : Hid (Apart (w3.alloc (.cells #[.int .i64 p.kind, .int .u32 p.ep, .int .u32 p.gr, .slice none 0 0] 36)) ao (some ⟨gf, of, none⟩) rs) := ⟨(show Apart wr ao (some ⟨gf, of, none⟩) rs from hap).1, fun r hr x hx => by
              have := (show Apart wr ao (some ⟨gf, of, none⟩) rs from hap).2 r hr x hx
              exact ⟨Nat.lt_of_lt_of_le this.1 k4.size, this.2⟩⟩
            have hmj2 : Hid (m ≤ j + 1) := Nat.le_succ_of_le hmj
            clear hwh hld h3 hno k3 Q F hsy htd hap ka k4
            go_wp2_with fail
            go_roundw
            case rel => exact ⟨j + 1, m, co, ao, rs, L, hjn', by go_num, rfl, Q4, F4, hrm, s4, ht2, hap4, hmj2⟩
            case measure => have : j < n := hjn'; simp [intOf]; omega
        · obtain rfl : j = n := by omega
          have htj : Told l fs L := by have := show Told l (fs.take j) L from htd; rwa [List.take_of_length_le (by rw [show fs.length = j from hfn]; omega)] at this
          have hjoin := htj.join hF'
          have hrm' : rs.length = m := hrm
          have hsy' : Says wr rs L := hsy
          clear htd htj hjn hmj hj
          go_wp2_with fail
          go_ret
          exact ⟨ao, co, rs, L, by rw [hrm']; rfl, Q, hsy', hjoin⟩
end Tg
end Go.Proofs.Ytginnojbmpnleaa
