/-
  How two pages are held against each other: by their streams, then by Index.
-/
import Derived.Test.YtginnojbmpnleaaMb
import Derived.Test.YtginnojbmpnleaaLc
import Derived.Shelf.SlSortCmp.QuietGrown
namespace Go.Proofs.Ytginnojbmpnleaa
open Go.ChangeShapes Go.WideShapes Go.ChangeAt Go.RowKit
namespace Tg
/-- A world that only drew and grew. -/
def Gw (w w' : World) : Prop := ∃ (q : Nat) (os : Array Obj), w' = Go.Sort.grow (w.drewN q) os
theorem Gw.refl (w : World) : Gw w w := ⟨0, #[], by rw [Go.Sort.grow_empty]; rfl⟩
theorem Gw.trans {a b c : World} (h : Gw a b) (k : Gw b c) : Gw a c := by
  obtain ⟨q, os, rfl⟩ := h
  obtain ⟨r, os', rfl⟩ := k
  exact ⟨q + r, os ++ os', by show Go.Sort.grow (Go.Sort.grow ((a.drewN q).drewN r) os) os' = _; rw [Go.Sort.grow_grow, World.drewN_drewN]⟩
theorem Gw.alloc {a b : World} (h : Gw a b) (o : Obj) : Gw a (b.alloc o) := h.trans ⟨0, #[o], by rw [Go.Sort.alloc_eq_grow]; rfl⟩
theorem Gw.drew {a b : World} (h : Gw a b) : Gw a b.drew := h.trans ⟨1, #[], by rw [Go.Sort.grow_empty]; rfl⟩
theorem Gw.cell {w w' : World} (h : Gw w w') {a : Addr} {v : Value} (c : w.cell? a = some v) : w'.cell? a = some v := by
  obtain ⟨q, os, rfl⟩ := h
  exact cell_grown (World.block_lt_of_cell? w _ c) c q os
theorem Gw.keep {w w' : World} (h : Gw w w') : Keep (fun _ => False) w w' := by
  obtain ⟨q, os, rfl⟩ := h
  refine ⟨rfl, rfl, rfl, by simp [World.drewN], fun k hk _ => ?_⟩
  show (w.heap ++ os)[k]? = _
  rw [Array.getElem?_append_left hk]
theorem post_w {f : FuncId} {vs : Array Value} {v : Value} {R : World → Prop} {w : World} (h : Calls Try.prog f vs w fun e w' => e = .returned v ∧ R w') : Calls Try.prog f vs w fun e w2 => ∃ u, e = .returned u ∧ (fun u w2 => u = v ∧ R w2) u w2 :=
  h.mono (by rintro e w' ⟨rfl, hr⟩; exact ⟨_, rfl, rfl, hr⟩)
theorem call27 (args : Array Value) (w : World) : (callFunc 27 args).run Try.prog w = .ok (.enter 27 args) w := enters Try.func27 (by kernel_rfl) (by kernel_rfl) args w
theorem call28 (args : Array Value) (w : World) : (callFunc 28 args).run Try.prog w = .ok (.enter 28 args) w := enters Try.func28 (by kernel_rfl) (by kernel_rfl) args w
theorem call29 (args : Array Value) (w : World) : (callFunc 29 args).run Try.prog w = .ok (.enter 29 args) w := enters Try.func29 (by kernel_rfl) (by kernel_rfl) args w
theorem call34 (args : Array Value) (w : World) : (callFunc 34 args).run Try.prog w = .ok (.enter 34 args) w := enters Try.func34 (by kernel_rfl) (by kernel_rfl) args w
theorem step_build3_run {P : Program} {ops : Array Oper} {o : Oper} {a : Act} {w : World} {K : Act → World → Prop} {Q : Exit → Act → World → Prop} {E : Prop}
    (hw : Region.wanted o (yielded ops a.tmps) = true) (t : TypeId) (n : Nat) (x y z : Operand) (hop : o.op = Op.buildSlice t n #[(0, x), (1, y), (2, z)]) {v1 v2 v3 v' : Value} {w' : World} (hx : a.eval x = v1) (hy : a.eval y = v2) (hz : a.eval z = v3) (hrun : (Instr.buildSlice t n #[(0, v1), (1, v2), (2, v3)]).run P w = .ok v' w')
    (hK : K (a.put o.dst v') w') : if Region.wanted o (yielded ops a.tmps) = true then Oper.wp P o a w K Q else E := by
  rw [if_pos hw]
  unfold Oper.wp
  simp [execOp, hop, hx, hy, hz, hrun, Result.andThen]
  exact hK
theorem step_build2_run' {P : Program} {ops : Array Oper} {o : Oper} {a : Act} {w : World} {K : Act → World → Prop} {Q : Exit → Act → World → Prop} {E : Prop}
    (hw : Region.wanted o (yielded ops a.tmps) = true) (t : TypeId) (n : Nat) (x y : Operand) (hop : o.op = Op.buildSlice t n #[(0, x), (1, y)]) {v1 v2 v' : Value} {w' : World} (hx : a.eval x = v1) (hy : a.eval y = v2) (hrun : (Instr.buildSlice t n #[(0, v1), (1, v2)]).run P w = .ok v' w')
    (hK : K (a.put o.dst v') w') : if Region.wanted o (yielded ops a.tmps) = true then Oper.wp P o a w K Q else E := by
  rw [if_pos hw]
  unfold Oper.wp
  simp [execOp, hop, hx, hy, hrun, Result.andThen]
  exact hK
theorem build2_i (x y : Int) (w : World) : (Instr.buildSlice 69 2 #[(0, .int .i64 x), (1, .int .i64 y)]).run Try.prog w = .ok (.slice (some ⟨w.heap.size, 0, none⟩) 2 2) (w.alloc (.cells #[.int .i64 x, .int .i64 y] 3)) := by kernel_rfl
theorem build3_i (x y z : Int) (w : World) : (Instr.buildSlice 69 3 #[(0, .int .i64 x), (1, .int .i64 y), (2, .int .i64 z)]).run Try.prog w = .ok (.slice (some ⟨w.heap.size, 0, none⟩) 3 3) (w.alloc (.cells #[.int .i64 x, .int .i64 y, .int .i64 z] 3)) := by kernel_rfl
theorem or_cells (w : World) (l : List Int) : ∀ i, i < l.length → (w.alloc (.cells (l.map (Value.int .i64)).toArray 3)).cell? ⟨w.heap.size, i, none⟩ = some (.int .i64 (l.getD i 0)) := fun i hi => by
  rw [World.cell?_alloc_mark]
  simp [List.getD, hi]
/-- Which of two pages' streams is ahead. -/
def byS (p q : Pg) : Int := orI [cpI p.ep q.ep, cpI p.kind q.kind, cpI p.gr q.gr]
/-- Which of two pages is ahead. -/
def cfP (p q : Pg) : Int := orI [byS p q, cpI p.ix q.ix]
theorem or_cons (x : Int) (l : List Int) : orI (x :: l) = if x = 0 then orI l else x := rfl
theorem or_nil : orI [] = 0 := rfl
theorem byS_zero {p q : Pg} : byS p q = 0 ↔ p.ep = q.ep ∧ p.kind = q.kind ∧ p.gr = q.gr := by
  unfold byS cpI
  simp only [or_cons, or_nil]
  repeat' split
  all_goals omega
theorem cfP_lt {p q : Pg} : cfP p q < 0 ↔ p.ep < q.ep ∨ (p.ep = q.ep ∧ (p.kind < q.kind ∨ (p.kind = q.kind ∧ (p.gr < q.gr ∨ (p.gr = q.gr ∧ p.ix < q.ix))))) := by
  unfold cfP byS cpI
  simp only [or_cons, or_nil]
  repeat' split
  all_goals omega
set_option maxRecDepth 100000 in
set_option maxHeartbeats 1000000 in
theorem bys_any (p q : Pg) (w : World) : Calls Try.prog 28 #[.agg (pgA p), .agg (pgA q)] w fun e w' => e = .returned (.int .i64 (byS p q)) ∧ Gw w w' := by
  have hb1 := blk_alloc w _ 33 39 _ (pgA_get p)
  have hb2 := blk_alloc (w.alloc (.cells (pgA p) 33)) _ 33 39 _ (pgA_get q)
  have hsz1 := pgA_size p
  have hsz2 := pgA_size q
  have G2 := ((Gw.refl w).alloc (.cells (pgA p) 33)).alloc (.cells (pgA q) 33)
  have P1 : Pv ((w.alloc (.cells (pgA p) 33)).alloc (.cells (pgA q) 33)) w.heap.size p := Blk.keep hb1 ((Keep.refl (fun _ => False) _).alloc _) (fun e => e)
  have P2 : Pv ((w.alloc (.cells (pgA p) 33)).alloc (.cells (pgA q) 33)) (w.heap.size + 1) q := by
    have : (w.alloc (.cells (pgA p) 33)).heap.size = w.heap.size + 1 := by simp
    rw [this] at hb2
    exact hb2
  have hx0 := P1.kind
  have hx3 := P1.ep
  have hx4 := P1.gr
  have hx5 := P1.ix
  have hy0 := P2.kind
  have hy3 := P2.ep
  have hy4 := P2.gr
  have hy5 := P2.ix
  clear hb1 hb2 P1 P2
  generalize pgA p = A at *
  generalize pgA q = B at *
  go_enter Try.func28, Try.ntmps28
  go_upto_region 1 with fail
  generalize (w.alloc (.cells A 33)).alloc (.cells B 33) = w2 at *
  refine wp_region_noPanic ?_
  refine wp_region_held_drew (S := fun w' => Gw w2 w') (by kernel_rfl) ((Gw.refl w2).drew) (fun hH0 => ?_)
  refine' wpAnyH_take (i := 0) (oi := { dst := some 5, op := Op.fieldAddr 33 (Operand.tmp 2) 3, type := 0, pos := "leaf.go:85", after := #[], guard := none }) (v := _) rfl (by kernel_rfl) (by kernel_rfl) (by kernel_rfl) (fun _ _ _ h => h) (Or.inl ⟨by rfl, ?hya0⟩) hH0 ?ra0
  case hya0 => (intro w' hSw; have x0 := hSw.cell hx0; have x3 := hSw.cell hx3; have x4 := hSw.cell hx4; have x5 := hSw.cell hx5; have y0 := hSw.cell hy0; have y3 := hSw.cell hy3; have y4 := hSw.cell hy4; have y5 := hSw.cell hy5; clear hSw; go_simp; try with_reducible rfl)
  simp only [Act.put, List.setIfInBounds_toArray, List.set_cons_zero, List.set_cons_succ]
  refine' wpAnyH_take (i := 1) (oi := { dst := some 6, op := Op.load 27 (Operand.tmp 5), type := 27, pos := "leaf.go:85", after := #[{ on := 0, ground := Ground.data }], guard := none }) (v := _) rfl (by kernel_rfl) (by kernel_rfl) (by kernel_rfl) (fun _ _ _ h => h) (Or.inl ⟨by rfl, ?hya1⟩) hH0 ?ra1
  case hya1 => (intro w' hSw; have x0 := hSw.cell hx0; have x3 := hSw.cell hx3; have x4 := hSw.cell hx4; have x5 := hSw.cell hx5; have y0 := hSw.cell hy0; have y3 := hSw.cell hy3; have y4 := hSw.cell hy4; have y5 := hSw.cell hy5; clear hSw; go_simp; try with_reducible rfl)
  simp only [Act.put, List.setIfInBounds_toArray, List.set_cons_zero, List.set_cons_succ]
  refine' wpAnyH_take (i := 2) (oi := { dst := some 7, op := Op.fieldAddr 33 (Operand.tmp 3) 3, type := 0, pos := "leaf.go:85", after := #[], guard := none }) (v := _) rfl (by kernel_rfl) (by kernel_rfl) (by kernel_rfl) (fun _ _ _ h => h) (Or.inl ⟨by rfl, ?hya2⟩) hH0 ?ra2
  case hya2 => (intro w' hSw; have x0 := hSw.cell hx0; have x3 := hSw.cell hx3; have x4 := hSw.cell hx4; have x5 := hSw.cell hx5; have y0 := hSw.cell hy0; have y3 := hSw.cell hy3; have y4 := hSw.cell hy4; have y5 := hSw.cell hy5; clear hSw; go_simp; try with_reducible rfl)
  simp only [Act.put, List.setIfInBounds_toArray, List.set_cons_zero, List.set_cons_succ]
  refine' wpAnyH_take (i := 3) (oi := { dst := some 8, op := Op.load 27 (Operand.tmp 7), type := 27, pos := "leaf.go:85", after := #[{ on := 2, ground := Ground.data }], guard := none }) (v := _) rfl (by kernel_rfl) (by kernel_rfl) (by kernel_rfl) (fun _ _ _ h => h) (Or.inl ⟨by rfl, ?hya3⟩) hH0 ?ra3
  case hya3 => (intro w' hSw; have x0 := hSw.cell hx0; have x3 := hSw.cell hx3; have x4 := hSw.cell hx4; have x5 := hSw.cell hx5; have y0 := hSw.cell hy0; have y3 := hSw.cell hy3; have y4 := hSw.cell hy4; have y5 := hSw.cell hy5; clear hSw; go_simp; try with_reducible rfl)
  simp only [Act.put, List.setIfInBounds_toArray, List.set_cons_zero, List.set_cons_succ]
  refine' wpAnyH_take (i := 5) (oi := { dst := some 10, op := Op.fieldAddr 33 (Operand.tmp 2) 0, type := 0, pos := "leaf.go:85", after := #[], guard := none }) (v := _) rfl (by kernel_rfl) (by kernel_rfl) (by kernel_rfl) (fun _ _ _ h => h) (Or.inl ⟨by rfl, ?hya5⟩) hH0 ?ra5
  case hya5 => (intro w' hSw; have x0 := hSw.cell hx0; have x3 := hSw.cell hx3; have x4 := hSw.cell hx4; have x5 := hSw.cell hx5; have y0 := hSw.cell hy0; have y3 := hSw.cell hy3; have y4 := hSw.cell hy4; have y5 := hSw.cell hy5; clear hSw; go_simp; try with_reducible rfl)
  simp only [Act.put, List.setIfInBounds_toArray, List.set_cons_zero, List.set_cons_succ]
  refine' wpAnyH_take (i := 6) (oi := { dst := some 11, op := Op.load 3 (Operand.tmp 10), type := 3, pos := "leaf.go:85", after := #[{ on := 5, ground := Ground.data }], guard := none }) (v := _) rfl (by kernel_rfl) (by kernel_rfl) (by kernel_rfl) (fun _ _ _ h => h) (Or.inl ⟨by rfl, ?hya6⟩) hH0 ?ra6
  case hya6 => (intro w' hSw; have x0 := hSw.cell hx0; have x3 := hSw.cell hx3; have x4 := hSw.cell hx4; have x5 := hSw.cell hx5; have y0 := hSw.cell hy0; have y3 := hSw.cell hy3; have y4 := hSw.cell hy4; have y5 := hSw.cell hy5; clear hSw; go_simp; try with_reducible rfl)
  simp only [Act.put, List.setIfInBounds_toArray, List.set_cons_zero, List.set_cons_succ]
  refine' wpAnyH_take (i := 7) (oi := { dst := some 12, op := Op.fieldAddr 33 (Operand.tmp 3) 0, type := 0, pos := "leaf.go:85", after := #[], guard := none }) (v := _) rfl (by kernel_rfl) (by kernel_rfl) (by kernel_rfl) (fun _ _ _ h => h) (Or.inl ⟨by rfl, ?hya7⟩) hH0 ?ra7
  case hya7 => (intro w' hSw; have x0 := hSw.cell hx0; have x3 := hSw.cell hx3; have x4 := hSw.cell hx4; have x5 := hSw.cell hx5; have y0 := hSw.cell hy0; have y3 := hSw.cell hy3; have y4 := hSw.cell hy4; have y5 := hSw.cell hy5; clear hSw; go_simp; try with_reducible rfl)
  simp only [Act.put, List.setIfInBounds_toArray, List.set_cons_zero, List.set_cons_succ]
  refine' wpAnyH_take (i := 8) (oi := { dst := some 13, op := Op.load 3 (Operand.tmp 12), type := 3, pos := "leaf.go:85", after := #[{ on := 7, ground := Ground.data }], guard := none }) (v := _) rfl (by kernel_rfl) (by kernel_rfl) (by kernel_rfl) (fun _ _ _ h => h) (Or.inl ⟨by rfl, ?hya8⟩) hH0 ?ra8
  case hya8 => (intro w' hSw; have x0 := hSw.cell hx0; have x3 := hSw.cell hx3; have x4 := hSw.cell hx4; have x5 := hSw.cell hx5; have y0 := hSw.cell hy0; have y3 := hSw.cell hy3; have y4 := hSw.cell hy4; have y5 := hSw.cell hy5; clear hSw; go_simp; try with_reducible rfl)
  simp only [Act.put, List.setIfInBounds_toArray, List.set_cons_zero, List.set_cons_succ]
  refine' wpAnyH_take (i := 10) (oi := { dst := some 15, op := Op.fieldAddr 33 (Operand.tmp 2) 4, type := 0, pos := "leaf.go:85", after := #[], guard := none }) (v := _) rfl (by kernel_rfl) (by kernel_rfl) (by kernel_rfl) (fun _ _ _ h => h) (Or.inl ⟨by rfl, ?hya10⟩) hH0 ?ra10
  case hya10 => (intro w' hSw; have x0 := hSw.cell hx0; have x3 := hSw.cell hx3; have x4 := hSw.cell hx4; have x5 := hSw.cell hx5; have y0 := hSw.cell hy0; have y3 := hSw.cell hy3; have y4 := hSw.cell hy4; have y5 := hSw.cell hy5; clear hSw; go_simp; try with_reducible rfl)
  simp only [Act.put, List.setIfInBounds_toArray, List.set_cons_zero, List.set_cons_succ]
  refine' wpAnyH_take (i := 11) (oi := { dst := some 16, op := Op.load 27 (Operand.tmp 15), type := 27, pos := "leaf.go:85", after := #[{ on := 10, ground := Ground.data }], guard := none }) (v := _) rfl (by kernel_rfl) (by kernel_rfl) (by kernel_rfl) (fun _ _ _ h => h) (Or.inl ⟨by rfl, ?hya11⟩) hH0 ?ra11
  case hya11 => (intro w' hSw; have x0 := hSw.cell hx0; have x3 := hSw.cell hx3; have x4 := hSw.cell hx4; have x5 := hSw.cell hx5; have y0 := hSw.cell hy0; have y3 := hSw.cell hy3; have y4 := hSw.cell hy4; have y5 := hSw.cell hy5; clear hSw; go_simp; try with_reducible rfl)
  simp only [Act.put, List.setIfInBounds_toArray, List.set_cons_zero, List.set_cons_succ]
  refine' wpAnyH_take (i := 12) (oi := { dst := some 17, op := Op.fieldAddr 33 (Operand.tmp 3) 4, type := 0, pos := "leaf.go:85", after := #[], guard := none }) (v := _) rfl (by kernel_rfl) (by kernel_rfl) (by kernel_rfl) (fun _ _ _ h => h) (Or.inl ⟨by rfl, ?hya12⟩) hH0 ?ra12
  case hya12 => (intro w' hSw; have x0 := hSw.cell hx0; have x3 := hSw.cell hx3; have x4 := hSw.cell hx4; have x5 := hSw.cell hx5; have y0 := hSw.cell hy0; have y3 := hSw.cell hy3; have y4 := hSw.cell hy4; have y5 := hSw.cell hy5; clear hSw; go_simp; try with_reducible rfl)
  simp only [Act.put, List.setIfInBounds_toArray, List.set_cons_zero, List.set_cons_succ]
  refine' wpAnyH_take (i := 13) (oi := { dst := some 18, op := Op.load 27 (Operand.tmp 17), type := 27, pos := "leaf.go:85", after := #[{ on := 12, ground := Ground.data }], guard := none }) (v := _) rfl (by kernel_rfl) (by kernel_rfl) (by kernel_rfl) (fun _ _ _ h => h) (Or.inl ⟨by rfl, ?hya13⟩) hH0 ?ra13
  case hya13 => (intro w' hSw; have x0 := hSw.cell hx0; have x3 := hSw.cell hx3; have x4 := hSw.cell hx4; have x5 := hSw.cell hx5; have y0 := hSw.cell hy0; have y3 := hSw.cell hy3; have y4 := hSw.cell hy4; have y5 := hSw.cell hy5; clear hSw; go_simp; try with_reducible rfl)
  simp only [Act.put, List.setIfInBounds_toArray, List.set_cons_zero, List.set_cons_succ]
  refine wpAnyH_ready (rs := [4]) (by kernel_rfl) (by simp) ?_
  refine AllReadyH.cons (o := { dst := some 9, op := Op.call { callee := Callee.value (Operand.func 29), args := #[Operand.tmp 6, Operand.tmp 8], argTypes := #[27, 27] }, type := 3, pos := "leaf.go:85", after := #[{ on := 1, ground := Ground.data }, { on := 3, ground := Ground.data }], guard := none }) rfl (fun K hK => ?_) AllReadyH.nil
  refine step_call_want (vs := #[.int .u32 p.ep, .int .u32 q.ep]) (R := fun v w' => v = .int .i64 (cpI p.ep q.ep) ∧ w' = w2.drew) (by rfl) 29 #[Operand.tmp 6, Operand.tmp 8] #[27, 27] rfl (by simp [Act.eval]) call29 (post_w (compare29 p.ep q.ep w2.drew)) ?_
  rintro _ _ ⟨rfl, rfl⟩
  refine hK.out _ _ ((Gw.refl w2).drew) (fun hH1 => ?_)
  clear hK K hH0
  simp only [Act.put, List.setIfInBounds_toArray, List.set_cons_zero, List.set_cons_succ]
  refine wpAnyH_ready (rs := [9]) (by kernel_rfl) (by simp) ?_
  refine AllReadyH.cons (o := { dst := some 14, op := Op.call { callee := Callee.value (Operand.func 34), args := #[Operand.tmp 11, Operand.tmp 13], argTypes := #[3, 3] }, type := 3, pos := "leaf.go:85", after := #[{ on := 6, ground := Ground.data }, { on := 8, ground := Ground.data }, { on := 4, ground := Ground.chain }], guard := none }) rfl (fun K hK => ?_) AllReadyH.nil
  refine step_call_want (vs := #[.int .i64 p.kind, .int .i64 q.kind]) (R := fun v w' => v = .int .i64 (cpI p.kind q.kind) ∧ w' = w2.drew) (by rfl) 34 #[Operand.tmp 11, Operand.tmp 13] #[3, 3] rfl (by simp [Act.eval]) call34 (post_w (compare34 p.kind q.kind w2.drew)) ?_
  rintro _ _ ⟨rfl, rfl⟩
  refine hK.out _ _ ((Gw.refl w2).drew) (fun hH2 => ?_)
  clear hK K hH1
  simp only [Act.put, List.setIfInBounds_toArray, List.set_cons_zero, List.set_cons_succ]
  refine wpAnyH_ready (rs := [14]) (by kernel_rfl) (by simp) ?_
  refine AllReadyH.cons (o := { dst := some 19, op := Op.call { callee := Callee.value (Operand.func 29), args := #[Operand.tmp 16, Operand.tmp 18], argTypes := #[27, 27] }, type := 3, pos := "leaf.go:85", after := #[{ on := 11, ground := Ground.data }, { on := 13, ground := Ground.data }, { on := 9, ground := Ground.chain }], guard := none }) rfl (fun K hK => ?_) AllReadyH.nil
  refine step_call_want (vs := #[.int .u32 p.gr, .int .u32 q.gr]) (R := fun v w' => v = .int .i64 (cpI p.gr q.gr) ∧ w' = w2.drew) (by rfl) 29 #[Operand.tmp 16, Operand.tmp 18] #[27, 27] rfl (by simp [Act.eval]) call29 (post_w (compare29 p.gr q.gr w2.drew)) ?_
  rintro _ _ ⟨rfl, rfl⟩
  refine hK.out _ _ ((Gw.refl w2).drew) (fun hH3 => ?_)
  clear hK K hH2
  simp only [Act.put, List.setIfInBounds_toArray, List.set_cons_zero, List.set_cons_succ]
  refine wpAnyH_ready (rs := [15]) (by kernel_rfl) (by simp) ?_
  refine AllReadyH.cons (o := { dst := some 20, op := Op.buildSlice 69 3 #[(0, Operand.tmp 9), (1, Operand.tmp 14), (2, Operand.tmp 19)], type := 69, pos := "leaf.go:85", after := #[{ on := 4, ground := Ground.data }, { on := 9, ground := Ground.data }, { on := 14, ground := Ground.data }], guard := none }) rfl (fun K hK => ?_) AllReadyH.nil
  refine step_build3_run (by rfl) 69 3 (.tmp 9) (.tmp 14) (.tmp 19) rfl (by rfl) (by rfl) (by rfl) (build3_i _ _ _ _) ?_
  refine hK.out _ _ ((Gw.refl w2).drew.alloc _) (fun hH4 => ?_)
  clear hK K hH3
  simp only [Act.put, List.setIfInBounds_toArray, List.set_cons_zero, List.set_cons_succ]
  have hj := or_any (w := w2.drew.alloc (.cells #[.int .i64 (cpI p.ep q.ep), .int .i64 (cpI p.kind q.kind), .int .i64 (cpI p.gr q.gr)] 3)) (b := w2.drew.heap.size) (l := [cpI p.ep q.ep, cpI p.kind q.kind, cpI p.gr q.gr]) (by simp) (or_cells _ _)
  refine wpAnyH_ready (rs := [16]) (by kernel_rfl) (by simp) ?_
  refine AllReadyH.cons (o := { dst := some 21, op := Op.call { callee := Callee.value (Operand.func 27), args := #[Operand.tmp 20], argTypes := #[69] }, type := 3, pos := "leaf.go:85", after := #[{ on := 15, ground := Ground.data }, { on := 14, ground := Ground.chain }], guard := none }) rfl (fun K hK => ?_) AllReadyH.nil
  refine step_call_want (vs := #[.slice (some ⟨w2.drew.heap.size, 0, none⟩) 3 3]) (R := fun v w' => v = .int .i64 (byS p q) ∧ w' = w2.drew.alloc (.cells #[.int .i64 (cpI p.ep q.ep), .int .i64 (cpI p.kind q.kind), .int .i64 (cpI p.gr q.gr)] 3)) (by rfl) 27 #[Operand.tmp 20] #[69] rfl (by simp [Act.eval]) call27 (post_w hj) ?_
  rintro _ _ ⟨rfl, rfl⟩
  refine hK.out _ _ ((Gw.refl w2).drew.alloc _) (fun hH5 => ?_)
  clear hK K hH4
  simp only [Act.put, List.setIfInBounds_toArray, List.set_cons_zero, List.set_cons_succ]
  refine' wpAnyH_take (i := 17) (oi := { dst := some 4, op := Op.assign (Operand.tmp 21), type := 3, pos := "leaf.go:85", after := #[{ on := 16, ground := Ground.data }, { on := 16, ground := Ground.chain }, { on := 0, ground := Ground.phase }, { on := 1, ground := Ground.phase }, { on := 2, ground := Ground.phase }, { on := 3, ground := Ground.phase }, { on := 4, ground := Ground.phase }, { on := 5, ground := Ground.phase }, { on := 6, ground := Ground.phase }, { on := 7, ground := Ground.phase }, { on := 8, ground := Ground.phase }, { on := 9, ground := Ground.phase }, { on := 10, ground := Ground.phase }, { on := 11, ground := Ground.phase }, { on := 12, ground := Ground.phase }, { on := 13, ground := Ground.phase }, { on := 14, ground := Ground.phase }, { on := 15, ground := Ground.phase }, { on := 16, ground := Ground.phase }], guard := none }) (v := _) rfl (by kernel_rfl) (by kernel_rfl) (by kernel_rfl) (fun _ _ _ h => h) (Or.inl ⟨by rfl, ?hya17⟩) hH5 ?ra17
  case hya17 => (intro w' hSw; clear hSw; go_simp; try with_reducible rfl)
  simp only [Act.put, List.setIfInBounds_toArray, List.set_cons_zero, List.set_cons_succ]
  refine wpAnyH_done (by kernel_rfl) ?_ _
  refine NoPanic.normal ?_
  go_wp2_with fail
  go_ret
  exact ⟨rfl, G2.trans ((Gw.refl w2).drew.alloc _)⟩
set_option maxRecDepth 100000 in
set_option maxHeartbeats 1000000 in
theorem cmp_any (p q : Pg) (w : World) : Calls Try.prog 26 #[.agg (pgA p), .agg (pgA q)] w fun e w' => e = .returned (.int .i64 (cfP p q)) ∧ Gw w w' := by
  have hb1 := blk_alloc w _ 33 39 _ (pgA_get p)
  have hb2 := blk_alloc (w.alloc (.cells (pgA p) 33)) _ 33 39 _ (pgA_get q)
  have hsz1 := pgA_size p
  have hsz2 := pgA_size q
  have G2 := ((Gw.refl w).alloc (.cells (pgA p) 33)).alloc (.cells (pgA q) 33)
  have P1 : Pv ((w.alloc (.cells (pgA p) 33)).alloc (.cells (pgA q) 33)) w.heap.size p := Blk.keep hb1 ((Keep.refl (fun _ => False) _).alloc _) (fun e => e)
  have P2 : Pv ((w.alloc (.cells (pgA p) 33)).alloc (.cells (pgA q) 33)) (w.heap.size + 1) q := by
    have : (w.alloc (.cells (pgA p) 33)).heap.size = w.heap.size + 1 := by simp
    rw [this] at hb2
    exact hb2
  have hx0 := P1.kind
  have hx3 := P1.ep
  have hx4 := P1.gr
  have hx5 := P1.ix
  have hy0 := P2.kind
  have hy3 := P2.ep
  have hy4 := P2.gr
  have hy5 := P2.ix
  have hl1 : ∀ w', Gw ((w.alloc (.cells (pgA p) 33)).alloc (.cells (pgA q) 33)) w' → (Instr.loadAt 33 (.pointer (some ⟨w.heap.size, 0, none⟩))).run Try.prog w' = .ok (.agg (pgA p)) w' := fun w' g => (P1.more g.keep).load
  have hl2 : ∀ w', Gw ((w.alloc (.cells (pgA p) 33)).alloc (.cells (pgA q) 33)) w' → (Instr.loadAt 33 (.pointer (some ⟨w.heap.size + 1, 0, none⟩))).run Try.prog w' = .ok (.agg (pgA q)) w' := fun w' g => (P2.more g.keep).load
  have hbys := fun w => bys_any p q w
  clear hb1 hb2 P1 P2
  generalize pgA p = A at *
  generalize pgA q = B at *
  go_enter Try.func26, Try.ntmps26
  go_upto_region 1 with fail
  generalize (w.alloc (.cells A 33)).alloc (.cells B 33) = w2 at *
  generalize w.heap.size = b1 at *
  refine wp_region_noPanic ?_
  refine wp_region_held_drew (S := fun w' => Gw w2 w') (by kernel_rfl) ((Gw.refl w2).drew) (fun hH0 => ?_)
  refine' wpAnyH_take (i := 0) (oi := { dst := some 5, op := Op.load 33 (Operand.tmp 2), type := 33, pos := "leaf.go:77", after := #[], guard := none }) (v := .agg A) rfl (by kernel_rfl) (by kernel_rfl) (by kernel_rfl) (fun _ _ _ h => h) (yields_load (by rfl) 33 (.tmp 2) rfl (by rfl) hl1) hH0 ?rb0
  simp only [Act.put, List.setIfInBounds_toArray, List.set_cons_zero, List.set_cons_succ]
  refine' wpAnyH_take (i := 1) (oi := { dst := some 6, op := Op.load 33 (Operand.tmp 3), type := 33, pos := "leaf.go:77", after := #[], guard := none }) (v := .agg B) rfl (by kernel_rfl) (by kernel_rfl) (by kernel_rfl) (fun _ _ _ h => h) (yields_load (by rfl) 33 (.tmp 3) rfl (by rfl) hl2) hH0 ?rb1
  simp only [Act.put, List.setIfInBounds_toArray, List.set_cons_zero, List.set_cons_succ]
  refine' wpAnyH_take (i := 3) (oi := { dst := some 8, op := Op.fieldAddr 33 (Operand.tmp 2) 5, type := 0, pos := "leaf.go:77", after := #[], guard := none }) (v := _) rfl (by kernel_rfl) (by kernel_rfl) (by kernel_rfl) (fun _ _ _ h => h) (Or.inl ⟨by rfl, ?hyb3⟩) hH0 ?rb3
  case hyb3 => (intro w' hSw; have x0 := hSw.cell hx0; have x3 := hSw.cell hx3; have x4 := hSw.cell hx4; have x5 := hSw.cell hx5; have y0 := hSw.cell hy0; have y3 := hSw.cell hy3; have y4 := hSw.cell hy4; have y5 := hSw.cell hy5; clear hSw; go_simp; try with_reducible rfl)
  simp only [Act.put, List.setIfInBounds_toArray, List.set_cons_zero, List.set_cons_succ]
  refine' wpAnyH_take (i := 4) (oi := { dst := some 9, op := Op.load 27 (Operand.tmp 8), type := 27, pos := "leaf.go:77", after := #[{ on := 3, ground := Ground.data }], guard := none }) (v := _) rfl (by kernel_rfl) (by kernel_rfl) (by kernel_rfl) (fun _ _ _ h => h) (Or.inl ⟨by rfl, ?hyb4⟩) hH0 ?rb4
  case hyb4 => (intro w' hSw; have x0 := hSw.cell hx0; have x3 := hSw.cell hx3; have x4 := hSw.cell hx4; have x5 := hSw.cell hx5; have y0 := hSw.cell hy0; have y3 := hSw.cell hy3; have y4 := hSw.cell hy4; have y5 := hSw.cell hy5; clear hSw; go_simp; try with_reducible rfl)
  simp only [Act.put, List.setIfInBounds_toArray, List.set_cons_zero, List.set_cons_succ]
  refine' wpAnyH_take (i := 5) (oi := { dst := some 10, op := Op.fieldAddr 33 (Operand.tmp 3) 5, type := 0, pos := "leaf.go:77", after := #[], guard := none }) (v := _) rfl (by kernel_rfl) (by kernel_rfl) (by kernel_rfl) (fun _ _ _ h => h) (Or.inl ⟨by rfl, ?hyb5⟩) hH0 ?rb5
  case hyb5 => (intro w' hSw; have x0 := hSw.cell hx0; have x3 := hSw.cell hx3; have x4 := hSw.cell hx4; have x5 := hSw.cell hx5; have y0 := hSw.cell hy0; have y3 := hSw.cell hy3; have y4 := hSw.cell hy4; have y5 := hSw.cell hy5; clear hSw; go_simp; try with_reducible rfl)
  simp only [Act.put, List.setIfInBounds_toArray, List.set_cons_zero, List.set_cons_succ]
  refine' wpAnyH_take (i := 6) (oi := { dst := some 11, op := Op.load 27 (Operand.tmp 10), type := 27, pos := "leaf.go:77", after := #[{ on := 5, ground := Ground.data }], guard := none }) (v := _) rfl (by kernel_rfl) (by kernel_rfl) (by kernel_rfl) (fun _ _ _ h => h) (Or.inl ⟨by rfl, ?hyb6⟩) hH0 ?rb6
  case hyb6 => (intro w' hSw; have x0 := hSw.cell hx0; have x3 := hSw.cell hx3; have x4 := hSw.cell hx4; have x5 := hSw.cell hx5; have y0 := hSw.cell hy0; have y3 := hSw.cell hy3; have y4 := hSw.cell hy4; have y5 := hSw.cell hy5; clear hSw; go_simp; try with_reducible rfl)
  simp only [Act.put, List.setIfInBounds_toArray, List.set_cons_zero, List.set_cons_succ]
  refine wpAnyH_ready (rs := [2]) (by kernel_rfl) (by simp) ?_
  refine AllReadyH.cons (o := { dst := some 7, op := Op.call { callee := Callee.value (Operand.func 28), args := #[Operand.tmp 5, Operand.tmp 6], argTypes := #[33, 33] }, type := 3, pos := "leaf.go:77", after := #[{ on := 0, ground := Ground.data }, { on := 1, ground := Ground.data }], guard := none }) rfl (fun K hK => ?_) AllReadyH.nil
  refine step_call_want (vs := #[.agg A, .agg B]) (R := fun v w' => v = .int .i64 (byS p q) ∧ Gw w2.drew w') (by rfl) 28 #[Operand.tmp 5, Operand.tmp 6] #[33, 33] rfl (by simp [Act.eval]) call28 (post_w (hbys w2.drew)) ?_
  rintro _ w3 ⟨rfl, g3⟩
  refine hK.out _ _ ((Gw.refl w2).drew.trans g3) (fun hH1 => ?_)
  clear hK K hH0
  simp only [Act.put, List.setIfInBounds_toArray, List.set_cons_zero, List.set_cons_succ]
  refine wpAnyH_ready (rs := [7]) (by kernel_rfl) (by simp) ?_
  refine AllReadyH.cons (o := { dst := some 12, op := Op.call { callee := Callee.value (Operand.func 29), args := #[Operand.tmp 9, Operand.tmp 11], argTypes := #[27, 27] }, type := 3, pos := "leaf.go:77", after := #[{ on := 4, ground := Ground.data }, { on := 6, ground := Ground.data }, { on := 2, ground := Ground.chain }], guard := none }) rfl (fun K hK => ?_) AllReadyH.nil
  refine step_call_want (vs := #[.int .u32 p.ix, .int .u32 q.ix]) (R := fun v w' => v = .int .i64 (cpI p.ix q.ix) ∧ w' = w3) (by rfl) 29 #[Operand.tmp 9, Operand.tmp 11] #[27, 27] rfl (by simp [Act.eval]) call29 (post_w (compare29 p.ix q.ix w3)) ?_
  rintro _ w4 ⟨rfl, rfl⟩
  refine hK.out _ _ ((Gw.refl w2).drew.trans g3) (fun hH2 => ?_)
  clear hK K hH1
  simp only [Act.put, List.setIfInBounds_toArray, List.set_cons_zero, List.set_cons_succ]
  refine wpAnyH_ready (rs := [8]) (by kernel_rfl) (by simp) ?_
  refine AllReadyH.cons (o := { dst := some 13, op := Op.buildSlice 69 2 #[(0, Operand.tmp 7), (1, Operand.tmp 12)], type := 69, pos := "leaf.go:77", after := #[{ on := 2, ground := Ground.data }, { on := 7, ground := Ground.data }], guard := none }) rfl (fun K hK => ?_) AllReadyH.nil
  refine step_build2_run' (by rfl) 69 2 (.tmp 7) (.tmp 12) rfl (by rfl) (by rfl) (build2_i _ _ _) ?_
  refine hK.out _ _ (((Gw.refl w2).drew.trans g3).alloc _) (fun hH3 => ?_)
  clear hK K hH2
  simp only [Act.put, List.setIfInBounds_toArray, List.set_cons_zero, List.set_cons_succ]
  have hj := or_any (w := w4.alloc (.cells #[.int .i64 (byS p q), .int .i64 (cpI p.ix q.ix)] 3)) (b := w4.heap.size) (l := [byS p q, cpI p.ix q.ix]) (by simp) (or_cells _ _)
  refine wpAnyH_ready (rs := [9]) (by kernel_rfl) (by simp) ?_
  refine AllReadyH.cons (o := { dst := some 14, op := Op.call { callee := Callee.value (Operand.func 27), args := #[Operand.tmp 13], argTypes := #[69] }, type := 3, pos := "leaf.go:77", after := #[{ on := 8, ground := Ground.data }, { on := 7, ground := Ground.chain }], guard := none }) rfl (fun K hK => ?_) AllReadyH.nil
  refine step_call_want (vs := #[.slice (some ⟨w4.heap.size, 0, none⟩) 2 2]) (R := fun v w' => v = .int .i64 (cfP p q) ∧ w' = w4.alloc (.cells #[.int .i64 (byS p q), .int .i64 (cpI p.ix q.ix)] 3)) (by rfl) 27 #[Operand.tmp 13] #[69] rfl (by simp [Act.eval]) call27 (post_w hj) ?_
  rintro _ _ ⟨rfl, rfl⟩
  refine hK.out _ _ (((Gw.refl w2).drew.trans g3).alloc _) (fun hH4 => ?_)
  clear hK K hH3
  simp only [Act.put, List.setIfInBounds_toArray, List.set_cons_zero, List.set_cons_succ]
  refine' wpAnyH_take (i := 10) (oi := { dst := some 4, op := Op.assign (Operand.tmp 14), type := 3, pos := "leaf.go:77", after := #[{ on := 9, ground := Ground.data }, { on := 9, ground := Ground.chain }, { on := 0, ground := Ground.phase }, { on := 1, ground := Ground.phase }, { on := 2, ground := Ground.phase }, { on := 3, ground := Ground.phase }, { on := 4, ground := Ground.phase }, { on := 5, ground := Ground.phase }, { on := 6, ground := Ground.phase }, { on := 7, ground := Ground.phase }, { on := 8, ground := Ground.phase }, { on := 9, ground := Ground.phase }], guard := none }) (v := _) rfl (by kernel_rfl) (by kernel_rfl) (by kernel_rfl) (fun _ _ _ h => h) (Or.inl ⟨by rfl, ?hyb10⟩) hH4 ?rb10
  case hyb10 => (intro w' hSw; clear hSw; go_simp; try with_reducible rfl)
  simp only [Act.put, List.setIfInBounds_toArray, List.set_cons_zero, List.set_cons_succ]
  refine wpAnyH_done (by kernel_rfl) ?_ _
  refine NoPanic.normal ?_
  go_wp2_with fail
  go_ret
  exact ⟨rfl, G2.trans (((Gw.refl w2).drew.trans g3).alloc _)⟩
end Tg
end Go.Proofs.Ytginnojbmpnleaa
