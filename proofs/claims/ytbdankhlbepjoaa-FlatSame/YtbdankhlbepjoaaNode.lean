/-
  A node's six cells and a place's eight: written, read, held against each other.
-/
import Derived.Test.YtbdankhlbepjoaaArena
import Derived.Deep.MidRow
import Derived.ChangeKeysEq
namespace Go.Proofs.Ytbdankhlbepjoaa
open Go.ChangeShapes Go.WideShapes Go.ChangeAt Go.RowKit
namespace Tg

/-- The walk's step at a store, and at a load, whose run is known. -/
theorem wpList_store_run {P : Program} {w : World} {ops : Array Oper} {rest : List Oper} {o : Oper} {a : Act} {Q : Exit → Act → World → Prop}
    (hg : o.guard = none) (t : TypeId) (x y : Operand) (hop : o.op = Op.store t x y) {v1 v2 : Value} {w' : World} (hx : a.eval x = v1) (hy : a.eval y = v2) (hrun : (Instr.storeAt t v1 v2).run P w = .ok () w')
    (hK : wpList P ops Q rest (a.put o.dst undef) w') : wpList P ops Q (o :: rest) a w := by
  refine BigFrame.wpList_want (by simp [Region.wanted, hg]) fun K hK' => ?_
  unfold Oper.wp
  simp [execOp, hop, hx, hy, hrun, Result.andThen]
  exact hK' _ _ hK
theorem wpList_load_run {P : Program} {w : World} {ops : Array Oper} {rest : List Oper} {o : Oper} {a : Act} {Q : Exit → Act → World → Prop}
    (hw : Region.wanted o (yielded ops a.tmps) = true) (t : TypeId) (x : Operand) (hop : o.op = Op.load t x) {v1 v' : Value} {w' : World} (hx : a.eval x = v1) (hrun : (Instr.loadAt t v1).run P w = .ok v' w')
    (hK : wpList P ops Q rest (a.put o.dst v') w') : wpList P ops Q (o :: rest) a w := by
  refine BigFrame.wpList_want hw fun K hK' => ?_
  unfold Oper.wp
  simp [execOp, hop, hx, hrun, Result.andThen]
  exact hK' _ _ hK

/-- A node's six cells. -/
def nodeA (n : Nat → Int) : Array Value := ((List.range 6).map fun j => nval j (n j)).toArray
theorem nodeA_size (n : Nat → Int) : (nodeA n).size = 6 := by simp [nodeA]
theorem nodeA_get (n : Nat → Int) (i : Nat) (hi : i < 6) : (nodeA n)[i]? = some (nval i (n i)) := by simp [nodeA, hi]
theorem nodeA_lit (n : Nat → Int) : nodeA n = #[.int .u32 (n 0), .int .u32 (n 1), .int .i64 (n 2), .int .i64 (n 3), .int .i64 (n 4), .int .i64 (n 5)] := rfl
theorem node0 : nodeA (fun _ => 0) = #[.int .u32 0, .int .u32 0, .int .i64 0, .int .i64 0, .int .i64 0, .int .i64 0] := rfl
theorem nodeA_congr {n m : Nat → Int} (h : ∀ j, j < 6 → n j = m j) : nodeA n = nodeA m := by
  rw [nodeA_lit, nodeA_lit, h 0 (by omega), h 1 (by omega), h 2 (by omega), h 3 (by omega), h 4 (by omega), h 5 (by omega)]
theorem size40 : (Try.prog.info? 82).map (·.size) = some 6 := by kernel_rfl
theorem size53 : (Try.prog.info? 84).map (·.size) = some 8 := by kernel_rfl
theorem under40 : ∃ d, Try.prog.underlying 82 = some d ∧ d.isRow = true := ⟨_, Try.underlying82, rfl⟩
theorem nval_one (j : Nat) (v : Int) : (nval j v).oneCell' = true := by unfold nval; split <;> rfl

/-- A node is written into a block's cells from place o on. -/
theorem store_node {w : World} {p o N : Nat} {f : Nat → Value} (h : Blk w p N f) (ho : o + 6 ≤ N) (n : Nat → Int) :
    (Instr.storeAt 82 (.pointer (some ⟨p, o, none⟩)) (.agg (nodeA n))).run Try.prog w = .ok () (w.setCells p o ((List.range 6).map fun j => nval j (n j))) := by
  have ht : w.there p o (nodeA n).size := fun j hj => by rw [nodeA_size] at hj; exact ⟨by rw [(h (o + j) (by omega)).1]; rfl, (h (o + j) (by omega)).2⟩
  exact run_storeAt_mid w p o 82 (nodeA n) ht (by rw [nodeA_size]; exact size40) (all_oneCell_toArray (fun x hx => by simp at hx; obtain ⟨i, _, rfl⟩ := hx; exact nval_one _ _))
theorem range_node {w : World} {p o N : Nat} {f : Nat → Value} {n : Nat → Int} (h : Blk w p N f) (ho : o + 6 ≤ N) (hf : ∀ i, i < 6 → f (o + i) = nval i (n i)) : w.rangeAt p o (nodeA n).toList := by
  intro j x hx
  have hj : j < 6 := by have := (List.getElem?_eq_some_iff.1 hx).1; simpa [nodeA] using this
  rw [(h (o + j) (by omega)).1, hf j hj, ← hx]
  simp [nodeA, hj]
theorem load_node {w : World} {p o N : Nat} {f : Nat → Value} {n : Nat → Int} (h : Blk w p N f) (ho : o + 6 ≤ N) (hf : ∀ i, i < 6 → f (o + i) = nval i (n i)) : (loadVar 82 ⟨p, o, none⟩).run Try.prog w = .ok (.agg (nodeA n)) w := by
  obtain ⟨t, h1, h2⟩ := under40
  have := run_loadVar_mid (P := Try.prog) w p o 82 (nodeA n).toList t (range_node h ho hf) h1 h2 (by rw [size40]; simp [nodeA])
  simpa using this
theorem loadAt_node {w : World} {p o N : Nat} {f : Nat → Value} {n : Nat → Int} (h : Blk w p N f) (ho : o + 6 ≤ N) (hf : ∀ i, i < 6 → f (o + i) = nval i (n i)) : (Instr.loadAt 82 (.pointer (some ⟨p, o, none⟩))).run Try.prog w = .ok (.agg (nodeA n)) w := by
  obtain ⟨t, h1, h2⟩ := under40
  have := run_loadAt_mid (P := Try.prog) w p o 82 (nodeA n).toList t (range_node h ho hf) h1 h2 (by rw [size40]; simp [nodeA])
  simpa using this

/-- A place is written. -/
theorem store_slot {w : World} {p o N : Nat} {f : Nat → Value} (h : Blk w p N f) (ho : o + 8 ≤ N) (v : Bool) (n : Nat) :
    (Instr.storeAt 84 (.pointer (some ⟨p, o, none⟩)) (.agg #[.int .u32 0, .int .u32 0, .int .i64 0, .int .i64 0, .int .i64 0, .int .i64 0, .bool v, .int .u32 (n : Int)])).run Try.prog w =
      .ok () (w.setCells p o [.int .u32 0, .int .u32 0, .int .i64 0, .int .i64 0, .int .i64 0, .int .i64 0, .bool v, .int .u32 (n : Int)]) := by
  refine run_storeAt_mid w p o 84 _ (fun j hj => ?_) size53 (all_oneCell_toArray (fun x hx => ?_))
  · have hj : j < 8 := hj
    exact ⟨by rw [(h (o + j) (by omega)).1]; rfl, (h (o + j) (by omega)).2⟩
  · simp at hx
    rcases hx with rfl | rfl | rfl | rfl <;> rfl

/-- Are two nodes alike? -/
def sameN (n m : Nat → Int) : Bool := n 0 == m 0 && (n 1 == m 1 && (n 2 == m 2 && (n 3 == m 3 && (n 4 == m 4 && n 5 == m 5))))
theorem sameN_of {n m : Nat → Int} (h : ∀ j, j < 6 → n j = m j) : sameN n m = true := by
  unfold sameN
  rw [h 0 (by omega), h 1 (by omega), h 2 (by omega), h 3 (by omega), h 4 (by omega), h 5 (by omega)]
  simp

theorem fields_cons {fu : Nat} {xs ys : Array Value} {f : Field} {fs : List Field} {a b : Value} {r q : Bool} {w : World} {t o : Nat} (h : (f.name == "_", f.type, f.offset) = (false, t, o)) (ha : (Go.part t xs o).run Try.prog w = .ok a w) (hb : (Go.part t ys o).run Try.prog w = .ok b w)
    (he : (Op.equalIn fu t a b).run Try.prog w = .ok r w) (hr : (Op.eqFields fu xs ys fs).run Try.prog w = .ok q w) : (Op.eqFields fu xs ys (f :: fs)).run Try.prog w = .ok (r && q) w := by
  simp only [Prod.mk.injEq] at h
  obtain ⟨hn, rfl, rfl⟩ := h
  have hn' : f.name ≠ "_" := by simpa using hn
  simp only [Op.eqFields, hn', ne_eq, not_false_eq_true, if_true, Sem.run_bind, ha, hb, he, Result.andThen_ok]
  cases r <;> simp [hr]
theorem part_cell (t : TypeId) (ht : ∀ w, (isAgg t).run Try.prog w = .ok false w) (A : Array Value) (i : Nat) (v : Value) (h : A[i]? = some v) (w : World) : (Go.part t A i).run Try.prog w = .ok v w := by
  simp [Go.part, ht w, h]
def runA (n : Nat → Int) : Array Value := #[.int .i64 (n 3), .int .i64 (n 4), .int .i64 (n 5)]
theorem part_run (n : Nat → Int) (w : World) : (Go.part 55 (nodeA n) 3).run Try.prog w = .ok (.agg (runA n)) w := by
  have ha : (isAgg 55).run Try.prog w = .ok true w := by kernel_rfl
  have he : (nodeA n).extract 3 6 = runA n := by kernel_rfl
  simp [Go.part, ha, he]
theorem eq38 (n m : Nat → Int) (w : World) : (Op.equalIn 9999 55 (.agg (runA n)) (.agg (runA m))).run Try.prog w = .ok (n 3 == m 3 && (n 4 == m 4 && n 5 == m 5)) w := by
  rw [run_equalIn_struct w 9998 55 _ _ (by kernel_rfl) (by kernel_rfl)]
  have hf : (Try.prog.fieldsOf 55).toList.map (fun f => (f.name == "_", f.type, f.offset)) = [(false, 3, 0), (false, 3, 1), (false, 3, 2)] := by kernel_rfl
  have a3 : ∀ w, (isAgg 3).run Try.prog w = .ok false w := fun w => by kernel_rfl
  generalize (Try.prog.fieldsOf 55).toList = fs at hf ⊢
  rcases fs with _ | ⟨f0, _ | ⟨f1, _ | ⟨f2, _ | ⟨f3, fs⟩⟩⟩⟩
  all_goals simp only [List.map_nil, List.map_cons, List.cons.injEq, List.nil_eq, reduceCtorEq, and_false, and_true] at hf
  obtain ⟨h0, h1, h2⟩ := hf
  refine fields_cons h0 (part_cell 3 a3 _ 0 _ rfl w) (part_cell 3 a3 _ 0 _ rfl w) (run_equalIn_int w 9997 3 .i64 .i64 _ _ Try.underlying3) ?_
  refine fields_cons h1 (part_cell 3 a3 _ 1 _ rfl w) (part_cell 3 a3 _ 1 _ rfl w) (run_equalIn_int w 9997 3 .i64 .i64 _ _ Try.underlying3) ?_
  have := fields_cons (fs := []) h2 (part_cell 3 a3 (runA n) 2 _ rfl w) (part_cell 3 a3 (runA m) 2 _ rfl w) (run_equalIn_int w 9997 3 .i64 .i64 _ _ Try.underlying3) (q := true) (by simp [Op.eqFields])
  rwa [Bool.and_true] at this
theorem eq40 (n m : Nat → Int) (w : World) : (Op.equalIn 10000 82 (.agg (nodeA n)) (.agg (nodeA m))).run Try.prog w = .ok (sameN n m) w := by
  rw [run_equalIn_struct w 9999 82 _ _ (by kernel_rfl) (by kernel_rfl)]
  have hf : (Try.prog.fieldsOf 82).toList.map (fun f => (f.name == "_", f.type, f.offset)) = [(false, 78, 0), (false, 78, 1), (false, 3, 2), (false, 55, 3)] := by kernel_rfl
  have a3 : ∀ w, (isAgg 3).run Try.prog w = .ok false w := fun w => by kernel_rfl
  have a27 : ∀ w, (isAgg 78).run Try.prog w = .ok false w := fun w => by kernel_rfl
  have e27 : ∀ (x y : Int), (Op.equalIn 9999 78 (.int .u32 x) (.int .u32 y)).run Try.prog w = .ok (x == y) w := fun x y => run_equalIn_int w 9998 78 .u32 .u32 _ _ Try.underlying78
  generalize (Try.prog.fieldsOf 82).toList = fs at hf ⊢
  rcases fs with _ | ⟨f0, _ | ⟨f1, _ | ⟨f2, _ | ⟨f3, _ | ⟨f4, fs⟩⟩⟩⟩⟩
  all_goals simp only [List.map_nil, List.map_cons, List.cons.injEq, List.nil_eq, reduceCtorEq, and_false, and_true] at hf
  obtain ⟨h0, h1, h2, h3⟩ := hf
  unfold sameN
  refine fields_cons h0 (part_cell 78 a27 _ 0 _ (nodeA_get n 0 (by omega)) w) (part_cell 78 a27 _ 0 _ (nodeA_get m 0 (by omega)) w) (e27 _ _) ?_
  refine fields_cons h1 (part_cell 78 a27 _ 1 _ (nodeA_get n 1 (by omega)) w) (part_cell 78 a27 _ 1 _ (nodeA_get m 1 (by omega)) w) (e27 _ _) ?_
  refine fields_cons h2 (part_cell 3 a3 _ 2 _ (nodeA_get n 2 (by omega)) w) (part_cell 3 a3 _ 2 _ (nodeA_get m 2 (by omega)) w) (run_equalIn_int w 9998 3 .i64 .i64 _ _ Try.underlying3) ?_
  have := fields_cons (fs := []) h3 (part_run n w) (part_run m w) (eq38 n m w) (q := true) (by simp [Op.eqFields])
  rwa [Bool.and_true] at this
theorem guard40 : Try.prog.eqGuardType Try.prog.depth 82 = false := by kernel_rfl
/-- The walk's step where two nodes are held against each other. -/
theorem wpList_neq_node {w : World} {ops : Array Oper} {rest : List Oper} {o : Oper} {a : Act} {Q : Exit → Act → World → Prop}
    (hw : Region.wanted o (yielded ops a.tmps) = true) (x y : Operand) (hop : o.op = Op.binOp .neq 82 x y 82) {n m : Nat → Int} (hx : a.eval x = .agg (nodeA n)) (hy : a.eval y = .agg (nodeA m))
    {r : Bool} (hr : (!sameN n m) = r) (hK : wpList Try.prog ops Q rest (a.put o.dst (.bool r)) w) : wpList Try.prog ops Q (o :: rest) a w := by
  subst hr
  refine BigFrame.wpList_want hw fun K hK' => ?_
  unfold Oper.wp
  have h1 := run_eqGuard_agg (P := Try.prog) w .neq 82 x y (nodeA n) (nodeA m) guard40
  have h2 := run_neq_struct (P := Try.prog) w 82 (nodeA n) (nodeA m)
  rw [eq40] at h2
  simp only [Result.andThen_ok] at h2
  simp only [execOp, hop, hx, hy]
  simp only [Sem.run_bind, h1, h2, Result.andThen_ok, Sem.run_pure]
  exact hK' _ _ hK

end Tg
end Go.Proofs.Ytbdankhlbepjoaa
