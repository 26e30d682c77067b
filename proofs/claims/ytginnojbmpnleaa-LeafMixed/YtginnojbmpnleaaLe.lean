/-
  A page is like itself, as the comparison answers.
-/
import Derived.Test.YtginnojbmpnleaaLc
namespace Go.Proofs.Ytginnojbmpnleaa
open Go.ChangeShapes Go.WideShapes Go.ChangeAt Go.RowKit
namespace Tg
def payA (p : Pg) : Array Value := ((List.range 32).map (fun k => Value.int .u8 (p.pay.getD k 0))).toArray
theorem payA_get (p : Pg) (i : Nat) (hi : i < 32) : (payA p)[i]? = some (.int .u8 (p.pay.getD i 0)) := by simp [payA, hi]
theorem cells5 : Try.prog.cellsOf 5 = 1 := by kernel_rfl
theorem part_pay (p : Pg) (i : Nat) (hi : i < 32) (w : World) : (Go.part 5 (payA p) (i * 1)).run Try.prog w = .ok (.int .u8 (p.pay.getD i 0)) w := by
  have h := payA_get p i hi
  have ha : (isAgg 5).run Try.prog w = .ok false w := by rfl
  simp [Go.part, ha, h]
theorem items_eq (p : Pg) (w : World) : ∀ (l : List Nat), (∀ i ∈ l, i < 32) → (Op.eqItems 9998 5 1 (payA p) (payA p) l).run Try.prog w = .ok true w
  | [], _ => by simp [Op.eqItems]
  | i :: l, h => by
    have hi := h i (by simp)
    have ih := items_eq p w l (fun j hj => h j (by simp [hj]))
    have he : (Op.equalIn 9998 5 (.int .u8 (p.pay.getD i 0)) (.int .u8 (p.pay.getD i 0))).run Try.prog w = .ok true w := by
      rw [run_equalIn_int w 9997 5 .u8 .u8 _ _ Try.underlying5]; simp
    simp only [Op.eqItems, Sem.run_bind, part_pay p i hi, he, Result.andThen_ok]
    simp [ih]
theorem eq31 (p : Pg) (w : World) : (Op.equalIn 9999 31 (.agg (payA p)) (.agg (payA p))).run Try.prog w = .ok true w := by
  obtain ⟨i, hi, _⟩ := info_parts info5
  rw [run_equalIn_array w 9998 (payA p) (payA p) Try.underlying31 hi, cells5]
  exact items_eq p w (List.range 32) (fun i hi => by simpa using hi)
theorem part_page (p : Pg) (w : World) : (Go.part 31 (pgA p) 7).run Try.prog w = .ok (.agg (payA p)) w := by
  have ha : (isAgg 31).run Try.prog w = .ok true w := by rfl
  have he : (pgA p).extract 7 39 = payA p := by kernel_rfl
  simp [Go.part, ha, he]
theorem part_cell (t : TypeId) (ht : ∀ w, (isAgg t).run Try.prog w = .ok false w) (p : Pg) (i : Nat) (hi : i < 39) (w : World) : (Go.part t (pgA p) i).run Try.prog w = .ok (pcl p i) w := by
  have h := pgA_get p i hi
  simp [Go.part, ht w, h]
theorem fields_cons {xs ys : Array Value} {f : Field} {fs : List Field} {a b : Value} {w : World} {t o : Nat} (h : (f.name == "_", f.type, f.offset) = (false, t, o)) (ha : (Go.part t xs o).run Try.prog w = .ok a w) (hb : (Go.part t ys o).run Try.prog w = .ok b w)
    (he : (Op.equalIn 9999 t a b).run Try.prog w = .ok true w) (hr : (Op.eqFields 9999 xs ys fs).run Try.prog w = .ok true w) : (Op.eqFields 9999 xs ys (f :: fs)).run Try.prog w = .ok true w := by
  simp only [Prod.mk.injEq] at h
  obtain ⟨hn, rfl, rfl⟩ := h
  have hn' : f.name ≠ "_" := by simpa using hn
  simp only [Op.eqFields, hn', ne_eq, not_false_eq_true, if_true, Sem.run_bind, ha, hb, he, Result.andThen_ok]
  simp [hr]
theorem eq33 (p : Pg) (w : World) : (Op.equalIn 10000 33 (.agg (pgA p)) (.agg (pgA p))).run Try.prog w = .ok true w := by
  rw [run_equalIn_struct w 9999 33 _ _ (by kernel_rfl) (by kernel_rfl)]
  have hf : (Try.prog.fieldsOf 33).toList.map (fun f => (f.name == "_", f.type, f.offset)) = [(false, 3, 0), (false, 27, 1), (false, 27, 2), (false, 27, 3), (false, 27, 4), (false, 27, 5), (false, 27, 6), (false, 31, 7)] := by kernel_rfl
  have a3 : ∀ w, (isAgg 3).run Try.prog w = .ok false w := fun w => by rfl
  have a27 : ∀ w, (isAgg 27).run Try.prog w = .ok false w := fun w => by rfl
  have e27 : ∀ (x : Int), (Op.equalIn 9999 27 (.int .u32 x) (.int .u32 x)).run Try.prog w = .ok true w := fun x => by rw [run_equalIn_int w 9998 27 .u32 .u32 _ _ Try.underlying27]; simp
  have e3 : ∀ (x : Int), (Op.equalIn 9999 3 (.int .i64 x) (.int .i64 x)).run Try.prog w = .ok true w := fun x => by rw [run_equalIn_int w 9998 3 .i64 .i64 _ _ Try.underlying3]; simp
  generalize (Try.prog.fieldsOf 33).toList = fs at hf ⊢
  rcases fs with _ | ⟨f0, _ | ⟨f1, _ | ⟨f2, _ | ⟨f3, _ | ⟨f4, _ | ⟨f5, _ | ⟨f6, _ | ⟨f7, _ | ⟨f8, fs⟩⟩⟩⟩⟩⟩⟩⟩⟩
  all_goals simp only [List.map_nil, List.map_cons, List.cons.injEq, List.nil_eq, reduceCtorEq, and_false, and_true] at hf
  obtain ⟨h0, h1, h2, h3, h4, h5, h6, h7⟩ := hf
  refine fields_cons h0 (part_cell 3 a3 p 0 (by omega) w) (part_cell 3 a3 p 0 (by omega) w) (e3 _) ?_
  refine fields_cons h1 (part_cell 27 a27 p 1 (by omega) w) (part_cell 27 a27 p 1 (by omega) w) (e27 _) ?_
  refine fields_cons h2 (part_cell 27 a27 p 2 (by omega) w) (part_cell 27 a27 p 2 (by omega) w) (e27 _) ?_
  refine fields_cons h3 (part_cell 27 a27 p 3 (by omega) w) (part_cell 27 a27 p 3 (by omega) w) (e27 _) ?_
  refine fields_cons h4 (part_cell 27 a27 p 4 (by omega) w) (part_cell 27 a27 p 4 (by omega) w) (e27 _) ?_
  refine fields_cons h5 (part_cell 27 a27 p 5 (by omega) w) (part_cell 27 a27 p 5 (by omega) w) (e27 _) ?_
  refine fields_cons h6 (part_cell 27 a27 p 6 (by omega) w) (part_cell 27 a27 p 6 (by omega) w) (e27 _) ?_
  exact fields_cons (fs := []) h7 (part_page p w) (part_page p w) (eq31 p w) (by simp [Op.eqFields])
/-- A page is not unlike itself. -/
theorem neq33 (p : Pg) (w : World) : (binOp .neq 33 (.agg (pgA p)) (.agg (pgA p))).run Try.prog w = .ok (.bool false) w := by
  rw [run_neq_struct, eq33]
  rfl
theorem guard33 : Try.prog.eqGuardType Try.prog.depth 33 = false := by kernel_rfl
end Tg
end Go.Proofs.Ytginnojbmpnleaa
