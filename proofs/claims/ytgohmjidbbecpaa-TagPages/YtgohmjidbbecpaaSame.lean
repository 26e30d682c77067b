/-
  Are two pages alike, cell by cell: what the comparison answers.
-/
import Derived.Test.YtgohmjidbbecpaaPay
import Derived.ChangeKeysEq
namespace Go.Proofs.Ytgohmjidbbecpaa
open Go.ChangeShapes Go.WideShapes Go.ChangeAt Go.RowKit
namespace Tg
open Crc
theorem cells5 : Try.prog.cellsOf 5 = 1 := by kernel_rfl
theorem part_pay (d : Nat → Int) (i : Nat) (hi : i < 32) (w : World) : (Go.part 5 (payA d) (i * 1)).run Try.prog w = .ok (.int .u8 (d i)) w := by
  have h := payA_get d i hi
  have ha : (isAgg 5).run Try.prog w = .ok false w := by rfl
  simp [Go.part, ha, h]
theorem items_eq (d d' : Nat → Int) (w : World) : ∀ (l : List Nat), (∀ i ∈ l, i < 32) → (Op.eqItems 9998 5 1 (payA d) (payA d') l).run Try.prog w = .ok (l.all fun i => d i == d' i) w
  | [], _ => by simp [Op.eqItems]
  | i :: l, h => by
    have hi := h i (by simp)
    have ih := items_eq d d' w l (fun j hj => h j (by simp [hj]))
    have he : (Op.equalIn 9998 5 (.int .u8 (d i)) (.int .u8 (d' i))).run Try.prog w = .ok (d i == d' i) w := run_equalIn_int w 9997 5 .u8 .u8 _ _ Try.underlying5
    simp only [Op.eqItems, Sem.run_bind, part_pay d i hi, part_pay d' i hi, he, Result.andThen_ok, List.all_cons]
    cases (d i == d' i) <;> simp [ih]
/-- Are two payloads alike? -/
def sameP (d d' : Nat → Int) : Bool := (List.range 32).all fun i => d i == d' i
theorem sameP_iff (d d' : Nat → Int) : sameP d d' = true ↔ ∀ i, i < 32 → d i = d' i := by
  unfold sameP
  simp
theorem sameP_self (d : Nat → Int) : sameP d d = true := (sameP_iff d d).2 (fun _ _ => rfl)
theorem eq28 (d d' : Nat → Int) (w : World) : (Op.equalIn 9999 28 (.agg (payA d)) (.agg (payA d'))).run Try.prog w = .ok (sameP d d') w := by
  obtain ⟨i, hi, _⟩ := info_parts info5
  rw [run_equalIn_array w 9998 (payA d) (payA d') Try.underlying28 hi, cells5]
  exact items_eq d d' w (List.range 32) (fun i hi => by simpa using hi)
theorem items_eq' (d d' : Nat → Int) (w : World) : ∀ (l : List Nat), (∀ i ∈ l, i < 32) → (Op.eqItems 9999 5 1 (payA d) (payA d') l).run Try.prog w = .ok (l.all fun i => d i == d' i) w
  | [], _ => by simp [Op.eqItems]
  | i :: l, h => by
    have hi := h i (by simp)
    have ih := items_eq' d d' w l (fun j hj => h j (by simp [hj]))
    have he : (Op.equalIn 9999 5 (.int .u8 (d i)) (.int .u8 (d' i))).run Try.prog w = .ok (d i == d' i) w := run_equalIn_int w 9998 5 .u8 .u8 _ _ Try.underlying5
    simp only [Op.eqItems, Sem.run_bind, part_pay d i hi, part_pay d' i hi, he, Result.andThen_ok, List.all_cons]
    cases (d i == d' i) <;> simp [ih]
theorem eq28' (d d' : Nat → Int) (w : World) : (Op.equalIn 10000 28 (.agg (payA d)) (.agg (payA d'))).run Try.prog w = .ok (sameP d d') w := by
  obtain ⟨i, hi, _⟩ := info_parts info5
  rw [run_equalIn_array w 9999 (payA d) (payA d') Try.underlying28 hi, cells5]
  exact items_eq' d d' w (List.range 32) (fun i hi => by simpa using hi)

/-- Are two pages alike? -/
def samePage (k k' : Int) (v v' d d' : Nat → Int) : Bool := k == k' && (v 0 == v' 0 && (v 1 == v' 1 && (v 2 == v' 2 && (v 3 == v' 3 && (v 4 == v' 4 && (v 5 == v' 5 && sameP d d'))))))
theorem samePage_iff (k k' : Int) (v v' d d' : Nat → Int) : samePage k k' v v' d d' = true ↔ pageA k v d = pageA k' v' d' := by
  unfold samePage
  simp only [Bool.and_eq_true, beq_iff_eq, sameP_iff]
  constructor
  · rintro ⟨rfl, h0, h1, h2, h3, h4, h5, hd⟩
    refine pageA_congr (fun j hj => ?_) hd
    have : j = 0 ∨ j = 1 ∨ j = 2 ∨ j = 3 ∨ j = 4 ∨ j = 5 := by omega
    rcases this with rfl | rfl | rfl | rfl | rfl | rfl <;> assumption
  · intro h
    obtain ⟨h0, h1, h2⟩ := pageA_inj h
    exact ⟨h0, h1 0 (by omega), h1 1 (by omega), h1 2 (by omega), h1 3 (by omega), h1 4 (by omega), h1 5 (by omega), h2⟩
theorem part_page (k : Int) (v d : Nat → Int) (w : World) : (Go.part 28 (pageA k v d) 7).run Try.prog w = .ok (.agg (payA d)) w := by
  have ha : (isAgg 28).run Try.prog w = .ok true w := by rfl
  have he : (pageA k v d).extract 7 39 = payA d := by kernel_rfl
  simp [Go.part, ha, he]
theorem part_cell (t : TypeId) (ht : ∀ w, (isAgg t).run Try.prog w = .ok false w) (k : Int) (v d : Nat → Int) (i : Nat) (hi : i < 39) (w : World) : (Go.part t (pageA k v d) i).run Try.prog w = .ok (pcell k v d i) w := by
  have h := pageA_get k v d i hi
  simp [Go.part, ht w, h]
theorem fields_cons {xs ys : Array Value} {f : Field} {fs : List Field} {a b : Value} {r q : Bool} {w : World} {t o : Nat} (h : (f.name == "_", f.type, f.offset) = (false, t, o)) (ha : (Go.part t xs o).run Try.prog w = .ok a w) (hb : (Go.part t ys o).run Try.prog w = .ok b w)
    (he : (Op.equalIn 9999 t a b).run Try.prog w = .ok r w) (hr : (Op.eqFields 9999 xs ys fs).run Try.prog w = .ok q w) : (Op.eqFields 9999 xs ys (f :: fs)).run Try.prog w = .ok (r && q) w := by
  simp only [Prod.mk.injEq] at h
  obtain ⟨hn, rfl, rfl⟩ := h
  have hn' : f.name ≠ "_" := by simpa using hn
  simp only [Op.eqFields, hn', ne_eq, not_false_eq_true, if_true, Sem.run_bind, ha, hb, he, Result.andThen_ok]
  cases r <;> simp [hr]
theorem eq30 (k k' : Int) (v v' d d' : Nat → Int) (w : World) : (Op.equalIn 10000 30 (.agg (pageA k v d)) (.agg (pageA k' v' d'))).run Try.prog w = .ok (samePage k k' v v' d d') w := by
  rw [run_equalIn_struct w 9999 30 _ _ (by kernel_rfl) (by kernel_rfl)]
  have hf : (Try.prog.fieldsOf 30).toList.map (fun f => (f.name == "_", f.type, f.offset)) = [(false, 3, 0), (false, 27, 1), (false, 27, 2), (false, 27, 3), (false, 27, 4), (false, 27, 5), (false, 27, 6), (false, 28, 7)] := by kernel_rfl
  have a3 : ∀ w, (isAgg 3).run Try.prog w = .ok false w := fun w => by rfl
  have a27 : ∀ w, (isAgg 27).run Try.prog w = .ok false w := fun w => by rfl
  have e27 : ∀ (x y : Int), (Op.equalIn 9999 27 (.int .u32 x) (.int .u32 y)).run Try.prog w = .ok (x == y) w := fun x y => run_equalIn_int w 9998 27 .u32 .u32 _ _ Try.underlying27
  generalize (Try.prog.fieldsOf 30).toList = fs at hf ⊢
  rcases fs with _ | ⟨f0, _ | ⟨f1, _ | ⟨f2, _ | ⟨f3, _ | ⟨f4, _ | ⟨f5, _ | ⟨f6, _ | ⟨f7, _ | ⟨f8, fs⟩⟩⟩⟩⟩⟩⟩⟩⟩
  all_goals simp only [List.map_nil, List.map_cons, List.cons.injEq, List.nil_eq, reduceCtorEq, and_false, and_true] at hf
  obtain ⟨h0, h1, h2, h3, h4, h5, h6, h7⟩ := hf
  unfold samePage
  refine fields_cons h0 (part_cell 3 a3 k v d 0 (by omega) w) (part_cell 3 a3 k' v' d' 0 (by omega) w) (run_equalIn_int w 9998 3 .i64 .i64 _ _ Try.underlying3) ?_
  refine fields_cons h1 (part_cell 27 a27 k v d 1 (by omega) w) (part_cell 27 a27 k' v' d' 1 (by omega) w) (e27 _ _) ?_
  refine fields_cons h2 (part_cell 27 a27 k v d 2 (by omega) w) (part_cell 27 a27 k' v' d' 2 (by omega) w) (e27 _ _) ?_
  refine fields_cons h3 (part_cell 27 a27 k v d 3 (by omega) w) (part_cell 27 a27 k' v' d' 3 (by omega) w) (e27 _ _) ?_
  refine fields_cons h4 (part_cell 27 a27 k v d 4 (by omega) w) (part_cell 27 a27 k' v' d' 4 (by omega) w) (e27 _ _) ?_
  refine fields_cons h5 (part_cell 27 a27 k v d 5 (by omega) w) (part_cell 27 a27 k' v' d' 5 (by omega) w) (e27 _ _) ?_
  refine fields_cons h6 (part_cell 27 a27 k v d 6 (by omega) w) (part_cell 27 a27 k' v' d' 6 (by omega) w) (e27 _ _) ?_
  have := fields_cons (fs := []) h7 (part_page k v d w) (part_page k' v' d' w) (eq28 d d' w) (q := true) (by simp [Op.eqFields])
  rwa [Bool.and_true] at this
end Tg
end Go.Proofs.Ytgohmjidbbecpaa
