/-
  A command of the program as one of the document's own: the statements' of, over any memory.
-/
import Derived.Test.YtgilagmgepogbaaDoorRf
import Derived.Test.YtgilagmgepogbaaDoorSc
set_option linter.unusedVariables false
namespace Go.Proofs.YtgilagmgepogbaaDoor
open Go.ChangeShapes Go.WideShapes Go.ChangeAt Go.RowKit
namespace Tg
open Qm Km

theorem blk_cmd (W : World) (k a b : Int) (d : ByteArray) : Blk (W.alloc (.cells #[.int .u8 k, .int .i64 a, .int .i64 b, .string d] 32)) W.heap.size 4 (crow k a b d) := fun i hi => by
  have := new_cell W [.int .u8 k, .int .i64 a, .int .i64 b, .string d] 32
  refine ⟨?_, by rw [World.frozen?, heap_alloc_new]; simp⟩
  have e : (⟨W.heap.size, i, none⟩ : Addr) = (⟨W.heap.size, 0, none⟩ : Addr).add i := by rw [Addr.add_lit, Nat.zero_add]
  rw [e]
  exact this i _ (four (P := fun i => [Value.int .u8 k, .int .i64 a, .int .i64 b, .string d][i]? = some (crow k a b d i)) rfl rfl rfl rfl i hi)
theorem ty_54_54 (v : Value) (w : World) : (Instr.typeAssert (.iface 54 v) 36 54 true).run Tryd.prog w = .ok (.tuple #[v, .bool true]) w := by kernel_rfl
theorem ty_51_54 (v : Value) (w : World) : (Instr.typeAssert (.iface 51 v) 36 54 true).run Tryd.prog w = .ok (.tuple #[.agg #[.int .i64 0, .int .i64 0], .bool false]) w := by kernel_rfl
theorem ty_51_51 (v : Value) (w : World) : (Instr.typeAssert (.iface 51 v) 36 51 true).run Tryd.prog w = .ok (.tuple #[v, .bool true]) w := by kernel_rfl
theorem ty_55_54 (v : Value) (w : World) : (Instr.typeAssert (.iface 55 v) 36 54 true).run Tryd.prog w = .ok (.tuple #[.agg #[.int .i64 0, .int .i64 0], .bool false]) w := by kernel_rfl
theorem ty_55_51 (v : Value) (w : World) : (Instr.typeAssert (.iface 55 v) 36 51 true).run Tryd.prog w = .ok (.tuple #[.agg #[.int .i64 0, .int .i64 0, .string ⟨#[]⟩], .bool false]) w := by kernel_rfl
theorem ty_55_55 (v : Value) (w : World) : (Instr.typeAssert (.iface 55 v) 36 55 true).run Tryd.prog w = .ok (.tuple #[v, .bool true]) w := by kernel_rfl
theorem ty_57_54 (v : Value) (w : World) : (Instr.typeAssert (.iface 57 v) 36 54 true).run Tryd.prog w = .ok (.tuple #[.agg #[.int .i64 0, .int .i64 0], .bool false]) w := by kernel_rfl
theorem ty_57_51 (v : Value) (w : World) : (Instr.typeAssert (.iface 57 v) 36 51 true).run Tryd.prog w = .ok (.tuple #[.agg #[.int .i64 0, .int .i64 0, .string ⟨#[]⟩], .bool false]) w := by kernel_rfl
theorem ty_57_55 (v : Value) (w : World) : (Instr.typeAssert (.iface 57 v) 36 55 true).run Tryd.prog w = .ok (.tuple #[.agg #[.int .i64 0, .int .i64 0], .bool false]) w := by kernel_rfl
theorem ty_57_57 (v : Value) (w : World) : (Instr.typeAssert (.iface 57 v) 36 57 true).run Tryd.prog w = .ok (.tuple #[v, .bool true]) w := by kernel_rfl
theorem ty_58_54 (v : Value) (w : World) : (Instr.typeAssert (.iface 58 v) 36 54 true).run Tryd.prog w = .ok (.tuple #[.agg #[.int .i64 0, .int .i64 0], .bool false]) w := by kernel_rfl
theorem ty_58_51 (v : Value) (w : World) : (Instr.typeAssert (.iface 58 v) 36 51 true).run Tryd.prog w = .ok (.tuple #[.agg #[.int .i64 0, .int .i64 0, .string ⟨#[]⟩], .bool false]) w := by kernel_rfl
theorem ty_58_55 (v : Value) (w : World) : (Instr.typeAssert (.iface 58 v) 36 55 true).run Tryd.prog w = .ok (.tuple #[.agg #[.int .i64 0, .int .i64 0], .bool false]) w := by kernel_rfl
theorem ty_58_57 (v : Value) (w : World) : (Instr.typeAssert (.iface 58 v) 36 57 true).run Tryd.prog w = .ok (.tuple #[.agg #[.int .i64 0], .bool false]) w := by kernel_rfl
theorem ty_58_58 (v : Value) (w : World) : (Instr.typeAssert (.iface 58 v) 36 58 true).run Tryd.prog w = .ok (.tuple #[v, .bool true]) w := by kernel_rfl
theorem ty_59_54 (v : Value) (w : World) : (Instr.typeAssert (.iface 59 v) 36 54 true).run Tryd.prog w = .ok (.tuple #[.agg #[.int .i64 0, .int .i64 0], .bool false]) w := by kernel_rfl
theorem ty_59_51 (v : Value) (w : World) : (Instr.typeAssert (.iface 59 v) 36 51 true).run Tryd.prog w = .ok (.tuple #[.agg #[.int .i64 0, .int .i64 0, .string ⟨#[]⟩], .bool false]) w := by kernel_rfl
theorem ty_59_55 (v : Value) (w : World) : (Instr.typeAssert (.iface 59 v) 36 55 true).run Tryd.prog w = .ok (.tuple #[.agg #[.int .i64 0, .int .i64 0], .bool false]) w := by kernel_rfl
theorem ty_59_57 (v : Value) (w : World) : (Instr.typeAssert (.iface 59 v) 36 57 true).run Tryd.prog w = .ok (.tuple #[.agg #[.int .i64 0], .bool false]) w := by kernel_rfl
theorem ty_59_58 (v : Value) (w : World) : (Instr.typeAssert (.iface 59 v) 36 58 true).run Tryd.prog w = .ok (.tuple #[.agg #[.int .i64 0], .bool false]) w := by kernel_rfl
theorem ty_59_59 (v : Value) (w : World) : (Instr.typeAssert (.iface 59 v) 36 59 true).run Tryd.prog w = .ok (.tuple #[v, .bool true]) w := by kernel_rfl
theorem ty_61_54 (v : Value) (w : World) : (Instr.typeAssert (.iface 61 v) 36 54 true).run Tryd.prog w = .ok (.tuple #[.agg #[.int .i64 0, .int .i64 0], .bool false]) w := by kernel_rfl
theorem ty_61_51 (v : Value) (w : World) : (Instr.typeAssert (.iface 61 v) 36 51 true).run Tryd.prog w = .ok (.tuple #[.agg #[.int .i64 0, .int .i64 0, .string ⟨#[]⟩], .bool false]) w := by kernel_rfl
theorem ty_61_55 (v : Value) (w : World) : (Instr.typeAssert (.iface 61 v) 36 55 true).run Tryd.prog w = .ok (.tuple #[.agg #[.int .i64 0, .int .i64 0], .bool false]) w := by kernel_rfl
theorem ty_61_57 (v : Value) (w : World) : (Instr.typeAssert (.iface 61 v) 36 57 true).run Tryd.prog w = .ok (.tuple #[.agg #[.int .i64 0], .bool false]) w := by kernel_rfl
theorem ty_61_58 (v : Value) (w : World) : (Instr.typeAssert (.iface 61 v) 36 58 true).run Tryd.prog w = .ok (.tuple #[.agg #[.int .i64 0], .bool false]) w := by kernel_rfl
theorem ty_61_59 (v : Value) (w : World) : (Instr.typeAssert (.iface 61 v) 36 59 true).run Tryd.prog w = .ok (.tuple #[.agg #[.int .i64 0], .bool false]) w := by kernel_rfl
theorem ty_61_61 (v : Value) (w : World) : (Instr.typeAssert (.iface 61 v) 36 61 true).run Tryd.prog w = .ok (.tuple #[v, .bool true]) w := by kernel_rfl
theorem ty_62_54 (v : Value) (w : World) : (Instr.typeAssert (.iface 62 v) 36 54 true).run Tryd.prog w = .ok (.tuple #[.agg #[.int .i64 0, .int .i64 0], .bool false]) w := by kernel_rfl
theorem ty_62_51 (v : Value) (w : World) : (Instr.typeAssert (.iface 62 v) 36 51 true).run Tryd.prog w = .ok (.tuple #[.agg #[.int .i64 0, .int .i64 0, .string ⟨#[]⟩], .bool false]) w := by kernel_rfl
theorem ty_62_55 (v : Value) (w : World) : (Instr.typeAssert (.iface 62 v) 36 55 true).run Tryd.prog w = .ok (.tuple #[.agg #[.int .i64 0, .int .i64 0], .bool false]) w := by kernel_rfl
theorem ty_62_57 (v : Value) (w : World) : (Instr.typeAssert (.iface 62 v) 36 57 true).run Tryd.prog w = .ok (.tuple #[.agg #[.int .i64 0], .bool false]) w := by kernel_rfl
theorem ty_62_58 (v : Value) (w : World) : (Instr.typeAssert (.iface 62 v) 36 58 true).run Tryd.prog w = .ok (.tuple #[.agg #[.int .i64 0], .bool false]) w := by kernel_rfl
theorem ty_62_59 (v : Value) (w : World) : (Instr.typeAssert (.iface 62 v) 36 59 true).run Tryd.prog w = .ok (.tuple #[.agg #[.int .i64 0], .bool false]) w := by kernel_rfl
theorem ty_62_61 (v : Value) (w : World) : (Instr.typeAssert (.iface 62 v) 36 61 true).run Tryd.prog w = .ok (.tuple #[.agg #[], .bool false]) w := by kernel_rfl
theorem ty_62_62 (v : Value) (w : World) : (Instr.typeAssert (.iface 62 v) 36 62 true).run Tryd.prog w = .ok (.tuple #[v, .bool true]) w := by kernel_rfl

set_option maxHeartbeats 1000000 in
set_option maxRecDepth 100000 in
theorem of_read (a b : Int) (d : ByteArray) (w : World) : Calls Tryd.prog 12 #[.iface 54 (.agg #[.int .i64 a, .int .i64 b])] w fun e w' => e = .returned (.tuple #[.agg #[.int .u8 114, .int .i64 a, .int .i64 b, .string ⟨#[]⟩], .bool true]) ∧ Keep (fun _ => False) w w' := by
  have y54 := ty_54_54 (.agg #[.int .i64 a, .int .i64 b])
  go_enter Tryd.func12, Tryd.ntmps12
  go_wp2_with fail
  refine bodyPost_ret (v := .tuple #[.agg #[.int .u8 114, .int .i64 a, .int .i64 b, .string ⟨#[]⟩], .bool true]) ?_ rfl (by first | exact ⟨rfl, ((Keep.refl _ _).alloc _).alloc _⟩ | exact ⟨rfl, (Keep.refl _ _).alloc _⟩)
  rw [results_cell_tmp rfl]
  first
  | simp [asAddr, Result.andThen, load_cmd ((blk_cmd w 114 a b ⟨#[]⟩).alloc _)]
  | simp [asAddr, Result.andThen, load_cmd (blk_cmd w 114 a b ⟨#[]⟩)]


set_option maxHeartbeats 1000000 in
set_option maxRecDepth 100000 in
theorem of_write (a b : Int) (d : ByteArray) (w : World) : Calls Tryd.prog 12 #[.iface 51 (.agg #[.int .i64 a, .int .i64 b, .string d])] w fun e w' => e = .returned (.tuple #[.agg #[.int .u8 119, .int .i64 a, .int .i64 b, .string d], .bool true]) ∧ Keep (fun _ => False) w w' := by
  have y54 := ty_51_54 (.agg #[.int .i64 a, .int .i64 b, .string d])
  have y51 := ty_51_51 (.agg #[.int .i64 a, .int .i64 b, .string d])
  go_enter Tryd.func12, Tryd.ntmps12
  go_wp2_with fail
  refine bodyPost_ret (v := .tuple #[.agg #[.int .u8 119, .int .i64 a, .int .i64 b, .string d], .bool true]) ?_ rfl (by first | exact ⟨rfl, ((Keep.refl _ _).alloc _).alloc _⟩ | exact ⟨rfl, (Keep.refl _ _).alloc _⟩)
  rw [results_cell_tmp rfl]
  first
  | simp [asAddr, Result.andThen, load_cmd ((blk_cmd w 119 a b d).alloc _)]
  | simp [asAddr, Result.andThen, load_cmd (blk_cmd w 119 a b d)]


set_option maxHeartbeats 1000000 in
set_option maxRecDepth 100000 in
theorem of_trim (a b : Int) (d : ByteArray) (w : World) : Calls Tryd.prog 12 #[.iface 55 (.agg #[.int .i64 a, .int .i64 b])] w fun e w' => e = .returned (.tuple #[.agg #[.int .u8 116, .int .i64 a, .int .i64 b, .string ⟨#[]⟩], .bool true]) ∧ Keep (fun _ => False) w w' := by
  have y54 := ty_55_54 (.agg #[.int .i64 a, .int .i64 b])
  have y51 := ty_55_51 (.agg #[.int .i64 a, .int .i64 b])
  have y55 := ty_55_55 (.agg #[.int .i64 a, .int .i64 b])
  go_enter Tryd.func12, Tryd.ntmps12
  go_wp2_with fail
  refine bodyPost_ret (v := .tuple #[.agg #[.int .u8 116, .int .i64 a, .int .i64 b, .string ⟨#[]⟩], .bool true]) ?_ rfl (by first | exact ⟨rfl, ((Keep.refl _ _).alloc _).alloc _⟩ | exact ⟨rfl, (Keep.refl _ _).alloc _⟩)
  rw [results_cell_tmp rfl]
  first
  | simp [asAddr, Result.andThen, load_cmd ((blk_cmd w 116 a b ⟨#[]⟩).alloc _)]
  | simp [asAddr, Result.andThen, load_cmd (blk_cmd w 116 a b ⟨#[]⟩)]


set_option maxHeartbeats 1000000 in
set_option maxRecDepth 100000 in
theorem of_cut (a b : Int) (d : ByteArray) (w : World) : Calls Tryd.prog 12 #[.iface 57 (.agg #[.int .i64 a])] w fun e w' => e = .returned (.tuple #[.agg #[.int .u8 99, .int .i64 a, .int .i64 0, .string ⟨#[]⟩], .bool true]) ∧ Keep (fun _ => False) w w' := by
  have y54 := ty_57_54 (.agg #[.int .i64 a])
  have y51 := ty_57_51 (.agg #[.int .i64 a])
  have y55 := ty_57_55 (.agg #[.int .i64 a])
  have y57 := ty_57_57 (.agg #[.int .i64 a])
  go_enter Tryd.func12, Tryd.ntmps12
  go_wp2_with fail
  refine bodyPost_ret (v := .tuple #[.agg #[.int .u8 99, .int .i64 a, .int .i64 0, .string ⟨#[]⟩], .bool true]) ?_ rfl (by first | exact ⟨rfl, ((Keep.refl _ _).alloc _).alloc _⟩ | exact ⟨rfl, (Keep.refl _ _).alloc _⟩)
  rw [results_cell_tmp rfl]
  first
  | simp [asAddr, Result.andThen, load_cmd ((blk_cmd w 99 a 0 ⟨#[]⟩).alloc _)]
  | simp [asAddr, Result.andThen, load_cmd (blk_cmd w 99 a 0 ⟨#[]⟩)]


set_option maxHeartbeats 1000000 in
set_option maxRecDepth 100000 in
theorem of_fail (a b : Int) (d : ByteArray) (w : World) : Calls Tryd.prog 12 #[.iface 58 (.agg #[.int .i64 a])] w fun e w' => e = .returned (.tuple #[.agg #[.int .u8 102, .int .i64 a, .int .i64 0, .string ⟨#[]⟩], .bool true]) ∧ Keep (fun _ => False) w w' := by
  have y54 := ty_58_54 (.agg #[.int .i64 a])
  have y51 := ty_58_51 (.agg #[.int .i64 a])
  have y55 := ty_58_55 (.agg #[.int .i64 a])
  have y57 := ty_58_57 (.agg #[.int .i64 a])
  have y58 := ty_58_58 (.agg #[.int .i64 a])
  go_enter Tryd.func12, Tryd.ntmps12
  go_wp2_with fail
  refine bodyPost_ret (v := .tuple #[.agg #[.int .u8 102, .int .i64 a, .int .i64 0, .string ⟨#[]⟩], .bool true]) ?_ rfl (by first | exact ⟨rfl, ((Keep.refl _ _).alloc _).alloc _⟩ | exact ⟨rfl, (Keep.refl _ _).alloc _⟩)
  rw [results_cell_tmp rfl]
  first
  | simp [asAddr, Result.andThen, load_cmd ((blk_cmd w 102 a 0 ⟨#[]⟩).alloc _)]
  | simp [asAddr, Result.andThen, load_cmd (blk_cmd w 102 a 0 ⟨#[]⟩)]


set_option maxHeartbeats 1000000 in
set_option maxRecDepth 100000 in
theorem of_mount (a b : Int) (d : ByteArray) (w : World) : Calls Tryd.prog 12 #[.iface 59 (.agg #[.int .i64 a])] w fun e w' => e = .returned (.tuple #[.agg #[.int .u8 109, .int .i64 a, .int .i64 0, .string ⟨#[]⟩], .bool true]) ∧ Keep (fun _ => False) w w' := by
  have y54 := ty_59_54 (.agg #[.int .i64 a])
  have y51 := ty_59_51 (.agg #[.int .i64 a])
  have y55 := ty_59_55 (.agg #[.int .i64 a])
  have y57 := ty_59_57 (.agg #[.int .i64 a])
  have y58 := ty_59_58 (.agg #[.int .i64 a])
  have y59 := ty_59_59 (.agg #[.int .i64 a])
  go_enter Tryd.func12, Tryd.ntmps12
  go_wp2_with fail
  refine bodyPost_ret (v := .tuple #[.agg #[.int .u8 109, .int .i64 a, .int .i64 0, .string ⟨#[]⟩], .bool true]) ?_ rfl (by first | exact ⟨rfl, ((Keep.refl _ _).alloc _).alloc _⟩ | exact ⟨rfl, (Keep.refl _ _).alloc _⟩)
  rw [results_cell_tmp rfl]
  first
  | simp [asAddr, Result.andThen, load_cmd ((blk_cmd w 109 a 0 ⟨#[]⟩).alloc _)]
  | simp [asAddr, Result.andThen, load_cmd (blk_cmd w 109 a 0 ⟨#[]⟩)]


set_option maxHeartbeats 1000000 in
set_option maxRecDepth 100000 in
theorem of_show (a b : Int) (d : ByteArray) (w : World) : Calls Tryd.prog 12 #[.iface 61 (.agg #[])] w fun e w' => e = .returned (.tuple #[.agg #[.int .u8 115, .int .i64 0, .int .i64 0, .string ⟨#[]⟩], .bool true]) ∧ Keep (fun _ => False) w w' := by
  have y54 := ty_61_54 (.agg #[])
  have y51 := ty_61_51 (.agg #[])
  have y55 := ty_61_55 (.agg #[])
  have y57 := ty_61_57 (.agg #[])
  have y58 := ty_61_58 (.agg #[])
  have y59 := ty_61_59 (.agg #[])
  have y61 := ty_61_61 (.agg #[])
  go_enter Tryd.func12, Tryd.ntmps12
  go_wp2_with fail
  refine bodyPost_ret (v := .tuple #[.agg #[.int .u8 115, .int .i64 0, .int .i64 0, .string ⟨#[]⟩], .bool true]) ?_ rfl (by first | exact ⟨rfl, ((Keep.refl _ _).alloc _).alloc _⟩ | exact ⟨rfl, (Keep.refl _ _).alloc _⟩)
  rw [results_cell_tmp rfl]
  first
  | simp [asAddr, Result.andThen, load_cmd ((blk_cmd w 115 0 0 ⟨#[]⟩).alloc _)]
  | simp [asAddr, Result.andThen, load_cmd (blk_cmd w 115 0 0 ⟨#[]⟩)]


set_option maxHeartbeats 1000000 in
set_option maxRecDepth 100000 in
theorem of_stat (a b : Int) (d : ByteArray) (w : World) : Calls Tryd.prog 12 #[.iface 62 (.agg #[])] w fun e w' => e = .returned (.tuple #[.agg #[.int .u8 105, .int .i64 0, .int .i64 0, .string ⟨#[]⟩], .bool true]) ∧ Keep (fun _ => False) w w' := by
  have y54 := ty_62_54 (.agg #[])
  have y51 := ty_62_51 (.agg #[])
  have y55 := ty_62_55 (.agg #[])
  have y57 := ty_62_57 (.agg #[])
  have y58 := ty_62_58 (.agg #[])
  have y59 := ty_62_59 (.agg #[])
  have y61 := ty_62_61 (.agg #[])
  have y62 := ty_62_62 (.agg #[])
  go_enter Tryd.func12, Tryd.ntmps12
  go_wp2_with fail
  refine bodyPost_ret (v := .tuple #[.agg #[.int .u8 105, .int .i64 0, .int .i64 0, .string ⟨#[]⟩], .bool true]) ?_ rfl (by first | exact ⟨rfl, ((Keep.refl _ _).alloc _).alloc _⟩ | exact ⟨rfl, (Keep.refl _ _).alloc _⟩)
  rw [results_cell_tmp rfl]
  first
  | simp [asAddr, Result.andThen, load_cmd ((blk_cmd w 105 0 0 ⟨#[]⟩).alloc _)]
  | simp [asAddr, Result.andThen, load_cmd (blk_cmd w 105 0 0 ⟨#[]⟩)]


/-- A command in its plain form: what it does not have is nothing. -/
structure Cm.Pl (c : Cm) : Prop where
  kind : Kind c.k
  nob : c.k = 99 ∨ c.k = 102 ∨ c.k = 109 ∨ c.k = 115 ∨ c.k = 105 → c.b = 0
  noa : c.k = 115 ∨ c.k = 105 → c.a = 0
  nod : c.k ≠ 119 → c.d = []
theorem Cm.Ok.pl {c : Cm} (h : c.Ok) : Cm.Pl c := ⟨h.kind, h.nob, h.noa, h.nod⟩
/-- of. -/
theorem of_any {c : Cm} (h : Cm.Pl c) (w : World) : Calls Tryd.prog 12 #[cv c] w fun e w' => e = .returned (.tuple #[.agg #[.int .u8 (c.k : Nat), .int .i64 c.a, .int .i64 c.b, .string (str c.d)], .bool true]) ∧ Keep (fun _ => False) w w' := by
  obtain ⟨k, a, b, d⟩ := c
  obtain ⟨hk, hb, ha, hd⟩ := h
  simp only at *
  rcases hk with rfl | rfl | rfl | rfl | rfl | rfl | rfl | rfl
  · obtain rfl := hd (by decide); exact of_read a b ⟨#[]⟩ w
  · exact of_write a b (str d) w
  · obtain rfl := hd (by decide); exact of_trim a b ⟨#[]⟩ w
  · obtain rfl := hd (by decide); obtain rfl := hb (by decide); exact of_cut a 0 ⟨#[]⟩ w
  · obtain rfl := hd (by decide); obtain rfl := hb (by decide); exact of_fail a 0 ⟨#[]⟩ w
  · obtain rfl := hd (by decide); obtain rfl := hb (by decide); exact of_mount a 0 ⟨#[]⟩ w
  · obtain rfl := hd (by decide); obtain rfl := hb (by decide); obtain rfl := ha (by decide); exact of_show 0 0 ⟨#[]⟩ w
  · obtain rfl := hd (by decide); obtain rfl := hb (by decide); obtain rfl := ha (by decide); exact of_stat 0 0 ⟨#[]⟩ w
end Tg
end Go.Proofs.YtgilagmgepogbaaDoor
