/-
  What Decode answers for bytes that are no page.
-/
import Derived.Test.YtgohmjidbbecpaaCheck
import Derived.Deep.MidRow
namespace Go.Proofs.Ytgohmjidbbecpaa
open Go.ChangeShapes Go.WideShapes Go.ChangeAt Go.RowKit
namespace Tg
open Crc

theorem size30 : (Try.prog.info? 30).map (·.size) = some 39 := by kernel_rfl
theorem under30 : ∃ d, Try.prog.underlying 30 = some d ∧ d.isRow = true := ⟨_, Try.underlying30, rfl⟩
/-- A page that is empty. -/
def noPage : Array Value := pageA 0 (fun _ => 0) (fun _ => 0)
theorem noPage_eq : noPage = #[Value.int .i64 0, Value.int .u32 0, Value.int .u32 0, Value.int .u32 0, Value.int .u32 0, Value.int .u32 0, Value.int .u32 0, Value.int .u8 0, Value.int .u8 0, Value.int .u8 0, Value.int .u8 0, Value.int .u8 0, Value.int .u8 0, Value.int .u8 0, Value.int .u8 0, Value.int .u8 0, Value.int .u8 0, Value.int .u8 0, Value.int .u8 0, Value.int .u8 0, Value.int .u8 0, Value.int .u8 0, Value.int .u8 0, Value.int .u8 0, Value.int .u8 0, Value.int .u8 0, Value.int .u8 0, Value.int .u8 0, Value.int .u8 0, Value.int .u8 0, Value.int .u8 0, Value.int .u8 0, Value.int .u8 0, Value.int .u8 0, Value.int .u8 0, Value.int .u8 0, Value.int .u8 0, Value.int .u8 0, Value.int .u8 0] := by rfl

theorem pcell_one (k : Int) (v d : Nat → Int) (i : Nat) : (pcell k v d i).oneCell' = true := by unfold pcell; split; rfl; split <;> rfl

/-- A page is written into a block. -/
theorem store_page {w : World} {p : Nat} {f : Nat → Value} (h : Blk w p 39 f) (k : Int) (v d : Nat → Int) :
    ∃ w', (Instr.storeAt 30 (.pointer (some ⟨p, 0, none⟩)) (.agg (pageA k v d))).run Try.prog w = .ok () w' ∧ Blk w' p 39 (pcell k v d) ∧ Keep (fun b => b = p) w w' := by
  have ht : w.there p 0 (pageA k v d).size := fun j hj => by rw [pageA_size] at hj; rw [Nat.zero_add]; exact ⟨by rw [(h j hj).1]; rfl, (h j hj).2⟩
  refine ⟨_, run_storeAt_mid w p 0 30 (pageA k v d) ht (by rw [pageA_size]; exact size30) (all_oneCell_toArray (fun x hx => by simp at hx; obtain ⟨i, _, rfl⟩ := hx; exact pcell_one k v d i)), ?_, (Keep.refl (fun b => b = p) w).setCells (b := p) (Or.inl rfl) _ _⟩
  have := h.setCells 0 39 (pcell k v d) (by omega)
  exact this.congr (fun i hi => by rw [if_pos (by omega), Nat.sub_zero])

/-- A page is read out of a block. -/
theorem Blk.range {w : World} {p : Nat} {k : Int} {v d : Nat → Int} (h : Blk w p 39 (pcell k v d)) : w.rangeAt p 0 (pageA k v d).toList := by
  intro j x hx
  have hj : j < 39 := by have := (List.getElem?_eq_some_iff.1 hx).1; simpa [pageA] using this
  rw [Nat.zero_add, (h j hj).1, ← hx]
  simp [pageA, hj]
theorem load_page {w : World} {p : Nat} {k : Int} {v d : Nat → Int} (h : Blk w p 39 (pcell k v d)) : (loadVar 30 ⟨p, 0, none⟩).run Try.prog w = .ok (.agg (pageA k v d)) w := by
  obtain ⟨t, h1, h2⟩ := under30
  have := run_loadVar_mid (P := Try.prog) w p 0 30 (pageA k v d).toList t h.range h1 h2 (by rw [size30]; simp [pageA])
  simpa using this
theorem loadAt_page {w : World} {p : Nat} {k : Int} {v d : Nat → Int} (h : Blk w p 39 (pcell k v d)) : (Instr.loadAt 30 (.pointer (some ⟨p, 0, none⟩))).run Try.prog w = .ok (.agg (pageA k v d)) w := by
  obtain ⟨t, h1, h2⟩ := under30
  have := run_loadAt_mid (P := Try.prog) w p 0 30 (pageA k v d).toList t h.range h1 h2 (by rw [size30]; simp [pageA])
  simpa using this

/-- The walk's step at a store, and at a load, whose run is known. -/
theorem wpList_store_run {P : Program} {w : World} {ops : Array Oper} {rest : List Oper} {o : Oper} {a : Act} {Q : Exit → Act → World → Prop}
    (hg : o.guard = none) (t : TypeId) (x y : Operand) (hop : o.op = Op.store t x y) {v1 v2 : Value} {w' : World} (hx : a.eval x = v1) (hy : a.eval y = v2) (hrun : (Instr.storeAt t v1 v2).run P w = .ok () w')
    (hK : wpList P ops Q rest (a.put o.dst undef) w') : wpList P ops Q (o :: rest) a w := by
  refine BigFrame.wpList_want (by simp [Region.wanted, hg]) fun K hK' => ?_
  unfold Oper.wp
  simp [execOp, hop, hx, hy, hrun, Result.andThen]
  exact hK' _ _ hK
theorem wpList_load_run {P : Program} {w : World} {ops : Array Oper} {rest : List Oper} {o : Oper} {a : Act} {Q : Exit → Act → World → Prop}
    (hg : o.guard = none) (t : TypeId) (x : Operand) (hop : o.op = Op.load t x) {v1 v' : Value} {w' : World} (hx : a.eval x = v1) (hrun : (Instr.loadAt t v1).run P w = .ok v' w')
    (hK : wpList P ops Q rest (a.put o.dst v') w') : wpList P ops Q (o :: rest) a w := by
  refine BigFrame.wpList_want (by simp [Region.wanted, hg]) fun K hK' => ?_
  unfold Oper.wp
  simp [execOp, hop, hx, hrun, Result.andThen]
  exact hK' _ _ hK

set_option maxHeartbeats 400000 in
theorem dec_no {w : World} {a : Option Addr} {n cap : Nat} {c : Nat → Int} (hr : Row w a n cap (tab n c)) (hn : ¬ dcode n c = 0) :
    Calls Try.prog 10 #[.slice a n cap] w fun e w' => e = .returned (.tuple #[.agg noPage, .int .i64 (dcode n c)]) ∧ Keep (fun _ => False) w w' := by
  have hk0 : Keep (fun _ => False) w (w.alloc (.cells noPage 30)) := (Keep.refl _ _).alloc _
  have hb0 := blk_alloc w _ 30 39 _ (pageA_get 0 (fun _ => 0) (fun _ => 0))
  have hch := check_any (hr.keep hk0 (fun _ _ _ e => e))
  generalize dcode n c = x at hn hch ⊢
  unfold noPage at *
  rw [show pageA 0 (fun _ => 0) (fun _ => 0) = _ from noPage_eq] at hch hb0 hk0
  go_enter Try.func10, Try.ntmps10
  go_wp2_with fail
  refine hch.mono ?_
  rintro e w2 ⟨rfl, hk2⟩
  obtain ⟨w3, hst, hb3, hk3⟩ := store_page (hb0.keep hk2 (fun e => e)) 0 (fun _ => 0) (fun _ => 0)
  have hld := load_page hb3
  have HK : Keep (fun _ => False) w w3 := (hk0.trans hk2).next hk3 (fun x hx e => by omega)
  rw [show pageA 0 (fun _ => 0) (fun _ => 0) = _ from noPage_eq] at hst
  clear hch hb0 hk0 hk2 hb3 hk3
  go_wp2_with (refine wpList_store_run rfl 30 (.tmp 2) (.tmp 10) rfl (by rfl) (by rfl) hst ?_)
  refine bodyPost_ret (v := .tuple #[.agg (pageA 0 (fun _ => 0) (fun _ => 0)), .int .i64 x]) ?_ rfl ⟨rfl, HK⟩
  rw [results_cell_tmp rfl]
  simp [asAddr, Result.andThen, hld]
end Tg
end Go.Proofs.Ytgohmjidbbecpaa
