/-
  A tree in memory: its struct beside the arena; what node and height answer, what set makes. What turnRight, turnLeft and settle make of a tree that hangs in the arena. What settle makes of a node whose branches hang in the arena: it is brought back to the rule. Deletion in a balanced ordered tree, as mathematics; the nodes' numbers that a tree has. What hang makes of a tree that hangs in the arena: it has one node more. What cutFirst, join and unhang make of a tree that hangs in the arena: it has one node less.
-/
import Derived.Test.YtkddonmddgfpnaaTa
import Derived.Deep.RegionHeld3
import Derived.Deep.CutBlock
namespace Go.Proofs.Ytkddonmddgfpnaa
open Go.ChangeShapes Go.WideShapes Go.ChangeAt Go.RowKit
namespace Tg

/-- The tree's struct lies in block b, over the arena in p and k. -/
structure Tb (w : World) (b p k : Nat) (s : Ar) : Prop where
  ptr : w.cell? ⟨b, 0, none⟩ = some (.pointer (some ⟨p, 0, none⟩))
  mem : Mem w p k s
  bp : b ≠ p
  bk : b ≠ k
  small : s.N ≤ 512

theorem Tb.keep {S : Nat → Prop} {w w' : World} {b p k : Nat} {s : Ar} (h : Tb w b p k s) (e : Keep S w w') (hb : ¬ S b) (hp : ¬ S p) (hk : ¬ S k) : Tb w' b p k s :=
  ⟨by rw [World.cell?_of_block (w := w) (a := ⟨b, 0, none⟩) (e.block b (World.block_lt_of_cell? w _ h.ptr) hb)]; exact h.ptr, h.mem.keep e hp hk, h.bp, h.bk, h.small⟩
theorem Tb.more {w w' : World} {b p k : Nat} {s : Ar} (h : Tb w b p k s) (e : Keep (fun _ => False) w w') : Tb w' b p k s := h.keep e (fun e => e) (fun e => e) (fun e => e)
theorem Tb.own {w w' : World} {b p k : Nat} {s t : Ar} (h : Tb w b p k s) (e : Keep (Own p k) w w') (hm : Mem w' p k t) (hN : t.N = s.N) : Tb w' b p k t :=
  ⟨by rw [World.cell?_of_block (w := w) (a := ⟨b, 0, none⟩) (e.block b (World.block_lt_of_cell? w _ h.ptr) (fun x => x.elim h.bp h.bk))]; exact h.ptr, hm, h.bp, h.bk, by rw [hN]; exact h.small⟩
theorem Tb.drew {w : World} {b p k : Nat} {s : Ar} (h : Tb w b p k s) : Tb w.drew b p k s := h.more ((Keep.refl _ _).drew)

theorem results_cell {fn : Func} {p : Tmp} {ty : TypeId} (h : fn.results = #[.cell p ty]) (tmps : Array Value) (P : Program) (w : World) :
    (results fn tmps).run P w = ((asAddr (tmps.getD p undef)).run P w).andThen fun a w₁ => (loadVar ty a).run P w₁ := by
  simp only [results, h]
  simp [Sem.run_bind, Result.andThen]
theorem field_h (a b c d e f : Value) (w : World) : (Instr.field 100 (.agg #[a, b, c, d, e, f]) 2).run Try.prog w = .ok c w := by
  simp [Instr.field, Go.part, asAgg, Result.andThen]
theorem field_run (a b c d e f : Value) (w : World) : (Instr.field 100 (.agg #[a, b, c, d, e, f]) 3).run Try.prog w = .ok (.agg #[d, e, f]) w := by
  simp [Instr.field, Go.part, asAgg, Result.andThen]

theorem Tr.flds_node (i : Nat) (l : Tr) (x : Rn) (r : Tr) : nodeA (Tr.node i l x r).flds = #[.int .u32 (l.link : Int), .int .u32 (r.link : Int), .int .i64 ((Tr.node i l x r).h : Int), .int .i64 x.lba, .int .i64 x.len, .int .i64 x.phys] := by
  rw [nodeA_lit]; simp [Tr.flds, Tr.h]
theorem Tr.flds_h (u : Tr) : u.flds 2 = (u.h : Int) := by cases u <;> simp [Tr.flds, Tr.h]

set_option maxRecDepth 100000 in
set_option maxHeartbeats 600000 in
theorem node_of {w : World} {b p k : Nat} {s : Ar} (h : Tb w b p k s) {i : Nat} {n : Nat → Int} (hg : ∀ w1, Mem w1 p k s → Calls Try.prog 74 #[.pointer (some ⟨p, 0, none⟩), .int .u32 (i : Int)] w1 fun e w' => (∃ v, e = .returned (.tuple #[.agg (nodeA n), .int .i64 v])) ∧ Keep (fun _ => False) w1 w') :
    Calls Try.prog 64 #[.pointer (some ⟨b, 0, none⟩), .int .u32 (i : Int)] w fun e w' => e = .returned (.agg (nodeA n)) ∧ Keep (fun _ => False) w w' := by
  have hk1 : Keep (fun _ => False) w (w.alloc (.cells (nodeA fun _ => 0) 100)) := (Keep.refl _ _).alloc _
  have h1 := h.more hk1
  have c1 := h1.ptr
  have hb := node_new w (fun _ => 0)
  have hget := hg _ h1.mem
  rw [node0] at hget c1
  clear h h1 hg
  go_enter Try.func64, Try.ntmps64
  go_wp2_with fail
  refine hget.mono ?_
  rintro e w1 ⟨⟨v, rfl⟩, hk2⟩
  rw [← node0] at hk2
  have hb1 := hb.keep hk2 (fun e => e)
  have hb2 := hb1.alloc (.cells (nodeA n) 100)
  have hst := store_node hb2 (o := 0) (by omega) n
  have hb3 := hb2.setCells 0 6 (fun j => nval j (n j)) (by omega)
  have hld := load_node hb3 (o := 0) (by omega) (n := n) (fun i hi => by rw [if_pos (by omega), Nat.zero_add, Nat.sub_zero])
  have hk3 : Keep (fun _ => False) w ((w1.alloc (.cells (nodeA n) 100)).setCells w.heap.size 0 ((List.range 6).map fun j => nval j (n j))) := ((hk1.trans hk2).alloc _).setCells (Or.inr (Nat.le_refl _)) _ _
  generalize (w1.alloc (.cells (nodeA n) 100)).setCells w.heap.size 0 ((List.range 6).map fun j => nval j (n j)) = w3 at hst hk3 hld
  rw [nodeA_lit] at hst hld
  rw [nodeA_lit]
  clear hget hb hb1 hb2 hb3 hk1 hk2 c1
  go_wp2_with (guard_target =~ wpList _ _ _ (Oper.mk _ (Op.store 100 (Operand.tmp 4) _) _ _ _ _ :: _) _ _; refine wpList_store_run rfl 100 (.tmp 4) (.tmp 16) rfl (by rfl) (by rfl) hst ?_)
  refine bodyPost_ret (v := .agg #[.int .u32 (n 0), .int .u32 (n 1), .int .i64 (n 2), .int .i64 (n 3), .int .i64 (n 4), .int .i64 (n 5)]) ?_ rfl ⟨rfl, hk3⟩
  rw [results_cell rfl]
  simp [Act.put, asAddr, Result.andThen, hld]

set_option maxRecDepth 100000 in
theorem node_any {w : World} {b p k : Nat} {s : Ar} (h : Tb w b p k s) {u : Tr} (hu : Hang s u) :
    Calls Try.prog 64 #[.pointer (some ⟨b, 0, none⟩), .int .u32 (u.link : Int)] w fun e w' => e = .returned (.agg (nodeA u.flds)) ∧ Keep (fun _ => False) w w' := by
  refine node_of h (fun w1 h1 => ?_)
  cases u with
  | nil =>
    refine (get_no h1 (x := 0) (by omega) h.small (by simp)).mono ?_
    rintro e w' ⟨rfl, hk⟩
    exact ⟨⟨_, rfl⟩, hk⟩
  | node i l x r =>
    obtain ⟨⟨h2, h3, h4, h5⟩, _⟩ := hu
    obtain ⟨q, rfl⟩ : ∃ q, i = q + 1 := ⟨i - 1, by omega⟩
    refine (get_any h1 (q := q) (by omega) h.small h4).mono ?_
    rintro e w' ⟨rfl, hk⟩
    exact ⟨⟨0, by rw [nodeA_congr h5]⟩, hk⟩
set_option maxRecDepth 100000 in
/-- node on a live node's number. -/
theorem nodeAt_any {w : World} {b p k : Nat} {s : Ar} (h : Tb w b p k s) {i : Nat} (h1 : 1 ≤ i) (h2 : i ≤ s.N) (h3 : s.live i = true) {n : Nat → Int} (hf : ∀ j, j < 6 → s.fld i j = n j) :
    Calls Try.prog 64 #[.pointer (some ⟨b, 0, none⟩), .int .u32 (i : Int)] w fun e w' => e = .returned (.agg (nodeA n)) ∧ Keep (fun _ => False) w w' := by
  refine node_of h (fun w1 hm => ?_)
  obtain ⟨q, rfl⟩ : ∃ q, i = q + 1 := ⟨i - 1, by omega⟩
  refine (get_any hm (q := q) (by omega) h.small h3).mono ?_
  rintro e w' ⟨rfl, hk⟩
  exact ⟨⟨0, by rw [nodeA_congr hf]⟩, hk⟩

set_option maxRecDepth 100000 in
theorem height_any {w : World} {b p k : Nat} {s : Ar} (h : Tb w b p k s) {u : Tr} (hu : Hang s u) :
    Calls Try.prog 86 #[.pointer (some ⟨b, 0, none⟩), .int .u32 (u.link : Int)] w fun e w' => e = .returned (.int .i64 (u.h : Int)) ∧ Keep (fun _ => False) w w' := by
  have hn := node_any h hu
  rw [nodeA_lit, Tr.flds_h] at hn
  clear h hu
  have hf := field_h
  go_enter Try.func86, Try.ntmps86
  go_wp2_with (go_at_call 64; refine hn.mono ?_; rintro e w1 ⟨rfl, hk⟩)
  go_ret
  exact ⟨rfl, hk⟩

/-- A node's fields: its two links, its height, its run. -/
def nf (a b : Nat) (c : Int) (x : Rn) (j : Nat) : Int := if j = 0 then (a : Int) else if j = 1 then (b : Int) else if j = 2 then c else if j = 3 then x.lba else if j = 4 then x.len else x.phys
set_option maxRecDepth 100000 in
theorem nodeA_nf (a b : Nat) (c : Int) (x : Rn) : nodeA (nf a b c x) = #[.int .u32 (a : Int), .int .u32 (b : Int), .int .i64 c, .int .i64 x.lba, .int .i64 x.len, .int .i64 x.phys] := rfl
/-- A variable of the call's own that holds a node. -/
def Loc (w : World) (g a b : Nat) (c : Int) (x : Rn) : Prop := Blk w g 6 (fun j => nval j (nf a b c x j))
theorem Loc.new (w : World) (a b : Nat) (c : Int) (x : Rn) : Loc (w.alloc (.cells (nodeA (nf a b c x)) 100)) w.heap.size a b c x := node_new w (nf a b c x)
theorem Loc.more {w w' : World} {g a b : Nat} {c : Int} {x : Rn} (h : Loc w g a b c x) (hk : Keep (fun _ => False) w w') : Loc w' g a b c x := Blk.keep h hk (fun e => e)
theorem Loc.keep {S : Nat → Prop} {w w' : World} {g a b : Nat} {c : Int} {x : Rn} (h : Loc w g a b c x) (hk : Keep S w w') (hs : ¬ S g) : Loc w' g a b c x := Blk.keep h hk hs
theorem Loc.c0 {w : World} {g a b : Nat} {c : Int} {x : Rn} (h : Loc w g a b c x) : w.cell? ⟨g, 0, none⟩ = some (.int .u32 (a : Int)) := (h 0 (by omega)).1
theorem Loc.c1 {w : World} {g a b : Nat} {c : Int} {x : Rn} (h : Loc w g a b c x) : w.cell? ⟨g, 1, none⟩ = some (.int .u32 (b : Int)) := (h 1 (by omega)).1
theorem Loc.c2 {w : World} {g a b : Nat} {c : Int} {x : Rn} (h : Loc w g a b c x) : w.cell? ⟨g, 2, none⟩ = some (.int .i64 c) := (h 2 (by omega)).1
theorem Loc.c3 {w : World} {g a b : Nat} {c : Int} {x : Rn} (h : Loc w g a b c x) : w.cell? ⟨g, 3, none⟩ = some (.int .i64 x.lba) := (h 3 (by omega)).1
theorem Loc.fz {w : World} {g a b : Nat} {c : Int} {x : Rn} (h : Loc w g a b c x) {j : Nat} (hj : j < 6) : w.frozen? ⟨g, j, none⟩ = false := (h j hj).2
theorem Loc.six {w : World} {g a b : Nat} {c : Int} {x : Rn} (h : Loc w g a b c x) : w.cell? ⟨g, 0, none⟩ = some (.int .u32 (a : Int)) ∧ w.cell? ⟨g, 1, none⟩ = some (.int .u32 (b : Int)) ∧ w.cell? ⟨g, 2, none⟩ = some (.int .i64 c) ∧ w.cell? ⟨g, 3, none⟩ = some (.int .i64 x.lba) ∧ w.cell? ⟨g, 4, none⟩ = some (.int .i64 x.len) ∧ w.cell? ⟨g, 5, none⟩ = some (.int .i64 x.phys) :=
  ⟨(h 0 (by omega)).1, (h 1 (by omega)).1, (h 2 (by omega)).1, (h 3 (by omega)).1, (h 4 (by omega)).1, (h 5 (by omega)).1⟩
theorem Tb.ptrK {w w' : World} {b p k : Nat} {s : Ar} (h : Tb w b p k s) (e : Keep (Own p k) w w') : w'.cell? ⟨b, 0, none⟩ = some (.pointer (some ⟨p, 0, none⟩)) := by
  rw [World.cell?_of_block (w := w) (a := ⟨b, 0, none⟩) (e.block b (World.block_lt_of_cell? w _ h.ptr) (fun x => x.elim h.bp h.bk))]; exact h.ptr
theorem Tb.lt {w : World} {b p k : Nat} {s : Ar} (h : Tb w b p k s) (h1 : 1 ≤ s.N) : b < w.heap.size ∧ p < w.heap.size ∧ k < w.heap.size :=
  ⟨World.block_lt_of_cell? w _ h.ptr, h.mem.top.lt (by omega), h.mem.blk.lt (by omega)⟩
theorem Tb.out {w : World} {b p k : Nat} {s : Ar} (h : Tb w b p k s) (h1 : 1 ≤ s.N) {g : Nat} (hg : w.heap.size ≤ g) : ¬ Own p k g := by
  have := h.lt h1
  rintro (e | e) <;> omega
theorem Loc.load {w : World} {g a b : Nat} {c : Int} {x : Rn} (h : Loc w g a b c x) : (Instr.loadAt 100 (.pointer (some ⟨g, 0, none⟩))).run Try.prog w = .ok (.agg (nodeA (nf a b c x))) w := loadAt_node h (o := 0) (by omega) (fun i _ => by rw [Nat.zero_add])
theorem Loc.set0 {w : World} {g a b : Nat} {c : Int} {x : Rn} (h : Loc w g a b c x) (v : Nat) : Loc (w.setCell ⟨g, 0, none⟩ (.int .u32 (v : Int))) g v b c x :=
  (Blk.set h 0 _).congr (fun i hi => by by_cases e : i = 0 <;> simp [e, nf, nval])
theorem Loc.set1 {w : World} {g a b : Nat} {c : Int} {x : Rn} (h : Loc w g a b c x) (v : Nat) : Loc (w.setCell ⟨g, 1, none⟩ (.int .u32 (v : Int))) g a v c x :=
  (Blk.set h 1 _).congr (fun i hi => by by_cases e : i = 1 <;> simp [e, nf, nval])
theorem Loc.set2 {w : World} {g a b : Nat} {c : Int} {x : Rn} (h : Loc w g a b c x) (v : Int) : Loc (w.setCell ⟨g, 2, none⟩ (.int .i64 v)) g a b v x :=
  (Blk.set h 2 _).congr (fun i hi => by by_cases e : i = 2 <;> simp [e, nf, nval])
set_option maxRecDepth 100000 in
theorem Tr.flds_nf (i : Nat) (l : Tr) (x : Rn) (r : Tr) (j : Nat) : (Tr.node i l x r).flds j = nf l.link r.link ((Tr.node i l x r).h : Int) x j := rfl
set_option maxRecDepth 100000 in
theorem Tr.flds_eq (i : Nat) (l : Tr) (x : Rn) (r : Tr) : (Tr.node i l x r).flds = nf l.link r.link ((max l.h r.h + 1 : Nat) : Int) x := rfl

set_option maxRecDepth 100000 in
set_option maxHeartbeats 600000 in
theorem set_any {w : World} {b p k : Nat} {s : Ar} (h : Tb w b p k s) {l r : Tr} (hl : Hang s l) (hr : Hang s r) {i : Nat} (h1 : 1 ≤ i) (h2 : i ≤ s.N) (h3 : s.live i = true) (c : Int) (x : Rn) (hb1 : l.h ≤ 512) (hb2 : r.h ≤ 512) :
    Calls Try.prog 89 #[.pointer (some ⟨b, 0, none⟩), .int .u32 (i : Int), .agg (nodeA (nf l.link r.link c x))] w fun e w' => e = .returned (.tuple #[]) ∧ Mem w' p k (s.set i (Tr.node i l x r).flds) ∧ Keep (Own p k) w w' := by
  obtain ⟨q, rfl⟩ : ∃ q, i = q + 1 := ⟨i - 1, by omega⟩
  have hk1 : Keep (fun _ => False) w (w.alloc (.cells (nodeA (nf l.link r.link c x)) 100)).drew := ((Keep.refl _ _).alloc _).drew
  have t1 := h.more hk1
  have L1 : Loc (w.alloc (.cells (nodeA (nf l.link r.link c x)) 100)).drew w.heap.size l.link r.link c x := Loc.new w _ _ _ _
  have hh1 := height_any t1 hl
  have hS : ∀ w', Keep (fun _ => False) (w.alloc (.cells (nodeA (nf l.link r.link c x)) 100)).drew w' → w'.cell? ⟨w.heap.size, 0, none⟩ = some (.int .u32 (l.link : Int)) ∧ w'.cell? ⟨w.heap.size, 1, none⟩ = some (.int .u32 (r.link : Int)) :=
    fun w' hk => ⟨(L1.more hk).c0, (L1.more hk).c1⟩
  rw [nodeA_nf] at *
  have hif : (if l.h < r.h then (r.h : Int) else (l.h : Int)) = ((max l.h r.h : Nat) : Int) := by split <;> omega
  have hm : (Tr.node (q + 1) l x r).flds = nf l.link r.link (((max l.h r.h : Nat) : Int) + 1) x := rfl
  have hmb : max l.h r.h ≤ 512 := by omega
  rw [hm]
  generalize max l.h r.h = m at hif hm hmb ⊢
  clear hm
  have dh : IntKind.i64.wrap (1 + (m : Int)) = (m : Int) + 1 := by rw [IntKind.wrap_i64] <;> omega
  go_enter Try.func89, Try.ntmps89
  go_wp2_with fail
  go_region_held3 (fun w' => w'.cell? ⟨w.heap.size, 0, none⟩ = some (.int .u32 (l.link : Int)) ∧ w'.cell? ⟨w.heap.size, 1, none⟩ = some (.int .u32 (r.link : Int))) (first | exact hS _ hk2 | exact hS _ (hk2.trans hk3) | exact ⟨((L1.more (hk2.trans hk3)).set2 _).c0, ((L1.more (hk2.trans hk3)).set2 _).c1⟩ | go_keep) ((go_at_call 86; first | (refine hh1.mono ?_; rintro e w1 ⟨rfl, hk2⟩) | (refine (height_any (t1.more hk2) hr).mono ?_; rintro e w2 ⟨rfl, hk3⟩; have z2 := (L1.more (hk2.trans hk3)).c2; have z3 := (L1.more (hk2.trans hk3)).fz (j := 2) (by omega))))
  have L3 := (L1.more (hk2.trans hk3)).set2 ((m : Int) + 1)
  have hk4 : Keep (fun _ => False) w (w2.setCell ⟨w.heap.size, 2, none⟩ (.int .i64 ((m : Int) + 1))) := (hk1.trans (hk2.trans hk3)).setCell (p := ⟨w.heap.size, 2, none⟩) (Or.inr (Nat.le_refl _)) _
  have t4 := (h.more hk4).drew
  have L4 : Loc (w2.setCell ⟨w.heap.size, 2, none⟩ (.int .i64 ((m : Int) + 1))).drew w.heap.size l.link r.link ((m : Int) + 1) x := L3
  have hk5 := hk4.drew
  clear L1 L3 hk4 hS hh1 t1 hk1 z2 z3
  have hput := put_any t4.mem (q := q) (by omega) h.small h3 (nf l.link r.link ((m : Int) + 1) x)
  have hout : ¬ Own p k w.heap.size := h.out (by omega) (Nat.le_refl _)
  have hS2 : ∀ w', Keep (Own p k) (w2.setCell ⟨w.heap.size, 2, none⟩ (.int .i64 ((m : Int) + 1))).drew w' → _ := fun w' hk => And.intro (t4.ptrK hk) (L4.keep hk hout).six
  rw [nodeA_nf] at hput
  go_wp2_with fail
  go_region_held3 (fun w' => w'.cell? ⟨b, 0, none⟩ = some (.pointer (some ⟨p, 0, none⟩)) ∧ w'.cell? ⟨w.heap.size, 0, none⟩ = some (.int .u32 (l.link : Int)) ∧ w'.cell? ⟨w.heap.size, 1, none⟩ = some (.int .u32 (r.link : Int)) ∧ w'.cell? ⟨w.heap.size, 2, none⟩ = some (.int .i64 ((m : Int) + 1)) ∧ w'.cell? ⟨w.heap.size, 3, none⟩ = some (.int .i64 x.lba) ∧ w'.cell? ⟨w.heap.size, 4, none⟩ = some (.int .i64 x.len) ∧ w'.cell? ⟨w.heap.size, 5, none⟩ = some (.int .i64 x.phys)) (first | exact hS2 _ (Keep.refl _ _) | exact hS2 _ hk9) ((go_at_call 79; refine hput.mono ?_; rintro e w9 ⟨rfl, hm9, hk9⟩))
  have hk10 : Keep (Own p k) w w9 := (hk5.mono (fun _ _ e => e.elim)).trans hk9
  clear hS2 t4 L4 hput
  go_wp2_with fail
  refine bodyPost_end (v := .tuple #[]) (results_none rfl _ _ _) rfl ⟨rfl, hm9, hk10⟩

end Tg
end Go.Proofs.Ytkddonmddgfpnaa
namespace Go.Proofs.Ytkddonmddgfpnaa
open Go.ChangeShapes Go.WideShapes Go.ChangeAt Go.RowKit
namespace Tg

/-- An arena as it was but for the fields of some nodes. -/
structure Same (s t : Ar) (S : List Nat) : Prop where
  N : t.N = s.N
  first : t.first = s.first
  count : t.count = s.count
  live : t.live = s.live
  next : t.next = s.next
  fld : ∀ y, y ∉ S → t.fld y = s.fld y

set_option maxRecDepth 100000 in
theorem Same.refl (s : Ar) (S : List Nat) : Same s s S := ⟨rfl, rfl, rfl, rfl, rfl, fun _ _ => rfl⟩
set_option maxRecDepth 100000 in
theorem Same.set (s : Ar) {S : List Nat} {i : Nat} (hi : i ∈ S) (n : Nat → Int) : Same s (s.set i n) S :=
  ⟨rfl, rfl, rfl, rfl, rfl, fun y hy => by funext j; simp only [Ar.set]; rw [if_neg (by rintro rfl; exact hy hi)]⟩
theorem Same.trans {s t u : Ar} {S : List Nat} (h : Same s t S) (k : Same t u S) : Same s u S :=
  ⟨k.N.trans h.N, k.first.trans h.first, k.count.trans h.count, k.live.trans h.live, k.next.trans h.next, fun y hy => (k.fld y hy).trans (h.fld y hy)⟩
theorem Same.mono {s t : Ar} {S U : List Nat} (h : Same s t S) (e : ∀ x ∈ S, x ∈ U) : Same s t U :=
  ⟨h.N, h.first, h.count, h.live, h.next, fun y hy => h.fld y (fun x => hy (e y x))⟩
theorem Same.hang {s t : Ar} {S : List Nat} (h : Same s t S) {u : Tr} (hu : Hang s u) (e : ∀ i ∈ u.ids, i ∉ S) : Hang t u :=
  hu.congr h.N (fun i hi => ⟨by rw [h.live], fun j _ => by rw [h.fld i (e i hi)]⟩)
theorem Same.ok {s t : Ar} {S : List Nat} (h : Same s t S) {l : List Nat} (ok : s.Ok l) : t.Ok l :=
  ⟨by rw [h.N]; exact ok.small, by rw [h.N]; exact ok.one, ok.nodup, by rw [h.N]; exact ok.range, by rw [h.N, h.live]; exact ok.live, by rw [h.next, h.first]; exact ok.lnk, by rw [h.N, h.count]; exact ok.count, by rw [h.next]; exact ok.nx⟩

/-- What a call leaves: the tree hangs in the arena, all else is as it was. -/
def Aft (w : World) (b p k : Nat) (s : Ar) (t : Tr) (w' : World) : Prop := ∃ s', Tb w' b p k s' ∧ Hang s' t ∧ Same s s' t.ids ∧ Keep (Own p k) w w'

theorem Tr.h_le : ∀ t : Tr, t.h ≤ t.ids.length
  | .nil => by simp [Tr.h]
  | .node i l x r => by
    have := Tr.h_le l
    have := Tr.h_le r
    simp [Tr.h, Tr.ids_node]; omega
theorem Hang.len {s : Ar} {u : Tr} (h : Hang s u) (hn : u.ids.Nodup) : u.ids.length ≤ s.N := by
  have : u.ids.length ≤ (List.range' 1 s.N).length := List.Nodup.length_le_of_subset hn (fun y hy => by
    rw [List.mem_range'_1]; have := h.live y hy; omega)
  simpa using this
theorem Hang.h_le {s : Ar} {u : Tr} (h : Hang s u) (hn : u.ids.Nodup) (hN : s.N ≤ 512) : u.h ≤ 512 := by
  have := h.len hn
  have := u.h_le
  omega

set_option maxRecDepth 100000 in
theorem nd_node {i : Nat} {l : Tr} {x : Rn} {r : Tr} : (Tr.node i l x r).ids.Nodup ↔ l.ids.Nodup ∧ r.ids.Nodup ∧ i ∉ l.ids ∧ i ∉ r.ids ∧ ∀ z ∈ l.ids, z ∉ r.ids := by
  rw [Tr.ids_node, List.nodup_append, List.nodup_cons]
  constructor
  · rintro ⟨h1, ⟨h2, h3⟩, h4⟩
    exact ⟨h1, h3, fun e => h4 i e i (by simp) rfl, h2, fun z hz e => h4 z hz z (by simp [e]) rfl⟩
  · rintro ⟨h1, h2, h3, h4, h5⟩
    refine ⟨h1, ⟨h4, h2⟩, fun z hz y hy e => ?_⟩
    subst e
    rcases List.mem_cons.1 hy with rfl | hy
    · exact h3 hz
    · exact h5 z hz hy
theorem mem_node {z i : Nat} {l : Tr} {x : Rn} {r : Tr} : z ∈ (Tr.node i l x r).ids ↔ z ∈ l.ids ∨ z = i ∨ z ∈ r.ids := by
  rw [Tr.ids_node]; simp

set_option maxRecDepth 100000 in
set_option maxHeartbeats 1000000 in
theorem turnRight_any {w : World} {b p k : Nat} {s : Ar} (h : Tb w b p k s) {i j : Nat} {a m r : Tr} {x y : Rn} (hl : Hang s (.node j a y m)) (hr : Hang s r) (h1 : 1 ≤ i) (h2 : i ≤ s.N) (h3 : s.live i = true)
    (hnd : (Tr.node i (.node j a y m) x r).ids.Nodup) (c : Int) :
    Calls Try.prog 88 #[.pointer (some ⟨b, 0, none⟩), .int .u32 (i : Int), .agg (nodeA (nf j r.link c x))] w fun e w' => e = .returned (.int .u32 (j : Int)) ∧ Aft w b p k s (.node j a y (.node i m x r)) w' := by
  have hk1 : Keep (fun _ => False) w (w.alloc (.cells (nodeA (nf j r.link c x)) 100)) := (Keep.refl _ _).alloc _
  have t1 := h.more hk1
  have L1 := Loc.new w j r.link c x
  have hn1 := node_any t1 hl
  rw [Tr.flds_eq] at hn1
  have hj : (Tr.node j a y m).link = j := rfl
  rw [hj] at hn1
  simp only [nodeA_nf] at hk1 t1 L1 hn1 ⊢
  generalize hM : ((max a.h m.h + 1 : Nat) : Int) = M at hn1
  go_enter Try.func88, Try.ntmps88
  go_upto_region 3 with (go_at_call 64; refine hn1.mono ?_; rintro e w1 ⟨rfl, hk2⟩)
  have K2 : Keep (fun _ => False) w (w1.alloc (.cells (nodeA (nf a.link m.link M y)) 100)) := (hk1.trans hk2).alloc _
  have A2 : Loc (w1.alloc (.cells (nodeA (nf a.link m.link M y)) 100)) w.heap.size j r.link c x := (L1.more hk2).more ((Keep.refl _ _).alloc _)
  have B2 := Loc.new w1 a.link m.link M y
  have hne : w.heap.size < w1.heap.size := by have := hk2.size; simp at this; omega
  have hge : w.heap.size ≤ w1.heap.size := by omega
  simp only [nodeA_nf] at K2 A2 B2
  generalize w1.alloc (.cells #[.int .u32 (a.link : Int), .int .u32 (m.link : Int), .int .i64 M, .int .i64 y.lba, .int .i64 y.len, .int .i64 y.phys] 100) = w2 at K2 A2 B2 ⊢
  generalize w1.heap.size = g at hne hge B2 ⊢
  clear hn1 hk1 hk2 L1 t1
  have z1 := A2.c0
  have z2 := A2.fz (j := 0) (by omega)
  have z3 := B2.c1
  have z4 := B2.fz (j := 1) (by omega)
  have z5 : w.heap.size ≠ g := by omega
  go_upto_region 4 with fail
  have A3 := (A2.set0 m.link).keep ((Keep.refl (fun b => b = g) _).setCell (p := ⟨g, 1, none⟩) (Or.inl rfl) (.int .u32 (i : Int))) (by omega)
  have B3 := (B2.keep ((Keep.refl (fun b => b = w.heap.size) _).setCell (p := ⟨w.heap.size, 0, none⟩) (Or.inl rfl) (.int .u32 (m.link : Int))) (by omega)).set1 i
  have K3 := (K2.setCell (p := ⟨w.heap.size, 0, none⟩) (Or.inr (Nat.le_refl _)) (.int .u32 (m.link : Int))).setCell (p := ⟨g, 1, none⟩) (Or.inr hge) (.int .u32 (i : Int))
  generalize (w2.setCell ⟨w.heap.size, 0, none⟩ (.int .u32 (m.link : Int))).setCell ⟨g, 1, none⟩ (.int .u32 (i : Int)) = w3 at A3 B3 K3 ⊢
  clear z1 z2 z3 z4 A2 B2 K2
  obtain ⟨n1, n2, n3, n4, n5⟩ := nd_node.1 hnd
  obtain ⟨o1, o2, o3, o4, o5⟩ := nd_node.1 n1
  rw [mem_node] at n3
  obtain ⟨⟨v1, v2, v3, v4⟩, ha, hm⟩ := hl
  have hN := h.small
  have ba := ha.h_le o1 hN
  have bm := hm.h_le o2 hN
  have br := hr.h_le n2 hN
  have t3 := h.more K3
  have hg : ¬ Own p k g := h.out (by omega) hge
  have hset := set_any t3 hm hr h1 h2 h3 c x bm br
  have H1 := hm.above hr h1 h2 h3 (fun e => n3 (Or.inr (Or.inr e))) n4 x
  have H0 := ha.set (x := i) (fun e => n3 (Or.inl e)) (Tr.node i m x r).flds
  have N1 : (Tr.node i m x r).ids.Nodup := nd_node.2 ⟨o2, n2, fun e => n3 (Or.inr (Or.inr e)), n4, fun z hz => n5 z (mem_node.2 (Or.inr (Or.inr hz)))⟩
  have bt := H1.h_le N1 hN
  obtain ⟨q0, q1, q2, q3, q4, q5⟩ := A3.six
  have HS : Same s ((s.set i (Tr.node i m x r).flds).set j (Tr.node j a y (Tr.node i m x r)).flds) (Tr.node j a y (Tr.node i m x r)).ids := (Same.set s (by simp [mem_node]) _).trans (Same.set _ (by simp [mem_node]) _)
  have H2 := H0.above H1 v1 (show j ≤ (s.set i (Tr.node i m x r).flds).N from v2) v3 o3 (fun e => by rcases mem_node.1 e with e | e | e; exact o4 e; (subst e; exact n3 (Or.inr (Or.inl rfl))); exact n5 j (mem_node.2 (Or.inr (Or.inl rfl))) e) y
  rw [nodeA_nf] at hset
  clear hM hnd ha hm hr
  go_upto_region 5 with (go_at_call 89; refine hset.mono ?_; rintro e w4 ⟨rfl, hm4, hk4⟩)
  clear q0 q1 q2 q3 q4 q5 hset
  have t4 := t3.own hk4 hm4 rfl
  have hset := set_any t4 H0 H1 v1 v2 v3 M y ba bt
  rw [nodeA_nf, show (Tr.node i m x r).link = i from rfl] at hset
  obtain ⟨q0, q1, q2, q3, q4, q5⟩ := (B3.keep hk4 hg).six
  go_wp2_with (go_at_call 89; refine hset.mono ?_; rintro e w5 ⟨rfl, hm5, hk5⟩)
  go_ret
  exact ⟨rfl, _, t4.own hk5 hm5 rfl, H2, HS, ((K3.mono (fun _ _ e => e.elim)).trans hk4).trans hk5⟩

set_option maxRecDepth 100000 in
set_option maxHeartbeats 1000000 in
theorem turnLeft_any {w : World} {b p k : Nat} {s : Ar} (h : Tb w b p k s) {i j : Nat} {a m r : Tr} {x y : Rn} (ha : Hang s a) (hl : Hang s (.node j m y r)) (h1 : 1 ≤ i) (h2 : i ≤ s.N) (h3 : s.live i = true)
    (hnd : (Tr.node i a x (.node j m y r)).ids.Nodup) (c : Int) :
    Calls Try.prog 87 #[.pointer (some ⟨b, 0, none⟩), .int .u32 (i : Int), .agg (nodeA (nf a.link j c x))] w fun e w' => e = .returned (.int .u32 (j : Int)) ∧ Aft w b p k s (.node j (.node i a x m) y r) w' := by
  have hk1 : Keep (fun _ => False) w (w.alloc (.cells (nodeA (nf a.link j c x)) 100)) := (Keep.refl _ _).alloc _
  have t1 := h.more hk1
  have L1 := Loc.new w a.link j c x
  have hn1 := node_any t1 hl
  rw [Tr.flds_eq] at hn1
  have hj : (Tr.node j m y r).link = j := rfl
  rw [hj] at hn1
  simp only [nodeA_nf] at hk1 t1 L1 hn1 ⊢
  generalize hM : ((max m.h r.h + 1 : Nat) : Int) = M at hn1
  go_enter Try.func87, Try.ntmps87
  go_upto_region 3 with (go_at_call 64; refine hn1.mono ?_; rintro e w1 ⟨rfl, hk2⟩)
  have K2 : Keep (fun _ => False) w (w1.alloc (.cells (nodeA (nf m.link r.link M y)) 100)) := (hk1.trans hk2).alloc _
  have A2 : Loc (w1.alloc (.cells (nodeA (nf m.link r.link M y)) 100)) w.heap.size a.link j c x := (L1.more hk2).more ((Keep.refl _ _).alloc _)
  have B2 := Loc.new w1 m.link r.link M y
  have hne : w.heap.size < w1.heap.size := by have := hk2.size; simp at this; omega
  have hge : w.heap.size ≤ w1.heap.size := by omega
  simp only [nodeA_nf] at K2 A2 B2
  generalize w1.alloc (.cells #[.int .u32 (m.link : Int), .int .u32 (r.link : Int), .int .i64 M, .int .i64 y.lba, .int .i64 y.len, .int .i64 y.phys] 100) = w2 at K2 A2 B2 ⊢
  generalize w1.heap.size = g at hne hge B2 ⊢
  clear hn1 hk1 hk2 L1 t1
  have z1 := A2.c1
  have z2 := A2.fz (j := 1) (by omega)
  have z3 := B2.c0
  have z4 := B2.fz (j := 0) (by omega)
  have z5 : w.heap.size ≠ g := by omega
  go_upto_region 4 with fail
  have A3 := (A2.set1 m.link).keep ((Keep.refl (fun b => b = g) _).setCell (p := ⟨g, 0, none⟩) (Or.inl rfl) (.int .u32 (i : Int))) (by omega)
  have B3 := (B2.keep ((Keep.refl (fun b => b = w.heap.size) _).setCell (p := ⟨w.heap.size, 1, none⟩) (Or.inl rfl) (.int .u32 (m.link : Int))) (by omega)).set0 i
  have K3 := (K2.setCell (p := ⟨w.heap.size, 1, none⟩) (Or.inr (Nat.le_refl _)) (.int .u32 (m.link : Int))).setCell (p := ⟨g, 0, none⟩) (Or.inr hge) (.int .u32 (i : Int))
  generalize (w2.setCell ⟨w.heap.size, 1, none⟩ (.int .u32 (m.link : Int))).setCell ⟨g, 0, none⟩ (.int .u32 (i : Int)) = w3 at A3 B3 K3 ⊢
  clear z1 z2 z3 z4 A2 B2 K2
  obtain ⟨n1, n2, n3, n4, n5⟩ := nd_node.1 hnd
  obtain ⟨o1, o2, o3, o4, o5⟩ := nd_node.1 n2
  rw [mem_node] at n4
  obtain ⟨⟨v1, v2, v3, v4⟩, hm, hr⟩ := hl
  have hN := h.small
  have ba := ha.h_le n1 hN
  have bm := hm.h_le o1 hN
  have br := hr.h_le o2 hN
  have t3 := h.more K3
  have hg : ¬ Own p k g := h.out (by omega) hge
  have hset := set_any t3 ha hm h1 h2 h3 c x ba bm
  have H1 := ha.above hm h1 h2 h3 n3 (fun e => n4 (Or.inl e)) x
  have H0 := hr.set (x := i) (fun e => n4 (Or.inr (Or.inr e))) (Tr.node i a x m).flds
  have N1 : (Tr.node i a x m).ids.Nodup := nd_node.2 ⟨n1, o1, n3, fun e => n4 (Or.inl e), fun z hz e => n5 z hz (mem_node.2 (Or.inl e))⟩
  have bt := H1.h_le N1 hN
  obtain ⟨q0, q1, q2, q3, q4, q5⟩ := A3.six
  have HS : Same s ((s.set i (Tr.node i a x m).flds).set j (Tr.node j (Tr.node i a x m) y r).flds) (Tr.node j (Tr.node i a x m) y r).ids := (Same.set s (by simp [mem_node]) _).trans (Same.set _ (by simp [mem_node]) _)
  have H2 := H1.above H0 v1 (show j ≤ (s.set i (Tr.node i a x m).flds).N from v2) v3 (fun e => by rcases mem_node.1 e with e | e | e; exact n5 j e (mem_node.2 (Or.inr (Or.inl rfl))); (subst e; exact n4 (Or.inr (Or.inl rfl))); exact o3 e) o4 y
  rw [nodeA_nf] at hset
  clear hM hnd ha hm hr
  go_upto_region 5 with (go_at_call 89; refine hset.mono ?_; rintro e w4 ⟨rfl, hm4, hk4⟩)
  clear q0 q1 q2 q3 q4 q5 hset
  have t4 := t3.own hk4 hm4 rfl
  have hset := set_any t4 H1 H0 v1 v2 v3 M y bt br
  rw [nodeA_nf, show (Tr.node i a x m).link = i from rfl] at hset
  obtain ⟨q0, q1, q2, q3, q4, q5⟩ := (B3.keep hk4 hg).six
  go_wp2_with (go_at_call 89; refine hset.mono ?_; rintro e w5 ⟨rfl, hm5, hk5⟩)
  go_ret
  exact ⟨rfl, _, t4.own hk5 hm5 rfl, H2, HS, ((K3.mono (fun _ _ e => e.elim)).trans hk4).trans hk5⟩
end Tg
end Go.Proofs.Ytkddonmddgfpnaa
namespace Go.Proofs.Ytkddonmddgfpnaa
open Go.ChangeShapes Go.WideShapes Go.ChangeAt Go.RowKit
namespace Tg

theorem Tr.fix_ids (t : Tr) : t.fix.ids = t.ids := by unfold Tr.ids; rw [Tr.fix_seq]
theorem Tr.rotL_ids (t : Tr) : t.rotL.ids = t.ids := by unfold Tr.ids; rw [Tr.rotL_seq]
theorem Tr.rotR_ids (t : Tr) : t.rotR.ids = t.ids := by unfold Tr.ids; rw [Tr.rotR_seq]

set_option maxRecDepth 100000 in
theorem Tr.fixA1 {i j q : Nat} {a m1 m2 r : Tr} {x y z : Rn} (h1 : r.h + 1 < (Tr.node j a y (.node q m1 z m2)).h) (h2 : a.h < (Tr.node q m1 z m2).h) :
    (Tr.node i (.node j a y (.node q m1 z m2)) x r).fix = .node q (.node j a y m1) z (.node i m2 x r) := by
  rw [Tr.fix, if_pos h1, if_pos (by simpa [Tr.rightHigh] using h2)]; rfl
set_option maxRecDepth 100000 in
theorem Tr.fixA2 {i j : Nat} {a m r : Tr} {x y : Rn} (h1 : r.h + 1 < (Tr.node j a y m).h) (h2 : ¬ a.h < m.h) :
    (Tr.node i (.node j a y m) x r).fix = .node j a y (.node i m x r) := by
  rw [Tr.fix, if_pos h1, if_neg (by simpa [Tr.rightHigh] using h2)]; rfl
set_option maxRecDepth 100000 in
theorem Tr.fixB1 {i j q : Nat} {l a m r : Tr} {x y z : Rn} (h0 : ¬ (Tr.node j (.node q a z m) y r).h + 1 < l.h) (h1 : l.h + 1 < (Tr.node j (.node q a z m) y r).h) (h2 : r.h < (Tr.node q a z m).h) :
    (Tr.node i l x (.node j (.node q a z m) y r)).fix = .node q (.node i l x a) z (.node j m y r) := by
  rw [Tr.fix, if_neg h0, if_pos h1, if_pos (by simpa [Tr.leftHigh] using h2)]; rfl
set_option maxRecDepth 100000 in
theorem Tr.fixB2 {i j : Nat} {l m r : Tr} {x y : Rn} (h0 : ¬ (Tr.node j m y r).h + 1 < l.h) (h1 : l.h + 1 < (Tr.node j m y r).h) (h2 : ¬ r.h < m.h) :
    (Tr.node i l x (.node j m y r)).fix = .node j (.node i l x m) y r := by
  rw [Tr.fix, if_neg h0, if_pos h1, if_neg (by simpa [Tr.leftHigh] using h2)]; rfl
theorem Tr.fixC {i : Nat} {l r : Tr} {x : Rn} (h0 : ¬ r.h + 1 < l.h) (h1 : ¬ l.h + 1 < r.h) : (Tr.node i l x r).fix = .node i l x r := by
  rw [Tr.fix, if_neg h0, if_neg h1]
theorem Aft.next {w w1 w2 : World} {b p k : Nat} {s s1 : Ar} {t u : Tr} (h : Aft w1 b p k s1 u w2) (hk : Keep (Own p k) w w1) (hs : Same s s1 t.ids) (e : ∀ z ∈ t.ids, z ∈ u.ids) : Aft w b p k s u w2 := by
  obtain ⟨s2, h1, h2, h3, h4⟩ := h
  exact ⟨s2, h1, h2, (hs.mono e).trans h3, hk.trans h4⟩
theorem Keep.ownK {p k : Nat} {w w' : World} (h : Keep (fun _ => False) w w') : Keep (Own p k) w w' := h.mono (fun _ _ e => e.elim)

set_option maxRecDepth 100000 in
set_option maxHeartbeats 1000000 in
theorem settle_any {w : World} {b p k : Nat} {s : Ar} (h : Tb w b p k s) {i : Nat} {l r : Tr} {x : Rn} (hl : Hang s l) (hr : Hang s r) (h1 : 1 ≤ i) (h2 : i ≤ s.N) (h3 : s.live i = true)
    (hnd : (Tr.node i l x r).ids.Nodup) (c : Int) :
    Calls Try.prog 84 #[.pointer (some ⟨b, 0, none⟩), .int .u32 (i : Int), .agg (nodeA (nf l.link r.link c x))] w fun e w' => e = .returned (.int .u32 ((Tr.node i l x r).fix.link : Int)) ∧ Aft w b p k s (Tr.node i l x r).fix w' := by
  have hk1 : Keep (fun _ => False) w (w.alloc (.cells (nodeA (nf l.link r.link c x)) 100)).drew := ((Keep.refl _ _).alloc _).drew
  have t1 := h.more hk1
  have L1 : Loc (w.alloc (.cells (nodeA (nf l.link r.link c x)) 100)).drew w.heap.size l.link r.link c x := Loc.new w _ _ _ _
  have hh1 := height_any t1 hl
  have hS : ∀ w', Keep (fun _ => False) (w.alloc (.cells (nodeA (nf l.link r.link c x)) 100)).drew w' → w'.cell? ⟨w.heap.size, 0, none⟩ = some (.int .u32 (l.link : Int)) ∧ w'.cell? ⟨w.heap.size, 1, none⟩ = some (.int .u32 (r.link : Int)) :=
    fun w' hk => ⟨(L1.more hk).c0, (L1.more hk).c1⟩
  rw [nodeA_nf] at *
  go_enter Try.func84, Try.ntmps84
  go_wp2_with fail
  go_region_held3 (fun w' => w'.cell? ⟨w.heap.size, 0, none⟩ = some (.int .u32 (l.link : Int)) ∧ w'.cell? ⟨w.heap.size, 1, none⟩ = some (.int .u32 (r.link : Int))) (first | exact hS _ (Keep.refl _ _) | exact hS _ hk2 | exact hS _ (hk2.trans hk3)) ((go_at_call 86; first | (refine hh1.mono ?_; rintro e w1 ⟨rfl, hk2⟩) | (refine (height_any (t1.more hk2) hr).mono ?_; rintro e w2 ⟨rfl, hk3⟩)))
  have L2 := L1.more (hk2.trans hk3)
  have K2 := hk1.trans (hk2.trans hk3)
  clear hS hh1 t1 L1 hk1 hk2 hk3
  have t2 := h.more K2
  obtain ⟨n1, n2, n3, n4, n5⟩ := nd_node.1 hnd
  have hN := h.small
  have bl := hl.h_le n1 hN
  have br := hr.h_le n2 hN
  have dr : IntKind.i64.wrap ((r.h : Int) + 1) = (r.h : Int) + 1 := by rw [IntKind.wrap_i64] <;> omega
  have dl : IntKind.i64.wrap ((l.h : Int) + 1) = (l.h : Int) + 1 := by rw [IntKind.wrap_i64] <;> omega
  have hN1 : 1 ≤ s.N := by omega
  have hg0 : ¬ Own p k w.heap.size := h.out hN1 (Nat.le_refl _)
  have z1 := L2.c0
  have z2 := L2.c1
  by_cases e1 : r.h + 1 < l.h
  · have d1 : (r.h : Int) + 1 < (l.h : Int) := by omega
    cases l with
    | nil => simp [Tr.h] at e1
    | node j a y m =>
      have hn := node_any t2 hl
      rw [Tr.flds_eq, nodeA_nf] at hn
      generalize hM : ((max a.h m.h + 1 : Nat) : Int) = M at hn
      generalize hlh : (Tr.node j a y m).h = lh at *
      have hj : (Tr.node j a y m).link = j := rfl
      rw [hj] at *
      go_upto_region 4 with (go_at_call 64; refine hn.mono ?_; rintro e w3 ⟨rfl, hk3⟩)
      have K4 : Keep (fun _ => False) w (w3.alloc (.cells (nodeA (nf a.link m.link M y)) 100)) := (K2.trans hk3).alloc _
      have A4 : Loc (w3.alloc (.cells (nodeA (nf a.link m.link M y)) 100)) w.heap.size j r.link c x := (L2.more hk3).more ((Keep.refl _ _).alloc _)
      have B4 := Loc.new w3 a.link m.link M y
      have hge : w.heap.size ≤ w3.heap.size := by have := hk3.size; have := K2.size; omega
      have hlt : w.heap.size < w3.heap.size := by have := World.block_lt_of_cell? _ _ (L2.more hk3).c0; exact this
      simp only [nodeA_nf] at K4 A4 B4
      generalize w3.alloc (.cells #[.int .u32 (a.link : Int), .int .u32 (m.link : Int), .int .i64 M, .int .i64 y.lba, .int .i64 y.len, .int .i64 y.phys] 100) = w4 at K4 A4 B4 ⊢
      generalize w3.heap.size = g at hge hlt B4 ⊢
      clear hn hk3 L2 K2 t2 z1 z2
      have t4 := (h.more K4).drew
      obtain ⟨⟨v1, v2, v3, v4⟩, ha, hm⟩ := hl
      have hh4 := height_any t4 hm
      have hS : ∀ w', Keep (fun _ => False) w4.drew w' → w'.cell? ⟨g, 0, none⟩ = some (.int .u32 (a.link : Int)) ∧ w'.cell? ⟨g, 1, none⟩ = some (.int .u32 (m.link : Int)) :=
        fun w' hk => ⟨(B4.more (((Keep.refl _ _).drew).trans hk)).c0, (B4.more (((Keep.refl _ _).drew).trans hk)).c1⟩
      go_region_held3 (fun w' => w'.cell? ⟨g, 0, none⟩ = some (.int .u32 (a.link : Int)) ∧ w'.cell? ⟨g, 1, none⟩ = some (.int .u32 (m.link : Int))) (first | exact hS _ (Keep.refl _ _) | exact hS _ hk5 | exact hS _ (hk5.trans hk6)) ((go_at_call 86; first | (refine hh4.mono ?_; rintro e w5 ⟨rfl, hk5⟩) | (refine (height_any (t4.more hk5) ha).mono ?_; rintro e w6 ⟨rfl, hk6⟩)))
      have K6 := K4.trans (((Keep.refl _ _).drew).trans (hk5.trans hk6))
      have A6 := A4.more (((Keep.refl _ _).drew).trans (hk5.trans hk6))
      have B6 := B4.more (((Keep.refl _ _).drew).trans (hk5.trans hk6))
      have t6 := h.more K6
      clear hS hh4 t4 A4 B4 K4 hk5 hk6
      have hg : ¬ Own p k g := h.out hN1 hge
      obtain ⟨o1, o2, o3, o4, o5⟩ := nd_node.1 n1
      obtain ⟨q0, q1, q2, q3, q4, q5⟩ := A6.six
      obtain ⟨p0, p1, p2, p3, p4, p5⟩ := B6.six
      by_cases e2 : a.h < m.h
      · cases m with
        | nil => simp [Tr.h] at e2
        | node q m1 z m2 =>
          have hfx := Tr.fixA1 (i := i) (x := x) (hlh.symm ▸ e1) e2
          have htl := turnLeft_any t6 ha hm v1 v2 v3 n1 M
          rw [nodeA_nf] at htl
          rw [decide_eq_true e2]
          have hq : (Tr.node q m1 z m2).link = q := rfl
          have hj : (Tr.node j a y (Tr.node q m1 z m2)).link = j := rfl
          rw [hq] at p1 B6 ⊢
          rw [hj]
          generalize (Tr.node q m1 z m2).h = mh
          go_upto_region 6 with (go_at_call 87; refine htl.mono ?_; rintro e w7 ⟨rfl, s7, t7, H7, S7, k7⟩; have zc := (A6.keep k7 hg0).c0; have zf := (A6.keep k7 hg0).fz (j := 0) (by omega))
          have A8 := (A6.keep k7 hg0).set0 q
          have K8 : Keep (Own p k) w (w7.setCell ⟨w.heap.size, 0, none⟩ (.int .u32 (q : Int))) := (K6.ownK.trans k7).setCell (p := ⟨w.heap.size, 0, none⟩) (Or.inr (Nat.le_refl _)) _
          have K78 : Keep (fun b => b = w.heap.size) w7 (w7.setCell ⟨w.heap.size, 0, none⟩ (.int .u32 (q : Int))) := (Keep.refl (fun b => b = w.heap.size) w7).setCell (p := ⟨w.heap.size, 0, none⟩) (Or.inl rfl) _
          obtain ⟨b1, b2, b3⟩ := h.lt hN1
          have t8 := t7.keep K78 (by omega) (by omega) (by omega)
          have H8 := H7
          have hid : (Tr.node q (.node j a y m1) z m2).ids = (Tr.node j a y (.node q m1 z m2)).ids := Tr.rotL_ids (Tr.node j a y (.node q m1 z m2))
          have R8 : Hang s7 r := S7.hang hr (fun y hy e => n5 y (hid ▸ e) hy)
          have htr := turnRight_any t8 H8 R8 h1 (by rw [S7.N]; exact h2) (by rw [S7.live]; exact h3) (nd_node.2 ⟨by rw [hid]; exact n1, n2, by rw [hid]; exact n3, n4, by rw [hid]; exact n5⟩) c (x := x)
          rw [nodeA_nf] at htr
          clear q0 q1 q2 q3 q4 q5 p0 p1 p2 p3 p4 p5 htl A6 B6
          obtain ⟨q0, q1, q2, q3, q4, q5⟩ := A8.six
          generalize w7.setCell ⟨w.heap.size, 0, none⟩ (.int .u32 (q : Int)) = w8 at A8 K8 K78 t8 htr q0 q1 q2 q3 q4 q5 ⊢
          clear A8 K78 zc zf n1 n2 n3 n4 n5 o1 o2 o3 o4 o5 hnd
          go_wp2_with (go_at_call 88; refine htr.mono ?_; rintro e w9 ⟨rfl, h9⟩)
          go_ret
          rw [hfx]
          exact ⟨rfl, h9.next K8 S7 (fun y hy => by rw [← hfx, Tr.fix_ids, mem_node, ← hid]; exact Or.inl hy)⟩
      · have hfx := Tr.fixA2 (i := i) (x := x) (hlh.symm ▸ e1) e2
        have htr := turnRight_any t6 ⟨⟨v1, v2, v3, v4⟩, ha, hm⟩ hr h1 h2 h3 hnd c
        rw [nodeA_nf] at htr
        rw [decide_eq_false e2]
        clear n1 n2 n3 n4 n5 o1 o2 o3 o4 o5 hnd
        go_wp2_with (go_at_call 88; refine htr.mono ?_; rintro e w9 ⟨rfl, h9⟩)
        go_ret
        rw [hfx]
        exact ⟨rfl, h9.next K6.ownK (Same.refl s _) (fun y hy => hy)⟩
  · have d1 : ¬ (r.h : Int) + 1 < (l.h : Int) := by omega
    by_cases e3 : l.h + 1 < r.h
    · have d3 : (l.h : Int) + 1 < (r.h : Int) := by omega
      cases r with
      | nil => simp [Tr.h] at e3
      | node j m y a =>
        have hn := node_any t2 hr
        rw [Tr.flds_eq, nodeA_nf] at hn
        generalize hM : ((max m.h a.h + 1 : Nat) : Int) = M at hn
        generalize hlh : (Tr.node j m y a).h = lh at *
        have hj : (Tr.node j m y a).link = j := rfl
        rw [hj] at *
        go_upto_region 9 with (go_at_call 64; refine hn.mono ?_; rintro e w3 ⟨rfl, hk3⟩)
        have K4 : Keep (fun _ => False) w (w3.alloc (.cells (nodeA (nf m.link a.link M y)) 100)) := (K2.trans hk3).alloc _
        have A4 : Loc (w3.alloc (.cells (nodeA (nf m.link a.link M y)) 100)) w.heap.size l.link j c x := (L2.more hk3).more ((Keep.refl _ _).alloc _)
        have B4 := Loc.new w3 m.link a.link M y
        have hge : w.heap.size ≤ w3.heap.size := by have := hk3.size; have := K2.size; omega
        have hlt : w.heap.size < w3.heap.size := by have := World.block_lt_of_cell? _ _ (L2.more hk3).c0; exact this
        simp only [nodeA_nf] at K4 A4 B4
        generalize w3.alloc (.cells #[.int .u32 (m.link : Int), .int .u32 (a.link : Int), .int .i64 M, .int .i64 y.lba, .int .i64 y.len, .int .i64 y.phys] 100) = w4 at K4 A4 B4 ⊢
        generalize w3.heap.size = g at hge hlt B4 ⊢
        clear hn hk3 L2 K2 t2 z1 z2
        have t4 := (h.more K4).drew
        obtain ⟨⟨v1, v2, v3, v4⟩, hm, ha⟩ := hr
        have hh4 := height_any t4 hm
        have hS : ∀ w', Keep (fun _ => False) w4.drew w' → w'.cell? ⟨g, 0, none⟩ = some (.int .u32 (m.link : Int)) ∧ w'.cell? ⟨g, 1, none⟩ = some (.int .u32 (a.link : Int)) :=
          fun w' hk => ⟨(B4.more (((Keep.refl _ _).drew).trans hk)).c0, (B4.more (((Keep.refl _ _).drew).trans hk)).c1⟩
        go_region_held3 (fun w' => w'.cell? ⟨g, 0, none⟩ = some (.int .u32 (m.link : Int)) ∧ w'.cell? ⟨g, 1, none⟩ = some (.int .u32 (a.link : Int))) (first | exact hS _ (Keep.refl _ _) | exact hS _ hk5 | exact hS _ (hk5.trans hk6)) ((go_at_call 86; first | (refine hh4.mono ?_; rintro e w5 ⟨rfl, hk5⟩) | (refine (height_any (t4.more hk5) ha).mono ?_; rintro e w6 ⟨rfl, hk6⟩)))
        have K6 := K4.trans (((Keep.refl _ _).drew).trans (hk5.trans hk6))
        have A6 := A4.more (((Keep.refl _ _).drew).trans (hk5.trans hk6))
        have B6 := B4.more (((Keep.refl _ _).drew).trans (hk5.trans hk6))
        have t6 := h.more K6
        clear hS hh4 t4 A4 B4 K4 hk5 hk6
        have hg : ¬ Own p k g := h.out hN1 hge
        obtain ⟨o1, o2, o3, o4, o5⟩ := nd_node.1 n2
        obtain ⟨q0, q1, q2, q3, q4, q5⟩ := A6.six
        obtain ⟨p0, p1, p2, p3, p4, p5⟩ := B6.six
        by_cases e2 : a.h < m.h
        · cases m with
          | nil => simp [Tr.h] at e2
          | node q m1 z m2 =>
            have hfx := Tr.fixB1 (i := i) (x := x) (hlh.symm ▸ e1) (hlh.symm ▸ e3) e2
            have htl := turnRight_any t6 hm ha v1 v2 v3 n2 M
            rw [nodeA_nf] at htl
            rw [decide_eq_true e2]
            have hq : (Tr.node q m1 z m2).link = q := rfl
            have hj : (Tr.node j (Tr.node q m1 z m2) y a).link = j := rfl
            rw [hq] at p0 B6 ⊢
            rw [hj]
            generalize (Tr.node q m1 z m2).h = mh
            go_upto_region 11 with (go_at_call 88; refine htl.mono ?_; rintro e w7 ⟨rfl, s7, t7, H7, S7, k7⟩; have zc := (A6.keep k7 hg0).c1; have zf := (A6.keep k7 hg0).fz (j := 1) (by omega))
            have A8 := (A6.keep k7 hg0).set1 q
            have K8 : Keep (Own p k) w (w7.setCell ⟨w.heap.size, 1, none⟩ (.int .u32 (q : Int))) := (K6.ownK.trans k7).setCell (p := ⟨w.heap.size, 1, none⟩) (Or.inr (Nat.le_refl _)) _
            have K78 : Keep (fun b => b = w.heap.size) w7 (w7.setCell ⟨w.heap.size, 1, none⟩ (.int .u32 (q : Int))) := (Keep.refl (fun b => b = w.heap.size) w7).setCell (p := ⟨w.heap.size, 1, none⟩) (Or.inl rfl) _
            obtain ⟨b1, b2, b3⟩ := h.lt hN1
            have t8 := t7.keep K78 (by omega) (by omega) (by omega)
            have hid : (Tr.node q m1 z (.node j m2 y a)).ids = (Tr.node j (.node q m1 z m2) y a).ids := Tr.rotR_ids (Tr.node j (.node q m1 z m2) y a)
            have R8 : Hang s7 l := S7.hang hl (fun y hy e => n5 y hy (hid ▸ e))
            have htr := turnLeft_any t8 R8 H7 h1 (by rw [S7.N]; exact h2) (by rw [S7.live]; exact h3) (nd_node.2 ⟨n1, by rw [hid]; exact n2, n3, by rw [hid]; exact n4, by rw [hid]; exact n5⟩) c (x := x)
            rw [nodeA_nf] at htr
            clear q0 q1 q2 q3 q4 q5 p0 p1 p2 p3 p4 p5 htl A6 B6
            obtain ⟨q0, q1, q2, q3, q4, q5⟩ := A8.six
            generalize w7.setCell ⟨w.heap.size, 1, none⟩ (.int .u32 (q : Int)) = w8 at A8 K8 K78 t8 htr q0 q1 q2 q3 q4 q5 ⊢
            clear A8 K78 zc zf n1 n2 n3 n4 n5 o1 o2 o3 o4 o5 hnd
            go_wp2_with (go_at_call 87; refine htr.mono ?_; rintro e w9 ⟨rfl, h9⟩)
            go_ret
            rw [hfx]
            exact ⟨rfl, h9.next K8 S7 (fun y hy => by rw [← hfx, Tr.fix_ids, mem_node, ← hid]; exact Or.inr (Or.inr hy))⟩
        · have hfx := Tr.fixB2 (i := i) (x := x) (hlh.symm ▸ e1) (hlh.symm ▸ e3) e2
          have htr := turnLeft_any t6 hl ⟨⟨v1, v2, v3, v4⟩, hm, ha⟩ h1 h2 h3 hnd c
          rw [nodeA_nf] at htr
          rw [decide_eq_false e2]
          clear n1 n2 n3 n4 n5 o1 o2 o3 o4 o5 hnd
          go_wp2_with (go_at_call 87; refine htr.mono ?_; rintro e w9 ⟨rfl, h9⟩)
          go_ret
          rw [hfx]
          exact ⟨rfl, h9.next K6.ownK (Same.refl s _) (fun y hy => hy)⟩
    · have d3 : ¬ (l.h : Int) + 1 < (r.h : Int) := by omega
      have hfx := Tr.fixC (i := i) (x := x) e1 e3
      have hset := set_any t2 hl hr h1 h2 h3 c x bl br
      have H9 := hl.above hr h1 h2 h3 n3 n4 x
      rw [nodeA_nf] at hset
      obtain ⟨q0, q1, q2, q3, q4, q5⟩ := L2.six
      clear n1 n2 n3 n4 n5 hnd
      go_wp2_with (go_at_call 89; refine hset.mono ?_; rintro e w9 ⟨rfl, hm9, hk9⟩)
      go_ret
      rw [hfx]
      exact ⟨rfl, _, t2.own hk9 hm9 rfl, H9, Same.set s (by simp [mem_node]) _, K2.ownK.trans hk9⟩
end Tg
end Go.Proofs.Ytkddonmddgfpnaa
namespace Go.Proofs.Ytkddonmddgfpnaa
namespace Tg
theorem Tr.fixIds (t : Tr) : t.fix.ids = t.ids := by unfold Tr.ids; rw [Tr.fix_seq]
namespace Tr

/-- Two branches made one: the first node of the right one takes the place. -/
def join (l : Tr) : Tr → Tr
  | nil => l
  | node i a x c => fix (node (pop (node i a x c) nil).1 l (pop (node i a x c) nil).2.1 (pop (node i a x c) nil).2.2)
/-- A tree without the run with that Lba. -/
def del (k : Int) : Tr → Tr
  | nil => nil
  | node i l x r => if x.lba = k then join l r else if k < x.lba then fix (node i (del k l) x r) else fix (node i l x (del k r))
/-- The node of the run with that Lba; 0: none. -/
def idOf (k : Int) : Tr → Nat
  | nil => 0
  | node i l x r => if x.lba = k then i else if k < x.lba then idOf k l else idOf k r
/-- Is a run with that Lba met on the way down? -/
def Has (k : Int) : Tr → Prop
  | nil => False
  | node _ l x r => x.lba = k ∨ (k < x.lba ∧ Has k l) ∨ (x.lba < k ∧ Has k r)

theorem join_seq (l r : Tr) : (join l r).seq = l.seq ++ r.seq := by
  cases r with
  | nil => simp [join, seq]
  | node i a x c => rw [join, fix_seq, pop_seq i a x c nil, seq]
theorem join_ids (l r : Tr) : (join l r).ids = l.ids ++ r.ids := by unfold ids; rw [join_seq]; simp
theorem pop_ids (i : Nat) (l : Tr) (x : Rn) (r d : Tr) : (node i l x r).ids = (pop (node i l x r) d).1 :: (pop (node i l x r) d).2.2.ids := by
  unfold ids; rw [pop_seq i l x r d]; rfl
theorem join_bal {l r : Tr} (hl : l.Bal) (hr : r.Bal) (h1 : l.h ≤ r.h + 1) (h2 : r.h ≤ l.h + 1) : (join l r).Bal ∧ max l.h r.h ≤ (join l r).h ∧ (join l r).h ≤ max l.h r.h + 1 := by
  cases r with
  | nil => simp only [join]; refine ⟨hl, ?_, ?_⟩ <;> simp only [h] at * <;> omega
  | node i a x c =>
    rw [join]
    obtain ⟨k1, k2, k3⟩ := pop_bal i a x c nil hr
    have := fix_bal (i := (pop (node i a x c) nil).1) (x := (pop (node i a x c) nil).2.1) hl k1 (by omega) (by omega)
    refine ⟨this.1, ?_, ?_⟩
    · by_cases e : l.h ≤ (pop (node i a x c) nil).2.2.h + 1
      · have := this.2.2.2 e (by omega); omega
      · have := this.2.1; omega
    · have := this.2.2.1; omega
theorem del_bal (k : Int) : ∀ t : Tr, t.Bal → (t.del k).Bal ∧ t.h ≤ (t.del k).h + 1 ∧ (t.del k).h ≤ t.h
  | nil, _ => by simp [del, Bal, h]
  | node i l x r, hb => by
    simp only [Bal] at hb
    rw [del]
    split
    · obtain ⟨k1, k2, k3⟩ := join_bal hb.1 hb.2.1 hb.2.2.1 hb.2.2.2
      refine ⟨k1, ?_, ?_⟩ <;> simp only [h] <;> omega
    · split
      · obtain ⟨k1, k2, k3⟩ := del_bal k l hb.1
        have := fix_bal (i := i) (x := x) k1 hb.2.1 (by omega) (by omega)
        refine ⟨this.1, ?_, ?_⟩
        · simp only [h]
          by_cases e : r.h ≤ (del k l).h + 1
          · have := this.2.2.2 (by omega) e; omega
          · have := this.2.1; omega
        · simp only [h]
          by_cases e : r.h ≤ (del k l).h + 1
          · have := this.2.2.2 (by omega) e; omega
          · have := this.2.2.1; omega
      · obtain ⟨k1, k2, k3⟩ := del_bal k r hb.2.1
        have := fix_bal (i := i) (x := x) hb.1 k1 (by omega) (by omega)
        refine ⟨this.1, ?_, ?_⟩
        · simp only [h]
          by_cases e : l.h ≤ (del k r).h + 1
          · have := this.2.2.2 e (by omega); omega
          · have := this.2.1; omega
        · simp only [h]
          by_cases e : l.h ≤ (del k r).h + 1
          · have := this.2.2.2 e (by omega); omega
          · have := this.2.2.1; omega

/-- A row of nodes without those with that Lba. -/
def cutL (k : Int) (m : List (Nat × Rn)) : List (Nat × Rn) := m.filter (fun z => z.2.lba != k)
theorem cutL_id {k : Int} {m : List (Nat × Rn)} (hm : ∀ z ∈ m, z.2.lba ≠ k) : cutL k m = m := by
  unfold cutL; rw [List.filter_eq_self]; intro z hz; simpa using hm z hz
theorem del_seq (k : Int) : ∀ t : Tr, t.Ord → (t.del k).seq = cutL k t.seq
  | nil, _ => rfl
  | node i l x r, ho => by
    have ho' := List.pairwise_append.1 (show (l.seq ++ (i, x) :: r.seq).Pairwise _ from ho)
    have hc := List.pairwise_cons.1 ho'.2.1
    have hlt : ∀ z ∈ l.seq, z.2.lba < x.lba := fun z hz => ho'.2.2 z hz (i, x) (by simp)
    have hgt : ∀ z ∈ r.seq, x.lba < z.2.lba := fun z hz => hc.1 z hz
    have hsp : cutL k (node i l x r).seq = cutL k l.seq ++ (cutL k [(i, x)] ++ cutL k r.seq) := by
      simp only [cutL, seq]; rw [← List.filter_append, ← List.filter_append]; rfl
    rw [hsp, del]
    split
    · next e =>
      rw [join_seq, cutL_id (fun z hz => by have := hlt z hz; omega), cutL_id (m := r.seq) (fun z hz => by have := hgt z hz; omega)]
      simp [cutL, e]
    · next e =>
      have e1 : cutL k [(i, x)] = [(i, x)] := cutL_id (by simpa using e)
      rw [e1]
      split
      · next e2 =>
        rw [fix_seq, cutL_id (m := r.seq) (fun z hz => by have := hgt z hz; omega)]
        simp only [seq]
        rw [del_seq k l ho'.1]; rfl
      · next e2 =>
        rw [fix_seq, cutL_id (m := l.seq) (fun z hz => by have := hlt z hz; omega)]
        simp only [seq]
        rw [del_seq k r hc.2]; rfl

theorem del_sub (k : Int) : ∀ t : Tr, (t.del k).ids.Sublist t.ids
  | nil => List.Sublist.refl _
  | node i l x r => by
    rw [del]
    split
    · rw [join_ids, ids_node]; exact (List.Sublist.refl _).append (List.sublist_cons_self _ _)
    · split
      · rw [fixIds, ids_node, ids_node]; exact (del_sub k l).append (List.Sublist.refl _)
      · rw [fixIds, ids_node, ids_node]; exact (List.Sublist.refl _).append ((del_sub k r).cons_cons _)

theorem idOf_has {k : Int} : ∀ {t : Tr}, (∀ z ∈ t.ids, 1 ≤ z) → (t.Has k ↔ t.idOf k ≠ 0)
  | nil, _ => by simp [Has, idOf]
  | node i l x r, hz => by
    rw [ids_node] at hz
    have hi := hz i (by simp)
    have h1 := idOf_has (k := k) (t := l) (fun z h => hz z (by simp [h]))
    have h2 := idOf_has (k := k) (t := r) (fun z h => hz z (by simp [h]))
    rw [Has, idOf]
    split
    · next e => exact ⟨fun _ => by omega, fun _ => Or.inl e⟩
    · next e =>
      split
      · next e2 =>
        rw [← h1]
        exact ⟨fun q => by rcases q with q | q | q; exact absurd q e; exact q.2; omega, fun q => Or.inr (Or.inl ⟨e2, q⟩)⟩
      · next e2 =>
        rw [← h2]
        exact ⟨fun q => by rcases q with q | q | q; exact absurd q e; omega; exact q.2, fun q => Or.inr (Or.inr ⟨by omega, q⟩)⟩
theorem idOf_mem {k : Int} : ∀ {t : Tr}, t.Has k → t.idOf k ∈ t.ids
  | nil, q => q.elim
  | node i l x r, q => by
    rw [idOf, ids_node]
    split
    · simp
    · next e =>
      split
      · next e2 => rcases q with q | q | q; exact absurd q e; (have := idOf_mem q.2; simp [this]); omega
      · next e2 => rcases q with q | q | q; exact absurd q e; omega; (have := idOf_mem q.2; simp [this])
theorem idOf_gone {k : Int} : ∀ {t : Tr}, t.Has k → t.ids.Nodup → t.idOf k ∉ (t.del k).ids
  | nil, q, _ => q.elim
  | node i l x r, q, hn => by
    obtain ⟨n1, n2, n3, n4, n5⟩ := nd_node.1 hn
    rw [idOf, del]
    split
    · rw [join_ids]; simp [n3, n4]
    · next e =>
      split
      · next e2 =>
        have ql : l.Has k := by rcases q with q | q | q; exact absurd q e; exact q.2; omega
        have hm := idOf_mem ql
        rw [fixIds, mem_node]
        rintro (a | a | a)
        · exact idOf_gone ql n1 a
        · rw [a] at hm; exact n3 hm
        · exact n5 _ hm a
      · next e2 =>
        have qr : r.Has k := by rcases q with q | q | q; exact absurd q e; omega; exact q.2
        have hm := idOf_mem qr
        rw [fixIds, mem_node]
        rintro (a | a | a)
        · exact n5 _ a hm
        · rw [a] at hm; exact n4 hm
        · exact idOf_gone qr n2 a
/-- In an ordered tree a run is met if it is there. -/
theorem has_iff {k : Int} : ∀ {t : Tr}, t.Ord → (t.Has k ↔ ∃ z ∈ t.seq, z.2.lba = k)
  | nil, _ => by simp [Has, seq]
  | node i l x r, ho => by
    have ho' := List.pairwise_append.1 (show (l.seq ++ (i, x) :: r.seq).Pairwise _ from ho)
    have hc := List.pairwise_cons.1 ho'.2.1
    have hlt : ∀ z ∈ l.seq, z.2.lba < x.lba := fun z hz => ho'.2.2 z hz (i, x) (by simp)
    have hgt : ∀ z ∈ r.seq, x.lba < z.2.lba := fun z hz => hc.1 z hz
    rw [Has, has_iff (t := l) ho'.1, has_iff (t := r) hc.2]
    constructor
    · rintro (q | ⟨q, z, hz, e⟩ | ⟨q, z, hz, e⟩)
      · exact ⟨(i, x), by simp [seq], q⟩
      · exact ⟨z, by simp [seq, hz], e⟩
      · exact ⟨z, by simp [seq, hz], e⟩
    · rintro ⟨z, hz, e⟩
      simp only [seq, List.mem_append, List.mem_cons] at hz
      rcases hz with hz | rfl | hz
      · have := hlt z hz; exact Or.inr (Or.inl ⟨by omega, z, hz, e⟩)
      · exact Or.inl e
      · have := hgt z hz; exact Or.inr (Or.inr ⟨by omega, z, hz, e⟩)

theorem mem_ins {n : Nat} {v : Rn} {z : Nat} : ∀ {t : Tr}, z ∈ (t.ins n v).ids ↔ z = n ∨ z ∈ t.ids
  | nil => by rw [ins, mem_node]; simp [ids, seq]
  | node i l x r => by
    rw [ins]
    split
    · rw [fixIds, mem_node, mem_node, mem_ins (t := l)]; constructor
      · rintro ((h | h) | h | h) <;> simp [h]
      · rintro (h | h | h | h) <;> simp [h]
    · rw [fixIds, mem_node, mem_node, mem_ins (t := r)]; constructor
      · rintro (h | h | h | h) <;> simp [h]
      · rintro (h | h | h | h) <;> simp [h]
theorem ins_nd {n : Nat} {v : Rn} : ∀ {t : Tr}, t.ids.Nodup → n ∉ t.ids → (t.ins n v).ids.Nodup
  | nil, _, _ => by rw [ins]; simp [ids, seq]
  | node i l x r, hn, hz => by
    obtain ⟨n1, n2, n3, n4, n5⟩ := nd_node.1 hn
    rw [mem_node] at hz
    rw [ins]
    split
    · rw [fixIds, nd_node]
      refine ⟨ins_nd n1 (fun e => hz (Or.inl e)), n2, ?_, n4, ?_⟩
      · rw [mem_ins]; rintro (e | e); exact hz (Or.inr (Or.inl e.symm)); exact n3 e
      · intro y hy e
        rcases mem_ins.1 hy with rfl | hy
        · exact hz (Or.inr (Or.inr e))
        · exact n5 y hy e
    · rw [fixIds, nd_node]
      refine ⟨n1, ins_nd n2 (fun e => hz (Or.inr (Or.inr e))), n3, ?_, ?_⟩
      · rw [mem_ins]; rintro (e | e); exact hz (Or.inr (Or.inl e.symm)); exact n4 e
      · intro y hy e
        rcases mem_ins.1 e with rfl | e
        · exact hz (Or.inl hy)
        · exact n5 y hy e
end Tr
end Tg
end Go.Proofs.Ytkddonmddgfpnaa
namespace Go.Proofs.Ytkddonmddgfpnaa
open Go.ChangeShapes Go.WideShapes Go.ChangeAt Go.RowKit
namespace Tg

set_option maxRecDepth 100000 in
set_option maxHeartbeats 1000000 in
theorem hang_any {n : Nat} {v : Rn} : ∀ (t : Tr) {w : World} {b p k : Nat} {s : Ar}, Tb w b p k s → Hang s t → Hang s (.node n .nil v .nil) → t.ids.Nodup → n ∉ t.ids →
    Calls Try.prog 81 #[.pointer (some ⟨b, 0, none⟩), .int .u32 (t.link : Int), .int .u32 (n : Int), .int .i64 v.lba] w fun e w' => e = .returned (.int .u32 ((t.ins n v).link : Int)) ∧ Aft w b p k s (t.ins n v) w' := by
  intro t
  induction t with
  | nil =>
    intro w b p k s h ht hv hn hz
    have h0 : (Tr.nil.link : Int) = 0 := rfl
    rw [h0]
    go_enter Try.func81, Try.ntmps81
    go_wp2_with fail
    go_ret
    exact ⟨rfl, s, h, hv, Same.refl _ _, Keep.refl _ _⟩
  | node i l x r il ir =>
    intro w b p k s h ht hv hn hz
    have hnd := node_any h ht
    obtain ⟨⟨v1, v2, v3, v4⟩, hl, hr⟩ := ht
    obtain ⟨n1, n2, n3, n4, n5⟩ := nd_node.1 hn
    rw [mem_node] at hz
    rw [Tr.flds_eq, nodeA_nf] at hnd
    generalize hM : ((max l.h r.h + 1 : Nat) : Int) = M at hnd
    have hi : (Tr.node i l x r).link = i := rfl
    rw [hi] at hnd
    rw [hi]
    have d0 : ((i : Int) == 0) = false := by simp; omega
    have hN1 : 1 ≤ s.N := by omega
    go_enter Try.func81, Try.ntmps81
    go_upto_region 4 with (go_at_call 64; refine hnd.mono ?_; rintro e w1 ⟨rfl, hk1⟩)
    have K2 : Keep (fun _ => False) w (w1.alloc (.cells (nodeA (nf l.link r.link M x)) 100)) := hk1.alloc _
    have L2 := Loc.new w1 l.link r.link M x
    simp only [nodeA_nf] at K2 L2
    generalize w1.alloc (.cells #[.int .u32 (l.link : Int), .int .u32 (r.link : Int), .int .i64 M, .int .i64 x.lba, .int .i64 x.len, .int .i64 x.phys] 100) = w2 at K2 L2 ⊢
    have hge := hk1.size
    generalize w1.heap.size = g at hge L2 ⊢
    clear hnd hk1
    have hg : ¬ Own p k g := h.out hN1 hge
    have t2 := h.more K2
    obtain ⟨b1, b2, b3⟩ := h.lt hN1
    have z0 := L2.c0
    have z1 := L2.c1
    have z3 := L2.c3
    by_cases e : v.lba < x.lba
    · have hrec := il t2 hl hv n1 (fun q => hz (Or.inl q))
      go_upto_region 7 with (go_at_call 81; refine hrec.mono ?_; rintro e w3 ⟨rfl, s3, t3, H3, S3, k3⟩; have y0 := (L2.keep k3 hg).c0; have yf := (L2.keep k3 hg).fz (j := 0) (by omega))
      have L4 := (L2.keep k3 hg).set0 (Tr.ins n v l).link
      have K4 : Keep (Own p k) w (w3.setCell ⟨g, 0, none⟩ (.int .u32 ((Tr.ins n v l).link : Int))) := (K2.ownK.trans k3).setCell (p := ⟨g, 0, none⟩) (Or.inr hge) _
      have K34 : Keep (fun b => b = g) w3 (w3.setCell ⟨g, 0, none⟩ (.int .u32 ((Tr.ins n v l).link : Int))) := (Keep.refl (fun b => b = g) w3).setCell (p := ⟨g, 0, none⟩) (Or.inl rfl) _
      have t4 := t3.keep K34 (by omega) (by omega) (by omega)
      have hfx : (Tr.node i l x r).ins n v = (Tr.node i (Tr.ins n v l) x r).fix := by rw [Tr.ins, if_pos e]
      have R3 : Hang s3 r := S3.hang hr (fun y hy q => by rcases Tr.mem_ins.1 q with rfl | q; exact hz (Or.inr (Or.inr hy)); exact n5 y q hy)
      have hse := settle_any t4 H3 R3 v1 (by rw [S3.N]; exact v2) (by rw [S3.live]; exact v3) (nd_node.2 ⟨Tr.ins_nd n1 (fun q => hz (Or.inl q)), n2, fun q => by (rcases Tr.mem_ins.1 q with q | q; exact hz (Or.inr (Or.inl q.symm)); exact n3 q), n4, fun y hy q => by (rcases Tr.mem_ins.1 hy with rfl | hy; exact hz (Or.inr (Or.inr q)); exact n5 y hy q)⟩) M (x := x)
      rw [nodeA_nf] at hse
      obtain ⟨q0, q1, q2, q3, q4, q5⟩ := L4.six
      generalize w3.setCell ⟨g, 0, none⟩ (.int .u32 ((Tr.ins n v l).link : Int)) = w4 at L4 K4 K34 t4 hse q0 q1 q2 q3 q4 q5 ⊢
      clear y0 yf z0 z1 z3 L4 K34 il ir hrec L2
      go_wp2_with (go_at_call 84; refine hse.mono ?_; rintro e w5 ⟨rfl, h5⟩)
      go_ret
      rw [hfx]
      exact ⟨rfl, h5.next K4 S3 (fun y hy => by rw [Tr.fix_ids, mem_node]; exact Or.inl hy)⟩
    · have hrec := ir t2 hr hv n2 (fun q => hz (Or.inr (Or.inr q)))
      go_upto_region 7 with (go_at_call 81; refine hrec.mono ?_; rintro e w3 ⟨rfl, s3, t3, H3, S3, k3⟩; have y0 := (L2.keep k3 hg).c1; have yf := (L2.keep k3 hg).fz (j := 1) (by omega))
      have L4 := (L2.keep k3 hg).set1 (Tr.ins n v r).link
      have K4 : Keep (Own p k) w (w3.setCell ⟨g, 1, none⟩ (.int .u32 ((Tr.ins n v r).link : Int))) := (K2.ownK.trans k3).setCell (p := ⟨g, 1, none⟩) (Or.inr hge) _
      have K34 : Keep (fun b => b = g) w3 (w3.setCell ⟨g, 1, none⟩ (.int .u32 ((Tr.ins n v r).link : Int))) := (Keep.refl (fun b => b = g) w3).setCell (p := ⟨g, 1, none⟩) (Or.inl rfl) _
      have t4 := t3.keep K34 (by omega) (by omega) (by omega)
      have hfx : (Tr.node i l x r).ins n v = (Tr.node i l x (Tr.ins n v r)).fix := by rw [Tr.ins, if_neg (by omega)]
      have R3 : Hang s3 l := S3.hang hl (fun y hy q => by rcases Tr.mem_ins.1 q with rfl | q; exact hz (Or.inl hy); exact n5 y hy q)
      have hse := settle_any t4 R3 H3 v1 (by rw [S3.N]; exact v2) (by rw [S3.live]; exact v3) (nd_node.2 ⟨n1, Tr.ins_nd n2 (fun q => hz (Or.inr (Or.inr q))), n3, fun q => by (rcases Tr.mem_ins.1 q with q | q; exact hz (Or.inr (Or.inl q.symm)); exact n4 q), fun y hy q => by (rcases Tr.mem_ins.1 q with rfl | q; exact hz (Or.inl hy); exact n5 y hy q)⟩) M (x := x)
      rw [nodeA_nf] at hse
      obtain ⟨q0, q1, q2, q3, q4, q5⟩ := L4.six
      generalize w3.setCell ⟨g, 1, none⟩ (.int .u32 ((Tr.ins n v r).link : Int)) = w4 at L4 K4 K34 t4 hse q0 q1 q2 q3 q4 q5 ⊢
      clear y0 yf z0 z1 z3 L4 K34 il ir hrec L2
      go_wp2_with (go_at_call 84; refine hse.mono ?_; rintro e w5 ⟨rfl, h5⟩)
      go_ret
      rw [hfx]
      exact ⟨rfl, h5.next K4 S3 (fun y hy => by rw [Tr.fix_ids, mem_node]; exact Or.inr (Or.inr hy))⟩
end Tg
end Go.Proofs.Ytkddonmddgfpnaa
namespace Go.Proofs.Ytkddonmddgfpnaa
open Go.ChangeShapes Go.WideShapes Go.ChangeAt Go.RowKit
namespace Tg

theorem Keep.drewN {S : Nat → Prop} {a w : World} (h : Keep S a w) (n : Nat) : Keep S a (w.drewN n) := ⟨h.os, h.tape, h.output, h.size, h.block⟩

set_option maxRecDepth 100000 in
/-- The first node's run lies in its fields. -/
theorem Hang.first {s : Ar} : ∀ {i : Nat} {l : Tr} {x : Rn} {r : Tr}, Hang s (.node i l x r) → ∃ A B C, (1 ≤ (Tr.pop (.node i l x r) .nil).1 ∧ (Tr.pop (.node i l x r) .nil).1 ≤ s.N ∧ s.live (Tr.pop (.node i l x r) .nil).1 = true) ∧ ∀ j, j < 6 → s.fld (Tr.pop (.node i l x r) .nil).1 j = nf A B C (Tr.pop (.node i l x r) .nil).2.1 j
  | i, .nil, x, r, h => by
    obtain ⟨⟨v1, v2, v3, v4⟩, _⟩ := h
    exact ⟨0, r.link, _, ⟨v1, v2, v3⟩, fun j hj => by rw [show (Tr.pop (.node i .nil x r) .nil).1 = i from rfl, v4 j hj, Tr.flds_nf]; rfl⟩
  | i, .node j a y m, x, r, h => Hang.first (i := j) (l := a) (x := y) (r := m) h.2.1

set_option maxRecDepth 100000 in
set_option maxHeartbeats 1000000 in
theorem cutFirst_any : ∀ (l : Tr) {i : Nat} {x : Rn} {r : Tr} {w : World} {b p k : Nat} {s : Ar}, Tb w b p k s → Hang s (.node i l x r) → (Tr.node i l x r).ids.Nodup →
    Calls Try.prog 85 #[.pointer (some ⟨b, 0, none⟩), .int .u32 (i : Int)] w fun e w' => e = .returned (.tuple #[.int .u32 ((Tr.pop (.node i l x r) .nil).1 : Int), .int .u32 ((Tr.pop (.node i l x r) .nil).2.2.link : Int)]) ∧ Aft w b p k s (Tr.pop (.node i l x r) .nil).2.2 w' := by
  intro l
  induction l with
  | nil =>
    intro i x r w b p k s h ht hn
    have hnd := node_any h ht
    obtain ⟨⟨v1, v2, v3, v4⟩, hl, hr⟩ := ht
    rw [Tr.flds_eq, nodeA_nf] at hnd
    generalize hM : ((max Tr.nil.h r.h + 1 : Nat) : Int) = M at hnd
    have h0 : (Tr.nil.link : Int) = 0 := rfl
    rw [h0] at hnd
    have hi : (Tr.node i .nil x r).link = i := rfl
    rw [hi] at hnd
    go_enter Try.func85, Try.ntmps85
    go_wp2_with (go_at_call 64; refine hnd.mono ?_; rintro e w1 ⟨rfl, hk1⟩)
    go_quiet (fail)
    go_wp2_with fail
    have K2 := (hk1.alloc (.cells #[.int .u32 0, .int .u32 (r.link : Int), .int .i64 M, .int .i64 x.lba, .int .i64 x.len, .int .i64 x.phys] 100)).drewN nq
    go_ret2
    exact ⟨rfl, s, h.more K2, hr, Same.refl _ _, K2.ownK⟩
  | node j a y m ia im =>
    intro i x r w b p k s h ht hn
    have hnd := node_any h ht
    obtain ⟨⟨v1, v2, v3, v4⟩, hl, hr⟩ := ht
    obtain ⟨n1, n2, n3, n4, n5⟩ := nd_node.1 hn
    rw [Tr.flds_eq, nodeA_nf] at hnd
    generalize hM : ((max (Tr.node j a y m).h r.h + 1 : Nat) : Int) = M at hnd
    have hi : (Tr.node i (.node j a y m) x r).link = i := rfl
    have hj : (Tr.node j a y m).link = j := rfl
    rw [hi, hj] at hnd
    have v1' := hl.1.1
    have d0 : ((j : Int) == 0) = false := by simp; omega
    have hN1 : 1 ≤ s.N := by omega
    obtain ⟨f, fx, u, hP⟩ : ∃ f fx u, Tr.pop (.node j a y m) .nil = (f, fx, u) := ⟨_, _, _, rfl⟩
    have hpi := Tr.pop_ids j a y m .nil
    rw [hP] at hpi
    have hpop : Tr.pop (.node i (.node j a y m) x r) .nil = (f, fx, (Tr.node i u x r).fix) := by
      rw [show Tr.pop (.node i (.node j a y m) x r) .nil = ((Tr.pop (.node j a y m) .nil).1, (Tr.pop (.node j a y m) .nil).2.1, (Tr.node i (Tr.pop (.node j a y m) .nil).2.2 x r).fix) from rfl, hP]
    rw [hpop]
    go_enter Try.func85, Try.ntmps85
    go_upto_region 2 with (go_at_call 64; refine hnd.mono ?_; rintro e w1 ⟨rfl, hk1⟩)
    have K2 : Keep (fun _ => False) w (w1.alloc (.cells (nodeA (nf j r.link M x)) 100)) := hk1.alloc _
    have L2 := Loc.new w1 j r.link M x
    simp only [nodeA_nf] at K2 L2
    generalize w1.alloc (.cells #[.int .u32 (j : Int), .int .u32 (r.link : Int), .int .i64 M, .int .i64 x.lba, .int .i64 x.len, .int .i64 x.phys] 100) = w2 at K2 L2 ⊢
    have hge := hk1.size
    generalize w1.heap.size = g at hge L2 ⊢
    clear hnd hk1
    have hg : ¬ Own p k g := h.out hN1 hge
    have t2 := h.more K2
    obtain ⟨b1, b2, b3⟩ := h.lt hN1
    have z0 := L2.c0
    have hrec := ia t2 hl n1
    rw [hP] at hrec
    rw [hpi] at n1 n3 n5
    obtain ⟨o1, o2⟩ := List.nodup_cons.1 n1
    go_upto_region 5 with (go_at_call 85; refine hrec.mono ?_; rintro e w3 ⟨rfl, s3, t3, H3, S3, k3⟩; have y0 := (L2.keep k3 hg).c0; have yf := (L2.keep k3 hg).fz (j := 0) (by omega))
    have L4 := (L2.keep k3 hg).set0 u.link
    have K4 : Keep (Own p k) w (w3.setCell ⟨g, 0, none⟩ (.int .u32 (u.link : Int))) := (K2.ownK.trans k3).setCell (p := ⟨g, 0, none⟩) (Or.inr hge) _
    have K34 : Keep (fun b => b = g) w3 (w3.setCell ⟨g, 0, none⟩ (.int .u32 (u.link : Int))) := (Keep.refl (fun b => b = g) w3).setCell (p := ⟨g, 0, none⟩) (Or.inl rfl) _
    have t4 := t3.keep K34 (by omega) (by omega) (by omega)
    have R3 : Hang s3 r := S3.hang hr (fun y hy q => n5 y (by simp [q]) hy)
    have hse := settle_any t4 H3 R3 v1 (by rw [S3.N]; exact v2) (by rw [S3.live]; exact v3) (nd_node.2 ⟨o2, n2, fun q => n3 (by simp [q]), n4, fun y hy q => n5 y (by simp [hy]) q⟩) M (x := x)
    rw [nodeA_nf] at hse
    obtain ⟨q0, q1, q2, q3, q4, q5⟩ := L4.six
    generalize w3.setCell ⟨g, 0, none⟩ (.int .u32 (u.link : Int)) = w4 at L4 K4 K34 t4 hse q0 q1 q2 q3 q4 q5 ⊢
    clear y0 yf z0 L4 K34 ia im hrec L2
    go_wp2_with (go_at_call 84; refine hse.mono ?_; rintro e w5 ⟨rfl, h5⟩)
    go_ret2
    exact ⟨rfl, h5.next K4 S3 (fun y hy => by rw [Tr.fix_ids, mem_node]; exact Or.inl hy)⟩

set_option maxRecDepth 100000 in
set_option maxHeartbeats 1000000 in
theorem join_any {l r : Tr} {w : World} {b p k : Nat} {s : Ar} (h : Tb w b p k s) (hl : Hang s l) (hr : Hang s r) (n1 : l.ids.Nodup) (n2 : r.ids.Nodup) (n5 : ∀ z ∈ l.ids, z ∉ r.ids) :
    Calls Try.prog 83 #[.pointer (some ⟨b, 0, none⟩), .int .u32 (l.link : Int), .int .u32 (r.link : Int)] w fun e w' => e = .returned (.int .u32 ((Tr.join l r).link : Int)) ∧ Aft w b p k s (Tr.join l r) w' := by
  cases r with
  | nil =>
    have h0 : (Tr.nil.link : Int) = 0 := rfl
    rw [h0]
    go_enter Try.func83, Try.ntmps83
    go_wp2_with fail
    go_ret
    exact ⟨rfl, s, h, hl, Same.refl _ _, Keep.refl _ _⟩
  | node i a x c =>
    have hcut := cutFirst_any a h hr n2
    obtain ⟨A, B, C, ⟨f1, f2, f3⟩, f4⟩ := hr.first
    have hpi := Tr.pop_ids i a x c .nil
    have v1 := hr.1.1
    have d0 : ((i : Int) == 0) = false := by simp; omega
    have hjo : Tr.join l (.node i a x c) = (Tr.node (Tr.pop (.node i a x c) .nil).1 l (Tr.pop (.node i a x c) .nil).2.1 (Tr.pop (.node i a x c) .nil).2.2).fix := rfl
    have hi : (Tr.node i a x c).link = i := rfl
    rw [hjo, hi]
    generalize Tr.pop (.node i a x c) .nil = P at hcut f1 f2 f3 f4 hpi ⊢
    obtain ⟨f, y, u⟩ := P
    simp only at hcut f1 f2 f3 f4 hpi ⊢
    rw [hpi] at n2 n5
    obtain ⟨o1, o2⟩ := List.nodup_cons.1 n2
    have hN1 : 1 ≤ s.N := by omega
    obtain ⟨b1, b2, b3⟩ := h.lt hN1
    go_enter Try.func83, Try.ntmps83
    go_upto_region 4 with (go_at_call 85; refine hcut.mono ?_; rintro e w1 ⟨rfl, s1, t1, H1, S1, k1⟩)
    have hnd := nodeAt_any t1 f1 (by rw [S1.N]; exact f2) (by rw [S1.live]; exact f3) (n := nf A B C y) (fun j hj => by rw [S1.fld f o1]; exact f4 j hj)
    rw [nodeA_nf] at hnd
    go_upto_region 5 with (go_at_call 64; refine hnd.mono ?_; rintro e w2 ⟨rfl, hk2⟩)
    have K3 : Keep (Own p k) w (w2.alloc (.cells (nodeA (nf A B C y)) 100)) := k1.trans (hk2.ownK.alloc _)
    have L3 := Loc.new w2 A B C y
    have hge : w.heap.size ≤ w2.heap.size := (k1.trans hk2.ownK).size
    have t3 := t1.more (hk2.alloc (.cells (nodeA (nf A B C y)) 100))
    simp only [nodeA_nf] at K3 L3 t3
    generalize w2.alloc (.cells #[.int .u32 (A : Int), .int .u32 (B : Int), .int .i64 C, .int .i64 y.lba, .int .i64 y.len, .int .i64 y.phys] 100) = w3 at K3 L3 t3 ⊢
    generalize w2.heap.size = g at hge L3 ⊢
    have z0 := L3.c0
    have z1 := L3.c1
    have y0 := L3.fz (j := 0) (by omega)
    have y1 := L3.fz (j := 1) (by omega)
    clear hnd hcut
    go_upto_region 6 with fail
    have L4 := (L3.set0 l.link).set1 u.link
    have K4 : Keep (Own p k) w ((w3.setCell ⟨g, 0, none⟩ (.int .u32 (l.link : Int))).setCell ⟨g, 1, none⟩ (.int .u32 (u.link : Int))) := (K3.setCell (p := ⟨g, 0, none⟩) (Or.inr hge) _).setCell (p := ⟨g, 1, none⟩) (Or.inr hge) _
    have K34 : Keep (fun b => b = g) w3 ((w3.setCell ⟨g, 0, none⟩ (.int .u32 (l.link : Int))).setCell ⟨g, 1, none⟩ (.int .u32 (u.link : Int))) := ((Keep.refl (fun b => b = g) w3).setCell (p := ⟨g, 0, none⟩) (Or.inl rfl) _).setCell (p := ⟨g, 1, none⟩) (Or.inl rfl) _
    have t4 := t3.keep K34 (by omega) (by omega) (by omega)
    have R1 : Hang s1 l := S1.hang hl (fun y hy q => n5 y hy (by simp [q]))
    have hse := settle_any t4 R1 H1 f1 (by rw [S1.N]; exact f2) (by rw [S1.live]; exact f3) (nd_node.2 ⟨n1, o2, fun q => n5 f q (by simp), o1, fun y hy q => n5 y hy (by simp [q])⟩) C (x := y)
    rw [nodeA_nf] at hse
    obtain ⟨q0, q1, q2, q3, q4, q5⟩ := L4.six
    generalize (w3.setCell ⟨g, 0, none⟩ (.int .u32 (l.link : Int))).setCell ⟨g, 1, none⟩ (.int .u32 (u.link : Int)) = w4 at L4 K4 K34 t4 hse q0 q1 q2 q3 q4 q5 ⊢
    clear z0 z1 y0 y1 L4 K34 L3
    go_wp2_with (go_at_call 84; refine hse.mono ?_; rintro e w5 ⟨rfl, h5⟩)
    go_ret
    exact ⟨rfl, h5.next K4 S1 (fun y hy => by rw [Tr.fix_ids, mem_node]; exact Or.inr (Or.inr hy))⟩

set_option maxRecDepth 100000 in
set_option maxHeartbeats 1000000 in
theorem unhang_any {v : Int} : ∀ (t : Tr) {w : World} {b p k : Nat} {s : Ar}, Tb w b p k s → Hang s t → t.ids.Nodup → t.Has v →
    Calls Try.prog 77 #[.pointer (some ⟨b, 0, none⟩), .int .u32 (t.link : Int), .int .i64 v] w fun e w' => e = .returned (.int .u32 ((t.del v).link : Int)) ∧ Aft w b p k s (t.del v) w' := by
  intro t
  induction t with
  | nil => intro w b p k s h ht hn hz; exact hz.elim
  | node i l x r il ir =>
    intro w b p k s h ht hn hz
    have hnd := node_any h ht
    obtain ⟨⟨v1, v2, v3, v4⟩, hl, hr⟩ := ht
    obtain ⟨n1, n2, n3, n4, n5⟩ := nd_node.1 hn
    rw [Tr.flds_eq, nodeA_nf] at hnd
    generalize hM : ((max l.h r.h + 1 : Nat) : Int) = M at hnd
    have hi : (Tr.node i l x r).link = i := rfl
    rw [hi] at hnd
    rw [hi]
    have hN1 : 1 ≤ s.N := by omega
    go_enter Try.func77, Try.ntmps77
    go_upto_region 2 with (go_at_call 64; refine hnd.mono ?_; rintro e w1 ⟨rfl, hk1⟩)
    have K2 : Keep (fun _ => False) w (w1.alloc (.cells (nodeA (nf l.link r.link M x)) 100)) := hk1.alloc _
    have L2 := Loc.new w1 l.link r.link M x
    simp only [nodeA_nf] at K2 L2
    generalize w1.alloc (.cells #[.int .u32 (l.link : Int), .int .u32 (r.link : Int), .int .i64 M, .int .i64 x.lba, .int .i64 x.len, .int .i64 x.phys] 100) = w2 at K2 L2 ⊢
    have hge := hk1.size
    generalize w1.heap.size = g at hge L2 ⊢
    clear hnd hk1
    have hg : ¬ Own p k g := h.out hN1 hge
    have t2 := h.more K2
    obtain ⟨b1, b2, b3⟩ := h.lt hN1
    have z0 := L2.c0
    have z1 := L2.c1
    have z3 := L2.c3
    rcases hz with hz | ⟨hlt, hz⟩ | ⟨hlt, hz⟩
    · have hjo := join_any t2 hl hr n1 n2 n5
      have hfx : (Tr.node i l x r).del v = Tr.join l r := by rw [Tr.del, if_pos hz]
      have d0 : (x.lba == v) = true := by simp [hz]
      have hz' : Hid (x.lba = v) := hz
      clear hz il ir
      go_wp2_with (go_at_call 83; refine hjo.mono ?_; rintro e w5 ⟨rfl, h5⟩)
      go_ret
      rw [hfx]
      exact ⟨rfl, h5.next K2.ownK (Same.refl s _) (fun y hy => hy)⟩
    · have hrec := il t2 hl n1 hz
      have d0 : (x.lba == v) = false := by simp; omega
      go_upto_region 7 with (go_at_call 77; refine hrec.mono ?_; rintro e w3 ⟨rfl, s3, t3, H3, S3, k3⟩; have y0 := (L2.keep k3 hg).c0; have yf := (L2.keep k3 hg).fz (j := 0) (by omega))
      have L4 := (L2.keep k3 hg).set0 (Tr.del v l).link
      have K4 : Keep (Own p k) w (w3.setCell ⟨g, 0, none⟩ (.int .u32 ((Tr.del v l).link : Int))) := (K2.ownK.trans k3).setCell (p := ⟨g, 0, none⟩) (Or.inr hge) _
      have K34 : Keep (fun b => b = g) w3 (w3.setCell ⟨g, 0, none⟩ (.int .u32 ((Tr.del v l).link : Int))) := (Keep.refl (fun b => b = g) w3).setCell (p := ⟨g, 0, none⟩) (Or.inl rfl) _
      have t4 := t3.keep K34 (by omega) (by omega) (by omega)
      have hfx : (Tr.node i l x r).del v = (Tr.node i (Tr.del v l) x r).fix := by rw [Tr.del, if_neg (by omega), if_pos (by omega)]
      have hsub : ∀ z, z ∈ (Tr.del v l).ids → z ∈ l.ids := fun z q => (Tr.del_sub v l).subset q
      have R3 : Hang s3 r := S3.hang hr (fun y hy q => n5 y (hsub y q) hy)
      have hse := settle_any t4 H3 R3 v1 (by rw [S3.N]; exact v2) (by rw [S3.live]; exact v3) (nd_node.2 ⟨(Tr.del_sub v l).nodup n1, n2, fun q => n3 (hsub _ q), n4, fun y hy q => n5 y (hsub _ hy) q⟩) M (x := x)
      rw [nodeA_nf] at hse
      obtain ⟨q0, q1, q2, q3, q4, q5⟩ := L4.six
      generalize w3.setCell ⟨g, 0, none⟩ (.int .u32 ((Tr.del v l).link : Int)) = w4 at L4 K4 K34 t4 hse q0 q1 q2 q3 q4 q5 ⊢
      clear y0 yf z0 z1 z3 L4 K34 il ir hrec L2
      go_wp2_with (go_at_call 84; refine hse.mono ?_; rintro e w5 ⟨rfl, h5⟩)
      go_ret
      rw [hfx]
      exact ⟨rfl, h5.next K4 S3 (fun y hy => by rw [Tr.fix_ids, mem_node]; exact Or.inl hy)⟩
    · have hrec := ir t2 hr n2 hz
      have d0 : (x.lba == v) = false := by simp; omega
      have d1 : ¬ v < x.lba := by omega
      go_upto_region 7 with (go_at_call 77; refine hrec.mono ?_; rintro e w3 ⟨rfl, s3, t3, H3, S3, k3⟩; have y0 := (L2.keep k3 hg).c1; have yf := (L2.keep k3 hg).fz (j := 1) (by omega))
      have L4 := (L2.keep k3 hg).set1 (Tr.del v r).link
      have K4 : Keep (Own p k) w (w3.setCell ⟨g, 1, none⟩ (.int .u32 ((Tr.del v r).link : Int))) := (K2.ownK.trans k3).setCell (p := ⟨g, 1, none⟩) (Or.inr hge) _
      have K34 : Keep (fun b => b = g) w3 (w3.setCell ⟨g, 1, none⟩ (.int .u32 ((Tr.del v r).link : Int))) := (Keep.refl (fun b => b = g) w3).setCell (p := ⟨g, 1, none⟩) (Or.inl rfl) _
      have t4 := t3.keep K34 (by omega) (by omega) (by omega)
      have hfx : (Tr.node i l x r).del v = (Tr.node i l x (Tr.del v r)).fix := by rw [Tr.del, if_neg (by omega), if_neg (by omega)]
      have hsub : ∀ z, z ∈ (Tr.del v r).ids → z ∈ r.ids := fun z q => (Tr.del_sub v r).subset q
      have R3 : Hang s3 l := S3.hang hl (fun y hy q => n5 y hy (hsub y q))
      have hse := settle_any t4 R3 H3 v1 (by rw [S3.N]; exact v2) (by rw [S3.live]; exact v3) (nd_node.2 ⟨n1, (Tr.del_sub v r).nodup n2, n3, fun q => n4 (hsub _ q), fun y hy q => n5 y hy (hsub _ q)⟩) M (x := x)
      rw [nodeA_nf] at hse
      obtain ⟨q0, q1, q2, q3, q4, q5⟩ := L4.six
      generalize w3.setCell ⟨g, 1, none⟩ (.int .u32 ((Tr.del v r).link : Int)) = w4 at L4 K4 K34 t4 hse q0 q1 q2 q3 q4 q5 ⊢
      clear y0 yf z0 z1 z3 L4 K34 il ir hrec L2
      go_wp2_with (go_at_call 84; refine hse.mono ?_; rintro e w5 ⟨rfl, h5⟩)
      go_ret
      rw [hfx]
      exact ⟨rfl, h5.next K4 S3 (fun y hy => by rw [Tr.fix_ids, mem_node]; exact Or.inr (Or.inr hy))⟩
end Tg
end Go.Proofs.Ytkddonmddgfpnaa
