/-
  A tree in memory: its struct beside the arena; what node and height answer, what set makes.
-/
import Derived.Test.YtbdankhlbepjoaaHang
import Derived.Test.YtbdankhlbepjoaaNew
import Derived.Deep.RegionHeld3
namespace Go.Proofs.Ytbdankhlbepjoaa
open Go.ChangeShapes Go.WideShapes Go.ChangeAt Go.RowKit
namespace Tg

/-- The tree's struct lies in block b, over the arena in p and k. -/
structure Tb (w : World) (b p k : Nat) (s : Ar) : Prop where
  ptr : w.cell? ⟨b, 0, none⟩ = some (.pointer (some ⟨p, 0, none⟩))
  mem : Mem w p k s
  bp : b ≠ p
  bk : b ≠ k
  small : s.N ≤ 512

theorem Tb.keep {S : Nat → Prop} {w w' : World} {b p k : Nat} {s : Ar} (h : Tb w b p k s) (e : Keep S w w') (hb : ¬ S b) (hp : ¬ S p) (hk : ¬ S k) : Tb w' b p k s :=
  ⟨by rw [World.cell?_of_block (w := w) (a := ⟨b, 0, none⟩) (e.block b (World.block_lt_of_cell? w _ h.ptr) hb)]; exact h.ptr, h.mem.keep e hp hk, h.bp, h.bk, h.small⟩
theorem Tb.more {w w' : World} {b p k : Nat} {s : Ar} (h : Tb w b p k s) (e : Keep (fun _ => False) w w') : Tb w' b p k s := h.keep e (fun e => e) (fun e => e) (fun e => e)
theorem Tb.own {w w' : World} {b p k : Nat} {s t : Ar} (h : Tb w b p k s) (e : Keep (Own p k) w w') (hm : Mem w' p k t) (hN : t.N = s.N) : Tb w' b p k t :=
  ⟨by rw [World.cell?_of_block (w := w) (a := ⟨b, 0, none⟩) (e.block b (World.block_lt_of_cell? w _ h.ptr) (fun x => x.elim h.bp h.bk))]; exact h.ptr, hm, h.bp, h.bk, by rw [hN]; exact h.small⟩
theorem Tb.drew {w : World} {b p k : Nat} {s : Ar} (h : Tb w b p k s) : Tb w.drew b p k s := h.more ((Keep.refl _ _).drew)

theorem results_cell {fn : Func} {p : Tmp} {ty : TypeId} (h : fn.results = #[.cell p ty]) (tmps : Array Value) (P : Program) (w : World) :
    (results fn tmps).run P w = ((asAddr (tmps.getD p undef)).run P w).andThen fun a w₁ => (loadVar ty a).run P w₁ := by
  simp only [results, h]
  simp [Sem.run_bind, Result.andThen]
theorem field_h (a b c d e f : Value) (w : World) : (Instr.field 82 (.agg #[a, b, c, d, e, f]) 2).run Try.prog w = .ok c w := by
  simp [Instr.field, Go.part, asAgg, Result.andThen]
theorem field_run (a b c d e f : Value) (w : World) : (Instr.field 82 (.agg #[a, b, c, d, e, f]) 3).run Try.prog w = .ok (.agg #[d, e, f]) w := by
  simp [Instr.field, Go.part, asAgg, Result.andThen]

theorem Tr.flds_node (i : Nat) (l : Tr) (x : Rn) (r : Tr) : nodeA (Tr.node i l x r).flds = #[.int .u32 (l.link : Int), .int .u32 (r.link : Int), .int .i64 ((Tr.node i l x r).h : Int), .int .i64 x.lba, .int .i64 x.len, .int .i64 x.phys] := by
  rw [nodeA_lit]; simp [Tr.flds, Tr.h]
theorem Tr.flds_h (u : Tr) : u.flds 2 = (u.h : Int) := by cases u <;> simp [Tr.flds, Tr.h]

set_option maxRecDepth 100000 in
set_option maxHeartbeats 600000 in
theorem node_of {w : World} {b p k : Nat} {s : Ar} (h : Tb w b p k s) {i : Nat} {n : Nat → Int} (hg : ∀ w1, Mem w1 p k s → Calls Try.prog 72 #[.pointer (some ⟨p, 0, none⟩), .int .u32 (i : Int)] w1 fun e w' => (∃ v, e = .returned (.tuple #[.agg (nodeA n), .int .i64 v])) ∧ Keep (fun _ => False) w1 w') :
    Calls Try.prog 63 #[.pointer (some ⟨b, 0, none⟩), .int .u32 (i : Int)] w fun e w' => e = .returned (.agg (nodeA n)) ∧ Keep (fun _ => False) w w' := by
  have hk1 : Keep (fun _ => False) w (w.alloc (.cells (nodeA fun _ => 0) 82)) := (Keep.refl _ _).alloc _
  have h1 := h.more hk1
  have c1 := h1.ptr
  have hb := node_new w (fun _ => 0)
  have hget := hg _ h1.mem
  rw [node0] at hget c1
  clear h h1 hg
  go_enter Try.func63, Try.ntmps63
  go_wp2_with fail
  refine hget.mono ?_
  rintro e w1 ⟨⟨v, rfl⟩, hk2⟩
  rw [← node0] at hk2
  have hb1 := hb.keep hk2 (fun e => e)
  have hb2 := hb1.alloc (.cells (nodeA n) 82)
  have hst := store_node hb2 (o := 0) (by omega) n
  have hb3 := hb2.setCells 0 6 (fun j => nval j (n j)) (by omega)
  have hld := load_node hb3 (o := 0) (by omega) (n := n) (fun i hi => by rw [if_pos (by omega), Nat.zero_add, Nat.sub_zero])
  have hk3 : Keep (fun _ => False) w ((w1.alloc (.cells (nodeA n) 82)).setCells w.heap.size 0 ((List.range 6).map fun j => nval j (n j))) := ((hk1.trans hk2).alloc _).setCells (Or.inr (Nat.le_refl _)) _ _
  generalize (w1.alloc (.cells (nodeA n) 82)).setCells w.heap.size 0 ((List.range 6).map fun j => nval j (n j)) = w3 at hst hk3 hld
  rw [nodeA_lit] at hst hld
  rw [nodeA_lit]
  clear hget hb hb1 hb2 hb3 hk1 hk2 c1
  go_wp2_with (guard_target =~ wpList _ _ _ (Oper.mk _ (Op.store 82 (Operand.tmp 4) _) _ _ _ _ :: _) _ _; refine wpList_store_run rfl 82 (.tmp 4) (.tmp 16) rfl (by rfl) (by rfl) hst ?_)
  refine bodyPost_ret (v := .agg #[.int .u32 (n 0), .int .u32 (n 1), .int .i64 (n 2), .int .i64 (n 3), .int .i64 (n 4), .int .i64 (n 5)]) ?_ rfl ⟨rfl, hk3⟩
  rw [results_cell rfl]
  simp [Act.put, asAddr, Result.andThen, hld]

set_option maxRecDepth 100000 in
theorem node_any {w : World} {b p k : Nat} {s : Ar} (h : Tb w b p k s) {u : Tr} (hu : Hang s u) :
    Calls Try.prog 63 #[.pointer (some ⟨b, 0, none⟩), .int .u32 (u.link : Int)] w fun e w' => e = .returned (.agg (nodeA u.flds)) ∧ Keep (fun _ => False) w w' := by
  refine node_of h (fun w1 h1 => ?_)
  cases u with
  | nil =>
    refine (get_no h1 (x := 0) (by omega) h.small (by simp)).mono ?_
    rintro e w' ⟨rfl, hk⟩
    exact ⟨⟨_, rfl⟩, hk⟩
  | node i l x r =>
    obtain ⟨⟨h2, h3, h4, h5⟩, _⟩ := hu
    obtain ⟨q, rfl⟩ : ∃ q, i = q + 1 := ⟨i - 1, by omega⟩
    refine (get_any h1 (q := q) (by omega) h.small h4).mono ?_
    rintro e w' ⟨rfl, hk⟩
    exact ⟨⟨0, by rw [nodeA_congr h5]⟩, hk⟩
set_option maxRecDepth 100000 in
/-- node on a live node's number. -/
theorem nodeAt_any {w : World} {b p k : Nat} {s : Ar} (h : Tb w b p k s) {i : Nat} (h1 : 1 ≤ i) (h2 : i ≤ s.N) (h3 : s.live i = true) {n : Nat → Int} (hf : ∀ j, j < 6 → s.fld i j = n j) :
    Calls Try.prog 63 #[.pointer (some ⟨b, 0, none⟩), .int .u32 (i : Int)] w fun e w' => e = .returned (.agg (nodeA n)) ∧ Keep (fun _ => False) w w' := by
  refine node_of h (fun w1 hm => ?_)
  obtain ⟨q, rfl⟩ : ∃ q, i = q + 1 := ⟨i - 1, by omega⟩
  refine (get_any hm (q := q) (by omega) h.small h3).mono ?_
  rintro e w' ⟨rfl, hk⟩
  exact ⟨⟨0, by rw [nodeA_congr hf]⟩, hk⟩

set_option maxRecDepth 100000 in
theorem height_any {w : World} {b p k : Nat} {s : Ar} (h : Tb w b p k s) {u : Tr} (hu : Hang s u) :
    Calls Try.prog 77 #[.pointer (some ⟨b, 0, none⟩), .int .u32 (u.link : Int)] w fun e w' => e = .returned (.int .i64 (u.h : Int)) ∧ Keep (fun _ => False) w w' := by
  have hn := node_any h hu
  rw [nodeA_lit, Tr.flds_h] at hn
  clear h hu
  have hf := field_h
  go_enter Try.func77, Try.ntmps77
  go_wp2_with (go_at_call 63; refine hn.mono ?_; rintro e w1 ⟨rfl, hk⟩)
  go_ret
  exact ⟨rfl, hk⟩

/-- A node's fields: its two links, its height, its run. -/
def nf (a b : Nat) (c : Int) (x : Rn) (j : Nat) : Int := if j = 0 then (a : Int) else if j = 1 then (b : Int) else if j = 2 then c else if j = 3 then x.lba else if j = 4 then x.len else x.phys
set_option maxRecDepth 100000 in
theorem nodeA_nf (a b : Nat) (c : Int) (x : Rn) : nodeA (nf a b c x) = #[.int .u32 (a : Int), .int .u32 (b : Int), .int .i64 c, .int .i64 x.lba, .int .i64 x.len, .int .i64 x.phys] := rfl
/-- A variable of the call's own that holds a node. -/
def Loc (w : World) (g a b : Nat) (c : Int) (x : Rn) : Prop := Blk w g 6 (fun j => nval j (nf a b c x j))
theorem Loc.new (w : World) (a b : Nat) (c : Int) (x : Rn) : Loc (w.alloc (.cells (nodeA (nf a b c x)) 82)) w.heap.size a b c x := node_new w (nf a b c x)
theorem Loc.more {w w' : World} {g a b : Nat} {c : Int} {x : Rn} (h : Loc w g a b c x) (hk : Keep (fun _ => False) w w') : Loc w' g a b c x := Blk.keep h hk (fun e => e)
theorem Loc.keep {S : Nat → Prop} {w w' : World} {g a b : Nat} {c : Int} {x : Rn} (h : Loc w g a b c x) (hk : Keep S w w') (hs : ¬ S g) : Loc w' g a b c x := Blk.keep h hk hs
theorem Loc.c0 {w : World} {g a b : Nat} {c : Int} {x : Rn} (h : Loc w g a b c x) : w.cell? ⟨g, 0, none⟩ = some (.int .u32 (a : Int)) := (h 0 (by omega)).1
theorem Loc.c1 {w : World} {g a b : Nat} {c : Int} {x : Rn} (h : Loc w g a b c x) : w.cell? ⟨g, 1, none⟩ = some (.int .u32 (b : Int)) := (h 1 (by omega)).1
theorem Loc.c2 {w : World} {g a b : Nat} {c : Int} {x : Rn} (h : Loc w g a b c x) : w.cell? ⟨g, 2, none⟩ = some (.int .i64 c) := (h 2 (by omega)).1
theorem Loc.c3 {w : World} {g a b : Nat} {c : Int} {x : Rn} (h : Loc w g a b c x) : w.cell? ⟨g, 3, none⟩ = some (.int .i64 x.lba) := (h 3 (by omega)).1
theorem Loc.fz {w : World} {g a b : Nat} {c : Int} {x : Rn} (h : Loc w g a b c x) {j : Nat} (hj : j < 6) : w.frozen? ⟨g, j, none⟩ = false := (h j hj).2
theorem Loc.six {w : World} {g a b : Nat} {c : Int} {x : Rn} (h : Loc w g a b c x) : w.cell? ⟨g, 0, none⟩ = some (.int .u32 (a : Int)) ∧ w.cell? ⟨g, 1, none⟩ = some (.int .u32 (b : Int)) ∧ w.cell? ⟨g, 2, none⟩ = some (.int .i64 c) ∧ w.cell? ⟨g, 3, none⟩ = some (.int .i64 x.lba) ∧ w.cell? ⟨g, 4, none⟩ = some (.int .i64 x.len) ∧ w.cell? ⟨g, 5, none⟩ = some (.int .i64 x.phys) :=
  ⟨(h 0 (by omega)).1, (h 1 (by omega)).1, (h 2 (by omega)).1, (h 3 (by omega)).1, (h 4 (by omega)).1, (h 5 (by omega)).1⟩
theorem Tb.ptrK {w w' : World} {b p k : Nat} {s : Ar} (h : Tb w b p k s) (e : Keep (Own p k) w w') : w'.cell? ⟨b, 0, none⟩ = some (.pointer (some ⟨p, 0, none⟩)) := by
  rw [World.cell?_of_block (w := w) (a := ⟨b, 0, none⟩) (e.block b (World.block_lt_of_cell? w _ h.ptr) (fun x => x.elim h.bp h.bk))]; exact h.ptr
theorem Tb.lt {w : World} {b p k : Nat} {s : Ar} (h : Tb w b p k s) (h1 : 1 ≤ s.N) : b < w.heap.size ∧ p < w.heap.size ∧ k < w.heap.size :=
  ⟨World.block_lt_of_cell? w _ h.ptr, h.mem.top.lt (by omega), h.mem.blk.lt (by omega)⟩
theorem Tb.out {w : World} {b p k : Nat} {s : Ar} (h : Tb w b p k s) (h1 : 1 ≤ s.N) {g : Nat} (hg : w.heap.size ≤ g) : ¬ Own p k g := by
  have := h.lt h1
  rintro (e | e) <;> omega
theorem Loc.load {w : World} {g a b : Nat} {c : Int} {x : Rn} (h : Loc w g a b c x) : (Instr.loadAt 82 (.pointer (some ⟨g, 0, none⟩))).run Try.prog w = .ok (.agg (nodeA (nf a b c x))) w := loadAt_node h (o := 0) (by omega) (fun i _ => by rw [Nat.zero_add])
theorem Loc.set0 {w : World} {g a b : Nat} {c : Int} {x : Rn} (h : Loc w g a b c x) (v : Nat) : Loc (w.setCell ⟨g, 0, none⟩ (.int .u32 (v : Int))) g v b c x :=
  (Blk.set h 0 _).congr (fun i hi => by by_cases e : i = 0 <;> simp [e, nf, nval])
theorem Loc.set1 {w : World} {g a b : Nat} {c : Int} {x : Rn} (h : Loc w g a b c x) (v : Nat) : Loc (w.setCell ⟨g, 1, none⟩ (.int .u32 (v : Int))) g a v c x :=
  (Blk.set h 1 _).congr (fun i hi => by by_cases e : i = 1 <;> simp [e, nf, nval])
theorem Loc.set2 {w : World} {g a b : Nat} {c : Int} {x : Rn} (h : Loc w g a b c x) (v : Int) : Loc (w.setCell ⟨g, 2, none⟩ (.int .i64 v)) g a b v x :=
  (Blk.set h 2 _).congr (fun i hi => by by_cases e : i = 2 <;> simp [e, nf, nval])
set_option maxRecDepth 100000 in
theorem Tr.flds_nf (i : Nat) (l : Tr) (x : Rn) (r : Tr) (j : Nat) : (Tr.node i l x r).flds j = nf l.link r.link ((Tr.node i l x r).h : Int) x j := rfl
set_option maxRecDepth 100000 in
theorem Tr.flds_eq (i : Nat) (l : Tr) (x : Rn) (r : Tr) : (Tr.node i l x r).flds = nf l.link r.link ((max l.h r.h + 1 : Nat) : Int) x := rfl

set_option maxRecDepth 100000 in
set_option maxHeartbeats 600000 in
theorem set_any {w : World} {b p k : Nat} {s : Ar} (h : Tb w b p k s) {l r : Tr} (hl : Hang s l) (hr : Hang s r) {i : Nat} (h1 : 1 ≤ i) (h2 : i ≤ s.N) (h3 : s.live i = true) (c : Int) (x : Rn) (hb1 : l.h ≤ 512) (hb2 : r.h ≤ 512) :
    Calls Try.prog 80 #[.pointer (some ⟨b, 0, none⟩), .int .u32 (i : Int), .agg (nodeA (nf l.link r.link c x))] w fun e w' => e = .returned (.tuple #[]) ∧ Mem w' p k (s.set i (Tr.node i l x r).flds) ∧ Keep (Own p k) w w' := by
  obtain ⟨q, rfl⟩ : ∃ q, i = q + 1 := ⟨i - 1, by omega⟩
  have hk1 : Keep (fun _ => False) w (w.alloc (.cells (nodeA (nf l.link r.link c x)) 82)).drew := ((Keep.refl _ _).alloc _).drew
  have t1 := h.more hk1
  have L1 : Loc (w.alloc (.cells (nodeA (nf l.link r.link c x)) 82)).drew w.heap.size l.link r.link c x := Loc.new w _ _ _ _
  have hh1 := height_any t1 hl
  have hS : ∀ w', Keep (fun _ => False) (w.alloc (.cells (nodeA (nf l.link r.link c x)) 82)).drew w' → w'.cell? ⟨w.heap.size, 0, none⟩ = some (.int .u32 (l.link : Int)) ∧ w'.cell? ⟨w.heap.size, 1, none⟩ = some (.int .u32 (r.link : Int)) :=
    fun w' hk => ⟨(L1.more hk).c0, (L1.more hk).c1⟩
  rw [nodeA_nf] at *
  have hif : (if l.h < r.h then (r.h : Int) else (l.h : Int)) = ((max l.h r.h : Nat) : Int) := by split <;> omega
  have hm : (Tr.node (q + 1) l x r).flds = nf l.link r.link (((max l.h r.h : Nat) : Int) + 1) x := rfl
  have hmb : max l.h r.h ≤ 512 := by omega
  rw [hm]
  generalize max l.h r.h = m at hif hm hmb ⊢
  clear hm
  have dh : IntKind.i64.wrap (1 + (m : Int)) = (m : Int) + 1 := by rw [IntKind.wrap_i64] <;> omega
  go_enter Try.func80, Try.ntmps80
  go_wp2_with fail
  go_region_held3 (fun w' => w'.cell? ⟨w.heap.size, 0, none⟩ = some (.int .u32 (l.link : Int)) ∧ w'.cell? ⟨w.heap.size, 1, none⟩ = some (.int .u32 (r.link : Int))) (first | exact hS _ hk2 | exact hS _ (hk2.trans hk3) | exact ⟨((L1.more (hk2.trans hk3)).set2 _).c0, ((L1.more (hk2.trans hk3)).set2 _).c1⟩ | go_keep) ((go_at_call 77; first | (refine hh1.mono ?_; rintro e w1 ⟨rfl, hk2⟩) | (refine (height_any (t1.more hk2) hr).mono ?_; rintro e w2 ⟨rfl, hk3⟩; have z2 := (L1.more (hk2.trans hk3)).c2; have z3 := (L1.more (hk2.trans hk3)).fz (j := 2) (by omega))))
  have L3 := (L1.more (hk2.trans hk3)).set2 ((m : Int) + 1)
  have hk4 : Keep (fun _ => False) w (w2.setCell ⟨w.heap.size, 2, none⟩ (.int .i64 ((m : Int) + 1))) := (hk1.trans (hk2.trans hk3)).setCell (p := ⟨w.heap.size, 2, none⟩) (Or.inr (Nat.le_refl _)) _
  have t4 := (h.more hk4).drew
  have L4 : Loc (w2.setCell ⟨w.heap.size, 2, none⟩ (.int .i64 ((m : Int) + 1))).drew w.heap.size l.link r.link ((m : Int) + 1) x := L3
  have hk5 := hk4.drew
  clear L1 L3 hk4 hS hh1 t1 hk1 z2 z3
  have hput := put_any t4.mem (q := q) (by omega) h.small h3 (nf l.link r.link ((m : Int) + 1) x)
  have hout : ¬ Own p k w.heap.size := h.out (by omega) (Nat.le_refl _)
  have hS2 : ∀ w', Keep (Own p k) (w2.setCell ⟨w.heap.size, 2, none⟩ (.int .i64 ((m : Int) + 1))).drew w' → _ := fun w' hk => And.intro (t4.ptrK hk) (L4.keep hk hout).six
  rw [nodeA_nf] at hput
  go_wp2_with fail
  go_region_held3 (fun w' => w'.cell? ⟨b, 0, none⟩ = some (.pointer (some ⟨p, 0, none⟩)) ∧ w'.cell? ⟨w.heap.size, 0, none⟩ = some (.int .u32 (l.link : Int)) ∧ w'.cell? ⟨w.heap.size, 1, none⟩ = some (.int .u32 (r.link : Int)) ∧ w'.cell? ⟨w.heap.size, 2, none⟩ = some (.int .i64 ((m : Int) + 1)) ∧ w'.cell? ⟨w.heap.size, 3, none⟩ = some (.int .i64 x.lba) ∧ w'.cell? ⟨w.heap.size, 4, none⟩ = some (.int .i64 x.len) ∧ w'.cell? ⟨w.heap.size, 5, none⟩ = some (.int .i64 x.phys)) (first | exact hS2 _ (Keep.refl _ _) | exact hS2 _ hk9) ((go_at_call 69; refine hput.mono ?_; rintro e w9 ⟨rfl, hm9, hk9⟩))
  have hk10 : Keep (Own p k) w w9 := (hk5.mono (fun _ _ e => e.elim)).trans hk9
  clear hS2 t4 L4 hput
  go_wp2_with fail
  refine bodyPost_end (v := .tuple #[]) (results_none rfl _ _ _) rfl ⟨rfl, hm9, hk10⟩

end Tg
end Go.Proofs.Ytbdankhlbepjoaa
