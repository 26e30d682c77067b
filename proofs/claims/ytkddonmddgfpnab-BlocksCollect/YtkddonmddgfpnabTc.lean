/-
  A whole tree in memory; what Len, Root, find, Find, Floor and Ceil answer. What an insertion, a deletion and a change leave of order, rule and number, as mathematics. What New, Insert, Delete and Change answer, and what they make of a whole tree. Rows of elements of several cells, with room; what gather, Views and All answer. A tree made since a world, and its calls. The statement's own list of runs in memory: read, and grown.
-/
import Derived.Test.YtkddonmddgfpnabTb
import Derived.Laws.AppendOwn
import Derived.Laws.OwnMore
namespace Go.Proofs.Ytkddonmddgfpnab
open Go.ChangeShapes Go.WideShapes Go.ChangeAt Go.RowKit
namespace Tg

/-- The cells of the tree's struct. -/
def Tr.top (p : Nat) (t : Tr) : Nat → Value
  | 0 => .pointer (some ⟨p, 0, none⟩)
  | 1 => .int .u32 (t.link : Int)
  | _ => .int .i64 (t.ids.length : Int)

/-- A whole tree: its struct in block b, its arena in p and k, the free list l. -/
structure Tt (w : World) (b p k : Nat) (s : Ar) (l : List Nat) (t : Tr) : Prop where
  top : Blk w b 3 (t.top p)
  mem : Mem w p k s
  bp : b ≠ p
  bk : b ≠ k
  hang : Hang s t
  nd : t.ids.Nodup
  bal : t.Bal
  ord : t.Ord
  ok : s.Ok l
  live : s.count = t.ids.length

theorem Tt.tb {w : World} {b p k : Nat} {s : Ar} {l : List Nat} {t : Tr} (h : Tt w b p k s l t) : Tb w b p k s := ⟨(h.top 0 (by omega)).1, h.mem, h.bp, h.bk, h.ok.small⟩
theorem Tt.keep {S : Nat → Prop} {w w' : World} {b p k : Nat} {s : Ar} {l : List Nat} {t : Tr} (h : Tt w b p k s l t) (e : Keep S w w') (hb : ¬ S b) (hp : ¬ S p) (hk : ¬ S k) : Tt w' b p k s l t :=
  ⟨h.top.keep e hb, h.mem.keep e hp hk, h.bp, h.bk, h.hang, h.nd, h.bal, h.ord, h.ok, h.live⟩
theorem Tt.more {w w' : World} {b p k : Nat} {s : Ar} {l : List Nat} {t : Tr} (h : Tt w b p k s l t) (e : Keep (fun _ => False) w w') : Tt w' b p k s l t := h.keep e (fun e => e) (fun e => e) (fun e => e)
theorem Tt.tops {w : World} {b p k : Nat} {s : Ar} {l : List Nat} {t : Tr} (h : Tt w b p k s l t) : w.cell? ⟨b, 0, none⟩ = some (.pointer (some ⟨p, 0, none⟩)) ∧ w.cell? ⟨b, 1, none⟩ = some (.int .u32 (t.link : Int)) ∧ w.cell? ⟨b, 2, none⟩ = some (.int .i64 (t.ids.length : Int)) ∧ w.frozen? ⟨b, 1, none⟩ = false ∧ w.frozen? ⟨b, 2, none⟩ = false :=
  ⟨(h.top 0 (by omega)).1, (h.top 1 (by omega)).1, (h.top 2 (by omega)).1, (h.top 1 (by omega)).2, (h.top 2 (by omega)).2⟩

set_option maxRecDepth 100000 in
theorem len_any {w : World} {b p k : Nat} {s : Ar} {l : List Nat} {t : Tr} (h : Tt w b p k s l t) :
    Calls Try.prog 98 #[.pointer (some ⟨b, 0, none⟩)] w fun e w' => e = .returned (.int .i64 (t.ids.length : Int)) ∧ w' = w := by
  obtain ⟨t0, t1, t2, f1, f2⟩ := h.tops
  clear h
  go_enter Try.func98, Try.ntmps98
  go_wp2
  go_ret
  exact ⟨rfl, rfl⟩
/-- How high the branch on a link is. -/
def lh (s : Ar) (v : Value) : Nat := if intOf v = 0 then 0 else (s.fld (intOf v).toNat 2).toNat
set_option maxRecDepth 100000 in
theorem lh_hang {s : Ar} {u : Tr} (h : Hang s u) : lh s (.int .u32 (u.link : Int)) = u.h := by
  cases u with
  | nil => rfl
  | node i l x r =>
    obtain ⟨⟨v1, v2, v3, v4⟩, _⟩ := h
    have := v4 2 (by omega)
    have e : intOf (.int .u32 ((Tr.node i l x r).link : Int)) = (i : Int) := rfl
    unfold lh
    rw [e, if_neg (by omega), Int.toNat_natCast, this]
    simp [Tr.flds, Tr.h]

/-- The branch whose root has the run with that Lba. -/
def Tr.sub (k : Int) : Tr → Tr
  | .nil => .nil
  | .node i l x r => if x.lba = k then .node i l x r else if k < x.lba then sub k l else sub k r
set_option maxRecDepth 100000 in
theorem Tr.sub_link (k : Int) : ∀ t : Tr, (t.sub k).link = t.idOf k
  | .nil => rfl
  | .node i l x r => by
    rw [Tr.sub, Tr.idOf]
    split
    · rfl
    · split
      · exact Tr.sub_link k l
      · exact Tr.sub_link k r
theorem Hang.sub {s : Ar} (k : Int) : ∀ {t : Tr}, Hang s t → Hang s (t.sub k)
  | .nil, _ => trivial
  | .node i l x r, h => by
    rw [Tr.sub]
    split
    · exact h
    · split
      · exact Hang.sub k h.2.1
      · exact Hang.sub k h.2.2

set_option maxRecDepth 100000 in
set_option maxHeartbeats 1000000 in
theorem find_any {w : World} {b p k : Nat} {s : Ar} {l : List Nat} {t : Tr} (h : Tt w b p k s l t) (v : Int) :
    Calls Try.prog 110 #[.pointer (some ⟨b, 0, none⟩), .int .i64 v] w fun e w' => e = .returned (.int .u32 ((t.sub v).link : Int)) ∧ Keep (fun _ => False) w w' := by
  obtain ⟨t0, t1, t2, f1, f2⟩ := h.tops
  clear t2 f1 f2
  go_enter Try.func110, Try.ntmps110
  go_wp2_with fail
  go_loopw [5] (fun a wr => ∃ u, a = .int .u32 (u.link : Int) ∧ Hang s u ∧ u.sub v = t.sub v ∧ Keep (fun _ => False) w wr) (fun a _ => lh s a)
  case atStart => exact ⟨t, rfl, h.hang, rfl, Keep.refl _ _⟩
  case round =>
    obtain ⟨u, rfl, hu, hsub, hk⟩ := hrel
    have hm := lh_hang hu
    clear t0 t1
    cases u with
    | nil =>
      have h0 : (Tr.nil.link : Int) = 0 := rfl
      rw [h0]
      go_wp2_with fail
      go_ret
      exact ⟨by rw [← hsub]; rfl, hk⟩
    | node i a x r =>
      have hnd := node_any (h.tb.more hk) hu
      obtain ⟨⟨v1, v2, v3, v4⟩, ha, hr⟩ := hu
      rw [Tr.flds_eq, nodeA_nf] at hnd
      generalize hM : ((max a.h r.h + 1 : Nat) : Int) = M at hnd
      have hi : (Tr.node i a x r).link = i := rfl
      rw [hi] at hnd hm ⊢
      have d0 : ((i : Int) == 0) = false := by simp; omega
      have da := lh_hang ha
      have dr := lh_hang hr
      have hh : (Tr.node i a x r).h = max a.h r.h + 1 := rfl
      go_upto_region 4 with (go_at_call 108; refine hnd.mono ?_; rintro e w1 ⟨rfl, hk1⟩)
      have K2 : Keep (fun _ => False) w (w1.alloc (.cells (nodeA (nf a.link r.link M x)) 94)) := (hk.trans hk1).alloc _
      have L2 := Loc.new w1 a.link r.link M x
      simp only [nodeA_nf] at K2 L2
      generalize w1.alloc (.cells #[.int .u32 (a.link : Int), .int .u32 (r.link : Int), .int .i64 M, .int .i64 x.lba, .int .i64 x.len, .int .i64 x.phys] 94) = w2 at K2 L2 ⊢
      generalize w1.heap.size = g at L2 ⊢
      have z0 := L2.c0
      have z1 := L2.c1
      have z3 := L2.c3
      have hsub' : Hid ((Tr.node i a x r).sub v = t.sub v) := hsub
      clear hnd hk1 L2 hsub
      by_cases e1 : x.lba = v
      · have d1 : (x.lba == v) = true := by simp [e1]
        have hs : (t.sub v).link = i := by rw [← (show (Tr.node i a x r).sub v = t.sub v from hsub'), Tr.sub, if_pos e1]; rfl
        clear e1
        go_wp2_with fail
        go_ret
        exact ⟨by rw [hs]; rfl, K2⟩
      · have d1 : (x.lba == v) = false := by simp [e1]
        have hs := show (Tr.node i a x r).sub v = t.sub v from hsub'
        rw [Tr.sub, if_neg e1] at hs
        have hs' : Hid ((if v < x.lba then a.sub v else r.sub v) = t.sub v) := hs
        clear e1 hs
        by_cases e2 : v < x.lba
        · go_wp2_with fail
          go_roundw
          case rel =>
            exact ⟨a, rfl, ha, by rw [← (show (if v < x.lba then a.sub v else r.sub v) = t.sub v from hs'), if_pos e2], K2⟩
          case measure => rw [da]; rw [hm, hh]; omega
        · go_wp2_with fail
          go_roundw
          case rel =>
            exact ⟨r, rfl, hr, by rw [← (show (if v < x.lba then a.sub v else r.sub v) = t.sub v from hs'), if_neg (by omega)], K2⟩
          case measure => rw [dr]; rw [hm, hh]; omega

/-- A run as a value. -/
def rnV (x : Rn) : Value := .agg #[.int .i64 x.lba, .int .i64 x.len, .int .i64 x.phys]
def rn0 : Rn := ⟨0, 0, 0⟩
/-- The root's run. -/
def Tr.run : Tr → Option Rn
  | .nil => none
  | .node _ _ x _ => some x
def rcell (x : Rn) (j : Nat) : Value := if j = 0 then .int .i64 x.lba else if j = 1 then .int .i64 x.len else .int .i64 x.phys
def rnA (x : Rn) : Array Value := ((List.range 3).map (rcell x)).toArray
set_option maxRecDepth 100000 in
theorem rnA_lit (x : Rn) : rnA x = #[.int .i64 x.lba, .int .i64 x.len, .int .i64 x.phys] := rfl
theorem rnA_size (x : Rn) : (rnA x).size = 3 := by simp [rnA]
set_option maxRecDepth 100000 in
theorem size31 : (Try.prog.info? 35).map (·.size) = some 3 := by kernel_rfl
set_option maxRecDepth 100000 in
theorem under31 : ∃ d, Try.prog.underlying 35 = some d ∧ d.isRow = true := ⟨_, Try.underlying35, rfl⟩
set_option maxRecDepth 100000 in
theorem rcell_one (x : Rn) (j : Nat) : (rcell x j).oneCell' = true := by unfold rcell; split; rfl; split <;> rfl
set_option maxRecDepth 100000 in
theorem store_rn {w : World} {p o N : Nat} {f : Nat → Value} (h : Blk w p N f) (ho : o + 3 ≤ N) (x : Rn) :
    (Instr.storeAt 35 (.pointer (some ⟨p, o, none⟩)) (.agg (rnA x))).run Try.prog w = .ok () (w.setCells p o ((List.range 3).map (rcell x))) := by
  have ht : w.there p o (rnA x).size := fun j hj => by rw [rnA_size] at hj; exact ⟨by rw [(h (o + j) (by omega)).1]; rfl, (h (o + j) (by omega)).2⟩
  exact run_storeAt_mid w p o 35 (rnA x) ht (by rw [rnA_size]; exact size31) (all_oneCell_toArray (fun v hv => by simp at hv; obtain ⟨i, _, rfl⟩ := hv; exact rcell_one _ _))
theorem range_rn {w : World} {p o N : Nat} {f : Nat → Value} {x : Rn} (h : Blk w p N f) (ho : o + 3 ≤ N) (hf : ∀ i, i < 3 → f (o + i) = rcell x i) : w.rangeAt p o (rnA x).toList := by
  intro j v hv
  have hj : j < 3 := by have := (List.getElem?_eq_some_iff.1 hv).1; simpa [rnA] using this
  rw [(h (o + j) (by omega)).1, hf j hj, ← hv]
  simp [rnA, hj]
theorem load_rn {w : World} {p o N : Nat} {f : Nat → Value} {x : Rn} (h : Blk w p N f) (ho : o + 3 ≤ N) (hf : ∀ i, i < 3 → f (o + i) = rcell x i) : (loadVar 35 ⟨p, o, none⟩).run Try.prog w = .ok (.agg (rnA x)) w := by
  obtain ⟨t, h1, h2⟩ := under31
  have := run_loadVar_mid (P := Try.prog) w p o 35 (rnA x).toList t (range_rn h ho hf) h1 h2 (by rw [size31]; simp [rnA])
  simpa using this
theorem loadAt_rn {w : World} {p o N : Nat} {f : Nat → Value} {x : Rn} (h : Blk w p N f) (ho : o + 3 ≤ N) (hf : ∀ i, i < 3 → f (o + i) = rcell x i) : (Instr.loadAt 35 (.pointer (some ⟨p, o, none⟩))).run Try.prog w = .ok (.agg (rnA x)) w := by
  obtain ⟨t, h1, h2⟩ := under31
  have := run_loadAt_mid (P := Try.prog) w p o 35 (rnA x).toList t (range_rn h ho hf) h1 h2 (by rw [size31]; simp [rnA])
  simpa using this
/-- A variable of the call's own that holds a run. -/
def Lrn (w : World) (g : Nat) (x : Rn) : Prop := Blk w g 3 (rcell x)
theorem Lrn.new (w : World) (x : Rn) : Lrn (w.alloc (.cells (rnA x) 35)) w.heap.size x := blk_alloc w _ 35 3 _ (fun i hi => by simp [rnA, hi])
theorem Lrn.more {w w' : World} {g : Nat} {x : Rn} (h : Lrn w g x) (hk : Keep (fun _ => False) w w') : Lrn w' g x := Blk.keep h hk (fun e => e)
theorem Lrn.put {w : World} {g : Nat} {x : Rn} (h : Lrn w g x) (y : Rn) : Lrn (w.setCells g 0 ((List.range 3).map (rcell y))) g y := (Blk.setCells h 0 3 (rcell y) (by omega)).congr (fun i hi => by rw [if_pos (by omega), Nat.sub_zero])
theorem Lrn.store {w : World} {g : Nat} {x : Rn} (h : Lrn w g x) (y : Rn) : (Instr.storeAt 35 (.pointer (some ⟨g, 0, none⟩)) (.agg (rnA y))).run Try.prog w = .ok () (w.setCells g 0 ((List.range 3).map (rcell y))) := store_rn h (by omega) y
theorem Lrn.load {w : World} {g : Nat} {x : Rn} (h : Lrn w g x) : (loadVar 35 ⟨g, 0, none⟩).run Try.prog w = .ok (.agg (rnA x)) w := load_rn h (o := 0) (by omega) (fun i _ => by rw [Nat.zero_add])
set_option maxRecDepth 100000 in
theorem Lrn.over {w : World} {g : Nat} {x : Rn} (h : Lrn w g x) (y : Rn) : ∃ w', (Instr.storeAt 35 (.pointer (some ⟨g, 0, none⟩)) (.agg #[.int .i64 y.lba, .int .i64 y.len, .int .i64 y.phys])).run Try.prog w = .ok () w' ∧ Lrn w' g y ∧ Keep (fun b => b = g) w w' :=
  ⟨_, h.store y, h.put y, (Keep.refl (fun b => b = g) w).setCells (b := g) (Or.inl rfl) _ _⟩
set_option maxRecDepth 100000 in
theorem rn0_lit : rnA rn0 = #[.int .i64 0, .int .i64 0, .int .i64 0] := rfl

/-- What a question answers. -/
def ansV (o : Option Rn) : Value := .tuple #[.agg (rnA (o.getD rn0)), .bool o.isSome]
set_option maxRecDepth 100000 in
/-- The root's run, of no node all 0. -/
theorem Tr.flds_run (u : Tr) : nodeA u.flds = #[.int .u32 (u.flds 0), .int .u32 (u.flds 1), .int .i64 (u.flds 2), .int .i64 (u.run.getD rn0).lba, .int .i64 (u.run.getD rn0).len, .int .i64 (u.run.getD rn0).phys] := by
  cases u <;> rfl
set_option maxRecDepth 100000 in
theorem Tr.link_run {s : Ar} {u : Tr} (h : Hang s u) : ((u.link : Int) != 0) = u.run.isSome := by
  cases u with
  | nil => rfl
  | node i l x r =>
    have := h.1.1
    have e : (Tr.node i l x r).link = i := rfl
    rw [e]
    simp [Tr.run]
    omega

/-- The branch whose root has the last run up to k; the first from k on. -/
def Tr.fl (k : Int) : Tr → Tr → Tr
  | .nil, d => d
  | .node i l x r, d => if x.lba ≤ k then fl k r (.node i l x r) else fl k l d
def Tr.ce (k : Int) : Tr → Tr → Tr
  | .nil, d => d
  | .node i l x r, d => if k ≤ x.lba then ce k l (.node i l x r) else ce k r d


set_option maxRecDepth 100000 in
set_option maxHeartbeats 1000000 in
theorem floor_any {w : World} {b p k : Nat} {s : Ar} {l : List Nat} {t : Tr} (h : Tt w b p k s l t) (v : Int) :
    Calls Try.prog 100 #[.pointer (some ⟨b, 0, none⟩), .int .i64 v] w fun e w' => e = .returned (ansV (Tr.fl v t .nil).run) ∧ Keep (fun _ => False) w w' := by
  have K1 : Keep (fun _ => False) w (w.alloc (.cells (rnA rn0) 35)) := (Keep.refl _ _).alloc _
  have L1 := Lrn.new w rn0
  have hT := h.more K1
  rw [rn0_lit] at K1 L1 hT
  obtain ⟨t0, t1, t2, f1, f2⟩ := hT.tops
  clear t2 f1 f2
  go_enter Try.func100, Try.ntmps100
  go_wp2_with fail
  go_loopw [6, 7] (fun c a wr => ∃ d u, c = .int .u32 ((Tr.link d : Nat) : Int) ∧ a = .int .u32 ((Tr.link u : Nat) : Int) ∧ Hang s d ∧ Hang s u ∧ Tr.fl v u d = Tr.fl v t .nil ∧ Keep (fun _ => False) (w.alloc (.cells #[.int .i64 0, .int .i64 0, .int .i64 0] 35)) wr) (fun _ a _ => lh s a)
  case atStart => exact ⟨.nil, t, rfl, rfl, trivial, h.hang, rfl, Keep.refl _ _⟩
  case round =>
    obtain ⟨d, u, rfl, rfl, hd, hu, hsub, hk⟩ := hrel
    have hm := lh_hang hu
    clear t0 t1
    cases u with
    | nil =>
      have h0 : (Tr.nil.link : Int) = 0 := rfl
      rw [h0]
      have hnd := node_any (hT.more hk).tb hd
      rw [Tr.flds_run] at hnd
      have hlk := Tr.link_run hd
      have L2 := L1.more hk
      have hf := field_run
      have hs : Hid (d = Tr.fl v t .nil) := hsub
      clear hsub
      go_wp2_with (first | (go_at_call 108; refine hnd.mono ?_; rintro e w3 ⟨rfl, hk3⟩; obtain ⟨w4, hst, L4, hk4⟩ := (L2.more hk3).over (d.run.getD rn0)) | (guard_target =~ wpList _ _ _ (Oper.mk _ (Op.store 35 _ _) _ _ _ _ :: _) _ _; refine wpList_store_run rfl 35 (.tmp 4) (.tmp 31) rfl (by rfl) (by rfl) hst ?_))
      have K4 := ((K1.trans hk).trans hk3).next hk4 (fun y hy e => by omega)
      refine bodyPost_ret (v := ansV d.run) ?_ rfl ⟨congrArg (fun q => Ending.returned (ansV (Tr.run q))) hs, K4⟩
      rw [results_cell_tmp rfl]
      have hld := L4.load
      simp [asAddr, Result.andThen, hld, ansV]
    | node i a x r =>
      have hnd := node_any (hT.more hk).tb hu
      have hu' := hu
      obtain ⟨⟨v1, v2, v3, v4⟩, ha, hr⟩ := hu
      rw [Tr.flds_eq, nodeA_nf] at hnd
      generalize hM : ((max a.h r.h + 1 : Nat) : Int) = M at hnd
      have hi : (Tr.node i a x r).link = i := rfl
      rw [hi] at hnd hm ⊢
      have d0 : ((i : Int) == 0) = false := by simp; omega
      have da := lh_hang ha
      have dr := lh_hang hr
      have hh : (Tr.node i a x r).h = max a.h r.h + 1 := rfl
      go_upto_region 5 with (go_at_call 108; refine hnd.mono ?_; rintro e w1 ⟨rfl, hk1⟩)
      have K2 : Keep (fun _ => False) (w.alloc (.cells #[.int .i64 0, .int .i64 0, .int .i64 0] 35)) (w1.alloc (.cells (nodeA (nf a.link r.link M x)) 94)) := (hk.trans hk1).alloc _
      have L2 := Loc.new w1 a.link r.link M x
      simp only [nodeA_nf] at K2 L2
      generalize w1.alloc (.cells #[.int .u32 (a.link : Int), .int .u32 (r.link : Int), .int .i64 M, .int .i64 x.lba, .int .i64 x.len, .int .i64 x.phys] 94) = w2 at K2 L2 ⊢
      generalize w1.heap.size = g at L2 ⊢
      have z0 := L2.c0
      have z1 := L2.c1
      have z3 := L2.c3
      rw [Tr.fl] at hsub
      have hs' : Hid ((if x.lba ≤ v then Tr.fl v r (.node i a x r) else Tr.fl v a d) = Tr.fl v t .nil) := hsub
      clear hnd hk1 L2 hsub
      by_cases e2 : x.lba ≤ v
      · go_wp2_with fail
        go_quiet (fail)
        go_wp2_with fail
        go_roundw
        case rel =>
          exact ⟨.node i a x r, r, rfl, rfl, hu', hr, by rw [← (show (if x.lba ≤ v then Tr.fl v r (.node i a x r) else Tr.fl v a d) = Tr.fl v t .nil from hs'), if_pos e2], K2.drewN _⟩
        case measure => rw [dr]; rw [hm, hh]; omega
      · go_wp2_with fail
        go_roundw
        case rel =>
          exact ⟨d, a, rfl, rfl, hd, ha, by rw [← (show (if x.lba ≤ v then Tr.fl v r (.node i a x r) else Tr.fl v a d) = Tr.fl v t .nil from hs'), if_neg (by omega)], K2⟩
        case measure => rw [da]; rw [hm, hh]; omega

set_option maxRecDepth 100000 in
set_option maxHeartbeats 1000000 in
theorem ceil_any {w : World} {b p k : Nat} {s : Ar} {l : List Nat} {t : Tr} (h : Tt w b p k s l t) (v : Int) :
    Calls Try.prog 101 #[.pointer (some ⟨b, 0, none⟩), .int .i64 v] w fun e w' => e = .returned (ansV (Tr.ce v t .nil).run) ∧ Keep (fun _ => False) w w' := by
  have K1 : Keep (fun _ => False) w (w.alloc (.cells (rnA rn0) 35)) := (Keep.refl _ _).alloc _
  have L1 := Lrn.new w rn0
  have hT := h.more K1
  rw [rn0_lit] at K1 L1 hT
  obtain ⟨t0, t1, t2, f1, f2⟩ := hT.tops
  clear t2 f1 f2
  go_enter Try.func101, Try.ntmps101
  go_wp2_with fail
  go_loopw [6, 7] (fun c a wr => ∃ d u, c = .int .u32 ((Tr.link d : Nat) : Int) ∧ a = .int .u32 ((Tr.link u : Nat) : Int) ∧ Hang s d ∧ Hang s u ∧ Tr.ce v u d = Tr.ce v t .nil ∧ Keep (fun _ => False) (w.alloc (.cells #[.int .i64 0, .int .i64 0, .int .i64 0] 35)) wr) (fun _ a _ => lh s a)
  case atStart => exact ⟨.nil, t, rfl, rfl, trivial, h.hang, rfl, Keep.refl _ _⟩
  case round =>
    obtain ⟨d, u, rfl, rfl, hd, hu, hsub, hk⟩ := hrel
    have hm := lh_hang hu
    clear t0 t1
    cases u with
    | nil =>
      have h0 : (Tr.nil.link : Int) = 0 := rfl
      rw [h0]
      have hnd := node_any (hT.more hk).tb hd
      rw [Tr.flds_run] at hnd
      have hlk := Tr.link_run hd
      have L2 := L1.more hk
      have hf := field_run
      have hs : Hid (d = Tr.ce v t .nil) := hsub
      clear hsub
      go_wp2_with (first | (go_at_call 108; refine hnd.mono ?_; rintro e w3 ⟨rfl, hk3⟩; obtain ⟨w4, hst, L4, hk4⟩ := (L2.more hk3).over (d.run.getD rn0)) | (guard_target =~ wpList _ _ _ (Oper.mk _ (Op.store 35 _ _) _ _ _ _ :: _) _ _; refine wpList_store_run rfl 35 (.tmp 4) (.tmp 31) rfl (by rfl) (by rfl) hst ?_))
      have K4 := ((K1.trans hk).trans hk3).next hk4 (fun y hy e => by omega)
      refine bodyPost_ret (v := ansV d.run) ?_ rfl ⟨congrArg (fun q => Ending.returned (ansV (Tr.run q))) hs, K4⟩
      rw [results_cell_tmp rfl]
      have hld := L4.load
      simp [asAddr, Result.andThen, hld, ansV]
    | node i a x r =>
      have hnd := node_any (hT.more hk).tb hu
      have hu' := hu
      obtain ⟨⟨v1, v2, v3, v4⟩, ha, hr⟩ := hu
      rw [Tr.flds_eq, nodeA_nf] at hnd
      generalize hM : ((max a.h r.h + 1 : Nat) : Int) = M at hnd
      have hi : (Tr.node i a x r).link = i := rfl
      rw [hi] at hnd hm ⊢
      have d0 : ((i : Int) == 0) = false := by simp; omega
      have da := lh_hang ha
      have dr := lh_hang hr
      have hh : (Tr.node i a x r).h = max a.h r.h + 1 := rfl
      go_upto_region 5 with (go_at_call 108; refine hnd.mono ?_; rintro e w1 ⟨rfl, hk1⟩)
      have K2 : Keep (fun _ => False) (w.alloc (.cells #[.int .i64 0, .int .i64 0, .int .i64 0] 35)) (w1.alloc (.cells (nodeA (nf a.link r.link M x)) 94)) := (hk.trans hk1).alloc _
      have L2 := Loc.new w1 a.link r.link M x
      simp only [nodeA_nf] at K2 L2
      generalize w1.alloc (.cells #[.int .u32 (a.link : Int), .int .u32 (r.link : Int), .int .i64 M, .int .i64 x.lba, .int .i64 x.len, .int .i64 x.phys] 94) = w2 at K2 L2 ⊢
      generalize w1.heap.size = g at L2 ⊢
      have z0 := L2.c0
      have z1 := L2.c1
      have z3 := L2.c3
      rw [Tr.ce] at hsub
      have hs' : Hid ((if v ≤ x.lba then Tr.ce v a (.node i a x r) else Tr.ce v r d) = Tr.ce v t .nil) := hsub
      clear hnd hk1 L2 hsub
      by_cases e2 : v ≤ x.lba
      · go_wp2_with fail
        go_quiet (fail)
        go_wp2_with fail
        go_roundw
        case rel =>
          exact ⟨.node i a x r, a, rfl, rfl, hu', ha, by rw [← (show (if v ≤ x.lba then Tr.ce v a (.node i a x r) else Tr.ce v r d) = Tr.ce v t .nil from hs'), if_pos e2], K2.drewN _⟩
        case measure => rw [da]; rw [hm, hh]; omega
      · go_wp2_with fail
        go_roundw
        case rel =>
          exact ⟨d, r, rfl, rfl, hd, hr, by rw [← (show (if v ≤ x.lba then Tr.ce v a (.node i a x r) else Tr.ce v r d) = Tr.ce v t .nil from hs'), if_neg (by omega)], K2⟩
        case measure => rw [dr]; rw [hm, hh]; omega
end Tg
end Go.Proofs.Ytkddonmddgfpnab
namespace Go.Proofs.Ytkddonmddgfpnab
namespace Tg
namespace Tr

theorem mem_putL {n : Nat} {v : Rn} {z : Nat × Rn} : ∀ {m : List (Nat × Rn)}, z ∈ putL n v m ↔ z = (n, v) ∨ z ∈ m
  | [] => by simp [putL]
  | y :: m => by
    rw [putL]
    split
    · simp
    · rw [List.mem_cons, mem_putL (m := m), List.mem_cons]
      constructor
      · rintro (h | h | h) <;> simp [h]
      · rintro (h | h | h) <;> simp [h]
theorem putL_ord {n : Nat} {v : Rn} : ∀ {m : List (Nat × Rn)}, m.Pairwise (fun a b => a.2.lba < b.2.lba) → (∀ z ∈ m, z.2.lba ≠ v.lba) → (putL n v m).Pairwise (fun a b => a.2.lba < b.2.lba)
  | [], _, _ => by simp [putL]
  | y :: m, hp, hz => by
    obtain ⟨h1, h2⟩ := List.pairwise_cons.1 hp
    rw [putL]
    split
    · next e =>
      refine List.pairwise_cons.2 ⟨fun z hz' => ?_, hp⟩
      rcases List.mem_cons.1 hz' with rfl | hz'
      · exact e
      · have := h1 z hz'; simp only; omega
    · next e =>
      refine List.pairwise_cons.2 ⟨fun z hz' => ?_, putL_ord h2 (fun z hz' => hz z (by simp [hz']))⟩
      rcases mem_putL.1 hz' with rfl | hz'
      · have := hz y (by simp); simp only; omega
      · exact h1 z hz'
theorem ins_ord {n : Nat} {v : Rn} {t : Tr} (ho : t.Ord) (hz : ¬ t.Has v.lba) : (t.ins n v).Ord := by
  unfold Ord
  rw [ins_seq n v t ho]
  exact putL_ord ho (fun z hz' e => hz ((has_iff ho).2 ⟨z, hz', e⟩))
theorem ins_len {n : Nat} {v : Rn} : ∀ {t : Tr}, (t.ins n v).ids.length = t.ids.length + 1
  | nil => by simp [ins, ids, seq]
  | node i l x r => by
    rw [ins]
    split
    · rw [fixIds, ids_node, ids_node]; simp [ins_len (t := l)]; omega
    · rw [fixIds, ids_node, ids_node]; simp [ins_len (t := r)]; omega
theorem del_ord {k : Int} {t : Tr} (ho : t.Ord) : (t.del k).Ord := by
  unfold Ord
  rw [del_seq k t ho]
  exact List.Pairwise.filter _ ho
theorem del_len {k : Int} : ∀ {t : Tr}, t.Has k → (t.del k).ids.length + 1 = t.ids.length
  | nil, q => q.elim
  | node i l x r, q => by
    rw [del]
    split
    · rw [join_ids, ids_node]; simp; omega
    · next e =>
      split
      · next e2 =>
        have ql : l.Has k := by rcases q with q | q | q; exact absurd q e; exact q.2; omega
        rw [fixIds, ids_node, ids_node]; have := del_len ql; simp; omega
      · next e2 =>
        have qr : r.Has k := by rcases q with q | q | q; exact absurd q e; omega; exact q.2
        rw [fixIds, ids_node, ids_node]; have := del_len qr; simp; omega

/-- A tree in which the run with v's Lba is v. -/
def chg (v : Rn) : Tr → Tr
  | nil => nil
  | node i l x r => if x.lba = v.lba then node i l v r else if v.lba < x.lba then node i (chg v l) x r else node i l x (chg v r)
theorem chg_link (v : Rn) (t : Tr) : (t.chg v).link = t.link := by
  cases t with
  | nil => rfl
  | node i l x r =>
    rw [chg]
    split
    · rfl
    · split <;> rfl
theorem chg_h (v : Rn) : ∀ t : Tr, (t.chg v).h = t.h
  | nil => rfl
  | node i l x r => by
    rw [chg]
    split
    · rfl
    · split
      · simp only [h, chg_h v l]
      · simp only [h, chg_h v r]
theorem chg_ids (v : Rn) : ∀ t : Tr, (t.chg v).ids = t.ids
  | nil => rfl
  | node i l x r => by
    rw [chg]
    split
    · rw [ids_node, ids_node]
    · split
      · rw [ids_node, ids_node, chg_ids v l]
      · rw [ids_node, ids_node, chg_ids v r]
theorem chg_bal (v : Rn) : ∀ t : Tr, t.Bal → (t.chg v).Bal
  | nil, _ => trivial
  | node i l x r, hb => by
    rw [chg]
    simp only [Bal] at hb
    split
    · exact hb
    · split
      · exact ⟨chg_bal v l hb.1, hb.2.1, by rw [chg_h]; exact hb.2.2.1, by rw [chg_h]; exact hb.2.2.2⟩
      · exact ⟨hb.1, chg_bal v r hb.2.1, by rw [chg_h]; exact hb.2.2.1, by rw [chg_h]; exact hb.2.2.2⟩
/-- A row of nodes in which the run with v's Lba is v. -/
def chgL (v : Rn) (m : List (Nat × Rn)) : List (Nat × Rn) := m.map (fun z => if z.2.lba = v.lba then (z.1, v) else z)
theorem chgL_id {v : Rn} {m : List (Nat × Rn)} (hm : ∀ z ∈ m, z.2.lba ≠ v.lba) : chgL v m = m := by
  unfold chgL
  conv => rhs; rw [← List.map_id m]
  exact List.map_congr_left (fun z hz => by rw [if_neg (hm z hz)]; rfl)
theorem chg_seq (v : Rn) : ∀ t : Tr, t.Ord → (t.chg v).seq = chgL v t.seq
  | nil, _ => rfl
  | node i l x r, ho => by
    have ho' := List.pairwise_append.1 (show (l.seq ++ (i, x) :: r.seq).Pairwise _ from ho)
    have hc := List.pairwise_cons.1 ho'.2.1
    have hlt : ∀ z ∈ l.seq, z.2.lba < x.lba := fun z hz => ho'.2.2 z hz (i, x) (by simp)
    have hgt : ∀ z ∈ r.seq, x.lba < z.2.lba := fun z hz => hc.1 z hz
    have hsp : chgL v (node i l x r).seq = chgL v l.seq ++ (if x.lba = v.lba then (i, v) else (i, x)) :: chgL v r.seq := by
      simp only [chgL, seq, List.map_append, List.map_cons]
    rw [hsp, chg]
    split
    · next e => rw [chgL_id (fun z hz => by have := hlt z hz; omega), chgL_id (m := r.seq) (fun z hz => by have := hgt z hz; omega)]; rfl
    · next e =>
      split
      · next e2 => rw [chgL_id (m := r.seq) (fun z hz => by have := hgt z hz; omega), ← chg_seq v l ho'.1]; rfl
      · next e2 => rw [chgL_id (m := l.seq) (fun z hz => by have := hlt z hz; omega), ← chg_seq v r hc.2]; rfl
theorem chg_ord {v : Rn} {t : Tr} (ho : t.Ord) : (t.chg v).Ord := by
  unfold Ord
  rw [chg_seq v t ho]
  unfold chgL
  rw [List.pairwise_map]
  refine ho.imp ?_
  intro a b hab
  by_cases ea : a.2.lba = v.lba <;> by_cases eb : b.2.lba = v.lba <;> simp only [ea, eb, if_true, if_false] at * <;> omega

/-- Where a run is met, the branch has a root. -/
theorem has_sub {k : Int} : ∀ {t : Tr}, t.Has k → ∃ i a x r, t.sub k = node i a x r ∧ x.lba = k
  | nil, q => q.elim
  | node i l x r, q => by
    rw [sub]
    split
    · next e => exact ⟨i, l, x, r, rfl, e⟩
    · next e =>
      split
      · next e2 => exact has_sub (by rcases q with q | q | q; exact absurd q e; exact q.2; omega)
      · next e2 => exact has_sub (by rcases q with q | q | q; exact absurd q e; omega; exact q.2)
theorem sub_mem {k : Int} {i : Nat} {a : Tr} {x : Rn} {r : Tr} : ∀ {t : Tr}, t.sub k = node i a x r → i ∈ t.ids
  | nil, e => by cases e
  | node j l y c, e => by
    rw [sub] at e
    rw [mem_node]
    split at e
    · injection e with e1; exact Or.inr (Or.inl e1.symm)
    · split at e
      · exact Or.inl (sub_mem e)
      · exact Or.inr (Or.inr (sub_mem e))
end Tr

/-- One node's run is changed. -/
theorem Hang.chg {s : Ar} {v : Rn} {i : Nat} {a : Tr} {x : Rn} {r : Tr} : ∀ {t : Tr}, Hang s t → t.ids.Nodup → t.sub v.lba = .node i a x r → Hang (s.set i (Tr.node i a v r).flds) (t.chg v)
  | .nil, _, _, e => by cases e
  | .node j l y c, h, hn, e => by
    obtain ⟨⟨v1, v2, v3, v4⟩, hl, hc⟩ := h
    obtain ⟨n1, n2, n3, n4, n5⟩ := nd_node.1 hn
    rw [Tr.sub] at e
    rw [Tr.chg]
    split
    · next q =>
      rw [if_pos q] at e
      injection e with e1 e2 e3 e4
      subst e1; subst e2; subst e3; subst e4
      exact hl.above hc v1 v2 v3 n3 n4 v
    · next q =>
      rw [if_neg q] at e
      split
      · next q2 =>
        rw [if_pos q2] at e
        have hm := Tr.sub_mem e
        refine ⟨⟨v1, v2, v3, fun k hk => ?_⟩, Hang.chg hl n1 e, hc.set (fun z => n5 i hm z) _⟩
        have hji : ¬ j = i := by rintro rfl; exact n3 hm
        simp only [Ar.set, if_neg hji]
        rw [v4 k hk]
        simp only [Tr.flds, Tr.chg_link, Tr.chg_h]
      · next q2 =>
        rw [if_neg q2] at e
        have hm := Tr.sub_mem e
        refine ⟨⟨v1, v2, v3, fun k hk => ?_⟩, hl.set (fun z => n5 i z hm) _, Hang.chg hc n2 e⟩
        have hji : ¬ j = i := by rintro rfl; exact n4 hm
        simp only [Ar.set, if_neg hji]
        rw [v4 k hk]
        simp only [Tr.flds, Tr.chg_link, Tr.chg_h]
end Tg
end Go.Proofs.Ytkddonmddgfpnab
namespace Go.Proofs.Ytkddonmddgfpnab
open Go.ChangeShapes Go.WideShapes Go.ChangeAt Go.RowKit
namespace Tg

set_option maxRecDepth 100000 in
theorem enters {P : Program} {f : FuncId} {fn : Func} (hf : P.funcs[f]? = some fn) (hname : (fn.name == "runtime.NumGoroutine") = false) (hb : fn.body.isSome = true) (args : Array Value) (w : World) :
    (callFunc f args).run P w = .ok (.enter f args) w := by
  obtain ⟨c, hc⟩ := Option.isSome_iff_exists.1 hb
  simp [callFunc, go_sem, hf, hc]
  intro h; simp [h] at hname
set_option maxRecDepth 100000 in
theorem step_call_want {P : Program} {ops : Array Oper} {o : Oper} {a : Act} {w : World} {K : Act → World → Prop} {Q : Exit → Act → World → Prop} {E : Prop}
    (hw : Region.wanted o (yielded ops a.tmps) = true) (f : FuncId) (xs : Array Operand) (ts : Array TypeId) (hop : o.op = Op.call { callee := Callee.value (.func f), args := xs, argTypes := ts })
    {vs : Array Value} {R : Value → World → Prop} (hx : xs.map a.eval = vs) (he : ∀ args w, (callFunc f args).run P w = .ok (.enter f args) w) (hc : Calls P f vs w fun e w2 => ∃ v, e = .returned v ∧ R v w2)
    (hK : ∀ v w', R v w' → K (a.put o.dst v) w') : if Region.wanted o (yielded ops a.tmps) = true then Oper.wp P o a w K Q else E := by
  rw [if_pos hw]
  subst hx
  obtain ⟨dst, op, ty, pos, after, guard⟩ := o
  simp only at hop
  subst hop
  unfold Oper.wp
  rw [execOp_call_go, he, Oper.upon_enter]
  simp only [Array.empty_append, Array.append_empty]
  exact hc.mono (by rintro e w2 ⟨v, rfl, hr⟩; exact hK v w2 hr)
theorem step_load_run {P : Program} {ops : Array Oper} {o : Oper} {a : Act} {w : World} {K : Act → World → Prop} {Q : Exit → Act → World → Prop} {E : Prop}
    (hw : Region.wanted o (yielded ops a.tmps) = true) (t : TypeId) (x : Operand) (hop : o.op = Op.load t x) {v1 v' : Value} {w' : World} (hx : a.eval x = v1) (hrun : (Instr.loadAt t v1).run P w = .ok v' w')
    (hK : K (a.put o.dst v') w') : if Region.wanted o (yielded ops a.tmps) = true then Oper.wp P o a w K Q else E := by
  rw [if_pos hw]
  unfold Oper.wp
  simp [execOp, hop, hx, hrun, Result.andThen]
  exact hK
theorem step_store_run {P : Program} {ops : Array Oper} {o : Oper} {a : Act} {w : World} {K : Act → World → Prop} {Q : Exit → Act → World → Prop} {E : Prop}
    (hw : Region.wanted o (yielded ops a.tmps) = true) (t : TypeId) (x y : Operand) (hop : o.op = Op.store t x y) {v1 v2 : Value} {w' : World} (hx : a.eval x = v1) (hy : a.eval y = v2) (hrun : (Instr.storeAt t v1 v2).run P w = .ok () w')
    (hK : K (a.put o.dst undef) w') : if Region.wanted o (yielded ops a.tmps) = true then Oper.wp P o a w K Q else E := by
  rw [if_pos hw]
  unfold Oper.wp
  simp [execOp, hop, hx, hy, hrun, Result.andThen]
  exact hK
set_option maxRecDepth 100000 in
theorem call30 (args : Array Value) (w : World) : (callFunc 115 args).run Try.prog w = .ok (.enter 115 args) w := enters Try.func115 (by kernel_rfl) (by kernel_rfl) args w
set_option maxRecDepth 100000 in
theorem load_root {w : World} {b : Nat} {n : Int} (h : w.cell? ⟨b, 1, none⟩ = some (.int .u32 n)) : (Instr.loadAt 90 (.pointer (some ⟨b, 1, none⟩))).run Try.prog w = .ok (.int .u32 n) w := by
  go_simp
set_option maxRecDepth 100000 in
theorem store_root {w : World} {b : Nat} {n m : Int} (h : w.cell? ⟨b, 1, none⟩ = some (.int .u32 n)) (hf : w.frozen? ⟨b, 1, none⟩ = false) : (Instr.storeAt 90 (.pointer (some ⟨b, 1, none⟩)) (.int .u32 m)).run Try.prog w = .ok () (w.setCell ⟨b, 1, none⟩ (.int .u32 m)) := by
  go_simp

/-- The blocks of a whole tree. -/
def Own3 (b p k : Nat) : Nat → Prop := fun x => x = b ∨ x = p ∨ x = k
theorem Keep.own3 {b p k : Nat} {w w' : World} (h : Keep (Own p k) w w') : Keep (Own3 b p k) w w' := h.mono (fun _ _ e => Or.inr e)
theorem Keep.none3 {b p k : Nat} {w w' : World} (h : Keep (fun _ => False) w w') : Keep (Own3 b p k) w w' := h.mono (fun _ _ e => e.elim)

set_option maxRecDepth 100000 in
theorem newTree_any {w : World} {p k : Nat} {s : Ar} {l : List Nat} (h : Mem w p k s) (ok : s.Ok l) (hc : s.count = 0) :
    Calls Try.prog 44 #[.pointer (some ⟨p, 0, none⟩)] w fun e w' => e = .returned (.pointer (some ⟨w.heap.size, 0, none⟩)) ∧ Tt w' w.heap.size p k s l .nil ∧ Keep (fun _ => False) w w' := by
  have K1 : Keep (fun _ => False) w (w.alloc (.cells #[.pointer (some ⟨p, 0, none⟩), .int .u32 0, .int .i64 0] 98)) := (Keep.refl _ _).alloc _
  have hb : Blk (w.alloc (.cells #[.pointer (some ⟨p, 0, none⟩), .int .u32 0, .int .i64 0] 98)) w.heap.size 3 (Tr.nil.top p) := blk_alloc w _ 98 3 _ (fun i hi => by rcases three hi with rfl | rfl | rfl <;> rfl)
  have b1 := h.top.lt (by omega)
  have b2 := h.blk.lt (by have := ok.one; omega)
  have T1 : Tt (w.alloc (.cells #[.pointer (some ⟨p, 0, none⟩), .int .u32 0, .int .i64 0] 98)) w.heap.size p k s l .nil :=
    ⟨hb, h.alloc _, by omega, by omega, trivial, by simp [Tr.ids, Tr.seq], trivial, by simp [Tr.Ord, Tr.seq], ok, by rw [hc]; rfl⟩
  go_enter Try.func44, Try.ntmps44
  go_wp2_with fail
  go_ret
  exact ⟨rfl, T1, K1⟩

set_option maxRecDepth 100000 in
theorem put_at {w : World} {p k : Nat} {s : Ar} (h : Mem w p k s) {i : Nat} (h1 : 1 ≤ i) (h2 : i ≤ s.N) (hN : s.N ≤ 512) (hl : s.live i = true) (n : Nat → Int) :
    Calls Try.prog 113 #[.pointer (some ⟨p, 0, none⟩), .int .u32 (i : Int), .agg (nodeA n)] w fun e w' => e = .returned (.int .i64 0) ∧ Mem w' p k (s.set i n) ∧ Keep (Own p k) w w' := by
  obtain ⟨q, rfl⟩ : ∃ q, i = q + 1 := ⟨i - 1, by omega⟩
  exact put_any h (by omega) hN hl n
set_option maxRecDepth 100000 in
theorem give_at {w : World} {p k : Nat} {s : Ar} (h : Mem w p k s) {i : Nat} (h1 : 1 ≤ i) (h2 : i ≤ s.N) (hN : s.N ≤ 512) (hl : s.live i = true) (hc : 1 ≤ s.count ∧ s.count ≤ 512) :
    Calls Try.prog 112 #[.pointer (some ⟨p, 0, none⟩), .int .u32 (i : Int)] w fun e w' => e = .returned (.int .i64 0) ∧ Mem w' p k (s.give i) ∧ Keep (Own p k) w w' := by
  obtain ⟨q, rfl⟩ : ∃ q, i = q + 1 := ⟨i - 1, by omega⟩
  exact give_any h (by omega) hN hl hc
theorem Tt.ids1 {w : World} {b p k : Nat} {s : Ar} {l : List Nat} {t : Tr} (h : Tt w b p k s l t) : ∀ z ∈ t.ids, 1 ≤ z := fun z hz => (h.hang.live z hz).1
theorem Tt.len {w : World} {b p k : Nat} {s : Ar} {l : List Nat} {t : Tr} (h : Tt w b p k s l t) : t.ids.length ≤ 512 := by
  have := h.hang.len h.nd
  have := h.ok.small
  omega
theorem Tt.sub0 {w : World} {b p k : Nat} {s : Ar} {l : List Nat} {t : Tr} (h : Tt w b p k s l t) {v : Int} (hz : ¬ t.Has v) : (t.sub v).link = 0 := by
  rw [Tr.sub_link]
  by_cases e : t.idOf v = 0
  · exact e
  · exact absurd ((Tr.idOf_has (k := v) h.ids1).2 e) hz
set_option maxRecDepth 100000 in
theorem Tt.sub1 {w : World} {b p k : Nat} {s : Ar} {l : List Nat} {t : Tr} (h : Tt w b p k s l t) {v : Int} (hz : t.Has v) : ((((t.sub v).link : Nat) : Int) == 0) = false ∧ (t.sub v).link = t.idOf v := by
  rw [Tr.sub_link]
  have := (Tr.idOf_has (k := v) h.ids1).1 hz
  refine ⟨?_, rfl⟩
  simp; omega

set_option maxRecDepth 100000 in
set_option maxHeartbeats 1000000 in
theorem insert_old {w : World} {b p k : Nat} {s : Ar} {l : List Nat} {t : Tr} (h : Tt w b p k s l t) (r : Rn) (hz : t.Has r.lba) :
    Calls Try.prog 106 #[.pointer (some ⟨b, 0, none⟩), .agg (rnA r)] w fun e w' => e = .returned (.int .i64 1) ∧ Keep (fun _ => False) w w' := by
  have K1 : Keep (fun _ => False) w (w.alloc (.cells (rnA r) 35)) := (Keep.refl _ _).alloc _
  have hfind := find_any (h.more K1) r.lba
  have hs := (h.sub1 hz).1
  rw [rnA_lit] at K1 hfind ⊢
  go_enter Try.func106, Try.ntmps106
  go_wp2_with (go_at_call 110; refine hfind.mono ?_; rintro e w2 ⟨rfl, hk2⟩)
  go_ret
  exact ⟨rfl, K1.trans hk2⟩

set_option maxRecDepth 100000 in
set_option maxHeartbeats 1000000 in
theorem insert_full {w : World} {b p k : Nat} {s : Ar} {t : Tr} (h : Tt w b p k s [] t) (r : Rn) (hz : ¬ t.Has r.lba) :
    Calls Try.prog 106 #[.pointer (some ⟨b, 0, none⟩), .agg (rnA r)] w fun e w' => e = .returned (.int .i64 5) ∧ Keep (fun _ => False) w w' := by
  have K1 : Keep (fun _ => False) w (w.alloc (.cells (rnA r) 35)) := (Keep.refl _ _).alloc _
  have hfind := find_any (h.more K1) r.lba
  have hs := h.sub0 hz
  rw [hs] at hfind
  rw [show ((0 : Nat) : Int) = 0 from rfl] at hfind
  rw [rnA_lit] at K1 hfind ⊢
  go_enter Try.func106, Try.ntmps106
  go_upto_region 3 with (go_at_call 110; refine hfind.mono ?_; rintro e w2 ⟨rfl, hk2⟩)
  have h2 := h.more (K1.trans hk2)
  have htake := take_none h2.mem h2.ok
  obtain ⟨t0, t1, t2, f1, f2⟩ := h2.tops
  go_wp2_with (go_at_call 114; refine htake.mono ?_; rintro e w3 ⟨rfl, rfl⟩)
  go_ret
  exact ⟨rfl, K1.trans hk2⟩

set_option maxRecDepth 100000 in
set_option maxHeartbeats 1000000 in
theorem insert_new {w : World} {b p k : Nat} {s : Ar} {n : Nat} {l : List Nat} {t : Tr} (h : Tt w b p k s (n :: l) t) (r : Rn) (hz : ¬ t.Has r.lba) :
    Calls Try.prog 106 #[.pointer (some ⟨b, 0, none⟩), .agg (rnA r)] w fun e w' => e = .returned (.int .i64 0) ∧ (∃ s', Tt w' b p k s' l (t.ins n r) ∧ s'.N = s.N) ∧ Keep (Own3 b p k) w w' := by
  have K1 : Keep (fun _ => False) w (w.alloc (.cells (rnA r) 35)) := (Keep.refl _ _).alloc _
  have L1 := Lrn.new w r
  have hfind := find_any (h.more K1) r.lba
  have hs := h.sub0 hz
  rw [hs] at hfind
  rw [show ((0 : Nat) : Int) = 0 from rfl] at hfind
  rw [rnA_lit] at K1 L1 hfind ⊢
  have hN1 := h.ok.one
  obtain ⟨b1, b2, b3⟩ := h.tb.lt hN1
  go_enter Try.func106, Try.ntmps106
  go_upto_region 3 with (go_at_call 110; refine hfind.mono ?_; rintro e w2 ⟨rfl, hk2⟩)
  have h2 := h.more (K1.trans hk2)
  have L2 := L1.more hk2
  have K2 := K1.trans hk2
  clear hfind K1 L1 hk2
  have htake := take_any h2.mem h2.ok
  obtain ⟨t0, t1, t2, f1, f2⟩ := h2.tops
  go_upto_region 6 with (go_at_call 114; refine htake.mono ?_; rintro e w3 ⟨rfl, m3, k3⟩)
  have hr1 := h.ok.range n (by simp)
  have hfr := h.hang.free h.ok (x := n) (by simp)
  have hlv : s.take.live n = true := by simp [Ar.take, Ar.wipe, h.ok.lnk.1]
  have ho : ¬ Own p k b := fun e => e.elim h.bp h.bk
  have hg : ¬ Own p k w.heap.size := h.tb.out hN1 (Nat.le_refl _)
  have K3 : Keep (Own p k) w w3 := K2.ownK.trans k3
  have tb3 := (h2.tb.own k3 m3 rfl).drew
  have L3 : Lrn w3.drew w.heap.size r := Blk.keep L2 k3.drew hg
  have hput := put_at tb3.mem hr1.1 hr1.2 h.ok.small hlv (nf 0 0 1 r)
  rw [nodeA_nf] at hput
  rw [show ((0 : Nat) : Int) = 0 from rfl] at hput
  have hS : ∀ w', Keep (Own p k) w3.drew w' → w'.cell? ⟨b, 0, none⟩ = some (.pointer (some ⟨p, 0, none⟩)) ∧ w'.cell? ⟨w.heap.size, 0, none⟩ = some (.int .i64 r.lba) ∧ w'.cell? ⟨w.heap.size, 1, none⟩ = some (.int .i64 r.len) ∧ w'.cell? ⟨w.heap.size, 2, none⟩ = some (.int .i64 r.phys) :=
    fun w' hk => ⟨tb3.ptrK hk, (Blk.keep L3 hk hg 0 (by omega)).1, (Blk.keep L3 hk hg 1 (by omega)).1, (Blk.keep L3 hk hg 2 (by omega)).1⟩
  clear htake t0 t1 t2 f1 f2
  go_region_held3 (fun w' => w'.cell? ⟨b, 0, none⟩ = some (.pointer (some ⟨p, 0, none⟩)) ∧ w'.cell? ⟨w.heap.size, 0, none⟩ = some (.int .i64 r.lba) ∧ w'.cell? ⟨w.heap.size, 1, none⟩ = some (.int .i64 r.len) ∧ w'.cell? ⟨w.heap.size, 2, none⟩ = some (.int .i64 r.phys)) (first | exact hS _ (Keep.refl _ _) | exact hS _ k4) ((go_at_call 113; refine hput.mono ?_; rintro e w4 ⟨rfl, m4, k4⟩))
  have K4 := K3.trans (((Keep.refl _ _).drew).trans k4)
  have T5 : Blk w4.drew b 3 (t.top p) := (h.top.keep K4 ho).drew
  have L5 : ∀ {w'}, Keep (Own p k) w4.drew w' → w'.cell? ⟨w.heap.size, 0, none⟩ = some (.int .i64 r.lba) := fun {w'} hk => (Blk.keep L3 (k4.trans (((Keep.refl _ _).drew).trans hk)) hg 0 (by omega)).1
  have c5 := L5 (Keep.refl _ _)
  have r5 := (T5 1 (by omega)).1
  have tb5 := ((tb3.own k4 m4 rfl)).drew
  have H5 : Hang (s.take.set n (nf 0 0 1 r)) t := (h.hang.take h.ok).set hfr _
  have V5 : Hang (s.take.set n (nf 0 0 1 r)) (.node n .nil r .nil) := ⟨⟨hr1.1, hr1.2, hlv, fun j _ => by simp only [Ar.set, if_true]; rfl⟩, trivial, trivial⟩
  have hhang : Calls Try.prog 115 #[.pointer (some ⟨b, 0, none⟩), .int .u32 (t.link : Int), .int .u32 (n : Int), .int .i64 r.lba] w4.drew (fun e w2 => ∃ v, e = .returned v ∧ (fun u wz => u = .int .u32 ((t.ins n r).link : Int) ∧ Aft w4.drew b p k (s.take.set n (nf 0 0 1 r)) (t.ins n r) wz) v w2) :=
    (hang_any t tb5 H5 V5 h.nd hfr).mono (by rintro e w' ⟨rfl, ha⟩; exact ⟨_, rfl, rfl, ha⟩)
  clear hS hput
  go_wp2_with fail
  refine wp_region_noPanic ?_
  refine wp_region_held_drew (S := fun w' => w'.cell? ⟨w.heap.size, 0, none⟩ = some (.int .i64 r.lba)) (by kernel_rfl) (c5) (fun hH0 => ?_)
  refine' wpAnyH_take (i := 0) (oi := { dst := some 31, op := Op.move (Operand.tmp 0), type := 80, pos := "tree.go:37", after := #[], guard := none }) (v := _) rfl (by kernel_rfl) (by kernel_rfl) (by kernel_rfl) (fun _ _ _ h => h) (Or.inl ⟨by rfl, ?hy0⟩) hH0 ?r0
  case hy0 => (intro w' hSw; clear hSw; go_simp; try with_reducible rfl)
  simp only [Act.put, List.setIfInBounds_toArray, List.set_cons_zero, List.set_cons_succ]
  refine' wpAnyH_take (i := 1) (oi := { dst := some 32, op := Op.move (Operand.tmp 0), type := 80, pos := "tree.go:37", after := #[], guard := none }) (v := _) rfl (by kernel_rfl) (by kernel_rfl) (by kernel_rfl) (fun _ _ _ h => h) (Or.inl ⟨by rfl, ?hy1⟩) hH0 ?r1
  case hy1 => (intro w' hSw; clear hSw; go_simp; try with_reducible rfl)
  simp only [Act.put, List.setIfInBounds_toArray, List.set_cons_zero, List.set_cons_succ]
  refine' wpAnyH_take (i := 2) (oi := { dst := some 33, op := Op.move (Operand.tmp 0), type := 80, pos := "tree.go:37", after := #[], guard := none }) (v := _) rfl (by kernel_rfl) (by kernel_rfl) (by kernel_rfl) (fun _ _ _ h => h) (Or.inl ⟨by rfl, ?hy2⟩) hH0 ?r2
  case hy2 => (intro w' hSw; clear hSw; go_simp; try with_reducible rfl)
  simp only [Act.put, List.setIfInBounds_toArray, List.set_cons_zero, List.set_cons_succ]
  refine' wpAnyH_take (i := 3) (oi := { dst := some 34, op := Op.nilCheck (Operand.tmp 33), type := 0, pos := "tree.go:37", after := #[{ on := 2, ground := Ground.data }], guard := none }) (v := _) rfl (by kernel_rfl) (by kernel_rfl) (by kernel_rfl) (fun _ _ _ h => h) (Or.inl ⟨by rfl, ?hy3⟩) hH0 ?r3
  case hy3 => (intro w' hSw; clear hSw; go_simp; try with_reducible rfl)
  simp only [Act.put, List.setIfInBounds_toArray, List.set_cons_zero, List.set_cons_succ]
  refine' wpAnyH_take (i := 4) (oi := { dst := some 35, op := Op.fieldAddr 98 (Operand.tmp 34) 1, type := 0, pos := "tree.go:37", after := #[{ on := 3, ground := Ground.data }], guard := none }) (v := _) rfl (by kernel_rfl) (by kernel_rfl) (by kernel_rfl) (fun _ _ _ h => h) (Or.inl ⟨by rfl, ?hy4⟩) hH0 ?r4
  case hy4 => (intro w' hSw; clear hSw; go_simp; try with_reducible rfl)
  simp only [Act.put, List.setIfInBounds_toArray, List.set_cons_zero, List.set_cons_succ]
  refine' wpAnyH_take (i := 6) (oi := { dst := some 37, op := Op.move (Operand.tmp 5), type := 90, pos := "tree.go:37", after := #[], guard := none }) (v := _) rfl (by kernel_rfl) (by kernel_rfl) (by kernel_rfl) (fun _ _ _ h => h) (Or.inl ⟨by rfl, ?hy6⟩) hH0 ?r6
  case hy6 => (intro w' hSw; clear hSw; go_simp; try with_reducible rfl)
  simp only [Act.put, List.setIfInBounds_toArray, List.set_cons_zero, List.set_cons_succ]
  refine' wpAnyH_take (i := 7) (oi := { dst := some 38, op := Op.fieldAddr 35 (Operand.tmp 3) 0, type := 0, pos := "tree.go:37", after := #[], guard := none }) (v := _) rfl (by kernel_rfl) (by kernel_rfl) (by kernel_rfl) (fun _ _ _ h => h) (Or.inl ⟨by rfl, ?hy7⟩) hH0 ?r7
  case hy7 => (intro w' hSw; clear hSw; go_simp; try with_reducible rfl)
  simp only [Act.put, List.setIfInBounds_toArray, List.set_cons_zero, List.set_cons_succ]
  refine' wpAnyH_take (i := 8) (oi := { dst := some 39, op := Op.load 3 (Operand.tmp 38), type := 3, pos := "tree.go:37", after := #[{ on := 7, ground := Ground.data }], guard := none }) (v := _) rfl (by kernel_rfl) (by kernel_rfl) (by kernel_rfl) (fun _ _ _ h => h) (Or.inl ⟨by rfl, ?hy8⟩) hH0 ?r8
  case hy8 => (intro w' hSw; go_simp; try with_reducible rfl)
  simp only [Act.put, List.setIfInBounds_toArray, List.set_cons_zero, List.set_cons_succ]
  refine wpAnyH_ready (rs := [5]) (by kernel_rfl) (by simp) ?_
  refine AllReadyH.cons (o := { dst := some 36, op := Op.load 90 (Operand.tmp 35), type := 90, pos := "tree.go:37", after := #[{ on := 4, ground := Ground.data }], guard := none }) rfl (fun K hK => ?_) AllReadyH.nil
  refine step_load_run (by rfl) 90 (.tmp 35) rfl (by rfl) (load_root r5) ?_
  refine hK.out _ _ (c5) (fun hH1 => ?_)
  clear hK K hH0
  simp only [Act.put, List.setIfInBounds_toArray, List.set_cons_zero, List.set_cons_succ]
  refine wpAnyH_ready (rs := [9]) (by kernel_rfl) (by simp) ?_
  refine AllReadyH.cons (o := { dst := some 40, op := Op.call { callee := Callee.value (Operand.func 115), args := #[Operand.tmp 32, Operand.tmp 36, Operand.tmp 37, Operand.tmp 39], argTypes := #[80, 90, 90, 3] }, type := 90, pos := "tree.go:37", after := #[{ on := 1, ground := Ground.data }, { on := 5, ground := Ground.data }, { on := 6, ground := Ground.data }, { on := 8, ground := Ground.data }], guard := none }) rfl (fun K hK => ?_) AllReadyH.nil
  refine step_call_want (vs := #[.pointer (some ⟨b, 0, none⟩), .int .u32 (t.link : Int), .int .u32 (n : Int), .int .i64 r.lba]) (R := fun u wz => u = .int .u32 ((t.ins n r).link : Int) ∧ Aft w4.drew b p k (s.take.set n (nf 0 0 1 r)) (t.ins n r) wz) (by rfl) 115 #[Operand.tmp 32, Operand.tmp 36, Operand.tmp 37, Operand.tmp 39] #[80, 90, 90, 3] rfl (by simp [Act.eval]) call30 (hhang) ?_
  rintro _ w6 ⟨rfl, s6, t6, H6, S6, k6⟩
  refine hK.out _ _ (L5 k6) (fun hH2 => ?_)
  clear hK K hH1
  simp only [Act.put, List.setIfInBounds_toArray, List.set_cons_zero, List.set_cons_succ]
  refine' wpAnyH_take (i := 10) (oi := { dst := some 41, op := Op.nilCheck (Operand.tmp 31), type := 0, pos := "tree.go:37", after := #[{ on := 0, ground := Ground.data }, { on := 0, ground := Ground.phase }, { on := 1, ground := Ground.phase }, { on := 2, ground := Ground.phase }, { on := 3, ground := Ground.phase }, { on := 4, ground := Ground.phase }, { on := 5, ground := Ground.phase }, { on := 6, ground := Ground.phase }, { on := 7, ground := Ground.phase }, { on := 8, ground := Ground.phase }, { on := 9, ground := Ground.phase }], guard := none }) (v := _) rfl (by kernel_rfl) (by kernel_rfl) (by kernel_rfl) (fun _ _ _ h => h) (Or.inl ⟨by rfl, ?hy10⟩) hH2 ?r10
  case hy10 => (intro w' hSw; clear hSw; go_simp; try with_reducible rfl)
  simp only [Act.put, List.setIfInBounds_toArray, List.set_cons_zero, List.set_cons_succ]
  refine' wpAnyH_take (i := 11) (oi := { dst := some 42, op := Op.fieldAddr 98 (Operand.tmp 41) 1, type := 0, pos := "tree.go:37", after := #[{ on := 10, ground := Ground.data }, { on := 0, ground := Ground.phase }, { on := 1, ground := Ground.phase }, { on := 2, ground := Ground.phase }, { on := 3, ground := Ground.phase }, { on := 4, ground := Ground.phase }, { on := 5, ground := Ground.phase }, { on := 6, ground := Ground.phase }, { on := 7, ground := Ground.phase }, { on := 8, ground := Ground.phase }, { on := 9, ground := Ground.phase }], guard := none }) (v := _) rfl (by kernel_rfl) (by kernel_rfl) (by kernel_rfl) (fun _ _ _ h => h) (Or.inl ⟨by rfl, ?hy11⟩) hH2 ?r11
  case hy11 => (intro w' hSw; clear hSw; go_simp; try with_reducible rfl)
  simp only [Act.put, List.setIfInBounds_toArray, List.set_cons_zero, List.set_cons_succ]
  refine wpAnyH_ready (rs := [12]) (by kernel_rfl) (by simp) ?_
  refine AllReadyH.cons (o := { dst := none, op := Op.store 90 (Operand.tmp 42) (Operand.tmp 40), type := 0, pos := "tree.go:37", after := #[{ on := 11, ground := Ground.data }, { on := 9, ground := Ground.data }, { on := 9, ground := Ground.chain }, { on := 0, ground := Ground.phase }, { on := 1, ground := Ground.phase }, { on := 2, ground := Ground.phase }, { on := 3, ground := Ground.phase }, { on := 4, ground := Ground.phase }, { on := 5, ground := Ground.phase }, { on := 6, ground := Ground.phase }, { on := 7, ground := Ground.phase }, { on := 8, ground := Ground.phase }, { on := 9, ground := Ground.phase }], guard := none }) rfl (fun K hK => ?_) AllReadyH.nil
  refine step_store_run (by rfl) 90 (.tmp 42) (.tmp 40) rfl (by rfl) (by rfl) (store_root (T5.keep k6 ho 1 (by omega)).1 (T5.keep k6 ho 1 (by omega)).2) ?_
  refine hK.out _ _ (by rw [World.cell?_setCell_other (h := fun x => by have := congrArg Addr.block x; simp at this; omega)]; exact L5 k6) (fun hH3 => ?_)
  clear hK K hH2
  refine wpAnyH_done (by kernel_rfl) ?_ _
  refine NoPanic.normal ?_
  have ho6 := fun (w' : World) (hk : Keep (Own p k) w4.drew w') => T5.keep hk ho
  have T6 := ho6 _ k6
  have T7 : Blk (w6.setCell ⟨b, 1, none⟩ (.int .u32 ((t.ins n r).link : Int))) b 3 (fun i => if i = 1 then .int .u32 ((t.ins n r).link : Int) else t.top p i) := T6.set 1 _
  have z1 : (w6.setCell ⟨b, 1, none⟩ (.int .u32 ((t.ins n r).link : Int))).cell? ⟨b, 2, none⟩ = some (.int .i64 (t.ids.length : Int)) := (T7 2 (by omega)).1
  have z2 : (w6.setCell ⟨b, 1, none⟩ (.int .u32 ((t.ins n r).link : Int))).frozen? ⟨b, 2, none⟩ = false := (T7 2 (by omega)).2
  have hlen := h.len
  have dw : IntKind.i64.wrap ((t.ids.length : Int) + 1) = (t.ids.length : Int) + 1 := by rw [IntKind.wrap_i64] <;> omega
  have T8 := T7.set 2 (.int .i64 ((t.ids.length : Int) + 1))
  have K68 : Keep (fun x => x = b) w6 ((w6.setCell ⟨b, 1, none⟩ (.int .u32 ((t.ins n r).link : Int))).setCell ⟨b, 2, none⟩ (.int .i64 ((t.ids.length : Int) + 1))) := ((Keep.refl (fun x => x = b) w6).setCell (p := ⟨b, 1, none⟩) (Or.inl rfl) _).setCell (p := ⟨b, 2, none⟩) (Or.inl rfl) _
  have hbal := (Tr.ins_bal n r t h.bal).1
  have hcount : s6.count = s.count + 1 := S6.count
  have F8 : Tt ((w6.setCell ⟨b, 1, none⟩ (.int .u32 ((t.ins n r).link : Int))).setCell ⟨b, 2, none⟩ (.int .i64 ((t.ids.length : Int) + 1))) b p k s6 l (t.ins n r) :=
    ⟨T8.congr (fun i hi => by rcases three hi with rfl | rfl | rfl <;> simp [Tr.top, Tr.ins_len]), t6.mem.keep K68 (Ne.symm h.bp) (Ne.symm h.bk), h.bp, h.bk, H6, Tr.ins_nd h.nd hfr, hbal, Tr.ins_ord h.ord hz, S6.ok (h.ok.take.set _ _), by rw [hcount, h.live, Tr.ins_len]⟩
  have K8 : Keep (Own3 b p k) w ((w6.setCell ⟨b, 1, none⟩ (.int .u32 ((t.ins n r).link : Int))).setCell ⟨b, 2, none⟩ (.int .i64 ((t.ids.length : Int) + 1))) := ((K4.trans (((Keep.refl _ _).drew).trans k6)).own3).next K68 (fun x _ e => Or.inl e)
  clear T5 T6 T7 T8 L5 c5 r5 tb5 H5 V5 hhang K68 h
  go_wp2_with fail
  go_ret
  exact ⟨rfl, ⟨s6, F8, S6.N⟩, K8⟩
set_option maxRecDepth 100000 in
set_option maxHeartbeats 1000000 in
theorem delete_no {w : World} {b p k : Nat} {s : Ar} {l : List Nat} {t : Tr} (h : Tt w b p k s l t) (v : Int) (hz : ¬ t.Has v) :
    Calls Try.prog 104 #[.pointer (some ⟨b, 0, none⟩), .int .i64 v] w fun e w' => e = .returned (.int .i64 4) ∧ Keep (fun _ => False) w w' := by
  have hfind := find_any h v
  rw [h.sub0 hz, show ((0 : Nat) : Int) = 0 from rfl] at hfind
  go_enter Try.func104, Try.ntmps104
  go_wp2_with (go_at_call 110; refine hfind.mono ?_; rintro e w2 ⟨rfl, hk2⟩)
  go_ret
  exact ⟨rfl, hk2⟩

set_option maxRecDepth 100000 in
set_option maxHeartbeats 1000000 in
theorem delete_yes {w : World} {b p k : Nat} {s : Ar} {l : List Nat} {t : Tr} (h : Tt w b p k s l t) (v : Int) (hz : t.Has v) :
    Calls Try.prog 104 #[.pointer (some ⟨b, 0, none⟩), .int .i64 v] w fun e w' => e = .returned (.int .i64 0) ∧ (∃ s', Tt w' b p k s' (t.idOf v :: l) (t.del v) ∧ s'.N = s.N) ∧ Keep (Own3 b p k) w w' := by
  have hfind := find_any h v
  obtain ⟨d0, hi⟩ := h.sub1 hz
  rw [hi] at hfind d0
  have hmem := Tr.idOf_mem hz
  have hgone := Tr.idOf_gone hz h.nd
  have hdl := Tr.del_len hz
  obtain ⟨i1, i2, i3⟩ := h.hang.live _ hmem
  generalize hid : t.idOf v = i at hfind d0 hmem hgone i1 i2 i3 ⊢
  have hN1 := h.ok.one
  have ho : ¬ Own p k b := fun e => e.elim h.bp h.bk
  go_enter Try.func104, Try.ntmps104
  go_upto_region 4 with (go_at_call 110; refine hfind.mono ?_; rintro e w2 ⟨rfl, hk2⟩)
  have h2 := h.more hk2
  have hun := unhang_any t h2.tb h.hang h.nd hz
  obtain ⟨t0, t1, t2, f1, f2⟩ := h2.tops
  clear hfind
  go_upto_region 5 with (go_at_call 111; refine hun.mono ?_; rintro e w3 ⟨rfl, s3, t3, H3, S3, k3⟩; have y1 := (h2.top.keep k3 ho 1 (by omega)).1; have yf := (h2.top.keep k3 ho 1 (by omega)).2)
  have T4 := (h2.top.keep k3 ho).set 1 (.int .u32 ((t.del v).link : Int))
  have K34 : Keep (fun x => x = b) w3 (w3.setCell ⟨b, 1, none⟩ (.int .u32 ((t.del v).link : Int))) := (Keep.refl (fun x => x = b) w3).setCell (p := ⟨b, 1, none⟩) (Or.inl rfl) _
  have m4 := t3.mem.keep K34 (Ne.symm h.bp) (Ne.symm h.bk)
  have K4 : Keep (Own3 b p k) w (w3.setCell ⟨b, 1, none⟩ (.int .u32 ((t.del v).link : Int))) := ((hk2.ownK.trans k3).own3).next K34 (fun x _ e => Or.inl e)
  generalize w3.setCell ⟨b, 1, none⟩ (.int .u32 ((t.del v).link : Int)) = w4 at T4 m4 K4 K34 ⊢
  have ok4 := S3.ok h.ok
  have l4 : s3.live i = true := by rw [S3.live]; exact i3
  have n4 : i ≤ s3.N := by rw [S3.N]; exact i2
  have hgv := give_at m4 i1 n4 ok4.small l4 (by have := S3.count; have := h.live; have := h.len; omega)
  clear y1 yf t0 t1 t2 f1 f2 hun h2
  have c0 : w4.cell? ⟨b, 0, none⟩ = some (.pointer (some ⟨p, 0, none⟩)) := (T4 0 (by omega)).1
  go_upto_region 6 with (go_at_call 112; refine hgv.mono ?_; rintro e w5 ⟨rfl, m5, k5⟩)
  have T5 := T4.keep k5 ho
  have z1 : w5.cell? ⟨b, 2, none⟩ = some (.int .i64 (t.ids.length : Int)) := (T5 2 (by omega)).1
  have z2 : w5.frozen? ⟨b, 2, none⟩ = false := (T5 2 (by omega)).2
  have hlen := h.len
  have dw : IntKind.i64.wrap ((t.ids.length : Int) - 1) = (t.ids.length : Int) - 1 := by rw [IntKind.wrap_i64] <;> omega
  have T6 := T5.set 2 (.int .i64 ((t.ids.length : Int) - 1))
  have K56 : Keep (fun x => x = b) w5 (w5.setCell ⟨b, 2, none⟩ (.int .i64 ((t.ids.length : Int) - 1))) := (Keep.refl (fun x => x = b) w5).setCell (p := ⟨b, 2, none⟩) (Or.inl rfl) _
  have hNN : (s3.give i).N = s.N := S3.N
  have hcount : (s3.give i).count = s.count - 1 := by show s3.count - 1 = _; rw [S3.count]
  have F6 : Tt (w5.setCell ⟨b, 2, none⟩ (.int .i64 ((t.ids.length : Int) - 1))) b p k (s3.give i) (i :: l) (t.del v) :=
    ⟨T6.congr (fun j hj => by rcases three hj with rfl | rfl | rfl <;> simp [Tr.top]; omega), m5.keep K56 (Ne.symm h.bp) (Ne.symm h.bk), h.bp, h.bk, H3.give hgone, (Tr.del_sub v t).nodup h.nd, (Tr.del_bal v t h.bal).1, Tr.del_ord h.ord, ok4.give i1 n4 l4, by rw [hcount, h.live]; omega⟩
  have K6 : Keep (Own3 b p k) w (w5.setCell ⟨b, 2, none⟩ (.int .i64 ((t.ids.length : Int) - 1))) := (K4.trans k5.own3).next K56 (fun x _ e => Or.inl e)
  clear T4 T5 T6 K56 K34 m4 m5 h hid hgv c0 hdl
  go_wp2_with fail
  go_ret
  exact ⟨rfl, ⟨_, F6, hNN⟩, K6⟩

set_option maxRecDepth 100000 in
set_option maxHeartbeats 1000000 in
theorem change_no {w : World} {b p k : Nat} {s : Ar} {l : List Nat} {t : Tr} (h : Tt w b p k s l t) (r : Rn) (hz : ¬ t.Has r.lba) :
    Calls Try.prog 105 #[.pointer (some ⟨b, 0, none⟩), .agg (rnA r)] w fun e w' => e = .returned (.int .i64 4) ∧ Keep (fun _ => False) w w' := by
  have K1 : Keep (fun _ => False) w (w.alloc (.cells (rnA r) 35)) := (Keep.refl _ _).alloc _
  have hfind := find_any (h.more K1) r.lba
  rw [h.sub0 hz, show ((0 : Nat) : Int) = 0 from rfl] at hfind
  rw [rnA_lit] at K1 hfind ⊢
  go_enter Try.func105, Try.ntmps105
  go_wp2_with (go_at_call 110; refine hfind.mono ?_; rintro e w2 ⟨rfl, hk2⟩)
  go_ret
  exact ⟨rfl, K1.trans hk2⟩

set_option maxRecDepth 100000 in
/-- A node's run is written over. -/
theorem Loc.setRun {w : World} {g a b : Nat} {c : Int} {x : Rn} (h : Loc w g a b c x) (y : Rn) : ∃ w', (Instr.storeAt 35 (.pointer (some ⟨g, 3, none⟩)) (.agg #[.int .i64 y.lba, .int .i64 y.len, .int .i64 y.phys])).run Try.prog w = .ok () w' ∧ Loc w' g a b c y ∧ Keep (fun b => b = g) w w' := by
  refine ⟨_, store_rn h (o := 3) (by omega) y, (Blk.setCells h 3 3 (rcell y) (by omega)).congr (fun i hi => ?_), (Keep.refl (fun b => b = g) w).setCells (b := g) (Or.inl rfl) _ _⟩
  have h6 : i = 0 ∨ i = 1 ∨ i = 2 ∨ i = 3 ∨ i = 4 ∨ i = 5 := by omega
  rcases h6 with rfl | rfl | rfl | rfl | rfl | rfl <;> rfl

set_option maxRecDepth 100000 in
set_option maxHeartbeats 1000000 in
theorem change_yes {w : World} {b p k : Nat} {s : Ar} {l : List Nat} {t : Tr} (h : Tt w b p k s l t) (r : Rn) (hz : t.Has r.lba) :
    Calls Try.prog 105 #[.pointer (some ⟨b, 0, none⟩), .agg (rnA r)] w fun e w' => e = .returned (.int .i64 0) ∧ (∃ s', Tt w' b p k s' l (t.chg r) ∧ s'.N = s.N) ∧ Keep (Own3 b p k) w w' := by
  have K1 : Keep (fun _ => False) w (w.alloc (.cells (rnA r) 35)) := (Keep.refl _ _).alloc _
  have L1 := Lrn.new w r
  have hfind := find_any (h.more K1) r.lba
  obtain ⟨i, a, x, c, hsub, -⟩ := Tr.has_sub hz
  have hsu := h.hang.sub r.lba
  obtain ⟨d0, -⟩ := h.sub1 hz
  rw [hsub] at hfind d0 hsu
  have hi : (Tr.node i a x c).link = i := rfl
  rw [hi] at hfind d0
  have hN1 := h.ok.one
  have ho : ¬ Own p k b := fun e => e.elim h.bp h.bk
  have hg : ¬ Own p k w.heap.size := h.tb.out hN1 (Nat.le_refl _)
  obtain ⟨b1, b2, b3⟩ := h.tb.lt hN1
  rw [rnA_lit] at K1 L1 hfind ⊢
  go_enter Try.func105, Try.ntmps105
  go_upto_region 4 with (go_at_call 110; refine hfind.mono ?_; rintro e w2 ⟨rfl, hk2⟩)
  have h2 := h.more (K1.trans hk2)
  have L2 := L1.more hk2
  have K2 := K1.trans hk2
  have hnd := node_any h2.tb hsu
  rw [Tr.flds_eq, nodeA_nf, hi] at hnd
  generalize hM : ((max a.h c.h + 1 : Nat) : Int) = M at hnd
  clear hfind hk2 K1 L1
  go_upto_region 5 with (go_at_call 108; refine hnd.mono ?_; rintro e w3 ⟨rfl, hk3⟩)
  have K4 : Keep (fun _ => False) w (w3.alloc (.cells (nodeA (nf a.link c.link M x)) 94)) := (K2.trans hk3).alloc _
  have L4 : Lrn (w3.alloc (.cells (nodeA (nf a.link c.link M x)) 94)) w.heap.size r := (L2.more hk3).more ((Keep.refl _ _).alloc _)
  have A4 := Loc.new w3 a.link c.link M x
  have hge : w.heap.size < w3.heap.size := (World.block_lt_of_cell? _ _ ((L2.more hk3) 0 (by omega)).1)
  simp only [nodeA_nf] at K4 L4 A4
  generalize w3.alloc (.cells #[.int .u32 (a.link : Int), .int .u32 (c.link : Int), .int .i64 M, .int .i64 x.lba, .int .i64 x.len, .int .i64 x.phys] 94) = w4 at K4 L4 A4 ⊢
  generalize w3.heap.size = g at hge A4 ⊢
  clear hnd hk3 L2 K2
  have q0 : w4.cell? ⟨w.heap.size, 0, none⟩ = some (.int .i64 r.lba) := (L4 0 (by omega)).1
  have q1 : w4.cell? ⟨w.heap.size, 1, none⟩ = some (.int .i64 r.len) := (L4 1 (by omega)).1
  have q2 : w4.cell? ⟨w.heap.size, 2, none⟩ = some (.int .i64 r.phys) := (L4 2 (by omega)).1
  obtain ⟨w5, hst, A5, k5⟩ := A4.setRun r
  have K5 : Keep (fun _ => False) w w5 := K4.next k5 (fun y hy e => by omega)
  have h5 := (h.more K5)
  have tb5 := h5.tb.drew
  have A5' : Loc w5.drew g a.link c.link M r := A5
  obtain ⟨⟨v1, v2, v3, v4⟩, -⟩ := hsu
  have hput := put_at tb5.mem v1 v2 h.ok.small v3 (nf a.link c.link M r)
  rw [nodeA_nf] at hput
  have hg5 : ¬ Own p k g := h.tb.out hN1 (by omega)
  have hS : ∀ w', Keep (Own p k) w5.drew w' → _ := fun w' hk => And.intro (tb5.ptrK hk) (A5'.keep hk hg5).six
  go_upto_region 6 with (guard_target =~ wpList _ _ _ (Oper.mk _ (Op.store 35 _ _) _ _ _ _ :: _) _ _; refine wpList_store_run rfl 35 (.tmp 17) (.tmp 16) rfl (by rfl) (by rfl) hst ?_)
  go_region_held3 (fun w' => w'.cell? ⟨b, 0, none⟩ = some (.pointer (some ⟨p, 0, none⟩)) ∧ w'.cell? ⟨g, 0, none⟩ = some (.int .u32 (a.link : Int)) ∧ w'.cell? ⟨g, 1, none⟩ = some (.int .u32 (c.link : Int)) ∧ w'.cell? ⟨g, 2, none⟩ = some (.int .i64 M) ∧ w'.cell? ⟨g, 3, none⟩ = some (.int .i64 r.lba) ∧ w'.cell? ⟨g, 4, none⟩ = some (.int .i64 r.len) ∧ w'.cell? ⟨g, 5, none⟩ = some (.int .i64 r.phys)) (first | exact hS _ (Keep.refl _ _) | exact hS _ k6) ((go_at_call 113; refine hput.mono ?_; rintro e w6 ⟨rfl, m6, k6⟩))
  have T6 := (h5.top.drew).keep k6 ho
  have hch : Hang (s.set i (nf a.link c.link M r)) (t.chg r) := by
    have := h.hang.chg (v := r) h.nd hsub
    rw [Tr.flds_eq, hM] at this
    exact this
  have F6 : Tt w6 b p k (s.set i (nf a.link c.link M r)) l (t.chg r) :=
    ⟨T6.congr (fun j hj => by rcases three hj with rfl | rfl | rfl <;> simp [Tr.top, Tr.chg_link, Tr.chg_ids]), m6, h.bp, h.bk, hch, by rw [Tr.chg_ids]; exact h.nd, Tr.chg_bal r t h.bal, Tr.chg_ord h.ord, h.ok.set _ _, by rw [Tr.chg_ids]; exact h.live⟩
  have K6 : Keep (Own3 b p k) w w6 := (K5.drew.ownK.trans k6).own3
  clear T6 hch hS hput A5 A5' tb5 h5 L4 A4
  go_wp2_with fail
  go_ret
  exact ⟨rfl, ⟨_, F6, rfl⟩, K6⟩
end Tg
end Go.Proofs.Ytkddonmddgfpnab
namespace Go.Proofs.Ytkddonmddgfpnab
open Go.ChangeShapes Go.WideShapes Go.ChangeAt Go.RowKit
namespace Tg

/-- A row in block G: room for N cells, the first of which are xs. -/
structure Rw (w : World) (G N : Nat) (xs : List Value) : Prop where
  cells : ∀ j u, xs[j]? = some u → w.cell? ⟨G, j, none⟩ = some u
  free : ∀ j, j < N → (w.cell? ⟨G, j, none⟩).isSome = true ∧ w.frozen? ⟨G, j, none⟩ = false

theorem Rw.keep {S : Nat → Prop} {w w' : World} {G N : Nat} {xs : List Value} (h : Rw w G N xs) (k : Keep S w w') (hs : ¬ S G) : Rw w' G N xs := by
  refine ⟨fun j u hu => ?_, fun j hj => ?_⟩
  · have := h.cells j u hu
    rw [← this]
    exact World.cell?_of_block (w := w) (a := ⟨G, j, none⟩) (k.block G (World.block_lt_of_cell? w _ this) hs)
  · obtain ⟨h1, h2⟩ := h.free j hj
    obtain ⟨v, hv⟩ := Option.isSome_iff_exists.1 h1
    have e := k.block G (World.block_lt_of_cell? w _ hv) hs
    exact ⟨by rw [World.cell?_of_block (w := w) (a := ⟨G, j, none⟩) e]; exact h1, by rw [World.frozen?_of_block (w := w) (a := ⟨G, j, none⟩) e]; exact h2⟩
theorem Rw.more {w w' : World} {G N : Nat} {xs : List Value} (h : Rw w G N xs) (k : Keep (fun _ => False) w w') : Rw w' G N xs := h.keep k (fun e => e)
set_option maxRecDepth 100000 in
theorem Rw.app {w : World} {G N : Nat} {xs : List Value} (h : Rw w G N xs) (ys : List Value) (hl : xs.length + ys.length ≤ N) : Rw (w.setCells G xs.length ys) G N (xs ++ ys) := by
  have hin := World.cell?_setCells_in G ys xs.length w (fun j hj => (h.free (xs.length + j) (by omega)).1)
  refine ⟨fun j u hu => ?_, fun j hj => ?_⟩
  · by_cases e : j < xs.length
    · rw [List.getElem?_append_left e] at hu
      rw [World.cell?_setCells_out G _ xs.length w ⟨G, j, none⟩ (fun _ _ => Or.inl e)]
      exact h.cells j u hu
    · rw [List.getElem?_append_right (by omega)] at hu
      have hj := (List.getElem?_eq_some_iff.1 hu).1
      have := hin (j - xs.length) hj
      rw [show xs.length + (j - xs.length) = j by omega] at this
      rw [this, ← hu]
      simp [hj]
  · obtain ⟨h1, h2⟩ := h.free j hj
    refine ⟨?_, by rw [World.frozen?_setCells]; exact h2⟩
    by_cases e : xs.length ≤ j ∧ j < xs.length + ys.length
    · have := hin (j - xs.length) (by omega)
      rw [show xs.length + (j - xs.length) = j by omega] at this
      rw [this]; rfl
    · rw [World.cell?_setCells_out G _ xs.length w ⟨G, j, none⟩ (fun _ _ => by simp; omega)]; exact h1

/-- A view's seven cells. -/
structure Vw where
  id : Nat
  left : Nat
  right : Nat
  h : Int
  x : Rn
def vcs (v : Vw) : List Value := [.int .u32 (v.id : Int), .int .u32 (v.left : Int), .int .u32 (v.right : Int), .int .i64 v.h, .int .i64 v.x.lba, .int .i64 v.x.len, .int .i64 v.x.phys]
def vcells (l : List Vw) : List Value := l.flatMap vcs
set_option maxRecDepth 100000 in
theorem vcells_len (l : List Vw) : (vcells l).length = l.length * 7 := by
  induction l with
  | nil => rfl
  | cons v l ih => simp only [vcells, List.flatMap_cons, List.length_append] at *; rw [ih]; simp [vcs]; omega
theorem vcells_app (l m : List Vw) : vcells (l ++ m) = vcells l ++ vcells m := by simp [vcells]
def rcs (x : Rn) : List Value := [.int .i64 x.lba, .int .i64 x.len, .int .i64 x.phys]
def rcells (l : List Rn) : List Value := l.flatMap rcs
set_option maxRecDepth 100000 in
theorem rcells_len (l : List Rn) : (rcells l).length = l.length * 3 := by
  induction l with
  | nil => rfl
  | cons v l ih => simp only [rcells, List.flatMap_cons, List.length_append] at *; rw [ih]; simp [rcs]; omega
theorem rcells_app (l m : List Rn) : rcells (l ++ m) = rcells l ++ rcells m := by simp [rcells]
/-- A tree's views. -/
def Tr.views : Tr → List Vw
  | .nil => []
  | .node i l x r => l.views ++ ⟨i, l.link, r.link, ((max l.h r.h + 1 : Nat) : Int), x⟩ :: r.views
set_option maxRecDepth 100000 in
theorem Tr.views_seq : ∀ t : Tr, t.views.map (fun v => (v.id, v.x)) = t.seq
  | .nil => rfl
  | .node i l x r => by simp [Tr.views, Tr.seq, Tr.views_seq l, Tr.views_seq r]
theorem Tr.views_len (t : Tr) : t.views.length = t.ids.length := by
  have := congrArg List.length t.views_seq
  simp [Tr.ids] at *
  exact this
theorem Tr.views_runs (t : Tr) : t.views.map (·.x) = t.runs := by
  unfold Tr.runs
  rw [← t.views_seq]; simp

set_option maxRecDepth 100000 in
theorem info51 : (Try.prog.info? 132).map (fun i => (i.zero, i.size, i.bytes)) = some (some (.agg #[.int .u32 0, .int .u32 0, .int .u32 0, .int .i64 0, .int .i64 0, .int .i64 0, .int .i64 0]), 7, 48) := by kernel_rfl
set_option maxRecDepth 100000 in
theorem info31 : (Try.prog.info? 35).map (fun i => (i.zero, i.size, i.bytes)) = some (some (.agg #[.int .i64 0, .int .i64 0, .int .i64 0]), 3, 24) := by kernel_rfl

theorem make_views (m : Nat) (hm : m ≤ 512) (w : World) : (Instr.makeSlice 129 (.int .i64 0) (.int .i64 (m : Int))).run Try.prog w =
    .ok (.slice (some ⟨w.heap.size, 0, none⟩) 0 m) (w.alloc (.cells (madeCells #[.int .u32 0, .int .u32 0, .int .u32 0, .int .i64 0, .int .i64 0, .int .i64 0, .int .i64 0] (m * 7)) 132)) := by
  obtain ⟨i, hi, hz0, hz1, hz2⟩ := info_parts info51
  have := run_make (P := Try.prog) w 129 132 i _ Try.underlying129 hi hz0 .i64 .i64 0 m (by omega) (by omega) (by rw [hz2]; omega) (by omega)
  rw [hz1] at this
  exact this
theorem make_runs (m : Nat) (hm : m ≤ 512) (w : World) : (Instr.makeSlice 27 (.int .i64 0) (.int .i64 (m : Int))).run Try.prog w =
    .ok (.slice (some ⟨w.heap.size, 0, none⟩) 0 m) (w.alloc (.cells (madeCells #[.int .i64 0, .int .i64 0, .int .i64 0] (m * 3)) 35)) := by
  obtain ⟨i, hi, hz0, hz1, hz2⟩ := info_parts info31
  have := run_make (P := Try.prog) w 27 35 i _ Try.underlying27 hi hz0 .i64 .i64 0 m (by omega) (by omega) (by rw [hz2]; omega) (by omega)
  rw [hz1] at this
  exact this
theorem rw_made (w : World) (z : Array Value) (N : Nat) (e : TypeId) : Rw (w.alloc (.cells (madeCells z N) e)) w.heap.size N [] := by
  refine ⟨fun j u hu => by simp at hu, fun j hj => ⟨?_, World.frozen?_alloc_new w _ _ _⟩⟩
  rw [World.cell?_alloc_mark]
  simp [madeCells, hj]

/-- A new block's cells. -/
theorem cells_new (w : World) (A : Array Value) (e : TypeId) : ∀ j u, A.toList[j]? = some u → (w.alloc (.cells A e)).cell? ((⟨w.heap.size, 0, none⟩ : Addr).add j) = some u := by
  intro j u hu
  rw [Addr.add_lit, Nat.zero_add, World.cell?_alloc_mark, ← Array.getElem?_toList]
  exact hu

set_option maxRecDepth 100000 in
theorem app_view {w : World} {G cap n : Nat} {xs : List Value} (h : Rw w G (cap * 7) xs) (hx : xs.length = n * 7) (hn : n < cap) (v : Vw) (A : Array Value) (hA : A.toList = vcs v) :
    ∃ w', (Builtin.append_ #[129, 129] 129 #[.slice (some ⟨G, 0, none⟩) n cap, .slice (some ⟨w.heap.size, 0, none⟩) 1 1]).run Try.prog (w.alloc (.cells A 132)) = .ok (.slice (some ⟨G, 0, none⟩) (n + 1) cap) w' ∧
      Rw w' G (cap * 7) (xs ++ vcs v) ∧ Keep (fun b => b = G) w w' := by
  obtain ⟨i, hi, hz0, hz1, hz2⟩ := info_parts info51
  have hw := h.more ((Keep.refl (fun _ => False) w).alloc (.cells A 132))
  have hnew := cells_new w A 132
  rw [hA] at hnew
  have hrun := run_append_room_cells (P := Try.prog) (w.alloc (.cells A 132)) 129 129 132 i Try.underlying129 hi G 0 n cap ⟨w.heap.size, 0, none⟩ 1 1 (vcs v) (by rw [hz1]; rfl) hnew (by intro u hu; simp [vcs] at hu; rcases hu with rfl | rfl | rfl | rfl | rfl | rfl | rfl <;> rfl) (by omega)
    (fun j hj => by rw [hz1, Nat.zero_add]; exact (hw.free (n * 7 + j) (by simp [vcs] at hj; omega)).1)
    (fun j hj => by rw [hz1, Nat.zero_add]; exact (hw.free (n * 7 + j) (by simp [vcs] at hj; omega)).2)
  rw [hz1, Nat.zero_add, ← hx] at hrun
  refine ⟨_, hrun, hw.app (vcs v) (by simp [vcs]; omega), ?_⟩
  exact ((Keep.refl (fun b => b = G) w).alloc _).setCells (b := G) (Or.inl rfl) _ _
set_option maxRecDepth 100000 in
theorem app_run {w : World} {G cap n : Nat} {xs : List Value} (h : Rw w G (cap * 3) xs) (hx : xs.length = n * 3) (hn : n < cap) (v : Rn) (A : Array Value) (hA : A.toList = rcs v) :
    ∃ w', (Builtin.append_ #[27, 27] 27 #[.slice (some ⟨G, 0, none⟩) n cap, .slice (some ⟨w.heap.size, 0, none⟩) 1 1]).run Try.prog (w.alloc (.cells A 35)) = .ok (.slice (some ⟨G, 0, none⟩) (n + 1) cap) w' ∧
      Rw w' G (cap * 3) (xs ++ rcs v) ∧ Keep (fun b => b = G) w w' := by
  obtain ⟨i, hi, hz0, hz1, hz2⟩ := info_parts info31
  have hw := h.more ((Keep.refl (fun _ => False) w).alloc (.cells A 35))
  have hnew := cells_new w A 35
  rw [hA] at hnew
  have hrun := run_append_room_cells (P := Try.prog) (w.alloc (.cells A 35)) 27 27 35 i Try.underlying27 hi G 0 n cap ⟨w.heap.size, 0, none⟩ 1 1 (rcs v) (by rw [hz1]; rfl) hnew (by intro u hu; simp [rcs] at hu; rcases hu with rfl | rfl | rfl <;> rfl) (by omega)
    (fun j hj => by rw [hz1, Nat.zero_add]; exact (hw.free (n * 3 + j) (by simp [rcs] at hj; omega)).1)
    (fun j hj => by rw [hz1, Nat.zero_add]; exact (hw.free (n * 3 + j) (by simp [rcs] at hj; omega)).2)
  rw [hz1, Nat.zero_add, ← hx] at hrun
  refine ⟨_, hrun, hw.app (rcs v) (by simp [rcs]; omega), ?_⟩
  exact ((Keep.refl (fun b => b = G) w).alloc _).setCells (b := G) (Or.inl rfl) _ _

set_option maxRecDepth 100000 in
set_option maxHeartbeats 1000000 in
theorem gather_any {b p k G cap : Nat} {s : Ar} (hb : G ≠ b) (hp : G ≠ p) (hkk : G ≠ k) : ∀ (t : Tr) {w : World} {n : Nat} {xs : List Value}, Tb w b p k s → Hang s t → Rw w G (cap * 7) xs → xs.length = n * 7 → n + t.views.length ≤ cap → G < w.heap.size →
    Calls Try.prog 107 #[.pointer (some ⟨b, 0, none⟩), .slice (some ⟨G, 0, none⟩) n cap, .int .u32 (t.link : Int)] w fun e w' => e = .returned (.slice (some ⟨G, 0, none⟩) (n + t.views.length) cap) ∧ Rw w' G (cap * 7) (xs ++ vcells t.views) ∧ Keep (fun x => x = G) w w' := by
  intro t
  induction t with
  | nil =>
    intro w n xs h ht hr hx hn hG
    have h0 : (Tr.nil.link : Int) = 0 := rfl
    rw [h0]
    go_enter Try.func107, Try.ntmps107
    go_wp2_with fail
    go_ret
    exact ⟨rfl, by simpa [Tr.views, vcells] using hr, Keep.refl _ _⟩
  | node i l x r il ir =>
    intro w n xs h ht hr hx hn hG
    have hnd := node_any h ht
    obtain ⟨⟨v1, v2, v3, v4⟩, hl, hrr⟩ := ht
    rw [Tr.flds_eq, nodeA_nf] at hnd
    have hvs : (Tr.node i l x r).views = l.views ++ ⟨i, l.link, r.link, ((max l.h r.h + 1 : Nat) : Int), x⟩ :: r.views := rfl
    rw [hvs] at hn ⊢
    generalize hM : ((max l.h r.h + 1 : Nat) : Int) = M at hnd hn ⊢
    clear hvs hM
    simp only [List.length_append, List.length_cons] at hn
    have hi : (Tr.node i l x r).link = i := rfl
    rw [hi] at hnd ⊢
    have d0 : ((i : Int) == 0) = false := by simp; omega
    go_enter Try.func107, Try.ntmps107
    go_upto_region 4 with (go_at_call 108; refine hnd.mono ?_; rintro e w1 ⟨rfl, hk1⟩)
    have K2 : Keep (fun _ => False) w (w1.alloc (.cells (nodeA (nf l.link r.link M x)) 94)) := hk1.alloc _
    have L2 := Loc.new w1 l.link r.link M x
    simp only [nodeA_nf] at K2 L2
    generalize w1.alloc (.cells #[.int .u32 (l.link : Int), .int .u32 (r.link : Int), .int .i64 M, .int .i64 x.lba, .int .i64 x.len, .int .i64 x.phys] 94) = w2 at K2 L2 ⊢
    have hge := hk1.size
    generalize w1.heap.size = g at hge L2 ⊢
    clear hnd hk1
    have hgG : ¬ g = G := by omega
    have hrec := il (h.more K2) hl (hr.more K2) hx (by omega) (by have := K2.size; omega)
    have z0 := L2.c0
    go_upto_region 5 with (go_at_call 107; refine hrec.mono ?_; rintro e w3 ⟨rfl, R3, k3⟩)
    have L3 := L2.keep k3 hgG
    obtain ⟨q0, q1, q2, q3, q4, q5⟩ := L3.six
    have hx3 : (xs ++ vcells l.views).length = (n + l.views.length) * 7 := by rw [List.length_append, hx, vcells_len]; omega
    obtain ⟨w4, happ, R4, k4⟩ := app_view R3 hx3 (by omega) ⟨i, l.link, r.link, M, x⟩ #[.int .u32 (i : Int), .int .u32 (l.link : Int), .int .u32 (r.link : Int), .int .i64 M, .int .i64 x.lba, .int .i64 x.len, .int .i64 x.phys] rfl
    have K4 : Keep (fun x => x = G) w w4 := (K2.mono (fun _ _ e => e.elim)).trans (k3.trans k4)
    have h4 := h.keep K4 (Ne.symm hb) (Ne.symm hp) (Ne.symm hkk)
    have L4 := L3.keep k4 hgG
    have z1 := L4.c1
    have hrec2 := ir h4 hrr R4 (n := n + l.views.length + 1) (by rw [List.length_append, hx3]; simp [vcs]; omega) (by omega) (by have := K4.size; omega)
    clear hrec z0 L2 L3 L4 il ir
    go_wp2_with (first | (at_builtin; refine wpList_append_run rfl (.tmp 19) (.tmp 30) 129 rfl (by rfl) (by rfl) happ ?_) | (go_at_call 107; refine hrec2.mono ?_; rintro e w5 ⟨rfl, R5, k5⟩))
    go_ret
    refine ⟨?_, ?_, K4.trans k5⟩
    · simp only [List.length_append, List.length_cons]
      show Ending.returned _ = _
      simp
      omega
    · have e : vcells (l.views ++ ⟨i, l.link, r.link, M, x⟩ :: r.views) = vcells l.views ++ vcs ⟨i, l.link, r.link, M, x⟩ ++ vcells r.views := by simp [vcells]
      rw [e]
      simpa [List.append_assoc] using R5

set_option maxRecDepth 100000 in
set_option maxHeartbeats 1000000 in
theorem views_any {w : World} {b p k : Nat} {s : Ar} {l : List Nat} {t : Tr} (h : Tt w b p k s l t) :
    Calls Try.prog 99 #[.pointer (some ⟨b, 0, none⟩)] w fun e w' => e = .returned (.slice (some ⟨w.heap.size, 0, none⟩) t.views.length t.views.length) ∧ Rw w' w.heap.size (t.views.length * 7) (vcells t.views) ∧ Keep (fun _ => False) w w' := by
  obtain ⟨t0, t1, t2, f1, f2⟩ := h.tops
  have hlen := h.len
  have hN1 := h.ok.one
  obtain ⟨b1, b2, b3⟩ := h.tb.lt hN1
  rw [← Tr.views_len] at t2 hlen
  have hmk := make_views t.views.length (by omega)
  have K1 : Keep (fun _ => False) w.drew (w.drew.alloc (.cells (madeCells #[.int .u32 0, .int .u32 0, .int .u32 0, .int .i64 0, .int .i64 0, .int .i64 0, .int .i64 0] (t.views.length * 7)) 132)) := (Keep.refl _ _).alloc _
  have R1 := rw_made w.drew #[.int .u32 0, .int .u32 0, .int .u32 0, .int .i64 0, .int .i64 0, .int .i64 0, .int .i64 0] (t.views.length * 7) 132
  have h1 := (h.more ((Keep.refl _ _).drew)).more K1
  have hga := gather_any (G := w.heap.size) (cap := t.views.length) (by omega) (by omega) (by omega) t (n := 0) h1.tb h.hang R1 rfl (by omega) (by simp)
  have hS : ∀ w', Keep (fun x => x = w.heap.size) w.drew w' → w'.cell? ⟨b, 1, none⟩ = some (.int .u32 (t.link : Int)) ∧ w'.cell? ⟨b, 2, none⟩ = some (.int .i64 (t.views.length : Int)) := fun w' hk => by
    have := (h.top.drew).keep hk (show ¬ b = w.heap.size by omega)
    exact ⟨(this 1 (by omega)).1, by rw [Tr.views_len]; exact (this 2 (by omega)).1⟩
  go_enter Try.func99, Try.ntmps99
  go_wp2_with fail
  go_region_held3 (fun w' => w'.cell? ⟨b, 1, none⟩ = some (.int .u32 (t.link : Int)) ∧ w'.cell? ⟨b, 2, none⟩ = some (.int .i64 (t.views.length : Int))) (first | exact hS _ (Keep.refl _ _) | exact hS _ (K1.mono (fun _ _ e => e.elim)) | exact hS _ ((K1.mono (fun _ _ e => e.elim)).trans k2)) ((go_at_call 107; refine hga.mono ?_; rintro e w2 ⟨rfl, R2, k2⟩))
  have K2 : Keep (fun _ => False) w w2 := (((Keep.refl _ _).drew).trans K1).next k2 (fun x hx e => by omega)
  clear hS hga h1 R1 hmk t0 t1 t2
  go_wp2_with fail
  go_ret
  exact ⟨rfl, by simpa using R2, K2⟩

set_option maxRecDepth 100000 in
theorem vcells_at {v : Vw} : ∀ {m : List Vw} {q : Nat}, m[q]? = some v → ∀ j, j < 7 → (vcells m)[q * 7 + j]? = (vcs v)[j]?
  | [], q, h, _, _ => by simp at h
  | y :: m, 0, h, j, hj => by
    simp at h
    subst h
    rw [show vcells (y :: m) = vcs y ++ vcells m from rfl, List.getElem?_append_left (by simp [vcs]; omega)]
    simp
  | y :: m, q + 1, h, j, hj => by
    simp at h
    have := vcells_at (m := m) (q := q) h j hj
    rw [show vcells (y :: m) = vcs y ++ vcells m from rfl, List.getElem?_append_right (by simp [vcs]; omega), ← this]
    congr 1
    simp [vcs]; omega
set_option maxRecDepth 100000 in
theorem rcells_at {v : Rn} : ∀ {m : List Rn} {q : Nat}, m[q]? = some v → ∀ j, j < 3 → (rcells m)[q * 3 + j]? = (rcs v)[j]?
  | [], q, h, _, _ => by simp at h
  | y :: m, 0, h, j, hj => by
    simp at h
    subst h
    rw [show rcells (y :: m) = rcs y ++ rcells m from rfl, List.getElem?_append_left (by simp [rcs]; omega)]
    simp
  | y :: m, q + 1, h, j, hj => by
    simp at h
    have := rcells_at (m := m) (q := q) h j hj
    rw [show rcells (y :: m) = rcs y ++ rcells m from rfl, List.getElem?_append_right (by simp [rcs]; omega), ← this]
    congr 1
    simp [rcs]; omega
set_option maxRecDepth 100000 in
theorem size51 : (Try.prog.info? 132).map (·.size) = some 7 := by kernel_rfl
set_option maxRecDepth 100000 in
theorem under51 : ∃ d, Try.prog.underlying 132 = some d ∧ d.isRow = true := ⟨_, Try.underlying132, rfl⟩
theorem range_of {w : World} {V o : Nat} {xs ys : List Value} (h : ∀ j u, xs[j]? = some u → w.cell? ⟨V, j, none⟩ = some u) (hat : ∀ j, j < ys.length → xs[o + j]? = ys[j]?) : w.rangeAt V o ys := by
  intro j u hu
  have hj := (List.getElem?_eq_some_iff.1 hu).1
  exact h (o + j) u (by rw [hat j hj]; exact hu)
set_option maxRecDepth 100000 in
/-- A view of a row is read. -/
theorem load_view {w : World} {V N : Nat} {m : List Vw} (h : Rw w V N (vcells m)) {q : Nat} {v : Vw} (hv : m[q]? = some v) :
    (Instr.loadAt 132 (.pointer (some ⟨V, q * 7, none⟩))).run Try.prog w = .ok (.agg #[.int .u32 (v.id : Int), .int .u32 (v.left : Int), .int .u32 (v.right : Int), .int .i64 v.h, .int .i64 v.x.lba, .int .i64 v.x.len, .int .i64 v.x.phys]) w := by
  obtain ⟨t, h1, h2⟩ := under51
  exact run_loadAt_mid (P := Try.prog) w V (q * 7) 132 (vcs v) t (range_of h.cells (fun j hj => vcells_at hv j hj)) h1 h2 (by rw [size51]; rfl)
set_option maxRecDepth 100000 in
theorem load_run {w : World} {V : Nat} {m : List Rn} (h : ∀ j u, (rcells m)[j]? = some u → w.cell? ⟨V, j, none⟩ = some u) {q : Nat} {v : Rn} (hv : m[q]? = some v) :
    (Instr.loadAt 35 (.pointer (some ⟨V, q * 3, none⟩))).run Try.prog w = .ok (.agg #[.int .i64 v.lba, .int .i64 v.len, .int .i64 v.phys]) w := by
  obtain ⟨t, h1, h2⟩ := under31
  exact run_loadAt_mid (P := Try.prog) w V (q * 3) 35 (rcs v) t (range_of h (fun j hj => rcells_at hv j hj)) h1 h2 (by rw [size31]; rfl)

set_option maxRecDepth 100000 in
set_option maxHeartbeats 1000000 in
theorem all_any {w : World} {b p k : Nat} {s : Ar} {l : List Nat} {t : Tr} (h : Tt w b p k s l t) :
    Calls Try.prog 93 #[.pointer (some ⟨b, 0, none⟩)] w fun e w' => e = .returned (.slice (some ⟨w.heap.size, 0, none⟩) t.views.length t.views.length) ∧ Rw w' w.heap.size (t.views.length * 3) (rcells t.runs) ∧ Keep (fun _ => False) w w' := by
  obtain ⟨t0, t1, t2, f1, f2⟩ := h.tops
  have hlen := h.len
  have hN1 := h.ok.one
  obtain ⟨b1, b2, b3⟩ := h.tb.lt hN1
  rw [← Tr.views_len] at t2 hlen
  have hmk := make_runs t.views.length (by omega)
  have K1 : Keep (fun _ => False) w (w.alloc (.cells (madeCells #[.int .i64 0, .int .i64 0, .int .i64 0] (t.views.length * 3)) 35)) := (Keep.refl _ _).alloc _
  have R1 := rw_made w #[.int .i64 0, .int .i64 0, .int .i64 0] (t.views.length * 3) 35
  have hv := views_any (h.more K1)
  clear t0 t1 f1 f2
  go_enter Try.func93, Try.ntmps93
  go_wp2_with (go_at_call 99; refine hv.mono ?_; rintro e w1 ⟨rfl, V1, k1⟩)
  have hsz : (w.alloc (.cells (madeCells #[.int .i64 0, .int .i64 0, .int .i64 0] (t.views.length * 3)) 35)).heap.size = w.heap.size + 1 := by simp
  rw [hsz] at V1
  have R2 := R1.more k1
  have K2 := K1.trans k1
  have hruns : t.runs.length = t.views.length := by rw [← Tr.views_runs]; simp
  have hvr := Tr.views_runs t
  have e1 : Hid (t.runs.length = t.views.length) := hruns
  have e2 : Hid (t.views.map (·.x) = t.runs) := hvr
  have hlz : (t.views.length : Int) ≤ 9223372036854775807 := by omega
  have hle : t.views.length ≤ 9223372036854775807 := by omega
  have e3 : Hid (t.views.length ≤ 512) := hlen
  clear hv hmk K1 R1 k1 hsz hruns hvr t2 hlen
  go_loopw [3, 14] (fun a c wr => ∃ q : Nat, q ≤ t.views.length ∧ a = .slice (some ⟨w.heap.size, 0, none⟩) q t.views.length ∧ c = .int .i64 (q : Int) ∧ Rw wr w.heap.size (t.views.length * 3) (rcells (t.runs.take q)) ∧ Rw wr (w.heap.size + 1) (t.views.length * 7) (vcells t.views) ∧ Keep (fun _ => False) w wr) (fun _ c _ => t.views.length - (intOf c).toNat)
  case atStart => exact ⟨0, by omega, rfl, rfl, by simpa [rcells] using R2, V1, K2⟩
  case round =>
    obtain ⟨q, hq, rfl, rfl, hR, hV, hK⟩ := hrel
    clear R2 V1 K2
    by_cases hlt : q < t.views.length
    · have dq : (q : Int) < (t.views.length : Int) := by omega
      obtain ⟨v, hv⟩ : ∃ v, t.views[q]? = some v := ⟨_, List.getElem?_eq_getElem hlt⟩
      have hld := load_view hV hv
      have K3 : Keep (fun _ => False) wr (wr.alloc (.cells #[.int .u32 (v.id : Int), .int .u32 (v.left : Int), .int .u32 (v.right : Int), .int .i64 v.h, .int .i64 v.x.lba, .int .i64 v.x.len, .int .i64 v.x.phys] 132)) := (Keep.refl _ _).alloc _
      have hxl : (rcells (t.runs.take q)).length = q * 3 := by rw [rcells_len, List.length_take, (show t.runs.length = t.views.length from e1)]; omega
      obtain ⟨w4, happ, R4, k4⟩ := app_run (hR.more K3) hxl hlt v.x #[.int .i64 v.x.lba, .int .i64 v.x.len, .int .i64 v.x.phys] rfl
      simp only [World.size_alloc] at happ
      have K4 : Keep (fun _ => False) w w4 := (hK.trans K3).next k4 (fun x hx e => by omega)
      have V4 := (hV.more K3).keep k4 (show ¬ w.heap.size + 1 = w.heap.size by omega)
      have ht : t.runs.take (q + 1) = t.runs.take q ++ [v.x] := by
        rw [List.take_add_one]
        congr 1
        rw [← (show t.views.map (·.x) = t.runs from e2), List.getElem?_map, hv]; rfl
      have hR4 : Hid (Rw w4 w.heap.size (t.views.length * 3) (rcells (t.runs.take (q + 1)))) := by
        show Rw w4 w.heap.size (t.views.length * 3) (rcells (t.runs.take (q + 1)))
        rw [ht, rcells_app]; simpa [rcells] using R4
      clear hR hV K3 R4 k4 hv ht hxl hK
      go_wp2_with (first | (guard_target =~ wpList _ _ _ (Oper.mk _ (Op.load 132 _) _ _ _ _ :: _) _ _; refine wpList_load_run rfl 132 (.tmp 16) rfl (by rfl) hld ?_) | (at_builtin; refine wpList_append_run rfl (.tmp 18) (.tmp 21) 27 rfl (by rfl) (by rfl) happ ?_))
      go_roundw
      case rel => exact ⟨q + 1, by omega, rfl, by go_num, hR4, V4, K4⟩
      case measure => simp [intOf]; omega
    · have dq : ¬ (q : Int) < (t.views.length : Int) := by omega
      have hqe : q = t.views.length := by omega
      have hR' : Rw wr w.heap.size (t.views.length * 3) (rcells t.runs) := by
        rw [List.take_of_length_le (by rw [(show t.runs.length = t.views.length from e1)]; omega)] at hR; exact hR
      have e4 : Hid (q = t.views.length) := hqe
      clear hR hqe
      go_wp2_with fail
      go_ret
      exact ⟨congrArg (fun z => Ending.returned (.slice (some ⟨w.heap.size, 0, none⟩) z t.views.length)) e4, hR', hK⟩
end Tg
end Go.Proofs.Ytkddonmddgfpnab
namespace Go.Proofs.Ytkddonmddgfpnab
open Go.ChangeShapes Go.WideShapes Go.ChangeAt Go.RowKit
namespace Tg

/-- A whole tree, and its arena, that were made since w. -/
structure Mt (w wr : World) (b p k : Nat) (N : Nat) (l : List Nat) (t : Tr) : Prop where
  ex : ∃ s, Tt wr b p k s l t ∧ s.N = N
  b : w.heap.size ≤ b
  p : w.heap.size ≤ p
  k : w.heap.size ≤ k
  keep : Keep (fun _ => False) w wr

theorem Mt.own {w wr w' : World} {b p k N : Nat} {s : Ar} {l m : List Nat} {t u : Tr} (h : Mt w wr b p k N l t) (hT : Tt w' b p k s m u) (hN : s.N = N) (hk : Keep (Own3 b p k) wr w') : Mt w w' b p k N m u :=
  ⟨⟨s, hT, hN⟩, h.b, h.p, h.k, h.keep.next hk (fun x hx e => by have := h.b; have := h.p; have := h.k; rcases e with e | e | e <;> omega)⟩
theorem Mt.more {w wr w' : World} {b p k N : Nat} {l : List Nat} {t : Tr} (h : Mt w wr b p k N l t) (hk : Keep (fun _ => False) wr w') : Mt w w' b p k N l t := by
  obtain ⟨s, hT, hN⟩ := h.ex
  exact ⟨⟨s, hT.more hk, hN⟩, h.b, h.p, h.k, h.keep.trans hk⟩
theorem Mt.other {S : Nat → Prop} {w wr w' : World} {b p k N : Nat} {l : List Nat} {t : Tr} (h : Mt w wr b p k N l t) (hk : Keep S wr w') (hs : ∀ x, S x → w.heap.size ≤ x) (hb : ¬ S b) (hp : ¬ S p) (hkk : ¬ S k) : Mt w w' b p k N l t := by
  obtain ⟨s, hT, hN⟩ := h.ex
  exact ⟨⟨s, hT.keep hk hb hp hkk, hN⟩, h.b, h.p, h.k, h.keep.next hk (fun x hx e => by have := hs x e; omega)⟩
theorem Mt.lt {w wr : World} {b p k N : Nat} {l : List Nat} {t : Tr} (h : Mt w wr b p k N l t) : b < wr.heap.size ∧ p < wr.heap.size ∧ k < wr.heap.size := by
  obtain ⟨s, hT, hN⟩ := h.ex
  exact hT.tb.lt hT.ok.one
theorem Mt.out {w wr : World} {b p k N : Nat} {l : List Nat} {t : Tr} (h : Mt w wr b p k N l t) {g : Nat} (hg : wr.heap.size ≤ g) : ¬ Own3 b p k g := by
  have := h.lt
  rintro (e | e | e) <;> omega
theorem Mt.has {w wr : World} {b p k N : Nat} {l : List Nat} {t : Tr} (h : Mt w wr b p k N l t) {v : Int} : t.Has v ↔ t.idOf v ≠ 0 := by
  obtain ⟨s, hT, hN⟩ := h.ex
  exact Tr.idOf_has hT.ids1

theorem Mt.insert {w wr : World} {b p k N : Nat} {n : Nat} {l : List Nat} {t : Tr} (h : Mt w wr b p k N (n :: l) t) (r : Rn) (hz : t.idOf r.lba = 0) :
    Calls Try.prog 106 #[.pointer (some ⟨b, 0, none⟩), .agg (rnA r)] wr fun e w' => e = .returned (.int .i64 0) ∧ Mt w w' b p k N l (t.ins n r) ∧ Keep (Own3 b p k) wr w' := by
  have hh := h.has (v := r.lba)
  obtain ⟨s, hT, hN⟩ := h.ex
  refine (insert_new hT r (fun e => hh.1 e hz)).mono ?_
  rintro e w' ⟨rfl, ⟨s', hT', hN'⟩, hk⟩
  exact ⟨rfl, h.own hT' (hN'.trans hN) hk, hk⟩
theorem Mt.insertFull {w wr : World} {b p k N : Nat} {t : Tr} (h : Mt w wr b p k N [] t) (r : Rn) (hz : t.idOf r.lba = 0) :
    Calls Try.prog 106 #[.pointer (some ⟨b, 0, none⟩), .agg (rnA r)] wr fun e w' => e = .returned (.int .i64 5) ∧ Keep (fun _ => False) wr w' := by
  have hh := h.has (v := r.lba)
  obtain ⟨s, hT, hN⟩ := h.ex
  exact insert_full hT r (fun e => hh.1 e hz)
theorem Mt.insertOld {w wr : World} {b p k N : Nat} {l : List Nat} {t : Tr} (h : Mt w wr b p k N l t) (r : Rn) (hz : t.idOf r.lba ≠ 0) :
    Calls Try.prog 106 #[.pointer (some ⟨b, 0, none⟩), .agg (rnA r)] wr fun e w' => e = .returned (.int .i64 1) ∧ Keep (fun _ => False) wr w' := by
  have hh := h.has (v := r.lba)
  obtain ⟨s, hT, hN⟩ := h.ex
  exact insert_old hT r (hh.2 hz)
theorem Mt.delete {w wr : World} {b p k N : Nat} {l : List Nat} {t : Tr} (h : Mt w wr b p k N l t) (v : Int) (hz : t.idOf v ≠ 0) :
    Calls Try.prog 104 #[.pointer (some ⟨b, 0, none⟩), .int .i64 v] wr fun e w' => e = .returned (.int .i64 0) ∧ Mt w w' b p k N (t.idOf v :: l) (t.del v) ∧ Keep (Own3 b p k) wr w' := by
  have hh := h.has (v := v)
  obtain ⟨s, hT, hN⟩ := h.ex
  refine (delete_yes hT v (hh.2 hz)).mono ?_
  rintro e w' ⟨rfl, ⟨s', hT', hN'⟩, hk⟩
  exact ⟨rfl, h.own hT' (hN'.trans hN) hk, hk⟩
theorem Mt.deleteNo {w wr : World} {b p k N : Nat} {l : List Nat} {t : Tr} (h : Mt w wr b p k N l t) (v : Int) (hz : t.idOf v = 0) :
    Calls Try.prog 104 #[.pointer (some ⟨b, 0, none⟩), .int .i64 v] wr fun e w' => e = .returned (.int .i64 4) ∧ Keep (fun _ => False) wr w' := by
  have hh := h.has (v := v)
  obtain ⟨s, hT, hN⟩ := h.ex
  exact delete_no hT v (fun e => hh.1 e hz)
theorem Mt.change {w wr : World} {b p k N : Nat} {l : List Nat} {t : Tr} (h : Mt w wr b p k N l t) (r : Rn) (hz : t.idOf r.lba ≠ 0) :
    Calls Try.prog 105 #[.pointer (some ⟨b, 0, none⟩), .agg (rnA r)] wr fun e w' => e = .returned (.int .i64 0) ∧ Mt w w' b p k N l (t.chg r) ∧ Keep (Own3 b p k) wr w' := by
  have hh := h.has (v := r.lba)
  obtain ⟨s, hT, hN⟩ := h.ex
  refine (change_yes hT r (hh.2 hz)).mono ?_
  rintro e w' ⟨rfl, ⟨s', hT', hN'⟩, hk⟩
  exact ⟨rfl, h.own hT' (hN'.trans hN) hk, hk⟩
theorem Mt.changeNo {w wr : World} {b p k N : Nat} {l : List Nat} {t : Tr} (h : Mt w wr b p k N l t) (r : Rn) (hz : t.idOf r.lba = 0) :
    Calls Try.prog 105 #[.pointer (some ⟨b, 0, none⟩), .agg (rnA r)] wr fun e w' => e = .returned (.int .i64 4) ∧ Keep (fun _ => False) wr w' := by
  have hh := h.has (v := r.lba)
  obtain ⟨s, hT, hN⟩ := h.ex
  exact change_no hT r (fun e => hh.1 e hz)
theorem Mt.floor {w wr : World} {b p k N : Nat} {l : List Nat} {t : Tr} (h : Mt w wr b p k N l t) (v : Int) :
    Calls Try.prog 100 #[.pointer (some ⟨b, 0, none⟩), .int .i64 v] wr fun e w' => e = .returned (ansV (Tr.fl v t .nil).run) ∧ Keep (fun _ => False) wr w' := by
  obtain ⟨s, hT, hN⟩ := h.ex
  exact floor_any hT v
theorem Mt.ceil {w wr : World} {b p k N : Nat} {l : List Nat} {t : Tr} (h : Mt w wr b p k N l t) (v : Int) :
    Calls Try.prog 101 #[.pointer (some ⟨b, 0, none⟩), .int .i64 v] wr fun e w' => e = .returned (ansV (Tr.ce v t .nil).run) ∧ Keep (fun _ => False) wr w' := by
  obtain ⟨s, hT, hN⟩ := h.ex
  exact ceil_any hT v
theorem Mt.all {w wr : World} {b p k N : Nat} {l : List Nat} {t : Tr} (h : Mt w wr b p k N l t) :
    Calls Try.prog 93 #[.pointer (some ⟨b, 0, none⟩)] wr fun e w' => e = .returned (.slice (some ⟨wr.heap.size, 0, none⟩) t.views.length t.views.length) ∧ Rw w' wr.heap.size (t.views.length * 3) (rcells t.runs) ∧ Keep (fun _ => False) wr w' := by
  obtain ⟨s, hT, hN⟩ := h.ex
  exact all_any hT
theorem Mt.views {w wr : World} {b p k N : Nat} {l : List Nat} {t : Tr} (h : Mt w wr b p k N l t) :
    Calls Try.prog 99 #[.pointer (some ⟨b, 0, none⟩)] wr fun e w' => e = .returned (.slice (some ⟨wr.heap.size, 0, none⟩) t.views.length t.views.length) ∧ Rw w' wr.heap.size (t.views.length * 7) (vcells t.views) ∧ Keep (fun _ => False) wr w' := by
  obtain ⟨s, hT, hN⟩ := h.ex
  exact views_any hT
theorem Mt.len {w wr : World} {b p k N : Nat} {l : List Nat} {t : Tr} (h : Mt w wr b p k N l t) :
    Calls Try.prog 98 #[.pointer (some ⟨b, 0, none⟩)] wr fun e w' => e = .returned (.int .i64 (t.views.length : Int)) ∧ w' = wr := by
  obtain ⟨s, hT, hN⟩ := h.ex
  rw [Tr.views_len]
  exact len_any hT
theorem Mt.room {w wr : World} {b p k N : Nat} {l : List Nat} {t : Tr} (h : Mt w wr b p k N l t) : t.views.length + l.length = N := by
  obtain ⟨s, hT, hN⟩ := h.ex
  rw [Tr.views_len, ← hT.live, hT.ok.count, hN]

theorem arena_any (w : World) {n : Nat} (h1 : 1 ≤ n) (h2 : n ≤ 512) :
    Calls Try.prog 43 #[.int .i64 (n : Int)] w fun e w' => ∃ p k, e = .returned (.tuple #[.pointer (some ⟨p, 0, none⟩), .int .i64 0]) ∧ Mem w' p k (Ar.new n) ∧ w.heap.size ≤ p ∧ w.heap.size ≤ k ∧ Keep (fun _ => False) w w' := new_any h1 h2
theorem Mt.new {w wr : World} {p k n : Nat} (h1 : 1 ≤ n) (h2 : n ≤ 512) (hm : Mem wr p k (Ar.new n)) (hp : w.heap.size ≤ p) (hkk : w.heap.size ≤ k) (hK : Keep (fun _ => False) w wr) :
    Calls Try.prog 44 #[.pointer (some ⟨p, 0, none⟩)] wr fun e w' => e = .returned (.pointer (some ⟨wr.heap.size, 0, none⟩)) ∧ Mt w w' wr.heap.size p k n (List.range' 1 n) .nil ∧ Keep (fun _ => False) wr w' := by
  refine (newTree_any hm (Ar.new_ok h1 h2) rfl).mono ?_
  rintro e w' ⟨rfl, hT, hk⟩
  exact ⟨rfl, ⟨⟨_, hT, rfl⟩, hK.size, hp, hkk, hK.trans hk⟩, hk⟩

theorem ansV_some (x : Rn) : ansV (some x) = .tuple #[.agg #[.int .i64 x.lba, .int .i64 x.len, .int .i64 x.phys], .bool true] := rfl
theorem ansV_none : ansV none = .tuple #[.agg #[.int .i64 0, .int .i64 0, .int .i64 0], .bool false] := rfl

/-- A call's contract, as a step of a region. -/
theorem post_of {f : FuncId} {vs : Array Value} {v : Value} {w : World} {R : World → Prop} (h : Calls Try.prog f vs w fun e w' => e = .returned v ∧ R w') : Calls Try.prog f vs w fun e w2 => ∃ u, e = .returned u ∧ (fun u w2 => u = v ∧ R w2) u w2 :=
  h.mono (by rintro e w' ⟨rfl, h⟩; exact ⟨_, rfl, rfl, h⟩)

end Tg
end Go.Proofs.Ytkddonmddgfpnab
namespace Go.Proofs.Ytkddonmddgfpnab
open Go.ChangeShapes Go.WideShapes Go.ChangeAt Go.RowKit
namespace Tg

/-- A list of runs that can be read. -/
def Rs (w : World) (a : Option Addr) (cap : Nat) (m : List Rn) : Prop :=
  m.length ≤ cap ∧ cap ≤ 9223372036854775807 ∧ (m = [] ∨ ∃ g, a = some ⟨g, 0, none⟩ ∧ ∀ j u, (rcells m)[j]? = some u → w.cell? ⟨g, j, none⟩ = some u)
set_option maxRecDepth 100000 in
theorem Rs.keep {S : Nat → Prop} {w w' : World} {a : Option Addr} {cap : Nat} {m : List Rn} (h : Rs w a cap m) (k : Keep S w w') (hs : ∀ g, a = some ⟨g, 0, none⟩ → ¬ S g) : Rs w' a cap m := by
  obtain ⟨h1, h2, h3⟩ := h
  refine ⟨h1, h2, h3.imp id ?_⟩
  rintro ⟨g, rfl, hc⟩
  refine ⟨g, rfl, fun j u hu => ?_⟩
  have := hc j u hu
  rw [← this]
  exact World.cell?_of_block (w := w) (a := ⟨g, j, none⟩) (k.block g (World.block_lt_of_cell? w _ this) (hs g rfl))
theorem Rs.more {w w' : World} {a : Option Addr} {cap : Nat} {m : List Rn} (h : Rs w a cap m) (k : Keep (fun _ => False) w w') : Rs w' a cap m := h.keep k (fun _ _ e => e)
set_option maxRecDepth 100000 in
/-- What is read of the run at a place. -/
theorem Rs.at {w : World} {a : Option Addr} {cap : Nat} {m : List Rn} (h : Rs w a cap m) {i : Nat} {x : Rn} (hx : m[i]? = some x) :
    ∃ g, a = some ⟨g, 0, none⟩ ∧ w.cell? ⟨g, i * 3, none⟩ = some (.int .i64 x.lba) ∧ w.cell? ⟨g, i * 3 + 1, none⟩ = some (.int .i64 x.len) ∧ w.cell? ⟨g, i * 3 + 2, none⟩ = some (.int .i64 x.phys) := by
  rcases h.2.2 with rfl | ⟨g, rfl, hc⟩
  · simp at hx
  · exact ⟨g, rfl, hc (i * 3 + 0) _ (by rw [rcells_at hx 0 (by omega)]; rfl), hc (i * 3 + 1) _ (by rw [rcells_at hx 1 (by omega)]; rfl), hc (i * 3 + 2) _ (by rw [rcells_at hx 2 (by omega)]; rfl)⟩
theorem get_rn {m : List Rn} {i : Nat} (h : i < m.length) : ∃ x, m[i]? = some x := ⟨_, List.getElem?_eq_getElem h⟩

/-- A list of runs of one's own, in memory made since w0. -/
structure Rr (w0 w : World) (a : Option Addr) (cap : Nat) (m : List Rn) : Prop where
  own : w.ownsRow w0.heap.size 35 3 (.slice a m.length cap) m.length (rcells m)
  keep : Keep (fun _ => False) w0 w

theorem Rr.nil (w : World) : Rr w w none 0 [] := ⟨World.ownsRow_nil _ _ _ _, Keep.refl _ _⟩
theorem Rr.more {w0 w w' : World} {a : Option Addr} {cap : Nat} {m : List Rn} (h : Rr w0 w a cap m) (k : Keep (fun _ => False) w w') : Rr w0 w' a cap m := by
  refine ⟨⟨h.own.1, h.own.2.imp id ?_⟩, h.keep.trans k⟩
  rintro ⟨g, c, cur, e, hb, hh, h1, h2, h3, h4⟩
  exact ⟨g, c, cur, e, hb, by rw [k.block g (by by_cases hg : g < w.heap.size; exact hg; simp [Array.getElem?_eq_none (Nat.le_of_not_lt hg)] at hh) (fun e => e)]; exact hh, h1, h2, h3, h4⟩
theorem Rr.other {S : Nat → Prop} {w0 w w' : World} {a : Option Addr} {cap : Nat} {m : List Rn} (h : Rr w0 w a cap m) (k : Keep S w w') (hs : ∀ g, a = some ⟨g, 0, none⟩ → ¬ S g) (h0 : ∀ x, S x → w0.heap.size ≤ x) : Rr w0 w' a cap m := by
  refine ⟨⟨h.own.1, h.own.2.imp id ?_⟩, h.keep.next k (fun x hx e => by have := h0 x e; omega)⟩
  rintro ⟨g, c, cur, e, hb, hh, h1, h2, h3, h4⟩
  injection e with e1 e2 e3
  exact ⟨g, c, cur, by rw [e1, e3], hb, by rw [k.block g (by by_cases hg : g < w.heap.size; exact hg; simp [Array.getElem?_eq_none (Nat.le_of_not_lt hg)] at hh) (hs g e1)]; exact hh, h1, h2, h3, h4⟩
set_option maxRecDepth 100000 in
theorem Rr.block {w0 w : World} {a : Option Addr} {cap : Nat} {m : List Rn} (h : Rr w0 w a cap m) {g : Nat} (e : a = some ⟨g, 0, none⟩) : w0.heap.size ≤ g ∧ g < w.heap.size := by
  have := h.own.lt g (by rw [e]; rfl)
  exact this
set_option maxRecDepth 100000 in
theorem Rr.rs {w0 w : World} {a : Option Addr} {cap : Nat} {m : List Rn} (h : Rr w0 w a cap m) : Rs w a cap m := by
  obtain ⟨h1, h2⟩ := h.own
  rcases h2 with ⟨e, hn⟩ | ⟨g, c, cur, e, hb, hh, hn, hm, hs, ht⟩
  · injection e with e1 e2 e3
    exact ⟨by omega, by omega, Or.inl (List.eq_nil_of_length_eq_zero hn)⟩
  · injection e with e1 e2 e3
    subst e1 e3
    unfold maxLen at hm
    refine ⟨hn, by omega, Or.inr ⟨g, rfl, fun j u hu => ?_⟩⟩
    have := h.own.cells (g := g) rfl j u hu
    rwa [Addr.add_lit, Nat.zero_add] at this
theorem keep_grown {w w' : World} {row : Option Nat} (h : w.grownBy w' row) : Keep (fun x => some x = row) w w' := ⟨h.os, h.tape, h.output, h.size, fun k hk hs => h.block k hk hs⟩
set_option maxRecDepth 100000 in
theorem Rr.appN {w0 w : World} {a : Option Addr} {cap : Nat} {m : List Rn} (h : Rr w0 w a cap m) (x : Addr) (c : Nat) (ns : List Rn) (hl : m.length + ns.length ≤ 1000000) (hnews : ∀ j u, (rcells ns)[j]? = some u → w.cell? (x.add j) = some u) :
    ∃ a' cap' w', (Builtin.append_ #[27, 27] 27 #[.slice a m.length cap, .slice (some x) ns.length c]).run Try.prog w = .ok (.slice a' (m.length + ns.length) cap') w' ∧ Rr w0 w' a' cap' (m ++ ns) ∧ Keep (fun b => w0.heap.size ≤ b) w w' := by
  obtain ⟨i, hi, hz0, hz1, hz2⟩ := info_parts info31
  have hs := h.keep.size
  obtain ⟨v', w', hrun, hown, hgrow, hnil⟩ := run_append_own (P := Try.prog) w w0.heap.size 27 27 35 i _ 3 24 Try.underlying27 hi hz0 hz1 hz2 rfl (by decide) (.slice a m.length cap) m.length (rcells m) h.own
    x ns.length c (rcells ns) (rcells_len ns) hnews (by intro u hu; obtain ⟨y, _, hy⟩ := List.mem_flatMap.1 hu; simp [rcs] at hy; rcases hy with rfl | rfl | rfl <;> rfl) (by unfold maxLen; omega) (by omega) hs
  have hk : Keep (fun b => w0.heap.size ≤ b) w w' := (keep_grown hgrow).mono (fun b _ e => (h.own.lt b e.symm).1)
  have hK : Keep (fun _ => False) w0 w' := h.keep.next hk (fun y hy e => by omega)
  rw [← rcells_app, ← List.length_append] at hown
  have hshape : ∃ a' cap', v' = .slice a' (m ++ ns).length cap' := by
    rcases hown.2 with ⟨e, hn⟩ | ⟨g, c', cur, e, -⟩
    · exact ⟨none, 0, by rw [hn]; exact e⟩
    · exact ⟨_, _, e⟩
  obtain ⟨a', cap', rfl⟩ := hshape
  exact ⟨a', cap', w', by rw [hrun, List.length_append], ⟨hown, hK⟩, hk⟩
theorem Rr.app1 {w0 w : World} {a : Option Addr} {cap : Nat} {m : List Rn} (h : Rr w0 w a cap m) (hl : m.length ≤ 100000) (x : Rn) :
    ∃ a' cap' w', (Builtin.append_ #[27, 27] 27 #[.slice a m.length cap, .slice (some ⟨w.heap.size, 0, none⟩) 1 1]).run Try.prog (w.alloc (.cells #[.int .i64 x.lba, .int .i64 x.len, .int .i64 x.phys] 35)) = .ok (.slice a' (m.length + 1) cap') w' ∧ Rr w0 w' a' cap' (m ++ [x]) := by
  obtain ⟨a', cap', w', h1, h2, -⟩ := (h.more ((Keep.refl (fun _ => False) w).alloc (.cells #[.int .i64 x.lba, .int .i64 x.len, .int .i64 x.phys] 35))).appN ⟨w.heap.size, 0, none⟩ 1 [x] (by simp; omega) (fun j u hu => cells_new w _ 35 j u (by simpa [rcells, rcs] using hu))
  exact ⟨a', cap', w', h1, h2⟩

end Tg
end Go.Proofs.Ytkddonmddgfpnab
