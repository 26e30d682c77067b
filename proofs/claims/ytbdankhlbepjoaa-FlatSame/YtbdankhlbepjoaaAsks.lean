/-
  A whole tree in memory; what Len, Root, find, Find, Floor and Ceil answer.
-/
import Derived.Test.YtbdankhlbepjoaaGrow
import Derived.Test.YtbdankhlbepjoaaShrink
namespace Go.Proofs.Ytbdankhlbepjoaa
open Go.ChangeShapes Go.WideShapes Go.ChangeAt Go.RowKit
namespace Tg

/-- The cells of the tree's struct. -/
def Tr.top (p : Nat) (t : Tr) : Nat → Value
  | 0 => .pointer (some ⟨p, 0, none⟩)
  | 1 => .int .u32 (t.link : Int)
  | _ => .int .i64 (t.ids.length : Int)

/-- A whole tree: its struct in block b, its arena in p and k, the free list l. -/
structure Tt (w : World) (b p k : Nat) (s : Ar) (l : List Nat) (t : Tr) : Prop where
  top : Blk w b 3 (t.top p)
  mem : Mem w p k s
  bp : b ≠ p
  bk : b ≠ k
  hang : Hang s t
  nd : t.ids.Nodup
  bal : t.Bal
  ord : t.Ord
  ok : s.Ok l
  live : s.count = t.ids.length

theorem Tt.tb {w : World} {b p k : Nat} {s : Ar} {l : List Nat} {t : Tr} (h : Tt w b p k s l t) : Tb w b p k s := ⟨(h.top 0 (by omega)).1, h.mem, h.bp, h.bk, h.ok.small⟩
theorem Tt.keep {S : Nat → Prop} {w w' : World} {b p k : Nat} {s : Ar} {l : List Nat} {t : Tr} (h : Tt w b p k s l t) (e : Keep S w w') (hb : ¬ S b) (hp : ¬ S p) (hk : ¬ S k) : Tt w' b p k s l t :=
  ⟨h.top.keep e hb, h.mem.keep e hp hk, h.bp, h.bk, h.hang, h.nd, h.bal, h.ord, h.ok, h.live⟩
theorem Tt.more {w w' : World} {b p k : Nat} {s : Ar} {l : List Nat} {t : Tr} (h : Tt w b p k s l t) (e : Keep (fun _ => False) w w') : Tt w' b p k s l t := h.keep e (fun e => e) (fun e => e) (fun e => e)
theorem Tt.tops {w : World} {b p k : Nat} {s : Ar} {l : List Nat} {t : Tr} (h : Tt w b p k s l t) : w.cell? ⟨b, 0, none⟩ = some (.pointer (some ⟨p, 0, none⟩)) ∧ w.cell? ⟨b, 1, none⟩ = some (.int .u32 (t.link : Int)) ∧ w.cell? ⟨b, 2, none⟩ = some (.int .i64 (t.ids.length : Int)) ∧ w.frozen? ⟨b, 1, none⟩ = false ∧ w.frozen? ⟨b, 2, none⟩ = false :=
  ⟨(h.top 0 (by omega)).1, (h.top 1 (by omega)).1, (h.top 2 (by omega)).1, (h.top 1 (by omega)).2, (h.top 2 (by omega)).2⟩

set_option maxRecDepth 100000 in
theorem len_any {w : World} {b p k : Nat} {s : Ar} {l : List Nat} {t : Tr} (h : Tt w b p k s l t) :
    Calls Try.prog 46 #[.pointer (some ⟨b, 0, none⟩)] w fun e w' => e = .returned (.int .i64 (t.ids.length : Int)) ∧ w' = w := by
  obtain ⟨t0, t1, t2, f1, f2⟩ := h.tops
  clear h
  go_enter Try.func46, Try.ntmps46
  go_wp2
  go_ret
  exact ⟨rfl, rfl⟩
/-- How high the branch on a link is. -/
def lh (s : Ar) (v : Value) : Nat := if intOf v = 0 then 0 else (s.fld (intOf v).toNat 2).toNat
set_option maxRecDepth 100000 in
theorem lh_hang {s : Ar} {u : Tr} (h : Hang s u) : lh s (.int .u32 (u.link : Int)) = u.h := by
  cases u with
  | nil => rfl
  | node i l x r =>
    obtain ⟨⟨v1, v2, v3, v4⟩, _⟩ := h
    have := v4 2 (by omega)
    have e : intOf (.int .u32 ((Tr.node i l x r).link : Int)) = (i : Int) := rfl
    unfold lh
    rw [e, if_neg (by omega), Int.toNat_natCast, this]
    simp [Tr.flds, Tr.h]

/-- The branch whose root has the run with that Lba. -/
def Tr.sub (k : Int) : Tr → Tr
  | .nil => .nil
  | .node i l x r => if x.lba = k then .node i l x r else if k < x.lba then sub k l else sub k r
set_option maxRecDepth 100000 in
theorem Tr.sub_link (k : Int) : ∀ t : Tr, (t.sub k).link = t.idOf k
  | .nil => rfl
  | .node i l x r => by
    rw [Tr.sub, Tr.idOf]
    split
    · rfl
    · split
      · exact Tr.sub_link k l
      · exact Tr.sub_link k r
theorem Hang.sub {s : Ar} (k : Int) : ∀ {t : Tr}, Hang s t → Hang s (t.sub k)
  | .nil, _ => trivial
  | .node i l x r, h => by
    rw [Tr.sub]
    split
    · exact h
    · split
      · exact Hang.sub k h.2.1
      · exact Hang.sub k h.2.2

set_option maxRecDepth 100000 in
set_option maxHeartbeats 1000000 in
theorem find_any {w : World} {b p k : Nat} {s : Ar} {l : List Nat} {t : Tr} (h : Tt w b p k s l t) (v : Int) :
    Calls Try.prog 66 #[.pointer (some ⟨b, 0, none⟩), .int .i64 v] w fun e w' => e = .returned (.int .u32 ((t.sub v).link : Int)) ∧ Keep (fun _ => False) w w' := by
  obtain ⟨t0, t1, t2, f1, f2⟩ := h.tops
  clear t2 f1 f2
  go_enter Try.func66, Try.ntmps66
  go_wp2_with fail
  go_loopw [5] (fun a wr => ∃ u, a = .int .u32 (u.link : Int) ∧ Hang s u ∧ u.sub v = t.sub v ∧ Keep (fun _ => False) w wr) (fun a _ => lh s a)
  case atStart => exact ⟨t, rfl, h.hang, rfl, Keep.refl _ _⟩
  case round =>
    obtain ⟨u, rfl, hu, hsub, hk⟩ := hrel
    have hm := lh_hang hu
    clear t0 t1
    cases u with
    | nil =>
      have h0 : (Tr.nil.link : Int) = 0 := rfl
      rw [h0]
      go_wp2_with fail
      go_ret
      exact ⟨by rw [← hsub]; rfl, hk⟩
    | node i a x r =>
      have hnd := node_any (h.tb.more hk) hu
      obtain ⟨⟨v1, v2, v3, v4⟩, ha, hr⟩ := hu
      rw [Tr.flds_eq, nodeA_nf] at hnd
      generalize hM : ((max a.h r.h + 1 : Nat) : Int) = M at hnd
      have hi : (Tr.node i a x r).link = i := rfl
      rw [hi] at hnd hm ⊢
      have d0 : ((i : Int) == 0) = false := by simp; omega
      have da := lh_hang ha
      have dr := lh_hang hr
      have hh : (Tr.node i a x r).h = max a.h r.h + 1 := rfl
      go_upto_region 4 with (go_at_call 63; refine hnd.mono ?_; rintro e w1 ⟨rfl, hk1⟩)
      have K2 : Keep (fun _ => False) w (w1.alloc (.cells (nodeA (nf a.link r.link M x)) 82)) := (hk.trans hk1).alloc _
      have L2 := Loc.new w1 a.link r.link M x
      simp only [nodeA_nf] at K2 L2
      generalize w1.alloc (.cells #[.int .u32 (a.link : Int), .int .u32 (r.link : Int), .int .i64 M, .int .i64 x.lba, .int .i64 x.len, .int .i64 x.phys] 82) = w2 at K2 L2 ⊢
      generalize w1.heap.size = g at L2 ⊢
      have z0 := L2.c0
      have z1 := L2.c1
      have z3 := L2.c3
      have hsub' : Hid ((Tr.node i a x r).sub v = t.sub v) := hsub
      clear hnd hk1 L2 hsub
      by_cases e1 : x.lba = v
      · have d1 : (x.lba == v) = true := by simp [e1]
        have hs : (t.sub v).link = i := by rw [← (show (Tr.node i a x r).sub v = t.sub v from hsub'), Tr.sub, if_pos e1]; rfl
        clear e1
        go_wp2_with fail
        go_ret
        exact ⟨by rw [hs]; rfl, K2⟩
      · have d1 : (x.lba == v) = false := by simp [e1]
        have hs := show (Tr.node i a x r).sub v = t.sub v from hsub'
        rw [Tr.sub, if_neg e1] at hs
        have hs' : Hid ((if v < x.lba then a.sub v else r.sub v) = t.sub v) := hs
        clear e1 hs
        by_cases e2 : v < x.lba
        · go_wp2_with fail
          go_roundw
          case rel =>
            exact ⟨a, rfl, ha, by rw [← (show (if v < x.lba then a.sub v else r.sub v) = t.sub v from hs'), if_pos e2], K2⟩
          case measure => rw [da]; rw [hm, hh]; omega
        · go_wp2_with fail
          go_roundw
          case rel =>
            exact ⟨r, rfl, hr, by rw [← (show (if v < x.lba then a.sub v else r.sub v) = t.sub v from hs'), if_neg (by omega)], K2⟩
          case measure => rw [dr]; rw [hm, hh]; omega

/-- A run as a value. -/
def rnV (x : Rn) : Value := .agg #[.int .i64 x.lba, .int .i64 x.len, .int .i64 x.phys]
def rn0 : Rn := ⟨0, 0, 0⟩
/-- The root's run. -/
def Tr.run : Tr → Option Rn
  | .nil => none
  | .node _ _ x _ => some x
def rcell (x : Rn) (j : Nat) : Value := if j = 0 then .int .i64 x.lba else if j = 1 then .int .i64 x.len else .int .i64 x.phys
def rnA (x : Rn) : Array Value := ((List.range 3).map (rcell x)).toArray
set_option maxRecDepth 100000 in
theorem rnA_lit (x : Rn) : rnA x = #[.int .i64 x.lba, .int .i64 x.len, .int .i64 x.phys] := rfl
theorem rnA_size (x : Rn) : (rnA x).size = 3 := by simp [rnA]
set_option maxRecDepth 100000 in
theorem size31 : (Try.prog.info? 55).map (·.size) = some 3 := by kernel_rfl
set_option maxRecDepth 100000 in
theorem under31 : ∃ d, Try.prog.underlying 55 = some d ∧ d.isRow = true := ⟨_, Try.underlying55, rfl⟩
set_option maxRecDepth 100000 in
theorem rcell_one (x : Rn) (j : Nat) : (rcell x j).oneCell' = true := by unfold rcell; split; rfl; split <;> rfl
set_option maxRecDepth 100000 in
theorem store_rn {w : World} {p o N : Nat} {f : Nat → Value} (h : Blk w p N f) (ho : o + 3 ≤ N) (x : Rn) :
    (Instr.storeAt 55 (.pointer (some ⟨p, o, none⟩)) (.agg (rnA x))).run Try.prog w = .ok () (w.setCells p o ((List.range 3).map (rcell x))) := by
  have ht : w.there p o (rnA x).size := fun j hj => by rw [rnA_size] at hj; exact ⟨by rw [(h (o + j) (by omega)).1]; rfl, (h (o + j) (by omega)).2⟩
  exact run_storeAt_mid w p o 55 (rnA x) ht (by rw [rnA_size]; exact size31) (all_oneCell_toArray (fun v hv => by simp at hv; obtain ⟨i, _, rfl⟩ := hv; exact rcell_one _ _))
theorem range_rn {w : World} {p o N : Nat} {f : Nat → Value} {x : Rn} (h : Blk w p N f) (ho : o + 3 ≤ N) (hf : ∀ i, i < 3 → f (o + i) = rcell x i) : w.rangeAt p o (rnA x).toList := by
  intro j v hv
  have hj : j < 3 := by have := (List.getElem?_eq_some_iff.1 hv).1; simpa [rnA] using this
  rw [(h (o + j) (by omega)).1, hf j hj, ← hv]
  simp [rnA, hj]
theorem load_rn {w : World} {p o N : Nat} {f : Nat → Value} {x : Rn} (h : Blk w p N f) (ho : o + 3 ≤ N) (hf : ∀ i, i < 3 → f (o + i) = rcell x i) : (loadVar 55 ⟨p, o, none⟩).run Try.prog w = .ok (.agg (rnA x)) w := by
  obtain ⟨t, h1, h2⟩ := under31
  have := run_loadVar_mid (P := Try.prog) w p o 55 (rnA x).toList t (range_rn h ho hf) h1 h2 (by rw [size31]; simp [rnA])
  simpa using this
theorem loadAt_rn {w : World} {p o N : Nat} {f : Nat → Value} {x : Rn} (h : Blk w p N f) (ho : o + 3 ≤ N) (hf : ∀ i, i < 3 → f (o + i) = rcell x i) : (Instr.loadAt 55 (.pointer (some ⟨p, o, none⟩))).run Try.prog w = .ok (.agg (rnA x)) w := by
  obtain ⟨t, h1, h2⟩ := under31
  have := run_loadAt_mid (P := Try.prog) w p o 55 (rnA x).toList t (range_rn h ho hf) h1 h2 (by rw [size31]; simp [rnA])
  simpa using this
/-- A variable of the call's own that holds a run. -/
def Lrn (w : World) (g : Nat) (x : Rn) : Prop := Blk w g 3 (rcell x)
theorem Lrn.new (w : World) (x : Rn) : Lrn (w.alloc (.cells (rnA x) 55)) w.heap.size x := blk_alloc w _ 55 3 _ (fun i hi => by simp [rnA, hi])
theorem Lrn.more {w w' : World} {g : Nat} {x : Rn} (h : Lrn w g x) (hk : Keep (fun _ => False) w w') : Lrn w' g x := Blk.keep h hk (fun e => e)
theorem Lrn.put {w : World} {g : Nat} {x : Rn} (h : Lrn w g x) (y : Rn) : Lrn (w.setCells g 0 ((List.range 3).map (rcell y))) g y := (Blk.setCells h 0 3 (rcell y) (by omega)).congr (fun i hi => by rw [if_pos (by omega), Nat.sub_zero])
theorem Lrn.store {w : World} {g : Nat} {x : Rn} (h : Lrn w g x) (y : Rn) : (Instr.storeAt 55 (.pointer (some ⟨g, 0, none⟩)) (.agg (rnA y))).run Try.prog w = .ok () (w.setCells g 0 ((List.range 3).map (rcell y))) := store_rn h (by omega) y
theorem Lrn.load {w : World} {g : Nat} {x : Rn} (h : Lrn w g x) : (loadVar 55 ⟨g, 0, none⟩).run Try.prog w = .ok (.agg (rnA x)) w := load_rn h (o := 0) (by omega) (fun i _ => by rw [Nat.zero_add])
set_option maxRecDepth 100000 in
theorem Lrn.over {w : World} {g : Nat} {x : Rn} (h : Lrn w g x) (y : Rn) : ∃ w', (Instr.storeAt 55 (.pointer (some ⟨g, 0, none⟩)) (.agg #[.int .i64 y.lba, .int .i64 y.len, .int .i64 y.phys])).run Try.prog w = .ok () w' ∧ Lrn w' g y ∧ Keep (fun b => b = g) w w' :=
  ⟨_, h.store y, h.put y, (Keep.refl (fun b => b = g) w).setCells (b := g) (Or.inl rfl) _ _⟩
set_option maxRecDepth 100000 in
theorem rn0_lit : rnA rn0 = #[.int .i64 0, .int .i64 0, .int .i64 0] := rfl

/-- What a question answers. -/
def ansV (o : Option Rn) : Value := .tuple #[.agg (rnA (o.getD rn0)), .bool o.isSome]
set_option maxRecDepth 100000 in
/-- The root's run, of no node all 0. -/
theorem Tr.flds_run (u : Tr) : nodeA u.flds = #[.int .u32 (u.flds 0), .int .u32 (u.flds 1), .int .i64 (u.flds 2), .int .i64 (u.run.getD rn0).lba, .int .i64 (u.run.getD rn0).len, .int .i64 (u.run.getD rn0).phys] := by
  cases u <;> rfl
set_option maxRecDepth 100000 in
theorem Tr.link_run {s : Ar} {u : Tr} (h : Hang s u) : ((u.link : Int) != 0) = u.run.isSome := by
  cases u with
  | nil => rfl
  | node i l x r =>
    have := h.1.1
    have e : (Tr.node i l x r).link = i := rfl
    rw [e]
    simp [Tr.run]
    omega

/-- The branch whose root has the last run up to k; the first from k on. -/
def Tr.fl (k : Int) : Tr → Tr → Tr
  | .nil, d => d
  | .node i l x r, d => if x.lba ≤ k then fl k r (.node i l x r) else fl k l d
def Tr.ce (k : Int) : Tr → Tr → Tr
  | .nil, d => d
  | .node i l x r, d => if k ≤ x.lba then ce k l (.node i l x r) else ce k r d


set_option maxRecDepth 100000 in
set_option maxHeartbeats 1000000 in
theorem floor_any {w : World} {b p k : Nat} {s : Ar} {l : List Nat} {t : Tr} (h : Tt w b p k s l t) (v : Int) :
    Calls Try.prog 55 #[.pointer (some ⟨b, 0, none⟩), .int .i64 v] w fun e w' => e = .returned (ansV (Tr.fl v t .nil).run) ∧ Keep (fun _ => False) w w' := by
  have K1 : Keep (fun _ => False) w (w.alloc (.cells (rnA rn0) 55)) := (Keep.refl _ _).alloc _
  have L1 := Lrn.new w rn0
  have hT := h.more K1
  rw [rn0_lit] at K1 L1 hT
  obtain ⟨t0, t1, t2, f1, f2⟩ := hT.tops
  clear t2 f1 f2
  go_enter Try.func55, Try.ntmps55
  go_wp2_with fail
  go_loopw [6, 7] (fun c a wr => ∃ d u, c = .int .u32 ((Tr.link d : Nat) : Int) ∧ a = .int .u32 ((Tr.link u : Nat) : Int) ∧ Hang s d ∧ Hang s u ∧ Tr.fl v u d = Tr.fl v t .nil ∧ Keep (fun _ => False) (w.alloc (.cells #[.int .i64 0, .int .i64 0, .int .i64 0] 55)) wr) (fun _ a _ => lh s a)
  case atStart => exact ⟨.nil, t, rfl, rfl, trivial, h.hang, rfl, Keep.refl _ _⟩
  case round =>
    obtain ⟨d, u, rfl, rfl, hd, hu, hsub, hk⟩ := hrel
    have hm := lh_hang hu
    clear t0 t1
    cases u with
    | nil =>
      have h0 : (Tr.nil.link : Int) = 0 := rfl
      rw [h0]
      have hnd := node_any (hT.more hk).tb hd
      rw [Tr.flds_run] at hnd
      have hlk := Tr.link_run hd
      have L2 := L1.more hk
      have hf := field_run
      have hs : Hid (d = Tr.fl v t .nil) := hsub
      clear hsub
      go_wp2_with (first | (go_at_call 63; refine hnd.mono ?_; rintro e w3 ⟨rfl, hk3⟩; obtain ⟨w4, hst, L4, hk4⟩ := (L2.more hk3).over (d.run.getD rn0)) | (guard_target =~ wpList _ _ _ (Oper.mk _ (Op.store 55 _ _) _ _ _ _ :: _) _ _; refine wpList_store_run rfl 55 (.tmp 4) (.tmp 31) rfl (by rfl) (by rfl) hst ?_))
      have K4 := ((K1.trans hk).trans hk3).next hk4 (fun y hy e => by omega)
      refine bodyPost_ret (v := ansV d.run) ?_ rfl ⟨congrArg (fun q => Ending.returned (ansV (Tr.run q))) hs, K4⟩
      rw [results_cell_tmp rfl]
      have hld := L4.load
      simp [asAddr, Result.andThen, hld, ansV]
    | node i a x r =>
      have hnd := node_any (hT.more hk).tb hu
      have hu' := hu
      obtain ⟨⟨v1, v2, v3, v4⟩, ha, hr⟩ := hu
      rw [Tr.flds_eq, nodeA_nf] at hnd
      generalize hM : ((max a.h r.h + 1 : Nat) : Int) = M at hnd
      have hi : (Tr.node i a x r).link = i := rfl
      rw [hi] at hnd hm ⊢
      have d0 : ((i : Int) == 0) = false := by simp; omega
      have da := lh_hang ha
      have dr := lh_hang hr
      have hh : (Tr.node i a x r).h = max a.h r.h + 1 := rfl
      go_upto_region 5 with (go_at_call 63; refine hnd.mono ?_; rintro e w1 ⟨rfl, hk1⟩)
      have K2 : Keep (fun _ => False) (w.alloc (.cells #[.int .i64 0, .int .i64 0, .int .i64 0] 55)) (w1.alloc (.cells (nodeA (nf a.link r.link M x)) 82)) := (hk.trans hk1).alloc _
      have L2 := Loc.new w1 a.link r.link M x
      simp only [nodeA_nf] at K2 L2
      generalize w1.alloc (.cells #[.int .u32 (a.link : Int), .int .u32 (r.link : Int), .int .i64 M, .int .i64 x.lba, .int .i64 x.len, .int .i64 x.phys] 82) = w2 at K2 L2 ⊢
      generalize w1.heap.size = g at L2 ⊢
      have z0 := L2.c0
      have z1 := L2.c1
      have z3 := L2.c3
      rw [Tr.fl] at hsub
      have hs' : Hid ((if x.lba ≤ v then Tr.fl v r (.node i a x r) else Tr.fl v a d) = Tr.fl v t .nil) := hsub
      clear hnd hk1 L2 hsub
      by_cases e2 : x.lba ≤ v
      · go_wp2_with fail
        go_quiet (fail)
        go_wp2_with fail
        go_roundw
        case rel =>
          exact ⟨.node i a x r, r, rfl, rfl, hu', hr, by rw [← (show (if x.lba ≤ v then Tr.fl v r (.node i a x r) else Tr.fl v a d) = Tr.fl v t .nil from hs'), if_pos e2], K2.drewN _⟩
        case measure => rw [dr]; rw [hm, hh]; omega
      · go_wp2_with fail
        go_roundw
        case rel =>
          exact ⟨d, a, rfl, rfl, hd, ha, by rw [← (show (if x.lba ≤ v then Tr.fl v r (.node i a x r) else Tr.fl v a d) = Tr.fl v t .nil from hs'), if_neg (by omega)], K2⟩
        case measure => rw [da]; rw [hm, hh]; omega

set_option maxRecDepth 100000 in
set_option maxHeartbeats 1000000 in
theorem ceil_any {w : World} {b p k : Nat} {s : Ar} {l : List Nat} {t : Tr} (h : Tt w b p k s l t) (v : Int) :
    Calls Try.prog 53 #[.pointer (some ⟨b, 0, none⟩), .int .i64 v] w fun e w' => e = .returned (ansV (Tr.ce v t .nil).run) ∧ Keep (fun _ => False) w w' := by
  have K1 : Keep (fun _ => False) w (w.alloc (.cells (rnA rn0) 55)) := (Keep.refl _ _).alloc _
  have L1 := Lrn.new w rn0
  have hT := h.more K1
  rw [rn0_lit] at K1 L1 hT
  obtain ⟨t0, t1, t2, f1, f2⟩ := hT.tops
  clear t2 f1 f2
  go_enter Try.func53, Try.ntmps53
  go_wp2_with fail
  go_loopw [6, 7] (fun c a wr => ∃ d u, c = .int .u32 ((Tr.link d : Nat) : Int) ∧ a = .int .u32 ((Tr.link u : Nat) : Int) ∧ Hang s d ∧ Hang s u ∧ Tr.ce v u d = Tr.ce v t .nil ∧ Keep (fun _ => False) (w.alloc (.cells #[.int .i64 0, .int .i64 0, .int .i64 0] 55)) wr) (fun _ a _ => lh s a)
  case atStart => exact ⟨.nil, t, rfl, rfl, trivial, h.hang, rfl, Keep.refl _ _⟩
  case round =>
    obtain ⟨d, u, rfl, rfl, hd, hu, hsub, hk⟩ := hrel
    have hm := lh_hang hu
    clear t0 t1
    cases u with
    | nil =>
      have h0 : (Tr.nil.link : Int) = 0 := rfl
      rw [h0]
      have hnd := node_any (hT.more hk).tb hd
      rw [Tr.flds_run] at hnd
      have hlk := Tr.link_run hd
      have L2 := L1.more hk
      have hf := field_run
      have hs : Hid (d = Tr.ce v t .nil) := hsub
      clear hsub
      go_wp2_with (first | (go_at_call 63; refine hnd.mono ?_; rintro e w3 ⟨rfl, hk3⟩; obtain ⟨w4, hst, L4, hk4⟩ := (L2.more hk3).over (d.run.getD rn0)) | (guard_target =~ wpList _ _ _ (Oper.mk _ (Op.store 55 _ _) _ _ _ _ :: _) _ _; refine wpList_store_run rfl 55 (.tmp 4) (.tmp 31) rfl (by rfl) (by rfl) hst ?_))
      have K4 := ((K1.trans hk).trans hk3).next hk4 (fun y hy e => by omega)
      refine bodyPost_ret (v := ansV d.run) ?_ rfl ⟨congrArg (fun q => Ending.returned (ansV (Tr.run q))) hs, K4⟩
      rw [results_cell_tmp rfl]
      have hld := L4.load
      simp [asAddr, Result.andThen, hld, ansV]
    | node i a x r =>
      have hnd := node_any (hT.more hk).tb hu
      have hu' := hu
      obtain ⟨⟨v1, v2, v3, v4⟩, ha, hr⟩ := hu
      rw [Tr.flds_eq, nodeA_nf] at hnd
      generalize hM : ((max a.h r.h + 1 : Nat) : Int) = M at hnd
      have hi : (Tr.node i a x r).link = i := rfl
      rw [hi] at hnd hm ⊢
      have d0 : ((i : Int) == 0) = false := by simp; omega
      have da := lh_hang ha
      have dr := lh_hang hr
      have hh : (Tr.node i a x r).h = max a.h r.h + 1 := rfl
      go_upto_region 5 with (go_at_call 63; refine hnd.mono ?_; rintro e w1 ⟨rfl, hk1⟩)
      have K2 : Keep (fun _ => False) (w.alloc (.cells #[.int .i64 0, .int .i64 0, .int .i64 0] 55)) (w1.alloc (.cells (nodeA (nf a.link r.link M x)) 82)) := (hk.trans hk1).alloc _
      have L2 := Loc.new w1 a.link r.link M x
      simp only [nodeA_nf] at K2 L2
      generalize w1.alloc (.cells #[.int .u32 (a.link : Int), .int .u32 (r.link : Int), .int .i64 M, .int .i64 x.lba, .int .i64 x.len, .int .i64 x.phys] 82) = w2 at K2 L2 ⊢
      generalize w1.heap.size = g at L2 ⊢
      have z0 := L2.c0
      have z1 := L2.c1
      have z3 := L2.c3
      rw [Tr.ce] at hsub
      have hs' : Hid ((if v ≤ x.lba then Tr.ce v a (.node i a x r) else Tr.ce v r d) = Tr.ce v t .nil) := hsub
      clear hnd hk1 L2 hsub
      by_cases e2 : v ≤ x.lba
      · go_wp2_with fail
        go_quiet (fail)
        go_wp2_with fail
        go_roundw
        case rel =>
          exact ⟨.node i a x r, a, rfl, rfl, hu', ha, by rw [← (show (if v ≤ x.lba then Tr.ce v a (.node i a x r) else Tr.ce v r d) = Tr.ce v t .nil from hs'), if_pos e2], K2.drewN _⟩
        case measure => rw [da]; rw [hm, hh]; omega
      · go_wp2_with fail
        go_roundw
        case rel =>
          exact ⟨d, r, rfl, rfl, hd, hr, by rw [← (show (if v ≤ x.lba then Tr.ce v a (.node i a x r) else Tr.ce v r d) = Tr.ce v t .nil from hs'), if_neg (by omega)], K2⟩
        case measure => rw [dr]; rw [hm, hh]; omega
end Tg
end Go.Proofs.Ytbdankhlbepjoaa
