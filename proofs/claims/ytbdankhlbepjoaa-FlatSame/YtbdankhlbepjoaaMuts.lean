/-
  What New, Insert, Delete and Change answer, and what they make of a whole tree.
-/
import Derived.Test.YtbdankhlbepjoaaTold
namespace Go.Proofs.Ytbdankhlbepjoaa
open Go.ChangeShapes Go.WideShapes Go.ChangeAt Go.RowKit
namespace Tg

set_option maxRecDepth 100000 in
theorem enters {P : Program} {f : FuncId} {fn : Func} (hf : P.funcs[f]? = some fn) (hname : (fn.name == "runtime.NumGoroutine") = false) (hb : fn.body.isSome = true) (args : Array Value) (w : World) :
    (callFunc f args).run P w = .ok (.enter f args) w := by
  obtain ⟨c, hc⟩ := Option.isSome_iff_exists.1 hb
  simp [callFunc, go_sem, hf, hc]
  intro h; simp [h] at hname
set_option maxRecDepth 100000 in
theorem step_call_want {P : Program} {ops : Array Oper} {o : Oper} {a : Act} {w : World} {K : Act → World → Prop} {Q : Exit → Act → World → Prop} {E : Prop}
    (hw : Region.wanted o (yielded ops a.tmps) = true) (f : FuncId) (xs : Array Operand) (ts : Array TypeId) (hop : o.op = Op.call { callee := Callee.value (.func f), args := xs, argTypes := ts })
    {vs : Array Value} {R : Value → World → Prop} (hx : xs.map a.eval = vs) (he : ∀ args w, (callFunc f args).run P w = .ok (.enter f args) w) (hc : Calls P f vs w fun e w2 => ∃ v, e = .returned v ∧ R v w2)
    (hK : ∀ v w', R v w' → K (a.put o.dst v) w') : if Region.wanted o (yielded ops a.tmps) = true then Oper.wp P o a w K Q else E := by
  rw [if_pos hw]
  subst hx
  obtain ⟨dst, op, ty, pos, after, guard⟩ := o
  simp only at hop
  subst hop
  unfold Oper.wp
  rw [execOp_call_go, he, Oper.upon_enter]
  simp only [Array.empty_append, Array.append_empty]
  exact hc.mono (by rintro e w2 ⟨v, rfl, hr⟩; exact hK v w2 hr)
theorem step_load_run {P : Program} {ops : Array Oper} {o : Oper} {a : Act} {w : World} {K : Act → World → Prop} {Q : Exit → Act → World → Prop} {E : Prop}
    (hw : Region.wanted o (yielded ops a.tmps) = true) (t : TypeId) (x : Operand) (hop : o.op = Op.load t x) {v1 v' : Value} {w' : World} (hx : a.eval x = v1) (hrun : (Instr.loadAt t v1).run P w = .ok v' w')
    (hK : K (a.put o.dst v') w') : if Region.wanted o (yielded ops a.tmps) = true then Oper.wp P o a w K Q else E := by
  rw [if_pos hw]
  unfold Oper.wp
  simp [execOp, hop, hx, hrun, Result.andThen]
  exact hK
theorem step_store_run {P : Program} {ops : Array Oper} {o : Oper} {a : Act} {w : World} {K : Act → World → Prop} {Q : Exit → Act → World → Prop} {E : Prop}
    (hw : Region.wanted o (yielded ops a.tmps) = true) (t : TypeId) (x y : Operand) (hop : o.op = Op.store t x y) {v1 v2 : Value} {w' : World} (hx : a.eval x = v1) (hy : a.eval y = v2) (hrun : (Instr.storeAt t v1 v2).run P w = .ok () w')
    (hK : K (a.put o.dst undef) w') : if Region.wanted o (yielded ops a.tmps) = true then Oper.wp P o a w K Q else E := by
  rw [if_pos hw]
  unfold Oper.wp
  simp [execOp, hop, hx, hy, hrun, Result.andThen]
  exact hK
set_option maxRecDepth 100000 in
theorem call30 (args : Array Value) (w : World) : (callFunc 71 args).run Try.prog w = .ok (.enter 71 args) w := enters Try.func71 (by kernel_rfl) (by kernel_rfl) args w
set_option maxRecDepth 100000 in
theorem load_root {w : World} {b : Nat} {n : Int} (h : w.cell? ⟨b, 1, none⟩ = some (.int .u32 n)) : (Instr.loadAt 78 (.pointer (some ⟨b, 1, none⟩))).run Try.prog w = .ok (.int .u32 n) w := by
  go_simp
set_option maxRecDepth 100000 in
theorem store_root {w : World} {b : Nat} {n m : Int} (h : w.cell? ⟨b, 1, none⟩ = some (.int .u32 n)) (hf : w.frozen? ⟨b, 1, none⟩ = false) : (Instr.storeAt 78 (.pointer (some ⟨b, 1, none⟩)) (.int .u32 m)).run Try.prog w = .ok () (w.setCell ⟨b, 1, none⟩ (.int .u32 m)) := by
  go_simp

/-- The blocks of a whole tree. -/
def Own3 (b p k : Nat) : Nat → Prop := fun x => x = b ∨ x = p ∨ x = k
theorem Keep.own3 {b p k : Nat} {w w' : World} (h : Keep (Own p k) w w') : Keep (Own3 b p k) w w' := h.mono (fun _ _ e => Or.inr e)
theorem Keep.none3 {b p k : Nat} {w w' : World} (h : Keep (fun _ => False) w w') : Keep (Own3 b p k) w w' := h.mono (fun _ _ e => e.elim)

set_option maxRecDepth 100000 in
theorem newTree_any {w : World} {p k : Nat} {s : Ar} {l : List Nat} (h : Mem w p k s) (ok : s.Ok l) (hc : s.count = 0) :
    Calls Try.prog 39 #[.pointer (some ⟨p, 0, none⟩)] w fun e w' => e = .returned (.pointer (some ⟨w.heap.size, 0, none⟩)) ∧ Tt w' w.heap.size p k s l .nil ∧ Keep (fun _ => False) w w' := by
  have K1 : Keep (fun _ => False) w (w.alloc (.cells #[.pointer (some ⟨p, 0, none⟩), .int .u32 0, .int .i64 0] 86)) := (Keep.refl _ _).alloc _
  have hb : Blk (w.alloc (.cells #[.pointer (some ⟨p, 0, none⟩), .int .u32 0, .int .i64 0] 86)) w.heap.size 3 (Tr.nil.top p) := blk_alloc w _ 86 3 _ (fun i hi => by rcases three hi with rfl | rfl | rfl <;> rfl)
  have b1 := h.top.lt (by omega)
  have b2 := h.blk.lt (by have := ok.one; omega)
  have T1 : Tt (w.alloc (.cells #[.pointer (some ⟨p, 0, none⟩), .int .u32 0, .int .i64 0] 86)) w.heap.size p k s l .nil :=
    ⟨hb, h.alloc _, by omega, by omega, trivial, by simp [Tr.ids, Tr.seq], trivial, by simp [Tr.Ord, Tr.seq], ok, by rw [hc]; rfl⟩
  go_enter Try.func39, Try.ntmps39
  go_wp2_with fail
  go_ret
  exact ⟨rfl, T1, K1⟩

set_option maxRecDepth 100000 in
theorem put_at {w : World} {p k : Nat} {s : Ar} (h : Mem w p k s) {i : Nat} (h1 : 1 ≤ i) (h2 : i ≤ s.N) (hN : s.N ≤ 512) (hl : s.live i = true) (n : Nat → Int) :
    Calls Try.prog 69 #[.pointer (some ⟨p, 0, none⟩), .int .u32 (i : Int), .agg (nodeA n)] w fun e w' => e = .returned (.int .i64 0) ∧ Mem w' p k (s.set i n) ∧ Keep (Own p k) w w' := by
  obtain ⟨q, rfl⟩ : ∃ q, i = q + 1 := ⟨i - 1, by omega⟩
  exact put_any h (by omega) hN hl n
set_option maxRecDepth 100000 in
theorem give_at {w : World} {p k : Nat} {s : Ar} (h : Mem w p k s) {i : Nat} (h1 : 1 ≤ i) (h2 : i ≤ s.N) (hN : s.N ≤ 512) (hl : s.live i = true) (hc : 1 ≤ s.count ∧ s.count ≤ 512) :
    Calls Try.prog 68 #[.pointer (some ⟨p, 0, none⟩), .int .u32 (i : Int)] w fun e w' => e = .returned (.int .i64 0) ∧ Mem w' p k (s.give i) ∧ Keep (Own p k) w w' := by
  obtain ⟨q, rfl⟩ : ∃ q, i = q + 1 := ⟨i - 1, by omega⟩
  exact give_any h (by omega) hN hl hc
theorem Tt.ids1 {w : World} {b p k : Nat} {s : Ar} {l : List Nat} {t : Tr} (h : Tt w b p k s l t) : ∀ z ∈ t.ids, 1 ≤ z := fun z hz => (h.hang.live z hz).1
theorem Tt.len {w : World} {b p k : Nat} {s : Ar} {l : List Nat} {t : Tr} (h : Tt w b p k s l t) : t.ids.length ≤ 512 := by
  have := h.hang.len h.nd
  have := h.ok.small
  omega
theorem Tt.sub0 {w : World} {b p k : Nat} {s : Ar} {l : List Nat} {t : Tr} (h : Tt w b p k s l t) {v : Int} (hz : ¬ t.Has v) : (t.sub v).link = 0 := by
  rw [Tr.sub_link]
  by_cases e : t.idOf v = 0
  · exact e
  · exact absurd ((Tr.idOf_has (k := v) h.ids1).2 e) hz
set_option maxRecDepth 100000 in
theorem Tt.sub1 {w : World} {b p k : Nat} {s : Ar} {l : List Nat} {t : Tr} (h : Tt w b p k s l t) {v : Int} (hz : t.Has v) : ((((t.sub v).link : Nat) : Int) == 0) = false ∧ (t.sub v).link = t.idOf v := by
  rw [Tr.sub_link]
  have := (Tr.idOf_has (k := v) h.ids1).1 hz
  refine ⟨?_, rfl⟩
  simp; omega

set_option maxRecDepth 100000 in
set_option maxHeartbeats 1000000 in
theorem insert_old {w : World} {b p k : Nat} {s : Ar} {l : List Nat} {t : Tr} (h : Tt w b p k s l t) (r : Rn) (hz : t.Has r.lba) :
    Calls Try.prog 62 #[.pointer (some ⟨b, 0, none⟩), .agg (rnA r)] w fun e w' => e = .returned (.int .i64 1) ∧ Keep (fun _ => False) w w' := by
  have K1 : Keep (fun _ => False) w (w.alloc (.cells (rnA r) 55)) := (Keep.refl _ _).alloc _
  have hfind := find_any (h.more K1) r.lba
  have hs := (h.sub1 hz).1
  rw [rnA_lit] at K1 hfind ⊢
  go_enter Try.func62, Try.ntmps62
  go_wp2_with (go_at_call 66; refine hfind.mono ?_; rintro e w2 ⟨rfl, hk2⟩)
  go_ret
  exact ⟨rfl, K1.trans hk2⟩

set_option maxRecDepth 100000 in
set_option maxHeartbeats 1000000 in
theorem insert_full {w : World} {b p k : Nat} {s : Ar} {t : Tr} (h : Tt w b p k s [] t) (r : Rn) (hz : ¬ t.Has r.lba) :
    Calls Try.prog 62 #[.pointer (some ⟨b, 0, none⟩), .agg (rnA r)] w fun e w' => e = .returned (.int .i64 5) ∧ Keep (fun _ => False) w w' := by
  have K1 : Keep (fun _ => False) w (w.alloc (.cells (rnA r) 55)) := (Keep.refl _ _).alloc _
  have hfind := find_any (h.more K1) r.lba
  have hs := h.sub0 hz
  rw [hs] at hfind
  rw [show ((0 : Nat) : Int) = 0 from rfl] at hfind
  rw [rnA_lit] at K1 hfind ⊢
  go_enter Try.func62, Try.ntmps62
  go_upto_region 3 with (go_at_call 66; refine hfind.mono ?_; rintro e w2 ⟨rfl, hk2⟩)
  have h2 := h.more (K1.trans hk2)
  have htake := take_none h2.mem h2.ok
  obtain ⟨t0, t1, t2, f1, f2⟩ := h2.tops
  go_wp2_with (go_at_call 70; refine htake.mono ?_; rintro e w3 ⟨rfl, rfl⟩)
  go_ret
  exact ⟨rfl, K1.trans hk2⟩

set_option maxRecDepth 100000 in
set_option maxHeartbeats 1000000 in
theorem insert_new {w : World} {b p k : Nat} {s : Ar} {n : Nat} {l : List Nat} {t : Tr} (h : Tt w b p k s (n :: l) t) (r : Rn) (hz : ¬ t.Has r.lba) :
    Calls Try.prog 62 #[.pointer (some ⟨b, 0, none⟩), .agg (rnA r)] w fun e w' => e = .returned (.int .i64 0) ∧ (∃ s', Tt w' b p k s' l (t.ins n r) ∧ s'.N = s.N) ∧ Keep (Own3 b p k) w w' := by
  have K1 : Keep (fun _ => False) w (w.alloc (.cells (rnA r) 55)) := (Keep.refl _ _).alloc _
  have L1 := Lrn.new w r
  have hfind := find_any (h.more K1) r.lba
  have hs := h.sub0 hz
  rw [hs] at hfind
  rw [show ((0 : Nat) : Int) = 0 from rfl] at hfind
  rw [rnA_lit] at K1 L1 hfind ⊢
  have hN1 := h.ok.one
  obtain ⟨b1, b2, b3⟩ := h.tb.lt hN1
  go_enter Try.func62, Try.ntmps62
  go_upto_region 3 with (go_at_call 66; refine hfind.mono ?_; rintro e w2 ⟨rfl, hk2⟩)
  have h2 := h.more (K1.trans hk2)
  have L2 := L1.more hk2
  have K2 := K1.trans hk2
  clear hfind K1 L1 hk2
  have htake := take_any h2.mem h2.ok
  obtain ⟨t0, t1, t2, f1, f2⟩ := h2.tops
  go_upto_region 6 with (go_at_call 70; refine htake.mono ?_; rintro e w3 ⟨rfl, m3, k3⟩)
  have hr1 := h.ok.range n (by simp)
  have hfr := h.hang.free h.ok (x := n) (by simp)
  have hlv : s.take.live n = true := by simp [Ar.take, Ar.wipe, h.ok.lnk.1]
  have ho : ¬ Own p k b := fun e => e.elim h.bp h.bk
  have hg : ¬ Own p k w.heap.size := h.tb.out hN1 (Nat.le_refl _)
  have K3 : Keep (Own p k) w w3 := K2.ownK.trans k3
  have tb3 := (h2.tb.own k3 m3 rfl).drew
  have L3 : Lrn w3.drew w.heap.size r := Blk.keep L2 k3.drew hg
  have hput := put_at tb3.mem hr1.1 hr1.2 h.ok.small hlv (nf 0 0 1 r)
  rw [nodeA_nf] at hput
  rw [show ((0 : Nat) : Int) = 0 from rfl] at hput
  have hS : ∀ w', Keep (Own p k) w3.drew w' → w'.cell? ⟨b, 0, none⟩ = some (.pointer (some ⟨p, 0, none⟩)) ∧ w'.cell? ⟨w.heap.size, 0, none⟩ = some (.int .i64 r.lba) ∧ w'.cell? ⟨w.heap.size, 1, none⟩ = some (.int .i64 r.len) ∧ w'.cell? ⟨w.heap.size, 2, none⟩ = some (.int .i64 r.phys) :=
    fun w' hk => ⟨tb3.ptrK hk, (Blk.keep L3 hk hg 0 (by omega)).1, (Blk.keep L3 hk hg 1 (by omega)).1, (Blk.keep L3 hk hg 2 (by omega)).1⟩
  clear htake t0 t1 t2 f1 f2
  go_region_held3 (fun w' => w'.cell? ⟨b, 0, none⟩ = some (.pointer (some ⟨p, 0, none⟩)) ∧ w'.cell? ⟨w.heap.size, 0, none⟩ = some (.int .i64 r.lba) ∧ w'.cell? ⟨w.heap.size, 1, none⟩ = some (.int .i64 r.len) ∧ w'.cell? ⟨w.heap.size, 2, none⟩ = some (.int .i64 r.phys)) (first | exact hS _ (Keep.refl _ _) | exact hS _ k4) ((go_at_call 69; refine hput.mono ?_; rintro e w4 ⟨rfl, m4, k4⟩))
  have K4 := K3.trans (((Keep.refl _ _).drew).trans k4)
  have T5 : Blk w4.drew b 3 (t.top p) := (h.top.keep K4 ho).drew
  have L5 : ∀ {w'}, Keep (Own p k) w4.drew w' → w'.cell? ⟨w.heap.size, 0, none⟩ = some (.int .i64 r.lba) := fun {w'} hk => (Blk.keep L3 (k4.trans (((Keep.refl _ _).drew).trans hk)) hg 0 (by omega)).1
  have c5 := L5 (Keep.refl _ _)
  have r5 := (T5 1 (by omega)).1
  have tb5 := ((tb3.own k4 m4 rfl)).drew
  have H5 : Hang (s.take.set n (nf 0 0 1 r)) t := (h.hang.take h.ok).set hfr _
  have V5 : Hang (s.take.set n (nf 0 0 1 r)) (.node n .nil r .nil) := ⟨⟨hr1.1, hr1.2, hlv, fun j _ => by simp only [Ar.set, if_true]; rfl⟩, trivial, trivial⟩
  have hhang : Calls Try.prog 71 #[.pointer (some ⟨b, 0, none⟩), .int .u32 (t.link : Int), .int .u32 (n : Int), .int .i64 r.lba] w4.drew (fun e w2 => ∃ v, e = .returned v ∧ (fun u wz => u = .int .u32 ((t.ins n r).link : Int) ∧ Aft w4.drew b p k (s.take.set n (nf 0 0 1 r)) (t.ins n r) wz) v w2) :=
    (hang_any t tb5 H5 V5 h.nd hfr).mono (by rintro e w' ⟨rfl, ha⟩; exact ⟨_, rfl, rfl, ha⟩)
  clear hS hput
  go_wp2_with fail
  refine wp_region_noPanic ?_
  refine wp_region_held_drew (S := fun w' => w'.cell? ⟨w.heap.size, 0, none⟩ = some (.int .i64 r.lba)) (by kernel_rfl) (c5) (fun hH0 => ?_)
  refine' wpAnyH_take (i := 0) (oi := { dst := some 31, op := Op.move (Operand.tmp 0), type := 68, pos := "tree.go:37", after := #[], guard := none }) (v := _) rfl (by kernel_rfl) (by kernel_rfl) (by kernel_rfl) (fun _ _ _ h => h) (Or.inl ⟨by rfl, ?hy0⟩) hH0 ?r0
  case hy0 => (intro w' hSw; clear hSw; go_simp; try with_reducible rfl)
  simp only [Act.put, List.setIfInBounds_toArray, List.set_cons_zero, List.set_cons_succ]
  refine' wpAnyH_take (i := 1) (oi := { dst := some 32, op := Op.move (Operand.tmp 0), type := 68, pos := "tree.go:37", after := #[], guard := none }) (v := _) rfl (by kernel_rfl) (by kernel_rfl) (by kernel_rfl) (fun _ _ _ h => h) (Or.inl ⟨by rfl, ?hy1⟩) hH0 ?r1
  case hy1 => (intro w' hSw; clear hSw; go_simp; try with_reducible rfl)
  simp only [Act.put, List.setIfInBounds_toArray, List.set_cons_zero, List.set_cons_succ]
  refine' wpAnyH_take (i := 2) (oi := { dst := some 33, op := Op.move (Operand.tmp 0), type := 68, pos := "tree.go:37", after := #[], guard := none }) (v := _) rfl (by kernel_rfl) (by kernel_rfl) (by kernel_rfl) (fun _ _ _ h => h) (Or.inl ⟨by rfl, ?hy2⟩) hH0 ?r2
  case hy2 => (intro w' hSw; clear hSw; go_simp; try with_reducible rfl)
  simp only [Act.put, List.setIfInBounds_toArray, List.set_cons_zero, List.set_cons_succ]
  refine' wpAnyH_take (i := 3) (oi := { dst := some 34, op := Op.nilCheck (Operand.tmp 33), type := 0, pos := "tree.go:37", after := #[{ on := 2, ground := Ground.data }], guard := none }) (v := _) rfl (by kernel_rfl) (by kernel_rfl) (by kernel_rfl) (fun _ _ _ h => h) (Or.inl ⟨by rfl, ?hy3⟩) hH0 ?r3
  case hy3 => (intro w' hSw; clear hSw; go_simp; try with_reducible rfl)
  simp only [Act.put, List.setIfInBounds_toArray, List.set_cons_zero, List.set_cons_succ]
  refine' wpAnyH_take (i := 4) (oi := { dst := some 35, op := Op.fieldAddr 86 (Operand.tmp 34) 1, type := 0, pos := "tree.go:37", after := #[{ on := 3, ground := Ground.data }], guard := none }) (v := _) rfl (by kernel_rfl) (by kernel_rfl) (by kernel_rfl) (fun _ _ _ h => h) (Or.inl ⟨by rfl, ?hy4⟩) hH0 ?r4
  case hy4 => (intro w' hSw; clear hSw; go_simp; try with_reducible rfl)
  simp only [Act.put, List.setIfInBounds_toArray, List.set_cons_zero, List.set_cons_succ]
  refine' wpAnyH_take (i := 6) (oi := { dst := some 37, op := Op.move (Operand.tmp 5), type := 78, pos := "tree.go:37", after := #[], guard := none }) (v := _) rfl (by kernel_rfl) (by kernel_rfl) (by kernel_rfl) (fun _ _ _ h => h) (Or.inl ⟨by rfl, ?hy6⟩) hH0 ?r6
  case hy6 => (intro w' hSw; clear hSw; go_simp; try with_reducible rfl)
  simp only [Act.put, List.setIfInBounds_toArray, List.set_cons_zero, List.set_cons_succ]
  refine' wpAnyH_take (i := 7) (oi := { dst := some 38, op := Op.fieldAddr 55 (Operand.tmp 3) 0, type := 0, pos := "tree.go:37", after := #[], guard := none }) (v := _) rfl (by kernel_rfl) (by kernel_rfl) (by kernel_rfl) (fun _ _ _ h => h) (Or.inl ⟨by rfl, ?hy7⟩) hH0 ?r7
  case hy7 => (intro w' hSw; clear hSw; go_simp; try with_reducible rfl)
  simp only [Act.put, List.setIfInBounds_toArray, List.set_cons_zero, List.set_cons_succ]
  refine' wpAnyH_take (i := 8) (oi := { dst := some 39, op := Op.load 3 (Operand.tmp 38), type := 3, pos := "tree.go:37", after := #[{ on := 7, ground := Ground.data }], guard := none }) (v := _) rfl (by kernel_rfl) (by kernel_rfl) (by kernel_rfl) (fun _ _ _ h => h) (Or.inl ⟨by rfl, ?hy8⟩) hH0 ?r8
  case hy8 => (intro w' hSw; go_simp; try with_reducible rfl)
  simp only [Act.put, List.setIfInBounds_toArray, List.set_cons_zero, List.set_cons_succ]
  refine wpAnyH_ready (rs := [5]) (by kernel_rfl) (by simp) ?_
  refine AllReadyH.cons (o := { dst := some 36, op := Op.load 78 (Operand.tmp 35), type := 78, pos := "tree.go:37", after := #[{ on := 4, ground := Ground.data }], guard := none }) rfl (fun K hK => ?_) AllReadyH.nil
  refine step_load_run (by rfl) 78 (.tmp 35) rfl (by rfl) (load_root r5) ?_
  refine hK.out _ _ (c5) (fun hH1 => ?_)
  clear hK K hH0
  simp only [Act.put, List.setIfInBounds_toArray, List.set_cons_zero, List.set_cons_succ]
  refine wpAnyH_ready (rs := [9]) (by kernel_rfl) (by simp) ?_
  refine AllReadyH.cons (o := { dst := some 40, op := Op.call { callee := Callee.value (Operand.func 71), args := #[Operand.tmp 32, Operand.tmp 36, Operand.tmp 37, Operand.tmp 39], argTypes := #[68, 78, 78, 3] }, type := 78, pos := "tree.go:37", after := #[{ on := 1, ground := Ground.data }, { on := 5, ground := Ground.data }, { on := 6, ground := Ground.data }, { on := 8, ground := Ground.data }], guard := none }) rfl (fun K hK => ?_) AllReadyH.nil
  refine step_call_want (vs := #[.pointer (some ⟨b, 0, none⟩), .int .u32 (t.link : Int), .int .u32 (n : Int), .int .i64 r.lba]) (R := fun u wz => u = .int .u32 ((t.ins n r).link : Int) ∧ Aft w4.drew b p k (s.take.set n (nf 0 0 1 r)) (t.ins n r) wz) (by rfl) 71 #[Operand.tmp 32, Operand.tmp 36, Operand.tmp 37, Operand.tmp 39] #[68, 78, 78, 3] rfl (by simp [Act.eval]) call30 (hhang) ?_
  rintro _ w6 ⟨rfl, s6, t6, H6, S6, k6⟩
  refine hK.out _ _ (L5 k6) (fun hH2 => ?_)
  clear hK K hH1
  simp only [Act.put, List.setIfInBounds_toArray, List.set_cons_zero, List.set_cons_succ]
  refine' wpAnyH_take (i := 10) (oi := { dst := some 41, op := Op.nilCheck (Operand.tmp 31), type := 0, pos := "tree.go:37", after := #[{ on := 0, ground := Ground.data }, { on := 0, ground := Ground.phase }, { on := 1, ground := Ground.phase }, { on := 2, ground := Ground.phase }, { on := 3, ground := Ground.phase }, { on := 4, ground := Ground.phase }, { on := 5, ground := Ground.phase }, { on := 6, ground := Ground.phase }, { on := 7, ground := Ground.phase }, { on := 8, ground := Ground.phase }, { on := 9, ground := Ground.phase }], guard := none }) (v := _) rfl (by kernel_rfl) (by kernel_rfl) (by kernel_rfl) (fun _ _ _ h => h) (Or.inl ⟨by rfl, ?hy10⟩) hH2 ?r10
  case hy10 => (intro w' hSw; clear hSw; go_simp; try with_reducible rfl)
  simp only [Act.put, List.setIfInBounds_toArray, List.set_cons_zero, List.set_cons_succ]
  refine' wpAnyH_take (i := 11) (oi := { dst := some 42, op := Op.fieldAddr 86 (Operand.tmp 41) 1, type := 0, pos := "tree.go:37", after := #[{ on := 10, ground := Ground.data }, { on := 0, ground := Ground.phase }, { on := 1, ground := Ground.phase }, { on := 2, ground := Ground.phase }, { on := 3, ground := Ground.phase }, { on := 4, ground := Ground.phase }, { on := 5, ground := Ground.phase }, { on := 6, ground := Ground.phase }, { on := 7, ground := Ground.phase }, { on := 8, ground := Ground.phase }, { on := 9, ground := Ground.phase }], guard := none }) (v := _) rfl (by kernel_rfl) (by kernel_rfl) (by kernel_rfl) (fun _ _ _ h => h) (Or.inl ⟨by rfl, ?hy11⟩) hH2 ?r11
  case hy11 => (intro w' hSw; clear hSw; go_simp; try with_reducible rfl)
  simp only [Act.put, List.setIfInBounds_toArray, List.set_cons_zero, List.set_cons_succ]
  refine wpAnyH_ready (rs := [12]) (by kernel_rfl) (by simp) ?_
  refine AllReadyH.cons (o := { dst := none, op := Op.store 78 (Operand.tmp 42) (Operand.tmp 40), type := 0, pos := "tree.go:37", after := #[{ on := 11, ground := Ground.data }, { on := 9, ground := Ground.data }, { on := 9, ground := Ground.chain }, { on := 0, ground := Ground.phase }, { on := 1, ground := Ground.phase }, { on := 2, ground := Ground.phase }, { on := 3, ground := Ground.phase }, { on := 4, ground := Ground.phase }, { on := 5, ground := Ground.phase }, { on := 6, ground := Ground.phase }, { on := 7, ground := Ground.phase }, { on := 8, ground := Ground.phase }, { on := 9, ground := Ground.phase }], guard := none }) rfl (fun K hK => ?_) AllReadyH.nil
  refine step_store_run (by rfl) 78 (.tmp 42) (.tmp 40) rfl (by rfl) (by rfl) (store_root (T5.keep k6 ho 1 (by omega)).1 (T5.keep k6 ho 1 (by omega)).2) ?_
  refine hK.out _ _ (by rw [World.cell?_setCell_other (h := fun x => by have := congrArg Addr.block x; simp at this; omega)]; exact L5 k6) (fun hH3 => ?_)
  clear hK K hH2
  refine wpAnyH_done (by kernel_rfl) ?_ _
  refine NoPanic.normal ?_
  have ho6 := fun (w' : World) (hk : Keep (Own p k) w4.drew w') => T5.keep hk ho
  have T6 := ho6 _ k6
  have T7 : Blk (w6.setCell ⟨b, 1, none⟩ (.int .u32 ((t.ins n r).link : Int))) b 3 (fun i => if i = 1 then .int .u32 ((t.ins n r).link : Int) else t.top p i) := T6.set 1 _
  have z1 : (w6.setCell ⟨b, 1, none⟩ (.int .u32 ((t.ins n r).link : Int))).cell? ⟨b, 2, none⟩ = some (.int .i64 (t.ids.length : Int)) := (T7 2 (by omega)).1
  have z2 : (w6.setCell ⟨b, 1, none⟩ (.int .u32 ((t.ins n r).link : Int))).frozen? ⟨b, 2, none⟩ = false := (T7 2 (by omega)).2
  have hlen := h.len
  have dw : IntKind.i64.wrap ((t.ids.length : Int) + 1) = (t.ids.length : Int) + 1 := by rw [IntKind.wrap_i64] <;> omega
  have T8 := T7.set 2 (.int .i64 ((t.ids.length : Int) + 1))
  have K68 : Keep (fun x => x = b) w6 ((w6.setCell ⟨b, 1, none⟩ (.int .u32 ((t.ins n r).link : Int))).setCell ⟨b, 2, none⟩ (.int .i64 ((t.ids.length : Int) + 1))) := ((Keep.refl (fun x => x = b) w6).setCell (p := ⟨b, 1, none⟩) (Or.inl rfl) _).setCell (p := ⟨b, 2, none⟩) (Or.inl rfl) _
  have hbal := (Tr.ins_bal n r t h.bal).1
  have hcount : s6.count = s.count + 1 := S6.count
  have F8 : Tt ((w6.setCell ⟨b, 1, none⟩ (.int .u32 ((t.ins n r).link : Int))).setCell ⟨b, 2, none⟩ (.int .i64 ((t.ids.length : Int) + 1))) b p k s6 l (t.ins n r) :=
    ⟨T8.congr (fun i hi => by rcases three hi with rfl | rfl | rfl <;> simp [Tr.top, Tr.ins_len]), t6.mem.keep K68 (Ne.symm h.bp) (Ne.symm h.bk), h.bp, h.bk, H6, Tr.ins_nd h.nd hfr, hbal, Tr.ins_ord h.ord hz, S6.ok (h.ok.take.set _ _), by rw [hcount, h.live, Tr.ins_len]⟩
  have K8 : Keep (Own3 b p k) w ((w6.setCell ⟨b, 1, none⟩ (.int .u32 ((t.ins n r).link : Int))).setCell ⟨b, 2, none⟩ (.int .i64 ((t.ids.length : Int) + 1))) := ((K4.trans (((Keep.refl _ _).drew).trans k6)).own3).next K68 (fun x _ e => Or.inl e)
  clear T5 T6 T7 T8 L5 c5 r5 tb5 H5 V5 hhang K68 h
  go_wp2_with fail
  go_ret
  exact ⟨rfl, ⟨s6, F8, S6.N⟩, K8⟩
set_option maxRecDepth 100000 in
set_option maxHeartbeats 1000000 in
theorem delete_no {w : World} {b p k : Nat} {s : Ar} {l : List Nat} {t : Tr} (h : Tt w b p k s l t) (v : Int) (hz : ¬ t.Has v) :
    Calls Try.prog 60 #[.pointer (some ⟨b, 0, none⟩), .int .i64 v] w fun e w' => e = .returned (.int .i64 4) ∧ Keep (fun _ => False) w w' := by
  have hfind := find_any h v
  rw [h.sub0 hz, show ((0 : Nat) : Int) = 0 from rfl] at hfind
  go_enter Try.func60, Try.ntmps60
  go_wp2_with (go_at_call 66; refine hfind.mono ?_; rintro e w2 ⟨rfl, hk2⟩)
  go_ret
  exact ⟨rfl, hk2⟩

set_option maxRecDepth 100000 in
set_option maxHeartbeats 1000000 in
theorem delete_yes {w : World} {b p k : Nat} {s : Ar} {l : List Nat} {t : Tr} (h : Tt w b p k s l t) (v : Int) (hz : t.Has v) :
    Calls Try.prog 60 #[.pointer (some ⟨b, 0, none⟩), .int .i64 v] w fun e w' => e = .returned (.int .i64 0) ∧ (∃ s', Tt w' b p k s' (t.idOf v :: l) (t.del v) ∧ s'.N = s.N) ∧ Keep (Own3 b p k) w w' := by
  have hfind := find_any h v
  obtain ⟨d0, hi⟩ := h.sub1 hz
  rw [hi] at hfind d0
  have hmem := Tr.idOf_mem hz
  have hgone := Tr.idOf_gone hz h.nd
  have hdl := Tr.del_len hz
  obtain ⟨i1, i2, i3⟩ := h.hang.live _ hmem
  generalize hid : t.idOf v = i at hfind d0 hmem hgone i1 i2 i3 ⊢
  have hN1 := h.ok.one
  have ho : ¬ Own p k b := fun e => e.elim h.bp h.bk
  go_enter Try.func60, Try.ntmps60
  go_upto_region 4 with (go_at_call 66; refine hfind.mono ?_; rintro e w2 ⟨rfl, hk2⟩)
  have h2 := h.more hk2
  have hun := unhang_any t h2.tb h.hang h.nd hz
  obtain ⟨t0, t1, t2, f1, f2⟩ := h2.tops
  clear hfind
  go_upto_region 5 with (go_at_call 67; refine hun.mono ?_; rintro e w3 ⟨rfl, s3, t3, H3, S3, k3⟩; have y1 := (h2.top.keep k3 ho 1 (by omega)).1; have yf := (h2.top.keep k3 ho 1 (by omega)).2)
  have T4 := (h2.top.keep k3 ho).set 1 (.int .u32 ((t.del v).link : Int))
  have K34 : Keep (fun x => x = b) w3 (w3.setCell ⟨b, 1, none⟩ (.int .u32 ((t.del v).link : Int))) := (Keep.refl (fun x => x = b) w3).setCell (p := ⟨b, 1, none⟩) (Or.inl rfl) _
  have m4 := t3.mem.keep K34 (Ne.symm h.bp) (Ne.symm h.bk)
  have K4 : Keep (Own3 b p k) w (w3.setCell ⟨b, 1, none⟩ (.int .u32 ((t.del v).link : Int))) := ((hk2.ownK.trans k3).own3).next K34 (fun x _ e => Or.inl e)
  generalize w3.setCell ⟨b, 1, none⟩ (.int .u32 ((t.del v).link : Int)) = w4 at T4 m4 K4 K34 ⊢
  have ok4 := S3.ok h.ok
  have l4 : s3.live i = true := by rw [S3.live]; exact i3
  have n4 : i ≤ s3.N := by rw [S3.N]; exact i2
  have hgv := give_at m4 i1 n4 ok4.small l4 (by have := S3.count; have := h.live; have := h.len; omega)
  clear y1 yf t0 t1 t2 f1 f2 hun h2
  have c0 : w4.cell? ⟨b, 0, none⟩ = some (.pointer (some ⟨p, 0, none⟩)) := (T4 0 (by omega)).1
  go_upto_region 6 with (go_at_call 68; refine hgv.mono ?_; rintro e w5 ⟨rfl, m5, k5⟩)
  have T5 := T4.keep k5 ho
  have z1 : w5.cell? ⟨b, 2, none⟩ = some (.int .i64 (t.ids.length : Int)) := (T5 2 (by omega)).1
  have z2 : w5.frozen? ⟨b, 2, none⟩ = false := (T5 2 (by omega)).2
  have hlen := h.len
  have dw : IntKind.i64.wrap ((t.ids.length : Int) - 1) = (t.ids.length : Int) - 1 := by rw [IntKind.wrap_i64] <;> omega
  have T6 := T5.set 2 (.int .i64 ((t.ids.length : Int) - 1))
  have K56 : Keep (fun x => x = b) w5 (w5.setCell ⟨b, 2, none⟩ (.int .i64 ((t.ids.length : Int) - 1))) := (Keep.refl (fun x => x = b) w5).setCell (p := ⟨b, 2, none⟩) (Or.inl rfl) _
  have hNN : (s3.give i).N = s.N := S3.N
  have hcount : (s3.give i).count = s.count - 1 := by show s3.count - 1 = _; rw [S3.count]
  have F6 : Tt (w5.setCell ⟨b, 2, none⟩ (.int .i64 ((t.ids.length : Int) - 1))) b p k (s3.give i) (i :: l) (t.del v) :=
    ⟨T6.congr (fun j hj => by rcases three hj with rfl | rfl | rfl <;> simp [Tr.top]; omega), m5.keep K56 (Ne.symm h.bp) (Ne.symm h.bk), h.bp, h.bk, H3.give hgone, (Tr.del_sub v t).nodup h.nd, (Tr.del_bal v t h.bal).1, Tr.del_ord h.ord, ok4.give i1 n4 l4, by rw [hcount, h.live]; omega⟩
  have K6 : Keep (Own3 b p k) w (w5.setCell ⟨b, 2, none⟩ (.int .i64 ((t.ids.length : Int) - 1))) := (K4.trans k5.own3).next K56 (fun x _ e => Or.inl e)
  clear T4 T5 T6 K56 K34 m4 m5 h hid hgv c0 hdl
  go_wp2_with fail
  go_ret
  exact ⟨rfl, ⟨_, F6, hNN⟩, K6⟩

set_option maxRecDepth 100000 in
set_option maxHeartbeats 1000000 in
theorem change_no {w : World} {b p k : Nat} {s : Ar} {l : List Nat} {t : Tr} (h : Tt w b p k s l t) (r : Rn) (hz : ¬ t.Has r.lba) :
    Calls Try.prog 61 #[.pointer (some ⟨b, 0, none⟩), .agg (rnA r)] w fun e w' => e = .returned (.int .i64 4) ∧ Keep (fun _ => False) w w' := by
  have K1 : Keep (fun _ => False) w (w.alloc (.cells (rnA r) 55)) := (Keep.refl _ _).alloc _
  have hfind := find_any (h.more K1) r.lba
  rw [h.sub0 hz, show ((0 : Nat) : Int) = 0 from rfl] at hfind
  rw [rnA_lit] at K1 hfind ⊢
  go_enter Try.func61, Try.ntmps61
  go_wp2_with (go_at_call 66; refine hfind.mono ?_; rintro e w2 ⟨rfl, hk2⟩)
  go_ret
  exact ⟨rfl, K1.trans hk2⟩

set_option maxRecDepth 100000 in
/-- A node's run is written over. -/
theorem Loc.setRun {w : World} {g a b : Nat} {c : Int} {x : Rn} (h : Loc w g a b c x) (y : Rn) : ∃ w', (Instr.storeAt 55 (.pointer (some ⟨g, 3, none⟩)) (.agg #[.int .i64 y.lba, .int .i64 y.len, .int .i64 y.phys])).run Try.prog w = .ok () w' ∧ Loc w' g a b c y ∧ Keep (fun b => b = g) w w' := by
  refine ⟨_, store_rn h (o := 3) (by omega) y, (Blk.setCells h 3 3 (rcell y) (by omega)).congr (fun i hi => ?_), (Keep.refl (fun b => b = g) w).setCells (b := g) (Or.inl rfl) _ _⟩
  have h6 : i = 0 ∨ i = 1 ∨ i = 2 ∨ i = 3 ∨ i = 4 ∨ i = 5 := by omega
  rcases h6 with rfl | rfl | rfl | rfl | rfl | rfl <;> rfl

set_option maxRecDepth 100000 in
set_option maxHeartbeats 1000000 in
theorem change_yes {w : World} {b p k : Nat} {s : Ar} {l : List Nat} {t : Tr} (h : Tt w b p k s l t) (r : Rn) (hz : t.Has r.lba) :
    Calls Try.prog 61 #[.pointer (some ⟨b, 0, none⟩), .agg (rnA r)] w fun e w' => e = .returned (.int .i64 0) ∧ (∃ s', Tt w' b p k s' l (t.chg r) ∧ s'.N = s.N) ∧ Keep (Own3 b p k) w w' := by
  have K1 : Keep (fun _ => False) w (w.alloc (.cells (rnA r) 55)) := (Keep.refl _ _).alloc _
  have L1 := Lrn.new w r
  have hfind := find_any (h.more K1) r.lba
  obtain ⟨i, a, x, c, hsub, -⟩ := Tr.has_sub hz
  have hsu := h.hang.sub r.lba
  obtain ⟨d0, -⟩ := h.sub1 hz
  rw [hsub] at hfind d0 hsu
  have hi : (Tr.node i a x c).link = i := rfl
  rw [hi] at hfind d0
  have hN1 := h.ok.one
  have ho : ¬ Own p k b := fun e => e.elim h.bp h.bk
  have hg : ¬ Own p k w.heap.size := h.tb.out hN1 (Nat.le_refl _)
  obtain ⟨b1, b2, b3⟩ := h.tb.lt hN1
  rw [rnA_lit] at K1 L1 hfind ⊢
  go_enter Try.func61, Try.ntmps61
  go_upto_region 4 with (go_at_call 66; refine hfind.mono ?_; rintro e w2 ⟨rfl, hk2⟩)
  have h2 := h.more (K1.trans hk2)
  have L2 := L1.more hk2
  have K2 := K1.trans hk2
  have hnd := node_any h2.tb hsu
  rw [Tr.flds_eq, nodeA_nf, hi] at hnd
  generalize hM : ((max a.h c.h + 1 : Nat) : Int) = M at hnd
  clear hfind hk2 K1 L1
  go_upto_region 5 with (go_at_call 63; refine hnd.mono ?_; rintro e w3 ⟨rfl, hk3⟩)
  have K4 : Keep (fun _ => False) w (w3.alloc (.cells (nodeA (nf a.link c.link M x)) 82)) := (K2.trans hk3).alloc _
  have L4 : Lrn (w3.alloc (.cells (nodeA (nf a.link c.link M x)) 82)) w.heap.size r := (L2.more hk3).more ((Keep.refl _ _).alloc _)
  have A4 := Loc.new w3 a.link c.link M x
  have hge : w.heap.size < w3.heap.size := (World.block_lt_of_cell? _ _ ((L2.more hk3) 0 (by omega)).1)
  simp only [nodeA_nf] at K4 L4 A4
  generalize w3.alloc (.cells #[.int .u32 (a.link : Int), .int .u32 (c.link : Int), .int .i64 M, .int .i64 x.lba, .int .i64 x.len, .int .i64 x.phys] 82) = w4 at K4 L4 A4 ⊢
  generalize w3.heap.size = g at hge A4 ⊢
  clear hnd hk3 L2 K2
  have q0 : w4.cell? ⟨w.heap.size, 0, none⟩ = some (.int .i64 r.lba) := (L4 0 (by omega)).1
  have q1 : w4.cell? ⟨w.heap.size, 1, none⟩ = some (.int .i64 r.len) := (L4 1 (by omega)).1
  have q2 : w4.cell? ⟨w.heap.size, 2, none⟩ = some (.int .i64 r.phys) := (L4 2 (by omega)).1
  obtain ⟨w5, hst, A5, k5⟩ := A4.setRun r
  have K5 : Keep (fun _ => False) w w5 := K4.next k5 (fun y hy e => by omega)
  have h5 := (h.more K5)
  have tb5 := h5.tb.drew
  have A5' : Loc w5.drew g a.link c.link M r := A5
  obtain ⟨⟨v1, v2, v3, v4⟩, -⟩ := hsu
  have hput := put_at tb5.mem v1 v2 h.ok.small v3 (nf a.link c.link M r)
  rw [nodeA_nf] at hput
  have hg5 : ¬ Own p k g := h.tb.out hN1 (by omega)
  have hS : ∀ w', Keep (Own p k) w5.drew w' → _ := fun w' hk => And.intro (tb5.ptrK hk) (A5'.keep hk hg5).six
  go_upto_region 6 with (guard_target =~ wpList _ _ _ (Oper.mk _ (Op.store 55 _ _) _ _ _ _ :: _) _ _; refine wpList_store_run rfl 55 (.tmp 17) (.tmp 16) rfl (by rfl) (by rfl) hst ?_)
  go_region_held3 (fun w' => w'.cell? ⟨b, 0, none⟩ = some (.pointer (some ⟨p, 0, none⟩)) ∧ w'.cell? ⟨g, 0, none⟩ = some (.int .u32 (a.link : Int)) ∧ w'.cell? ⟨g, 1, none⟩ = some (.int .u32 (c.link : Int)) ∧ w'.cell? ⟨g, 2, none⟩ = some (.int .i64 M) ∧ w'.cell? ⟨g, 3, none⟩ = some (.int .i64 r.lba) ∧ w'.cell? ⟨g, 4, none⟩ = some (.int .i64 r.len) ∧ w'.cell? ⟨g, 5, none⟩ = some (.int .i64 r.phys)) (first | exact hS _ (Keep.refl _ _) | exact hS _ k6) ((go_at_call 69; refine hput.mono ?_; rintro e w6 ⟨rfl, m6, k6⟩))
  have T6 := (h5.top.drew).keep k6 ho
  have hch : Hang (s.set i (nf a.link c.link M r)) (t.chg r) := by
    have := h.hang.chg (v := r) h.nd hsub
    rw [Tr.flds_eq, hM] at this
    exact this
  have F6 : Tt w6 b p k (s.set i (nf a.link c.link M r)) l (t.chg r) :=
    ⟨T6.congr (fun j hj => by rcases three hj with rfl | rfl | rfl <;> simp [Tr.top, Tr.chg_link, Tr.chg_ids]), m6, h.bp, h.bk, hch, by rw [Tr.chg_ids]; exact h.nd, Tr.chg_bal r t h.bal, Tr.chg_ord h.ord, h.ok.set _ _, by rw [Tr.chg_ids]; exact h.live⟩
  have K6 : Keep (Own3 b p k) w w6 := (K5.drew.ownK.trans k6).own3
  clear T6 hch hS hput A5 A5' tb5 h5 L4 A4
  go_wp2_with fail
  go_ret
  exact ⟨rfl, ⟨_, F6, rfl⟩, K6⟩
end Tg
end Go.Proofs.Ytbdankhlbepjoaa
