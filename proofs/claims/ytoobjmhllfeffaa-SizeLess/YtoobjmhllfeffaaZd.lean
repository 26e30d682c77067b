/-
  The document's own Of: what a Config in its spans comes to.
-/
import Derived.Test.YtoobjmhllfeffaaZc
import Derived.Deep.CutBlock
namespace Go.Proofs.Ytoobjmhllfeffaa
open Go.ChangeShapes Go.WideShapes Go.ChangeAt Go.RowKit
namespace Tg
theorem store3 {w : World} {b o : Nat} {u v : Int} (h : w.cell? ⟨b, o, none⟩ = some (.int .i64 u)) (hf : w.frozen? ⟨b, o, none⟩ = false) : (Instr.storeAt 3 (.pointer (some ⟨b, o, none⟩)) (.int .i64 v)).run Try.prog w = .ok () (w.setCell ⟨b, o, none⟩ (.int .i64 v)) := by
  go_simp
/-- A Config's cells. -/
def ccell (c : Cf) (i : Nat) : Value := if i = 0 then .int .i64 c.b else if i = 1 then .int .i64 c.p else if i = 2 then .int .i64 c.c else if i = 3 then .int .i64 c.s else if i = 4 then .int .i64 c.m else if i = 5 then .int .i64 c.w else .bool c.f
def scell (l : List Int) (i : Nat) : Value := .int .i64 (l.getD i 0)
/-- A Config in g, sizes under way in h, the answer's cells in q, all made since w0. -/
structure Ob (w0 w : World) (g h q : Nat) (c : Cf) (l : List Int) : Prop where
  cf : Blk w g 7 (ccell c)
  sz : Blk w h 11 (scell l)
  rs : Blk w q 11 (fun _ => .int .i64 0)
  ne : g ≠ h ∧ q ≠ h
  lo : w0.heap.size ≤ h ∧ w0.heap.size ≤ q
  kp : Keep (fun _ => False) w0 w
theorem Ob.more {w0 w w' : World} {g h q : Nat} {c : Cf} {l : List Int} (o : Ob w0 w g h q c l) (k : Keep (fun _ => False) w w') : Ob w0 w' g h q c l :=
  ⟨o.cf.keep k (fun e => e), o.sz.keep k (fun e => e), o.rs.keep k (fun e => e), o.ne, o.lo, o.kp.trans k⟩
theorem Ob.set {w0 w : World} {g h q : Nat} {c : Cf} {l : List Int} (o : Ob w0 w g h q c l) (j : Nat) (v : Int) (hj : j < l.length) : Ob w0 (w.setCell ⟨h, j, none⟩ (.int .i64 v)) g h q c (l.set j v) := by
  refine ⟨o.cf.other o.ne.1 _, (o.sz.set j _).congr (fun i _ => ?_), o.rs.other o.ne.2 _, o.ne, o.lo, o.kp.setCell (Or.inr o.lo.1) _⟩
  unfold scell
  rw [List.getD_eq_getElem?_getD, List.getD_eq_getElem?_getD, List.getElem?_set]
  by_cases e : i = j
  · subst e; rw [if_pos rfl, if_pos rfl, if_pos hj]; rfl
  · rw [if_neg e, if_neg (fun x => e x.symm)]
theorem call25 (args : Array Value) (w : World) : (callFunc 27 args).run Try.prog w = .ok (.enter 27 args) w := enters Try.func27 (by kernel_rfl) (by kernel_rfl) args w
theorem call26 (args : Array Value) (w : World) : (callFunc 28 args).run Try.prog w = .ok (.enter 28 args) w := enters Try.func28 (by kernel_rfl) (by kernel_rfl) args w
theorem call27 (args : Array Value) (w : World) : (callFunc 29 args).run Try.prog w = .ok (.enter 29 args) w := enters Try.func29 (by kernel_rfl) (by kernel_rfl) args w
theorem results_cell {fn : Func} {p : Tmp} {ty : TypeId} (h : fn.results = #[.cell p ty]) (tmps : Array Value) (P : Program) (w : World) :
    (results fn tmps).run P w = ((asAddr (tmps.getD p undef)).run P w).andThen fun a w₁ => (loadVar ty a).run P w₁ := by
  simp only [results, h]
  simp [Sem.run_bind, Result.andThen]
theorem load_sz {w : World} {q : Nat} {a0 a1 a2 a3 a4 a5 a6 a7 a8 a9 a10 : Int} (h : Blk w q 11 (scell [a0, a1, a2, a3, a4, a5, a6, a7, a8, a9, a10])) : (loadVar 35 ⟨q, 0, none⟩).run Try.prog w = .ok (.agg #[.int .i64 a0, .int .i64 a1, .int .i64 a2, .int .i64 a3, .int .i64 a4, .int .i64 a5, .int .i64 a6, .int .i64 a7, .int .i64 a8, .int .i64 a9, .int .i64 a10]) w := by
  have c0 : w.cell? ⟨q, 0, none⟩ = some (.int .i64 a0) := (h 0 (by omega)).1
  have c1 : w.cell? ⟨q, 1, none⟩ = some (.int .i64 a1) := (h 1 (by omega)).1
  have c2 : w.cell? ⟨q, 2, none⟩ = some (.int .i64 a2) := (h 2 (by omega)).1
  have c3 : w.cell? ⟨q, 3, none⟩ = some (.int .i64 a3) := (h 3 (by omega)).1
  have c4 : w.cell? ⟨q, 4, none⟩ = some (.int .i64 a4) := (h 4 (by omega)).1
  have c5 : w.cell? ⟨q, 5, none⟩ = some (.int .i64 a5) := (h 5 (by omega)).1
  have c6 : w.cell? ⟨q, 6, none⟩ = some (.int .i64 a6) := (h 6 (by omega)).1
  have c7 : w.cell? ⟨q, 7, none⟩ = some (.int .i64 a7) := (h 7 (by omega)).1
  have c8 : w.cell? ⟨q, 8, none⟩ = some (.int .i64 a8) := (h 8 (by omega)).1
  have c9 : w.cell? ⟨q, 9, none⟩ = some (.int .i64 a9) := (h 9 (by omega)).1
  have c10 : w.cell? ⟨q, 10, none⟩ = some (.int .i64 a10) := (h 10 (by omega)).1
  go_simp
theorem same_keep {f : FuncId} {vs : Array Value} {v : Value} {w : World} (h : Calls Try.prog f vs w fun e w' => e = .returned v ∧ w' = w) : Calls Try.prog f vs w fun e w' => e = .returned v ∧ Keep (fun _ => False) w w' :=
  h.mono (by rintro e w' ⟨rfl, rfl⟩; exact ⟨rfl, Keep.refl _ _⟩)
set_option maxRecDepth 100000 in
set_option maxHeartbeats 4000000 in
theorem rof_up (w : World) {c : Cf} (hs : Span c) (hw : c.p < upI c.c c.p) : Calls Try.prog 15 #[.agg #[.int .i64 c.b, .int .i64 c.p, .int .i64 c.c, .int .i64 c.s, .int .i64 c.m, .int .i64 c.w, .bool c.f]] w fun e w' => e = .returned (.agg #[.int .i64 (rbI c), .int .i64 (spI c), .int .i64 (omI c), .int .i64 (obI c), .int .i64 (rpI c), .int .i64 (lpI c), .int .i64 (ebI c), .int .i64 (mbI c), .int .i64 (wnI c), .int .i64 (slI c), .int .i64 (mrI c)]) ∧ Keep (fun _ => False) w w' := by
  have hbp := bp_bd hs
  have hrb := rb_bd c
  have hob := ob_bd c
  have hmr := mr_bd hs
  have hsp := sp_bd hs
  have hup := up_p_bd hs
  have hom := om_bd hs
  have hoo := oo_bd hs
  have hrp := rp_bd hs
  have hlp := lp_bd hs
  have heb := eb_bd hs
  have hus := us_bd hs
  have hmb := mb_bd hs
  have hwn := wn_bd hs
  have hsl := sl_bd hs
  have hpe := pe_bd hs
  obtain ⟨b1, b2, p1, p2, s1, s2, c1, c2, w1, w2, w3, m1, m2⟩ := hs
  have l1 := lV_bd c.c
  have l2 := lV_bd (2 * (c.b * c.p) + 1)
  have l3 := lV_bd c.m
  have l4 := lV_bd (2 * c.c + 1)
  have l5 := lV_bd (2 * (c.b * c.p) + 3)
  have l6 := lV_bd (omI c)
  have eE3 : rbI c = 2 * lV c.c + lV (2 * (c.b * c.p) + 1) := rfl
  have eE4 : spI c = pgI (lV c.m + c.m * rbI c) := rfl
  have eE7 : omI c = 4 + c.s + mxI (upI c.c c.p) c.p := rfl
  have eE8 : obI c = lV (2 * c.c + 1) + lV c.c + lV (2 * (c.b * c.p) + 3) := rfl
  have eE9 : rpI c = pgI (lV (omI c) + omI c * obI c) := rfl
  have eE10 : lpI c = 2 * rpI c + c.p + spI c := rfl
  have eE11 : ebI c = upI (spI c + lpI c) c.p := rfl
  have eE12 : mbI c = ebI c + upI (spI c) c.p + 3 := rfl
  have eE13 : wnI c = upI c.c c.w := rfl
  have eE14 : slI c = upI c.c c.p + 8 + 4 * c.s := rfl
  have eE15 : mrI c = c.b + 2 * c.p * (ebI c + 2 + c.s) := rfl
  have gL : ∀ v : Int, 0 ≤ v → v < 16384 → ∀ w : World, Calls Try.prog 27 #[.int .i64 (v)] w fun e w' => e = .returned (.int .i64 (lV v)) ∧ Keep (fun _ => False) w w' := fun v h0 h1 w => l_any h0 h1 w
  have gP : ∀ n : Int, 1 ≤ n → n ≤ 65536 → ∀ w : World, Calls Try.prog 28 #[.int .i64 (n)] w fun e w' => e = .returned (.int .i64 (pgI n)) ∧ Keep (fun _ => False) w w' := fun n h0 h1 w => same_keep (pages_any h0 h1 w)
  have gU : ∀ a b : Int, 0 ≤ a → 1 ≤ b → a ≤ 1000000000 → b ≤ 1000000000 → ∀ w : World, Calls Try.prog 29 #[.int .i64 (a), .int .i64 (b)] w fun e w' => e = .returned (.int .i64 (upI a b)) ∧ Keep (fun _ => False) w w' := fun a b h0 h1 h2 h3 w => same_keep (rup_any h0 h1 h2 h3 w)
  have eMX : mxI (upI c.c c.p) c.p = upI c.c c.p := by unfold mxI; rw [if_pos hw]
  rw [eMX] at eE7
  have k3a := gL c.c (by omega) (by omega)
  have k3b := gL (2 * (c.b * c.p) + 1) (by omega) (by omega)
  have k4a := gL c.m (by omega) (by omega)
  have k4b := gP (lV c.m + c.m * rbI c) (by omega) (by omega)
  have kU := gU c.c c.p (by omega) (by omega) (by omega) (by omega)
  have k8a := gL (2 * c.c + 1) (by omega) (by omega)
  have k8b := gL c.c (by omega) (by omega)
  have k8c := gL (2 * (c.b * c.p) + 3) (by omega) (by omega)
  have k9a := gL (omI c) (by omega) (by omega)
  have k9b := gP (lV (omI c) + omI c * obI c) (by omega) (by omega)
  have k11 := gU (spI c + lpI c) c.p (by omega) (by omega) (by omega) (by omega)
  have k12 := gU (spI c) c.p (by omega) (by omega) (by omega) (by omega)
  have k13 := gU c.c c.w (by omega) (by omega) (by omega) (by omega)
  rw [← eE4] at k4b
  rw [← eE9] at k9b
  rw [← eE11] at k11
  rw [← eE13] at k13
  have q3a := wrapI (x := 2 * lV c.c) (by omega) (by omega)
  have q3b := wrapI (x := 2 * (c.b * c.p)) (by omega) (by omega)
  have q3c := wrapI (x := 2 * (c.b * c.p) + 1) (by omega) (by omega)
  have q3d : IntKind.i64.wrap (2 * lV c.c + lV (2 * (c.b * c.p) + 1)) = rbI c := by rw [← eE3]; exact wrapI (by omega) (by omega)
  have q2 := wrapI (x := c.b * c.p) (by omega) (by omega)
  have q4a := wrapI (x := c.m * rbI c) (by omega) (by omega)
  have q4b := wrapI (x := lV c.m + c.m * rbI c) (by omega) (by omega)
  have q5a := wrapI (x := 4 + c.s) (by omega) (by omega)
  have q5b : IntKind.i64.wrap (4 + c.s + c.p) = 4 + c.s + c.p := wrapI (by omega) (by omega)
  have q7 : IntKind.i64.wrap (4 + c.s + upI c.c c.p) = omI c := by rw [← eE7]; exact wrapI (by omega) (by omega)
  have q8a := wrapI (x := 2 * c.c) (by omega) (by omega)
  have q8b := wrapI (x := 2 * c.c + 1) (by omega) (by omega)
  have q8c := wrapI (x := lV (2 * c.c + 1) + lV c.c) (by omega) (by omega)
  have q8d := wrapI (x := 2 * (c.b * c.p) + 3) (by omega) (by omega)
  have q8e : IntKind.i64.wrap (lV (2 * c.c + 1) + lV c.c + lV (2 * (c.b * c.p) + 3)) = obI c := by rw [← eE8]; exact wrapI (by omega) (by omega)
  have q9a := wrapI (x := omI c * obI c) (by omega) (by omega)
  have q9b := wrapI (x := lV (omI c) + omI c * obI c) (by omega) (by omega)
  have q10a := wrapI (x := 2 * rpI c) (by omega) (by omega)
  have q10b := wrapI (x := 2 * rpI c + c.p) (by omega) (by omega)
  have q10c : IntKind.i64.wrap (2 * rpI c + c.p + spI c) = lpI c := by rw [← eE10]; exact wrapI (by omega) (by omega)
  have q11 := wrapI (x := spI c + lpI c) (by omega) (by omega)
  have q12a := wrapI (x := ebI c + upI (spI c) c.p) (by omega) (by omega)
  have q12b : IntKind.i64.wrap (ebI c + upI (spI c) c.p + 3) = mbI c := by rw [← eE12]; exact wrapI (by omega) (by omega)
  have q14a := wrapI (x := upI c.c c.p + 8) (by omega) (by omega)
  have q14b := wrapI (x := 4 * c.s) (by omega) (by omega)
  have q14c : IntKind.i64.wrap (upI c.c c.p + 8 + 4 * c.s) = slI c := by rw [← eE14]; exact wrapI (by omega) (by omega)
  have q15a := wrapI (x := 2 * c.p) (by omega) (by omega)
  have q15b := wrapI (x := ebI c + 2) (by omega) (by omega)
  have q15c := wrapI (x := ebI c + 2 + c.s) (by omega) (by omega)
  have q15d := wrapI (x := 2 * c.p * (ebI c + 2 + c.s)) (by omega) (by omega)
  have q15e : IntKind.i64.wrap (c.b + 2 * c.p * (ebI c + 2 + c.s)) = mrI c := by rw [← eE15]; exact wrapI (by omega) (by omega)
  clear gL gP gU eE3 eE4 eE7 eE8 eE9 eE10 eE11 eE12 eE13 eE14 eE15 eMX hrb hob hmr hsp hom hoo hrp hlp heb hus hmb hwn hsl hpe l1 l2 l3 l4 l5 l6 hup
  clear b1 b2 p1 p2 s1 s2 c1 c2 w1 w2 w3 m1 m2 hbp
  obtain ⟨BP, hBP⟩ : ∃ x, x = c.b * c.p := ⟨_, rfl⟩
  obtain ⟨MR, hMR⟩ : ∃ x, x = c.m * rbI c := ⟨_, rfl⟩
  obtain ⟨OO, hOO⟩ : ∃ x, x = omI c * obI c := ⟨_, rfl⟩
  obtain ⟨PE, hPE⟩ : ∃ x, x = 2 * c.p * (ebI c + 2 + c.s) := ⟨_, rfl⟩
  rw [← hBP] at k3b k8c q3b q3c q3d q8d q8e
  rw [← hMR] at k4b q4b
  rw [← hOO] at k9b q9b
  rw [← hPE] at q15e
  replace q2 : IntKind.i64.wrap (c.b * c.p) = BP := by rw [hBP]; exact q2
  replace q4a : IntKind.i64.wrap (c.m * rbI c) = MR := by rw [hMR]; exact q4a
  replace q9a : IntKind.i64.wrap (omI c * obI c) = OO := by rw [hOO]; exact q9a
  replace q15d : IntKind.i64.wrap (2 * c.p * (ebI c + 2 + c.s)) = PE := by rw [hPE]; exact q15d
  clear hBP hMR hOO hPE
  generalize upI c.c c.p = U at *
  generalize upI (spI c) c.p = US at *
  have O0 : Ob w (((w.alloc (.cells #[.int .i64 c.b, .int .i64 c.p, .int .i64 c.c, .int .i64 c.s, .int .i64 c.m, .int .i64 c.w, .bool c.f] 29)).alloc (.cells #[.int .i64 0, .int .i64 0, .int .i64 0, .int .i64 0, .int .i64 0, .int .i64 0, .int .i64 0, .int .i64 0, .int .i64 0, .int .i64 0, .int .i64 0] 35)).alloc (.cells #[.int .i64 0, .int .i64 0, .int .i64 0, .int .i64 0, .int .i64 0, .int .i64 0, .int .i64 0, .int .i64 0, .int .i64 0, .int .i64 0, .int .i64 0] 35)) w.heap.size (w.heap.size + 2) (w.heap.size + 1) c [0, 0, 0, 0, 0, 0, 0, 0, 0, 0, 0] := by
    have B1 : Blk (w.alloc (.cells #[.int .i64 c.b, .int .i64 c.p, .int .i64 c.c, .int .i64 c.s, .int .i64 c.m, .int .i64 c.w, .bool c.f] 29)) w.heap.size 7 (ccell c) := blk_alloc w _ 29 7 _ (fun i hi => by
      have : i = 0 ∨ i = 1 ∨ i = 2 ∨ i = 3 ∨ i = 4 ∨ i = 5 ∨ i = 6 := by omega
      rcases this with rfl | rfl | rfl | rfl | rfl | rfl | rfl <;> rfl)
    have B2 : Blk ((w.alloc (.cells #[.int .i64 c.b, .int .i64 c.p, .int .i64 c.c, .int .i64 c.s, .int .i64 c.m, .int .i64 c.w, .bool c.f] 29)).alloc (.cells #[.int .i64 0, .int .i64 0, .int .i64 0, .int .i64 0, .int .i64 0, .int .i64 0, .int .i64 0, .int .i64 0, .int .i64 0, .int .i64 0, .int .i64 0] 35)) (w.heap.size + 1) 11 (fun _ => .int .i64 0) := by
      have := blk_alloc (w.alloc (.cells #[.int .i64 c.b, .int .i64 c.p, .int .i64 c.c, .int .i64 c.s, .int .i64 c.m, .int .i64 c.w, .bool c.f] 29)) #[.int .i64 0, .int .i64 0, .int .i64 0, .int .i64 0, .int .i64 0, .int .i64 0, .int .i64 0, .int .i64 0, .int .i64 0, .int .i64 0, .int .i64 0] 35 11 (fun _ => .int .i64 0) (fun i hi => by
        have : i = 0 ∨ i = 1 ∨ i = 2 ∨ i = 3 ∨ i = 4 ∨ i = 5 ∨ i = 6 ∨ i = 7 ∨ i = 8 ∨ i = 9 ∨ i = 10 := by omega
        rcases this with rfl | rfl | rfl | rfl | rfl | rfl | rfl | rfl | rfl | rfl | rfl <;> rfl)
      rwa [World.size_alloc] at this
    have B3 : Blk (((w.alloc (.cells #[.int .i64 c.b, .int .i64 c.p, .int .i64 c.c, .int .i64 c.s, .int .i64 c.m, .int .i64 c.w, .bool c.f] 29)).alloc (.cells #[.int .i64 0, .int .i64 0, .int .i64 0, .int .i64 0, .int .i64 0, .int .i64 0, .int .i64 0, .int .i64 0, .int .i64 0, .int .i64 0, .int .i64 0] 35)).alloc (.cells #[.int .i64 0, .int .i64 0, .int .i64 0, .int .i64 0, .int .i64 0, .int .i64 0, .int .i64 0, .int .i64 0, .int .i64 0, .int .i64 0, .int .i64 0] 35)) (w.heap.size + 2) 11 (scell [0, 0, 0, 0, 0, 0, 0, 0, 0, 0, 0]) := by
      have := blk_alloc ((w.alloc (.cells #[.int .i64 c.b, .int .i64 c.p, .int .i64 c.c, .int .i64 c.s, .int .i64 c.m, .int .i64 c.w, .bool c.f] 29)).alloc (.cells #[.int .i64 0, .int .i64 0, .int .i64 0, .int .i64 0, .int .i64 0, .int .i64 0, .int .i64 0, .int .i64 0, .int .i64 0, .int .i64 0, .int .i64 0] 35)) #[.int .i64 0, .int .i64 0, .int .i64 0, .int .i64 0, .int .i64 0, .int .i64 0, .int .i64 0, .int .i64 0, .int .i64 0, .int .i64 0, .int .i64 0] 35 11 (scell [0, 0, 0, 0, 0, 0, 0, 0, 0, 0, 0]) (fun i hi => by
        have : i = 0 ∨ i = 1 ∨ i = 2 ∨ i = 3 ∨ i = 4 ∨ i = 5 ∨ i = 6 ∨ i = 7 ∨ i = 8 ∨ i = 9 ∨ i = 10 := by omega
        rcases this with rfl | rfl | rfl | rfl | rfl | rfl | rfl | rfl | rfl | rfl | rfl <;> rfl)
      rwa [World.size_alloc, World.size_alloc] at this
    exact ⟨(B1.alloc _).alloc _, B3, B2.alloc _, ⟨by omega, by omega⟩, ⟨by omega, by omega⟩, (((Keep.refl _ _).alloc _).alloc _).alloc _⟩
  go_enter Try.func15, Try.ntmps15
  go_upto_region 2 with fail
  generalize (((w.alloc (.cells #[.int .i64 c.b, .int .i64 c.p, .int .i64 c.c, .int .i64 c.s, .int .i64 c.m, .int .i64 c.w, .bool c.f] 29)).alloc (.cells #[.int .i64 0, .int .i64 0, .int .i64 0, .int .i64 0, .int .i64 0, .int .i64 0, .int .i64 0, .int .i64 0, .int .i64 0, .int .i64 0, .int .i64 0] 35)).alloc (.cells #[.int .i64 0, .int .i64 0, .int .i64 0, .int .i64 0, .int .i64 0, .int .i64 0, .int .i64 0, .int .i64 0, .int .i64 0, .int .i64 0, .int .i64 0] 35)) = v0 at O0 ⊢
  generalize hg : w.heap.size = g at O0 ⊢
  generalize hh : g + 2 = h at O0 ⊢
  generalize hq : g + 1 = q at O0 ⊢
  clear hg hh hq
  have cc0 : v0.cell? ⟨g, 0, none⟩ = some (.int .i64 c.b) := (O0.cf 0 (by omega)).1
  have cc1 : v0.cell? ⟨g, 1, none⟩ = some (.int .i64 c.p) := (O0.cf 1 (by omega)).1
  go_upto_region 3 with fail
  clear cc0 cc1 q2
  have cc2 : v0.cell? ⟨g, 2, none⟩ = some (.int .i64 c.c) := (O0.cf 2 (by omega)).1
  go_upto_region 4 with fail
  refine (k3a _).mono ?_
  rintro e y3_0 ⟨rfl, k3_0⟩
  have O3_0 := O0.more k3_0
  clear cc2
  go_upto_region 4 with fail
  refine (k3b _).mono ?_
  rintro e y3_1 ⟨rfl, k3_1⟩
  have O3_1 := O3_0.more k3_1
  have cs0 : y3_1.cell? ⟨h, 0, none⟩ = some (.int .i64 (0)) := (O3_1.sz 0 (by omega)).1
  have cz : y3_1.frozen? ⟨h, 0, none⟩ = false := (O3_1.sz 0 (by omega)).2
  go_upto_region 4 with fail
  clear cs0 cz
  have O1 : Ob w (y3_1.setCell ⟨h, 0, none⟩ (.int .i64 (rbI c))) g h q c [rbI c, 0, 0, 0, 0, 0, 0, 0, 0, 0, 0] := O3_1.set 0 _ (by show 0 < 11; omega)
  generalize y3_1.setCell ⟨h, 0, none⟩ (.int .i64 (rbI c)) = v1 at O1 ⊢
  clear k3a k3b q3a q3c q3d
  go_upto_region 4 with fail
  have D4 := O1.more ((Keep.refl (fun _ => False) v1).drew)
  refine wp_region_noPanic ?_
  refine wp_region_held_drew (S := fun w' => True ∧ w'.cell? ⟨g, 4, none⟩ = some (.int .i64 c.m) ∧ w'.cell? ⟨h, 0, none⟩ = some (.int .i64 (rbI c))) (by kernel_rfl) (⟨trivial, (D4.cf 4 (by omega)).1, (D4.sz 0 (by omega)).1⟩) (fun hH0 => ?_)
  refine' wpAnyH_take (i := 0) (oi := { dst := some 21, op := Op.fieldAddr 29 (Operand.tmp 1) 4, type := 0, pos := "ref.go:33", after := #[], guard := none }) (v := _) rfl (by kernel_rfl) (by kernel_rfl) (by kernel_rfl) (fun _ _ _ h => h) (Or.inl ⟨by rfl, ?hyr40⟩) hH0 ?rr40
  case hyr40 => (intro w' hSw; clear hSw; go_simp; try with_reducible rfl)
  simp only [Act.put, List.setIfInBounds_toArray, List.set_cons_zero, List.set_cons_succ]
  refine' wpAnyH_take (i := 1) (oi := { dst := some 22, op := Op.load 3 (Operand.tmp 21), type := 3, pos := "ref.go:33", after := #[{ on := 0, ground := Ground.data }], guard := none }) (v := _) rfl (by kernel_rfl) (by kernel_rfl) (by kernel_rfl) (fun _ _ _ h => h) (Or.inl ⟨by rfl, ?hyr41⟩) hH0 ?rr41
  case hyr41 => (intro w' hSw; obtain ⟨-, z0, z1⟩ := hSw; go_simp; try with_reducible rfl)
  simp only [Act.put, List.setIfInBounds_toArray, List.set_cons_zero, List.set_cons_succ]
  refine' wpAnyH_take (i := 3) (oi := { dst := some 24, op := Op.fieldAddr 29 (Operand.tmp 1) 4, type := 0, pos := "ref.go:33", after := #[], guard := none }) (v := _) rfl (by kernel_rfl) (by kernel_rfl) (by kernel_rfl) (fun _ _ _ h => h) (Or.inl ⟨by rfl, ?hyr43⟩) hH0 ?rr43
  case hyr43 => (intro w' hSw; clear hSw; go_simp; try with_reducible rfl)
  simp only [Act.put, List.setIfInBounds_toArray, List.set_cons_zero, List.set_cons_succ]
  refine' wpAnyH_take (i := 4) (oi := { dst := some 25, op := Op.load 3 (Operand.tmp 24), type := 3, pos := "ref.go:33", after := #[{ on := 3, ground := Ground.data }], guard := none }) (v := _) rfl (by kernel_rfl) (by kernel_rfl) (by kernel_rfl) (fun _ _ _ h => h) (Or.inl ⟨by rfl, ?hyr44⟩) hH0 ?rr44
  case hyr44 => (intro w' hSw; obtain ⟨-, z0, z1⟩ := hSw; go_simp; try with_reducible rfl)
  simp only [Act.put, List.setIfInBounds_toArray, List.set_cons_zero, List.set_cons_succ]
  refine' wpAnyH_take (i := 5) (oi := { dst := some 26, op := Op.fieldAddr 35 (Operand.tmp 3) 0, type := 0, pos := "ref.go:33", after := #[], guard := none }) (v := _) rfl (by kernel_rfl) (by kernel_rfl) (by kernel_rfl) (fun _ _ _ h => h) (Or.inl ⟨by rfl, ?hyr45⟩) hH0 ?rr45
  case hyr45 => (intro w' hSw; clear hSw; go_simp; try with_reducible rfl)
  simp only [Act.put, List.setIfInBounds_toArray, List.set_cons_zero, List.set_cons_succ]
  refine' wpAnyH_take (i := 6) (oi := { dst := some 27, op := Op.load 3 (Operand.tmp 26), type := 3, pos := "ref.go:33", after := #[{ on := 5, ground := Ground.data }], guard := none }) (v := _) rfl (by kernel_rfl) (by kernel_rfl) (by kernel_rfl) (fun _ _ _ h => h) (Or.inl ⟨by rfl, ?hyr46⟩) hH0 ?rr46
  case hyr46 => (intro w' hSw; obtain ⟨-, z0, z1⟩ := hSw; go_simp; try with_reducible rfl)
  simp only [Act.put, List.setIfInBounds_toArray, List.set_cons_zero, List.set_cons_succ]
  refine' wpAnyH_take (i := 7) (oi := { dst := some 28, op := Op.binOp BinOp.mul 3 (Operand.tmp 25) (Operand.tmp 27) 3, type := 3, pos := "ref.go:33", after := #[{ on := 4, ground := Ground.data }, { on := 6, ground := Ground.data }], guard := none }) (v := _) rfl (by kernel_rfl) (by kernel_rfl) (by kernel_rfl) (fun _ _ _ h => h) (Or.inl ⟨by rfl, ?hyr47⟩) hH0 ?rr47
  case hyr47 => (intro w' hSw; clear hSw; go_simp; try with_reducible rfl)
  simp only [Act.put, List.setIfInBounds_toArray, List.set_cons_zero, List.set_cons_succ]
  refine wpAnyH_ready (rs := [2]) (by kernel_rfl) (by simp) ?_
  refine AllReadyH.cons (o := { dst := some 23, op := Op.call { callee := Callee.value (Operand.func 27), args := #[Operand.tmp 22], argTypes := #[3] }, type := 3, pos := "ref.go:33", after := #[{ on := 1, ground := Ground.data }], guard := none }) rfl (fun K hK => ?_) AllReadyH.nil
  refine step_call_want (vs := #[.int .i64 (c.m)]) (R := fun u wz => u = .int .i64 (lV c.m) ∧ Keep (fun _ => False) v1.drew wz) (by rfl) 27 #[Operand.tmp 22] #[3] rfl (by simp [Act.eval]) call25 (post_of (k4a _)) ?_
  rintro _ y4_0 ⟨rfl, k4_0⟩
  refine hK.out _ _ (⟨trivial, ((D4.more k4_0).cf 4 (by omega)).1, ((D4.more k4_0).sz 0 (by omega)).1⟩) (fun hH1 => ?_)
  clear hK K hH0
  simp only [Act.put, List.setIfInBounds_toArray, List.set_cons_zero, List.set_cons_succ]
  refine' wpAnyH_take (i := 8) (oi := { dst := some 29, op := Op.binOp BinOp.add 3 (Operand.tmp 23) (Operand.tmp 28) 3, type := 3, pos := "ref.go:33", after := #[{ on := 2, ground := Ground.data }, { on := 7, ground := Ground.data }], guard := none }) (v := _) rfl (by kernel_rfl) (by kernel_rfl) (by kernel_rfl) (fun _ _ _ h => h) (Or.inl ⟨by rfl, ?hyr48⟩) hH1 ?rr48
  case hyr48 => (intro w' hSw; clear hSw; go_simp; try with_reducible rfl)
  simp only [Act.put, List.setIfInBounds_toArray, List.set_cons_zero, List.set_cons_succ]
  refine wpAnyH_ready (rs := [9]) (by kernel_rfl) (by simp) ?_
  refine AllReadyH.cons (o := { dst := some 30, op := Op.call { callee := Callee.value (Operand.func 28), args := #[Operand.tmp 29], argTypes := #[3] }, type := 3, pos := "ref.go:33", after := #[{ on := 8, ground := Ground.data }, { on := 2, ground := Ground.chain }], guard := none }) rfl (fun K hK => ?_) AllReadyH.nil
  refine step_call_want (vs := #[.int .i64 (lV c.m + MR)]) (R := fun u wz => u = .int .i64 (spI c) ∧ Keep (fun _ => False) y4_0 wz) (by rfl) 28 #[Operand.tmp 29] #[3] rfl (by simp [Act.eval]) call26 (post_of (k4b _)) ?_
  rintro _ y4_1 ⟨rfl, k4_1⟩
  refine hK.out _ _ (⟨trivial, (((D4.more k4_0).more k4_1).cf 4 (by omega)).1, (((D4.more k4_0).more k4_1).sz 0 (by omega)).1⟩) (fun hH2 => ?_)
  clear hK K hH1
  simp only [Act.put, List.setIfInBounds_toArray, List.set_cons_zero, List.set_cons_succ]
  refine' wpAnyH_take (i := 10) (oi := { dst := some 31, op := Op.fieldAddr 35 (Operand.tmp 3) 1, type := 0, pos := "ref.go:33", after := #[{ on := 0, ground := Ground.phase }, { on := 1, ground := Ground.phase }, { on := 2, ground := Ground.phase }, { on := 3, ground := Ground.phase }, { on := 4, ground := Ground.phase }, { on := 5, ground := Ground.phase }, { on := 6, ground := Ground.phase }, { on := 7, ground := Ground.phase }, { on := 8, ground := Ground.phase }, { on := 9, ground := Ground.phase }], guard := none }) (v := _) rfl (by kernel_rfl) (by kernel_rfl) (by kernel_rfl) (fun _ _ _ h => h) (Or.inl ⟨by rfl, ?hyr410⟩) hH2 ?rr410
  case hyr410 => (intro w' hSw; clear hSw; go_simp; try with_reducible rfl)
  simp only [Act.put, List.setIfInBounds_toArray, List.set_cons_zero, List.set_cons_succ]
  refine wpAnyH_ready (rs := [11]) (by kernel_rfl) (by simp) ?_
  refine AllReadyH.cons (o := { dst := none, op := Op.store 3 (Operand.tmp 31) (Operand.tmp 30), type := 0, pos := "ref.go:33", after := #[{ on := 10, ground := Ground.data }, { on := 9, ground := Ground.data }, { on := 9, ground := Ground.chain }, { on := 0, ground := Ground.phase }, { on := 1, ground := Ground.phase }, { on := 2, ground := Ground.phase }, { on := 3, ground := Ground.phase }, { on := 4, ground := Ground.phase }, { on := 5, ground := Ground.phase }, { on := 6, ground := Ground.phase }, { on := 7, ground := Ground.phase }, { on := 8, ground := Ground.phase }, { on := 9, ground := Ground.phase }], guard := none }) rfl (fun K hK => ?_) AllReadyH.nil
  refine step_store_run (by rfl) 3 (.tmp 31) (.tmp 30) rfl (by rfl) (by rfl) (store3 (((D4.more k4_0).more k4_1).sz 1 (by omega)).1 (((D4.more k4_0).more k4_1).sz 1 (by omega)).2) ?_
  refine hK.out _ _ (⟨trivial, ((show Ob w (y4_1.setCell ⟨h, 1, none⟩ (.int .i64 (spI c))) g h q c [rbI c, spI c, 0, 0, 0, 0, 0, 0, 0, 0, 0] from ((D4.more k4_0).more k4_1).set 1 _ (by show 1 < 11; omega)).cf 4 (by omega)).1, ((show Ob w (y4_1.setCell ⟨h, 1, none⟩ (.int .i64 (spI c))) g h q c [rbI c, spI c, 0, 0, 0, 0, 0, 0, 0, 0, 0] from ((D4.more k4_0).more k4_1).set 1 _ (by show 1 < 11; omega)).sz 0 (by omega)).1⟩) (fun hH3 => ?_)
  clear hK K hH2
  simp only [Act.put]
  refine wpAnyH_done (by kernel_rfl) ?_ _
  refine NoPanic.normal ?_
  have O2_ := ((D4.more k4_0).more k4_1)
  have O3 : Ob w (y4_1.setCell ⟨h, 1, none⟩ (.int .i64 (spI c))) g h q c [rbI c, spI c, 0, 0, 0, 0, 0, 0, 0, 0, 0] := O2_.set 1 _ (by show 1 < 11; omega)
  generalize y4_1.setCell ⟨h, 1, none⟩ (.int .i64 (spI c)) = v3 at O3 ⊢
  clear k4a k4b q4a q4b
  have cc1 : v3.cell? ⟨g, 1, none⟩ = some (.int .i64 c.p) := (O3.cf 1 (by omega)).1
  have cc3 : v3.cell? ⟨g, 3, none⟩ = some (.int .i64 c.s) := (O3.cf 3 (by omega)).1
  have cs2 : v3.cell? ⟨h, 2, none⟩ = some (.int .i64 (0)) := (O3.sz 2 (by omega)).1
  have cz : v3.frozen? ⟨h, 2, none⟩ = false := (O3.sz 2 (by omega)).2
  go_upto_region 6 with fail
  clear cc1 cc3 cs2 cz
  have O4 : Ob w (v3.setCell ⟨h, 2, none⟩ (.int .i64 (4 + c.s + c.p))) g h q c [rbI c, spI c, 4 + c.s + c.p, 0, 0, 0, 0, 0, 0, 0, 0] := O3.set 2 _ (by show 2 < 11; omega)
  generalize v3.setCell ⟨h, 2, none⟩ (.int .i64 (4 + c.s + c.p)) = v4 at O4 ⊢
  go_upto_region 6 with fail
  have D6 := O4.more ((Keep.refl (fun _ => False) v4).drew)
  refine wp_region_noPanic ?_
  refine wp_region_held_drew (S := fun w' => True ∧ w'.cell? ⟨g, 1, none⟩ = some (.int .i64 c.p) ∧ w'.cell? ⟨g, 2, none⟩ = some (.int .i64 c.c)) (by kernel_rfl) (⟨trivial, (D6.cf 1 (by omega)).1, (D6.cf 2 (by omega)).1⟩) (fun hH0 => ?_)
  refine' wpAnyH_take (i := 0) (oi := { dst := some 39, op := Op.fieldAddr 29 (Operand.tmp 1) 2, type := 0, pos := "ref.go:35", after := #[], guard := none }) (v := _) rfl (by kernel_rfl) (by kernel_rfl) (by kernel_rfl) (fun _ _ _ h => h) (Or.inl ⟨by rfl, ?hyr60⟩) hH0 ?rr60
  case hyr60 => (intro w' hSw; clear hSw; go_simp; try with_reducible rfl)
  simp only [Act.put, List.setIfInBounds_toArray, List.set_cons_zero, List.set_cons_succ]
  refine' wpAnyH_take (i := 1) (oi := { dst := some 40, op := Op.load 3 (Operand.tmp 39), type := 3, pos := "ref.go:35", after := #[{ on := 0, ground := Ground.data }], guard := none }) (v := _) rfl (by kernel_rfl) (by kernel_rfl) (by kernel_rfl) (fun _ _ _ h => h) (Or.inl ⟨by rfl, ?hyr61⟩) hH0 ?rr61
  case hyr61 => (intro w' hSw; obtain ⟨-, z0, z1⟩ := hSw; go_simp; try with_reducible rfl)
  simp only [Act.put, List.setIfInBounds_toArray, List.set_cons_zero, List.set_cons_succ]
  refine' wpAnyH_take (i := 2) (oi := { dst := some 41, op := Op.fieldAddr 29 (Operand.tmp 1) 1, type := 0, pos := "ref.go:35", after := #[], guard := none }) (v := _) rfl (by kernel_rfl) (by kernel_rfl) (by kernel_rfl) (fun _ _ _ h => h) (Or.inl ⟨by rfl, ?hyr62⟩) hH0 ?rr62
  case hyr62 => (intro w' hSw; clear hSw; go_simp; try with_reducible rfl)
  simp only [Act.put, List.setIfInBounds_toArray, List.set_cons_zero, List.set_cons_succ]
  refine' wpAnyH_take (i := 3) (oi := { dst := some 42, op := Op.load 3 (Operand.tmp 41), type := 3, pos := "ref.go:35", after := #[{ on := 2, ground := Ground.data }], guard := none }) (v := _) rfl (by kernel_rfl) (by kernel_rfl) (by kernel_rfl) (fun _ _ _ h => h) (Or.inl ⟨by rfl, ?hyr63⟩) hH0 ?rr63
  case hyr63 => (intro w' hSw; obtain ⟨-, z0, z1⟩ := hSw; go_simp; try with_reducible rfl)
  simp only [Act.put, List.setIfInBounds_toArray, List.set_cons_zero, List.set_cons_succ]
  refine' wpAnyH_take (i := 5) (oi := { dst := some 44, op := Op.fieldAddr 29 (Operand.tmp 1) 1, type := 0, pos := "ref.go:35", after := #[], guard := none }) (v := _) rfl (by kernel_rfl) (by kernel_rfl) (by kernel_rfl) (fun _ _ _ h => h) (Or.inl ⟨by rfl, ?hyr65⟩) hH0 ?rr65
  case hyr65 => (intro w' hSw; clear hSw; go_simp; try with_reducible rfl)
  simp only [Act.put, List.setIfInBounds_toArray, List.set_cons_zero, List.set_cons_succ]
  refine' wpAnyH_take (i := 6) (oi := { dst := some 45, op := Op.load 3 (Operand.tmp 44), type := 3, pos := "ref.go:35", after := #[{ on := 5, ground := Ground.data }], guard := none }) (v := _) rfl (by kernel_rfl) (by kernel_rfl) (by kernel_rfl) (fun _ _ _ h => h) (Or.inl ⟨by rfl, ?hyr66⟩) hH0 ?rr66
  case hyr66 => (intro w' hSw; obtain ⟨-, z0, z1⟩ := hSw; go_simp; try with_reducible rfl)
  simp only [Act.put, List.setIfInBounds_toArray, List.set_cons_zero, List.set_cons_succ]
  refine wpAnyH_ready (rs := [4]) (by kernel_rfl) (by simp) ?_
  refine AllReadyH.cons (o := { dst := some 43, op := Op.call { callee := Callee.value (Operand.func 29), args := #[Operand.tmp 40, Operand.tmp 42], argTypes := #[3, 3] }, type := 3, pos := "ref.go:35", after := #[{ on := 1, ground := Ground.data }, { on := 3, ground := Ground.data }], guard := none }) rfl (fun K hK => ?_) AllReadyH.nil
  refine step_call_want (vs := #[.int .i64 (c.c), .int .i64 (c.p)]) (R := fun u wz => u = .int .i64 (U) ∧ Keep (fun _ => False) v4.drew wz) (by rfl) 29 #[Operand.tmp 40, Operand.tmp 42] #[3, 3] rfl (by simp [Act.eval]) call27 (post_of (kU _)) ?_
  rintro _ y6_0 ⟨rfl, k6_0⟩
  refine hK.out _ _ (⟨trivial, ((D6.more k6_0).cf 1 (by omega)).1, ((D6.more k6_0).cf 2 (by omega)).1⟩) (fun hH1 => ?_)
  clear hK K hH0
  simp only [Act.put, List.setIfInBounds_toArray, List.set_cons_zero, List.set_cons_succ]
  refine' wpAnyH_take (i := 7) (oi := { dst := some 46, op := Op.binOp BinOp.gtr 3 (Operand.tmp 43) (Operand.tmp 45) 3, type := 4, pos := "ref.go:35", after := #[{ on := 4, ground := Ground.data }, { on := 6, ground := Ground.data }], guard := none }) (v := _) rfl (by kernel_rfl) (by kernel_rfl) (by kernel_rfl) (fun _ _ _ h => h) (Or.inl ⟨by rfl, ?hyr67⟩) hH1 ?rr67
  case hyr67 => (intro w' hSw; clear hSw; go_simp; try with_reducible rfl)
  simp only [Act.put, List.setIfInBounds_toArray, List.set_cons_zero, List.set_cons_succ]
  refine wpAnyH_done (by kernel_rfl) ?_ _
  refine NoPanic.normal ?_
  have O5_ := (D6.more k6_0)
  clear q5b
  go_upto_region 7 with fail
  have D7 := O5_.more ((Keep.refl (fun _ => False) y6_0).drew)
  refine wp_region_noPanic ?_
  refine wp_region_held_drew (S := fun w' => True ∧ w'.cell? ⟨g, 1, none⟩ = some (.int .i64 c.p) ∧ w'.cell? ⟨g, 2, none⟩ = some (.int .i64 c.c) ∧ w'.cell? ⟨g, 3, none⟩ = some (.int .i64 c.s)) (by kernel_rfl) (⟨trivial, (D7.cf 1 (by omega)).1, (D7.cf 2 (by omega)).1, (D7.cf 3 (by omega)).1⟩) (fun hH0 => ?_)
  refine' wpAnyH_take (i := 0) (oi := { dst := some 47, op := Op.fieldAddr 29 (Operand.tmp 1) 3, type := 0, pos := "ref.go:36", after := #[], guard := none }) (v := _) rfl (by kernel_rfl) (by kernel_rfl) (by kernel_rfl) (fun _ _ _ h => h) (Or.inl ⟨by rfl, ?hyr70⟩) hH0 ?rr70
  case hyr70 => (intro w' hSw; clear hSw; go_simp; try with_reducible rfl)
  simp only [Act.put, List.setIfInBounds_toArray, List.set_cons_zero, List.set_cons_succ]
  refine' wpAnyH_take (i := 1) (oi := { dst := some 48, op := Op.load 3 (Operand.tmp 47), type := 3, pos := "ref.go:36", after := #[{ on := 0, ground := Ground.data }], guard := none }) (v := _) rfl (by kernel_rfl) (by kernel_rfl) (by kernel_rfl) (fun _ _ _ h => h) (Or.inl ⟨by rfl, ?hyr71⟩) hH0 ?rr71
  case hyr71 => (intro w' hSw; obtain ⟨-, z0, z1, z2⟩ := hSw; go_simp; try with_reducible rfl)
  simp only [Act.put, List.setIfInBounds_toArray, List.set_cons_zero, List.set_cons_succ]
  refine' wpAnyH_take (i := 2) (oi := { dst := some 49, op := Op.binOp BinOp.add 3 (Operand.const (Value.int IntKind.i64 4)) (Operand.tmp 48) 3, type := 3, pos := "ref.go:36", after := #[{ on := 1, ground := Ground.data }], guard := none }) (v := _) rfl (by kernel_rfl) (by kernel_rfl) (by kernel_rfl) (fun _ _ _ h => h) (Or.inl ⟨by rfl, ?hyr72⟩) hH0 ?rr72
  case hyr72 => (intro w' hSw; clear hSw; go_simp; try with_reducible rfl)
  simp only [Act.put, List.setIfInBounds_toArray, List.set_cons_zero, List.set_cons_succ]
  refine' wpAnyH_take (i := 3) (oi := { dst := some 50, op := Op.fieldAddr 29 (Operand.tmp 1) 2, type := 0, pos := "ref.go:36", after := #[], guard := none }) (v := _) rfl (by kernel_rfl) (by kernel_rfl) (by kernel_rfl) (fun _ _ _ h => h) (Or.inl ⟨by rfl, ?hyr73⟩) hH0 ?rr73
  case hyr73 => (intro w' hSw; clear hSw; go_simp; try with_reducible rfl)
  simp only [Act.put, List.setIfInBounds_toArray, List.set_cons_zero, List.set_cons_succ]
  refine' wpAnyH_take (i := 4) (oi := { dst := some 51, op := Op.load 3 (Operand.tmp 50), type := 3, pos := "ref.go:36", after := #[{ on := 3, ground := Ground.data }], guard := none }) (v := _) rfl (by kernel_rfl) (by kernel_rfl) (by kernel_rfl) (fun _ _ _ h => h) (Or.inl ⟨by rfl, ?hyr74⟩) hH0 ?rr74
  case hyr74 => (intro w' hSw; obtain ⟨-, z0, z1, z2⟩ := hSw; go_simp; try with_reducible rfl)
  simp only [Act.put, List.setIfInBounds_toArray, List.set_cons_zero, List.set_cons_succ]
  refine' wpAnyH_take (i := 5) (oi := { dst := some 52, op := Op.fieldAddr 29 (Operand.tmp 1) 1, type := 0, pos := "ref.go:36", after := #[], guard := none }) (v := _) rfl (by kernel_rfl) (by kernel_rfl) (by kernel_rfl) (fun _ _ _ h => h) (Or.inl ⟨by rfl, ?hyr75⟩) hH0 ?rr75
  case hyr75 => (intro w' hSw; clear hSw; go_simp; try with_reducible rfl)
  simp only [Act.put, List.setIfInBounds_toArray, List.set_cons_zero, List.set_cons_succ]
  refine' wpAnyH_take (i := 6) (oi := { dst := some 53, op := Op.load 3 (Operand.tmp 52), type := 3, pos := "ref.go:36", after := #[{ on := 5, ground := Ground.data }], guard := none }) (v := _) rfl (by kernel_rfl) (by kernel_rfl) (by kernel_rfl) (fun _ _ _ h => h) (Or.inl ⟨by rfl, ?hyr76⟩) hH0 ?rr76
  case hyr76 => (intro w' hSw; obtain ⟨-, z0, z1, z2⟩ := hSw; go_simp; try with_reducible rfl)
  simp only [Act.put, List.setIfInBounds_toArray, List.set_cons_zero, List.set_cons_succ]
  refine wpAnyH_ready (rs := [7]) (by kernel_rfl) (by simp) ?_
  refine AllReadyH.cons (o := { dst := some 54, op := Op.call { callee := Callee.value (Operand.func 29), args := #[Operand.tmp 51, Operand.tmp 53], argTypes := #[3, 3] }, type := 3, pos := "ref.go:36", after := #[{ on := 4, ground := Ground.data }, { on := 6, ground := Ground.data }], guard := none }) rfl (fun K hK => ?_) AllReadyH.nil
  refine step_call_want (vs := #[.int .i64 (c.c), .int .i64 (c.p)]) (R := fun u wz => u = .int .i64 (U) ∧ Keep (fun _ => False) y6_0.drew wz) (by rfl) 29 #[Operand.tmp 51, Operand.tmp 53] #[3, 3] rfl (by simp [Act.eval]) call27 (post_of (kU _)) ?_
  rintro _ y7_0 ⟨rfl, k7_0⟩
  refine hK.out _ _ (⟨trivial, ((D7.more k7_0).cf 1 (by omega)).1, ((D7.more k7_0).cf 2 (by omega)).1, ((D7.more k7_0).cf 3 (by omega)).1⟩) (fun hH1 => ?_)
  clear hK K hH0
  simp only [Act.put, List.setIfInBounds_toArray, List.set_cons_zero, List.set_cons_succ]
  refine' wpAnyH_take (i := 8) (oi := { dst := some 55, op := Op.binOp BinOp.add 3 (Operand.tmp 49) (Operand.tmp 54) 3, type := 3, pos := "ref.go:36", after := #[{ on := 2, ground := Ground.data }, { on := 7, ground := Ground.data }], guard := none }) (v := _) rfl (by kernel_rfl) (by kernel_rfl) (by kernel_rfl) (fun _ _ _ h => h) (Or.inl ⟨by rfl, ?hyr78⟩) hH1 ?rr78
  case hyr78 => (intro w' hSw; clear hSw; go_simp; try with_reducible rfl)
  simp only [Act.put, List.setIfInBounds_toArray, List.set_cons_zero, List.set_cons_succ]
  refine' wpAnyH_take (i := 9) (oi := { dst := some 56, op := Op.fieldAddr 35 (Operand.tmp 3) 2, type := 0, pos := "ref.go:36", after := #[{ on := 0, ground := Ground.phase }, { on := 1, ground := Ground.phase }, { on := 2, ground := Ground.phase }, { on := 3, ground := Ground.phase }, { on := 4, ground := Ground.phase }, { on := 5, ground := Ground.phase }, { on := 6, ground := Ground.phase }, { on := 7, ground := Ground.phase }, { on := 8, ground := Ground.phase }], guard := none }) (v := _) rfl (by kernel_rfl) (by kernel_rfl) (by kernel_rfl) (fun _ _ _ h => h) (Or.inl ⟨by rfl, ?hyr79⟩) hH1 ?rr79
  case hyr79 => (intro w' hSw; clear hSw; go_simp; try with_reducible rfl)
  simp only [Act.put, List.setIfInBounds_toArray, List.set_cons_zero, List.set_cons_succ]
  refine wpAnyH_ready (rs := [10]) (by kernel_rfl) (by simp) ?_
  refine AllReadyH.cons (o := { dst := none, op := Op.store 3 (Operand.tmp 56) (Operand.tmp 55), type := 0, pos := "ref.go:36", after := #[{ on := 9, ground := Ground.data }, { on := 8, ground := Ground.data }, { on := 7, ground := Ground.chain }, { on := 0, ground := Ground.phase }, { on := 1, ground := Ground.phase }, { on := 2, ground := Ground.phase }, { on := 3, ground := Ground.phase }, { on := 4, ground := Ground.phase }, { on := 5, ground := Ground.phase }, { on := 6, ground := Ground.phase }, { on := 7, ground := Ground.phase }, { on := 8, ground := Ground.phase }], guard := none }) rfl (fun K hK => ?_) AllReadyH.nil
  refine step_store_run (by rfl) 3 (.tmp 56) (.tmp 55) rfl (by rfl) (by rfl) (store3 ((D7.more k7_0).sz 2 (by omega)).1 ((D7.more k7_0).sz 2 (by omega)).2) ?_
  refine hK.out _ _ (⟨trivial, ((show Ob w (y7_0.setCell ⟨h, 2, none⟩ (.int .i64 (omI c))) g h q c [rbI c, spI c, omI c, 0, 0, 0, 0, 0, 0, 0, 0] from (D7.more k7_0).set 2 _ (by show 2 < 11; omega)).cf 1 (by omega)).1, ((show Ob w (y7_0.setCell ⟨h, 2, none⟩ (.int .i64 (omI c))) g h q c [rbI c, spI c, omI c, 0, 0, 0, 0, 0, 0, 0, 0] from (D7.more k7_0).set 2 _ (by show 2 < 11; omega)).cf 2 (by omega)).1, ((show Ob w (y7_0.setCell ⟨h, 2, none⟩ (.int .i64 (omI c))) g h q c [rbI c, spI c, omI c, 0, 0, 0, 0, 0, 0, 0, 0] from (D7.more k7_0).set 2 _ (by show 2 < 11; omega)).cf 3 (by omega)).1⟩) (fun hH2 => ?_)
  clear hK K hH1
  simp only [Act.put]
  refine wpAnyH_done (by kernel_rfl) ?_ _
  refine NoPanic.normal ?_
  have O6_ := (D7.more k7_0)
  have O7 : Ob w (y7_0.setCell ⟨h, 2, none⟩ (.int .i64 (omI c))) g h q c [rbI c, spI c, omI c, 0, 0, 0, 0, 0, 0, 0, 0] := O6_.set 2 _ (by show 2 < 11; omega)
  generalize y7_0.setCell ⟨h, 2, none⟩ (.int .i64 (omI c)) = v7 at O7 ⊢
  clear q5a q7 hw
  go_upto_region 8 with fail
  have D8 := O7.more ((Keep.refl (fun _ => False) v7).drew)
  refine wp_region_noPanic ?_
  refine wp_region_held_drew (S := fun w' => True ∧ w'.cell? ⟨g, 2, none⟩ = some (.int .i64 c.c)) (by kernel_rfl) (⟨trivial, (D8.cf 2 (by omega)).1⟩) (fun hH0 => ?_)
  refine' wpAnyH_take (i := 0) (oi := { dst := some 57, op := Op.fieldAddr 29 (Operand.tmp 1) 2, type := 0, pos := "ref.go:38", after := #[], guard := none }) (v := _) rfl (by kernel_rfl) (by kernel_rfl) (by kernel_rfl) (fun _ _ _ h => h) (Or.inl ⟨by rfl, ?hyr80⟩) hH0 ?rr80
  case hyr80 => (intro w' hSw; clear hSw; go_simp; try with_reducible rfl)
  simp only [Act.put, List.setIfInBounds_toArray, List.set_cons_zero, List.set_cons_succ]
  refine' wpAnyH_take (i := 1) (oi := { dst := some 58, op := Op.load 3 (Operand.tmp 57), type := 3, pos := "ref.go:38", after := #[{ on := 0, ground := Ground.data }], guard := none }) (v := _) rfl (by kernel_rfl) (by kernel_rfl) (by kernel_rfl) (fun _ _ _ h => h) (Or.inl ⟨by rfl, ?hyr81⟩) hH0 ?rr81
  case hyr81 => (intro w' hSw; obtain ⟨-, z0⟩ := hSw; go_simp; try with_reducible rfl)
  simp only [Act.put, List.setIfInBounds_toArray, List.set_cons_zero, List.set_cons_succ]
  refine' wpAnyH_take (i := 2) (oi := { dst := some 59, op := Op.binOp BinOp.mul 3 (Operand.const (Value.int IntKind.i64 2)) (Operand.tmp 58) 3, type := 3, pos := "ref.go:38", after := #[{ on := 1, ground := Ground.data }], guard := none }) (v := _) rfl (by kernel_rfl) (by kernel_rfl) (by kernel_rfl) (fun _ _ _ h => h) (Or.inl ⟨by rfl, ?hyr82⟩) hH0 ?rr82
  case hyr82 => (intro w' hSw; clear hSw; go_simp; try with_reducible rfl)
  simp only [Act.put, List.setIfInBounds_toArray, List.set_cons_zero, List.set_cons_succ]
  refine' wpAnyH_take (i := 3) (oi := { dst := some 60, op := Op.binOp BinOp.add 3 (Operand.tmp 59) (Operand.const (Value.int IntKind.i64 1)) 3, type := 3, pos := "ref.go:38", after := #[{ on := 2, ground := Ground.data }], guard := none }) (v := _) rfl (by kernel_rfl) (by kernel_rfl) (by kernel_rfl) (fun _ _ _ h => h) (Or.inl ⟨by rfl, ?hyr83⟩) hH0 ?rr83
  case hyr83 => (intro w' hSw; clear hSw; go_simp; try with_reducible rfl)
  simp only [Act.put, List.setIfInBounds_toArray, List.set_cons_zero, List.set_cons_succ]
  refine' wpAnyH_take (i := 5) (oi := { dst := some 62, op := Op.fieldAddr 29 (Operand.tmp 1) 2, type := 0, pos := "ref.go:38", after := #[], guard := none }) (v := _) rfl (by kernel_rfl) (by kernel_rfl) (by kernel_rfl) (fun _ _ _ h => h) (Or.inl ⟨by rfl, ?hyr85⟩) hH0 ?rr85
  case hyr85 => (intro w' hSw; clear hSw; go_simp; try with_reducible rfl)
  simp only [Act.put, List.setIfInBounds_toArray, List.set_cons_zero, List.set_cons_succ]
  refine' wpAnyH_take (i := 6) (oi := { dst := some 63, op := Op.load 3 (Operand.tmp 62), type := 3, pos := "ref.go:38", after := #[{ on := 5, ground := Ground.data }], guard := none }) (v := _) rfl (by kernel_rfl) (by kernel_rfl) (by kernel_rfl) (fun _ _ _ h => h) (Or.inl ⟨by rfl, ?hyr86⟩) hH0 ?rr86
  case hyr86 => (intro w' hSw; obtain ⟨-, z0⟩ := hSw; go_simp; try with_reducible rfl)
  simp only [Act.put, List.setIfInBounds_toArray, List.set_cons_zero, List.set_cons_succ]
  refine' wpAnyH_take (i := 9) (oi := { dst := some 66, op := Op.move (Operand.tmp 4), type := 3, pos := "ref.go:38", after := #[], guard := none }) (v := _) rfl (by kernel_rfl) (by kernel_rfl) (by kernel_rfl) (fun _ _ _ h => h) (Or.inl ⟨by rfl, ?hyr89⟩) hH0 ?rr89
  case hyr89 => (intro w' hSw; clear hSw; go_simp; try with_reducible rfl)
  simp only [Act.put, List.setIfInBounds_toArray, List.set_cons_zero, List.set_cons_succ]
  refine' wpAnyH_take (i := 10) (oi := { dst := some 67, op := Op.binOp BinOp.mul 3 (Operand.const (Value.int IntKind.i64 2)) (Operand.tmp 66) 3, type := 3, pos := "ref.go:38", after := #[{ on := 9, ground := Ground.data }], guard := none }) (v := _) rfl (by kernel_rfl) (by kernel_rfl) (by kernel_rfl) (fun _ _ _ h => h) (Or.inl ⟨by rfl, ?hyr810⟩) hH0 ?rr810
  case hyr810 => (intro w' hSw; clear hSw; go_simp; try with_reducible rfl)
  simp only [Act.put, List.setIfInBounds_toArray, List.set_cons_zero, List.set_cons_succ]
  refine' wpAnyH_take (i := 11) (oi := { dst := some 68, op := Op.binOp BinOp.add 3 (Operand.tmp 67) (Operand.const (Value.int IntKind.i64 3)) 3, type := 3, pos := "ref.go:38", after := #[{ on := 10, ground := Ground.data }], guard := none }) (v := _) rfl (by kernel_rfl) (by kernel_rfl) (by kernel_rfl) (fun _ _ _ h => h) (Or.inl ⟨by rfl, ?hyr811⟩) hH0 ?rr811
  case hyr811 => (intro w' hSw; clear hSw; go_simp; try with_reducible rfl)
  simp only [Act.put, List.setIfInBounds_toArray, List.set_cons_zero, List.set_cons_succ]
  refine wpAnyH_ready (rs := [4]) (by kernel_rfl) (by simp) ?_
  refine AllReadyH.cons (o := { dst := some 61, op := Op.call { callee := Callee.value (Operand.func 27), args := #[Operand.tmp 60], argTypes := #[3] }, type := 3, pos := "ref.go:38", after := #[{ on := 3, ground := Ground.data }], guard := none }) rfl (fun K hK => ?_) AllReadyH.nil
  refine step_call_want (vs := #[.int .i64 (2 * c.c + 1)]) (R := fun u wz => u = .int .i64 (lV (2 * c.c + 1)) ∧ Keep (fun _ => False) v7.drew wz) (by rfl) 27 #[Operand.tmp 60] #[3] rfl (by simp [Act.eval]) call25 (post_of (k8a _)) ?_
  rintro _ y8_0 ⟨rfl, k8_0⟩
  refine hK.out _ _ (⟨trivial, ((D8.more k8_0).cf 2 (by omega)).1⟩) (fun hH1 => ?_)
  clear hK K hH0
  simp only [Act.put, List.setIfInBounds_toArray, List.set_cons_zero, List.set_cons_succ]
  refine wpAnyH_ready (rs := [7]) (by kernel_rfl) (by simp) ?_
  refine AllReadyH.cons (o := { dst := some 64, op := Op.call { callee := Callee.value (Operand.func 27), args := #[Operand.tmp 63], argTypes := #[3] }, type := 3, pos := "ref.go:38", after := #[{ on := 6, ground := Ground.data }, { on := 4, ground := Ground.chain }], guard := none }) rfl (fun K hK => ?_) AllReadyH.nil
  refine step_call_want (vs := #[.int .i64 (c.c)]) (R := fun u wz => u = .int .i64 (lV c.c) ∧ Keep (fun _ => False) y8_0 wz) (by rfl) 27 #[Operand.tmp 63] #[3] rfl (by simp [Act.eval]) call25 (post_of (k8b _)) ?_
  rintro _ y8_1 ⟨rfl, k8_1⟩
  refine hK.out _ _ (⟨trivial, (((D8.more k8_0).more k8_1).cf 2 (by omega)).1⟩) (fun hH2 => ?_)
  clear hK K hH1
  simp only [Act.put, List.setIfInBounds_toArray, List.set_cons_zero, List.set_cons_succ]
  refine' wpAnyH_take (i := 8) (oi := { dst := some 65, op := Op.binOp BinOp.add 3 (Operand.tmp 61) (Operand.tmp 64) 3, type := 3, pos := "ref.go:38", after := #[{ on := 4, ground := Ground.data }, { on := 7, ground := Ground.data }], guard := none }) (v := _) rfl (by kernel_rfl) (by kernel_rfl) (by kernel_rfl) (fun _ _ _ h => h) (Or.inl ⟨by rfl, ?hyr88⟩) hH2 ?rr88
  case hyr88 => (intro w' hSw; clear hSw; go_simp; try with_reducible rfl)
  simp only [Act.put, List.setIfInBounds_toArray, List.set_cons_zero, List.set_cons_succ]
  refine wpAnyH_ready (rs := [12]) (by kernel_rfl) (by simp) ?_
  refine AllReadyH.cons (o := { dst := some 69, op := Op.call { callee := Callee.value (Operand.func 27), args := #[Operand.tmp 68], argTypes := #[3] }, type := 3, pos := "ref.go:38", after := #[{ on := 11, ground := Ground.data }, { on := 7, ground := Ground.chain }], guard := none }) rfl (fun K hK => ?_) AllReadyH.nil
  refine step_call_want (vs := #[.int .i64 (2 * BP + 3)]) (R := fun u wz => u = .int .i64 (lV (2 * BP + 3)) ∧ Keep (fun _ => False) y8_1 wz) (by rfl) 27 #[Operand.tmp 68] #[3] rfl (by simp [Act.eval]) call25 (post_of (k8c _)) ?_
  rintro _ y8_2 ⟨rfl, k8_2⟩
  refine hK.out _ _ (⟨trivial, ((((D8.more k8_0).more k8_1).more k8_2).cf 2 (by omega)).1⟩) (fun hH3 => ?_)
  clear hK K hH2
  simp only [Act.put, List.setIfInBounds_toArray, List.set_cons_zero, List.set_cons_succ]
  refine' wpAnyH_take (i := 13) (oi := { dst := some 70, op := Op.binOp BinOp.add 3 (Operand.tmp 65) (Operand.tmp 69) 3, type := 3, pos := "ref.go:38", after := #[{ on := 8, ground := Ground.data }, { on := 12, ground := Ground.data }], guard := none }) (v := _) rfl (by kernel_rfl) (by kernel_rfl) (by kernel_rfl) (fun _ _ _ h => h) (Or.inl ⟨by rfl, ?hyr813⟩) hH3 ?rr813
  case hyr813 => (intro w' hSw; clear hSw; go_simp; try with_reducible rfl)
  simp only [Act.put, List.setIfInBounds_toArray, List.set_cons_zero, List.set_cons_succ]
  refine' wpAnyH_take (i := 14) (oi := { dst := some 71, op := Op.fieldAddr 35 (Operand.tmp 3) 3, type := 0, pos := "ref.go:38", after := #[{ on := 0, ground := Ground.phase }, { on := 1, ground := Ground.phase }, { on := 2, ground := Ground.phase }, { on := 3, ground := Ground.phase }, { on := 4, ground := Ground.phase }, { on := 5, ground := Ground.phase }, { on := 6, ground := Ground.phase }, { on := 7, ground := Ground.phase }, { on := 8, ground := Ground.phase }, { on := 9, ground := Ground.phase }, { on := 10, ground := Ground.phase }, { on := 11, ground := Ground.phase }, { on := 12, ground := Ground.phase }, { on := 13, ground := Ground.phase }], guard := none }) (v := _) rfl (by kernel_rfl) (by kernel_rfl) (by kernel_rfl) (fun _ _ _ h => h) (Or.inl ⟨by rfl, ?hyr814⟩) hH3 ?rr814
  case hyr814 => (intro w' hSw; clear hSw; go_simp; try with_reducible rfl)
  simp only [Act.put, List.setIfInBounds_toArray, List.set_cons_zero, List.set_cons_succ]
  refine wpAnyH_ready (rs := [15]) (by kernel_rfl) (by simp) ?_
  refine AllReadyH.cons (o := { dst := none, op := Op.store 3 (Operand.tmp 71) (Operand.tmp 70), type := 0, pos := "ref.go:38", after := #[{ on := 14, ground := Ground.data }, { on := 13, ground := Ground.data }, { on := 12, ground := Ground.chain }, { on := 0, ground := Ground.phase }, { on := 1, ground := Ground.phase }, { on := 2, ground := Ground.phase }, { on := 3, ground := Ground.phase }, { on := 4, ground := Ground.phase }, { on := 5, ground := Ground.phase }, { on := 6, ground := Ground.phase }, { on := 7, ground := Ground.phase }, { on := 8, ground := Ground.phase }, { on := 9, ground := Ground.phase }, { on := 10, ground := Ground.phase }, { on := 11, ground := Ground.phase }, { on := 12, ground := Ground.phase }, { on := 13, ground := Ground.phase }], guard := none }) rfl (fun K hK => ?_) AllReadyH.nil
  refine step_store_run (by rfl) 3 (.tmp 71) (.tmp 70) rfl (by rfl) (by rfl) (store3 ((((D8.more k8_0).more k8_1).more k8_2).sz 3 (by omega)).1 ((((D8.more k8_0).more k8_1).more k8_2).sz 3 (by omega)).2) ?_
  refine hK.out _ _ (⟨trivial, ((show Ob w (y8_2.setCell ⟨h, 3, none⟩ (.int .i64 (obI c))) g h q c [rbI c, spI c, omI c, obI c, 0, 0, 0, 0, 0, 0, 0] from (((D8.more k8_0).more k8_1).more k8_2).set 3 _ (by show 3 < 11; omega)).cf 2 (by omega)).1⟩) (fun hH4 => ?_)
  clear hK K hH3
  simp only [Act.put]
  refine wpAnyH_done (by kernel_rfl) ?_ _
  refine NoPanic.normal ?_
  have O8_ := (((D8.more k8_0).more k8_1).more k8_2)
  have O9 : Ob w (y8_2.setCell ⟨h, 3, none⟩ (.int .i64 (obI c))) g h q c [rbI c, spI c, omI c, obI c, 0, 0, 0, 0, 0, 0, 0] := O8_.set 3 _ (by show 3 < 11; omega)
  generalize y8_2.setCell ⟨h, 3, none⟩ (.int .i64 (obI c)) = v9 at O9 ⊢
  clear k8a k8b k8c q8a q8b q8c q8d q8e q3b
  go_upto_region 9 with fail
  have D9 := O9.more ((Keep.refl (fun _ => False) v9).drew)
  refine wp_region_noPanic ?_
  refine wp_region_held_drew (S := fun w' => True ∧ w'.cell? ⟨h, 2, none⟩ = some (.int .i64 (omI c)) ∧ w'.cell? ⟨h, 3, none⟩ = some (.int .i64 (obI c))) (by kernel_rfl) (⟨trivial, (D9.sz 2 (by omega)).1, (D9.sz 3 (by omega)).1⟩) (fun hH0 => ?_)
  refine' wpAnyH_take (i := 0) (oi := { dst := some 72, op := Op.fieldAddr 35 (Operand.tmp 3) 2, type := 0, pos := "ref.go:39", after := #[], guard := none }) (v := _) rfl (by kernel_rfl) (by kernel_rfl) (by kernel_rfl) (fun _ _ _ h => h) (Or.inl ⟨by rfl, ?hyr90⟩) hH0 ?rr90
  case hyr90 => (intro w' hSw; clear hSw; go_simp; try with_reducible rfl)
  simp only [Act.put, List.setIfInBounds_toArray, List.set_cons_zero, List.set_cons_succ]
  refine' wpAnyH_take (i := 1) (oi := { dst := some 73, op := Op.load 3 (Operand.tmp 72), type := 3, pos := "ref.go:39", after := #[{ on := 0, ground := Ground.data }], guard := none }) (v := _) rfl (by kernel_rfl) (by kernel_rfl) (by kernel_rfl) (fun _ _ _ h => h) (Or.inl ⟨by rfl, ?hyr91⟩) hH0 ?rr91
  case hyr91 => (intro w' hSw; obtain ⟨-, z0, z1⟩ := hSw; go_simp; try with_reducible rfl)
  simp only [Act.put, List.setIfInBounds_toArray, List.set_cons_zero, List.set_cons_succ]
  refine' wpAnyH_take (i := 3) (oi := { dst := some 75, op := Op.fieldAddr 35 (Operand.tmp 3) 2, type := 0, pos := "ref.go:39", after := #[], guard := none }) (v := _) rfl (by kernel_rfl) (by kernel_rfl) (by kernel_rfl) (fun _ _ _ h => h) (Or.inl ⟨by rfl, ?hyr93⟩) hH0 ?rr93
  case hyr93 => (intro w' hSw; clear hSw; go_simp; try with_reducible rfl)
  simp only [Act.put, List.setIfInBounds_toArray, List.set_cons_zero, List.set_cons_succ]
  refine' wpAnyH_take (i := 4) (oi := { dst := some 76, op := Op.load 3 (Operand.tmp 75), type := 3, pos := "ref.go:39", after := #[{ on := 3, ground := Ground.data }], guard := none }) (v := _) rfl (by kernel_rfl) (by kernel_rfl) (by kernel_rfl) (fun _ _ _ h => h) (Or.inl ⟨by rfl, ?hyr94⟩) hH0 ?rr94
  case hyr94 => (intro w' hSw; obtain ⟨-, z0, z1⟩ := hSw; go_simp; try with_reducible rfl)
  simp only [Act.put, List.setIfInBounds_toArray, List.set_cons_zero, List.set_cons_succ]
  refine' wpAnyH_take (i := 5) (oi := { dst := some 77, op := Op.fieldAddr 35 (Operand.tmp 3) 3, type := 0, pos := "ref.go:39", after := #[], guard := none }) (v := _) rfl (by kernel_rfl) (by kernel_rfl) (by kernel_rfl) (fun _ _ _ h => h) (Or.inl ⟨by rfl, ?hyr95⟩) hH0 ?rr95
  case hyr95 => (intro w' hSw; clear hSw; go_simp; try with_reducible rfl)
  simp only [Act.put, List.setIfInBounds_toArray, List.set_cons_zero, List.set_cons_succ]
  refine' wpAnyH_take (i := 6) (oi := { dst := some 78, op := Op.load 3 (Operand.tmp 77), type := 3, pos := "ref.go:39", after := #[{ on := 5, ground := Ground.data }], guard := none }) (v := _) rfl (by kernel_rfl) (by kernel_rfl) (by kernel_rfl) (fun _ _ _ h => h) (Or.inl ⟨by rfl, ?hyr96⟩) hH0 ?rr96
  case hyr96 => (intro w' hSw; obtain ⟨-, z0, z1⟩ := hSw; go_simp; try with_reducible rfl)
  simp only [Act.put, List.setIfInBounds_toArray, List.set_cons_zero, List.set_cons_succ]
  refine' wpAnyH_take (i := 7) (oi := { dst := some 79, op := Op.binOp BinOp.mul 3 (Operand.tmp 76) (Operand.tmp 78) 3, type := 3, pos := "ref.go:39", after := #[{ on := 4, ground := Ground.data }, { on := 6, ground := Ground.data }], guard := none }) (v := _) rfl (by kernel_rfl) (by kernel_rfl) (by kernel_rfl) (fun _ _ _ h => h) (Or.inl ⟨by rfl, ?hyr97⟩) hH0 ?rr97
  case hyr97 => (intro w' hSw; clear hSw; go_simp; try with_reducible rfl)
  simp only [Act.put, List.setIfInBounds_toArray, List.set_cons_zero, List.set_cons_succ]
  refine wpAnyH_ready (rs := [2]) (by kernel_rfl) (by simp) ?_
  refine AllReadyH.cons (o := { dst := some 74, op := Op.call { callee := Callee.value (Operand.func 27), args := #[Operand.tmp 73], argTypes := #[3] }, type := 3, pos := "ref.go:39", after := #[{ on := 1, ground := Ground.data }], guard := none }) rfl (fun K hK => ?_) AllReadyH.nil
  refine step_call_want (vs := #[.int .i64 (omI c)]) (R := fun u wz => u = .int .i64 (lV (omI c)) ∧ Keep (fun _ => False) v9.drew wz) (by rfl) 27 #[Operand.tmp 73] #[3] rfl (by simp [Act.eval]) call25 (post_of (k9a _)) ?_
  rintro _ y9_0 ⟨rfl, k9_0⟩
  refine hK.out _ _ (⟨trivial, ((D9.more k9_0).sz 2 (by omega)).1, ((D9.more k9_0).sz 3 (by omega)).1⟩) (fun hH1 => ?_)
  clear hK K hH0
  simp only [Act.put, List.setIfInBounds_toArray, List.set_cons_zero, List.set_cons_succ]
  refine' wpAnyH_take (i := 8) (oi := { dst := some 80, op := Op.binOp BinOp.add 3 (Operand.tmp 74) (Operand.tmp 79) 3, type := 3, pos := "ref.go:39", after := #[{ on := 2, ground := Ground.data }, { on := 7, ground := Ground.data }], guard := none }) (v := _) rfl (by kernel_rfl) (by kernel_rfl) (by kernel_rfl) (fun _ _ _ h => h) (Or.inl ⟨by rfl, ?hyr98⟩) hH1 ?rr98
  case hyr98 => (intro w' hSw; clear hSw; go_simp; try with_reducible rfl)
  simp only [Act.put, List.setIfInBounds_toArray, List.set_cons_zero, List.set_cons_succ]
  refine wpAnyH_ready (rs := [9]) (by kernel_rfl) (by simp) ?_
  refine AllReadyH.cons (o := { dst := some 81, op := Op.call { callee := Callee.value (Operand.func 28), args := #[Operand.tmp 80], argTypes := #[3] }, type := 3, pos := "ref.go:39", after := #[{ on := 8, ground := Ground.data }, { on := 2, ground := Ground.chain }], guard := none }) rfl (fun K hK => ?_) AllReadyH.nil
  refine step_call_want (vs := #[.int .i64 (lV (omI c) + OO)]) (R := fun u wz => u = .int .i64 (rpI c) ∧ Keep (fun _ => False) y9_0 wz) (by rfl) 28 #[Operand.tmp 80] #[3] rfl (by simp [Act.eval]) call26 (post_of (k9b _)) ?_
  rintro _ y9_1 ⟨rfl, k9_1⟩
  refine hK.out _ _ (⟨trivial, (((D9.more k9_0).more k9_1).sz 2 (by omega)).1, (((D9.more k9_0).more k9_1).sz 3 (by omega)).1⟩) (fun hH2 => ?_)
  clear hK K hH1
  simp only [Act.put, List.setIfInBounds_toArray, List.set_cons_zero, List.set_cons_succ]
  refine' wpAnyH_take (i := 10) (oi := { dst := some 82, op := Op.fieldAddr 35 (Operand.tmp 3) 4, type := 0, pos := "ref.go:39", after := #[{ on := 0, ground := Ground.phase }, { on := 1, ground := Ground.phase }, { on := 2, ground := Ground.phase }, { on := 3, ground := Ground.phase }, { on := 4, ground := Ground.phase }, { on := 5, ground := Ground.phase }, { on := 6, ground := Ground.phase }, { on := 7, ground := Ground.phase }, { on := 8, ground := Ground.phase }, { on := 9, ground := Ground.phase }], guard := none }) (v := _) rfl (by kernel_rfl) (by kernel_rfl) (by kernel_rfl) (fun _ _ _ h => h) (Or.inl ⟨by rfl, ?hyr910⟩) hH2 ?rr910
  case hyr910 => (intro w' hSw; clear hSw; go_simp; try with_reducible rfl)
  simp only [Act.put, List.setIfInBounds_toArray, List.set_cons_zero, List.set_cons_succ]
  refine wpAnyH_ready (rs := [11]) (by kernel_rfl) (by simp) ?_
  refine AllReadyH.cons (o := { dst := none, op := Op.store 3 (Operand.tmp 82) (Operand.tmp 81), type := 0, pos := "ref.go:39", after := #[{ on := 10, ground := Ground.data }, { on := 9, ground := Ground.data }, { on := 9, ground := Ground.chain }, { on := 0, ground := Ground.phase }, { on := 1, ground := Ground.phase }, { on := 2, ground := Ground.phase }, { on := 3, ground := Ground.phase }, { on := 4, ground := Ground.phase }, { on := 5, ground := Ground.phase }, { on := 6, ground := Ground.phase }, { on := 7, ground := Ground.phase }, { on := 8, ground := Ground.phase }, { on := 9, ground := Ground.phase }], guard := none }) rfl (fun K hK => ?_) AllReadyH.nil
  refine step_store_run (by rfl) 3 (.tmp 82) (.tmp 81) rfl (by rfl) (by rfl) (store3 (((D9.more k9_0).more k9_1).sz 4 (by omega)).1 (((D9.more k9_0).more k9_1).sz 4 (by omega)).2) ?_
  refine hK.out _ _ (⟨trivial, ((show Ob w (y9_1.setCell ⟨h, 4, none⟩ (.int .i64 (rpI c))) g h q c [rbI c, spI c, omI c, obI c, rpI c, 0, 0, 0, 0, 0, 0] from ((D9.more k9_0).more k9_1).set 4 _ (by show 4 < 11; omega)).sz 2 (by omega)).1, ((show Ob w (y9_1.setCell ⟨h, 4, none⟩ (.int .i64 (rpI c))) g h q c [rbI c, spI c, omI c, obI c, rpI c, 0, 0, 0, 0, 0, 0] from ((D9.more k9_0).more k9_1).set 4 _ (by show 4 < 11; omega)).sz 3 (by omega)).1⟩) (fun hH3 => ?_)
  clear hK K hH2
  simp only [Act.put]
  refine wpAnyH_done (by kernel_rfl) ?_ _
  refine NoPanic.normal ?_
  have O10_ := ((D9.more k9_0).more k9_1)
  have O11 : Ob w (y9_1.setCell ⟨h, 4, none⟩ (.int .i64 (rpI c))) g h q c [rbI c, spI c, omI c, obI c, rpI c, 0, 0, 0, 0, 0, 0] := O10_.set 4 _ (by show 4 < 11; omega)
  generalize y9_1.setCell ⟨h, 4, none⟩ (.int .i64 (rpI c)) = v11 at O11 ⊢
  clear k9a k9b q9a q9b
  have cc1 : v11.cell? ⟨g, 1, none⟩ = some (.int .i64 c.p) := (O11.cf 1 (by omega)).1
  have cs1 : v11.cell? ⟨h, 1, none⟩ = some (.int .i64 (spI c)) := (O11.sz 1 (by omega)).1
  have cs4 : v11.cell? ⟨h, 4, none⟩ = some (.int .i64 (rpI c)) := (O11.sz 4 (by omega)).1
  have cs5 : v11.cell? ⟨h, 5, none⟩ = some (.int .i64 (0)) := (O11.sz 5 (by omega)).1
  have cz : v11.frozen? ⟨h, 5, none⟩ = false := (O11.sz 5 (by omega)).2
  go_upto_region 11 with fail
  clear cc1 cs1 cs4 cs5 cz
  have O12 : Ob w (v11.setCell ⟨h, 5, none⟩ (.int .i64 (lpI c))) g h q c [rbI c, spI c, omI c, obI c, rpI c, lpI c, 0, 0, 0, 0, 0] := O11.set 5 _ (by show 5 < 11; omega)
  generalize v11.setCell ⟨h, 5, none⟩ (.int .i64 (lpI c)) = v12 at O12 ⊢
  clear q10a q10b q10c
  have cc1 : v12.cell? ⟨g, 1, none⟩ = some (.int .i64 c.p) := (O12.cf 1 (by omega)).1
  have cs1 : v12.cell? ⟨h, 1, none⟩ = some (.int .i64 (spI c)) := (O12.sz 1 (by omega)).1
  have cs5 : v12.cell? ⟨h, 5, none⟩ = some (.int .i64 (lpI c)) := (O12.sz 5 (by omega)).1
  go_upto_region 12 with fail
  refine (k11 _).mono ?_
  rintro e y11_0 ⟨rfl, k11_0⟩
  have O11_0 := O12.more k11_0
  clear cc1 cs1 cs5
  have cs6 : y11_0.cell? ⟨h, 6, none⟩ = some (.int .i64 (0)) := (O11_0.sz 6 (by omega)).1
  have cz : y11_0.frozen? ⟨h, 6, none⟩ = false := (O11_0.sz 6 (by omega)).2
  go_upto_region 12 with fail
  clear cs6 cz
  have O13 : Ob w (y11_0.setCell ⟨h, 6, none⟩ (.int .i64 (ebI c))) g h q c [rbI c, spI c, omI c, obI c, rpI c, lpI c, ebI c, 0, 0, 0, 0] := O11_0.set 6 _ (by show 6 < 11; omega)
  generalize y11_0.setCell ⟨h, 6, none⟩ (.int .i64 (ebI c)) = v13 at O13 ⊢
  clear k11 q11
  go_upto_region 12 with fail
  have D12 := O13.more ((Keep.refl (fun _ => False) v13).drew)
  refine wp_region_noPanic ?_
  refine wp_region_held_drew (S := fun w' => True ∧ w'.cell? ⟨g, 1, none⟩ = some (.int .i64 c.p) ∧ w'.cell? ⟨h, 1, none⟩ = some (.int .i64 (spI c)) ∧ w'.cell? ⟨h, 6, none⟩ = some (.int .i64 (ebI c))) (by kernel_rfl) (⟨trivial, (D12.cf 1 (by omega)).1, (D12.sz 1 (by omega)).1, (D12.sz 6 (by omega)).1⟩) (fun hH0 => ?_)
  refine' wpAnyH_take (i := 0) (oi := { dst := some 102, op := Op.fieldAddr 35 (Operand.tmp 3) 6, type := 0, pos := "ref.go:42", after := #[], guard := none }) (v := _) rfl (by kernel_rfl) (by kernel_rfl) (by kernel_rfl) (fun _ _ _ h => h) (Or.inl ⟨by rfl, ?hyr120⟩) hH0 ?rr120
  case hyr120 => (intro w' hSw; clear hSw; go_simp; try with_reducible rfl)
  simp only [Act.put, List.setIfInBounds_toArray, List.set_cons_zero, List.set_cons_succ]
  refine' wpAnyH_take (i := 1) (oi := { dst := some 103, op := Op.load 3 (Operand.tmp 102), type := 3, pos := "ref.go:42", after := #[{ on := 0, ground := Ground.data }], guard := none }) (v := _) rfl (by kernel_rfl) (by kernel_rfl) (by kernel_rfl) (fun _ _ _ h => h) (Or.inl ⟨by rfl, ?hyr121⟩) hH0 ?rr121
  case hyr121 => (intro w' hSw; obtain ⟨-, z0, z1, z2⟩ := hSw; go_simp; try with_reducible rfl)
  simp only [Act.put, List.setIfInBounds_toArray, List.set_cons_zero, List.set_cons_succ]
  refine' wpAnyH_take (i := 2) (oi := { dst := some 104, op := Op.fieldAddr 35 (Operand.tmp 3) 1, type := 0, pos := "ref.go:42", after := #[], guard := none }) (v := _) rfl (by kernel_rfl) (by kernel_rfl) (by kernel_rfl) (fun _ _ _ h => h) (Or.inl ⟨by rfl, ?hyr122⟩) hH0 ?rr122
  case hyr122 => (intro w' hSw; clear hSw; go_simp; try with_reducible rfl)
  simp only [Act.put, List.setIfInBounds_toArray, List.set_cons_zero, List.set_cons_succ]
  refine' wpAnyH_take (i := 3) (oi := { dst := some 105, op := Op.load 3 (Operand.tmp 104), type := 3, pos := "ref.go:42", after := #[{ on := 2, ground := Ground.data }], guard := none }) (v := _) rfl (by kernel_rfl) (by kernel_rfl) (by kernel_rfl) (fun _ _ _ h => h) (Or.inl ⟨by rfl, ?hyr123⟩) hH0 ?rr123
  case hyr123 => (intro w' hSw; obtain ⟨-, z0, z1, z2⟩ := hSw; go_simp; try with_reducible rfl)
  simp only [Act.put, List.setIfInBounds_toArray, List.set_cons_zero, List.set_cons_succ]
  refine' wpAnyH_take (i := 4) (oi := { dst := some 106, op := Op.fieldAddr 29 (Operand.tmp 1) 1, type := 0, pos := "ref.go:42", after := #[], guard := none }) (v := _) rfl (by kernel_rfl) (by kernel_rfl) (by kernel_rfl) (fun _ _ _ h => h) (Or.inl ⟨by rfl, ?hyr124⟩) hH0 ?rr124
  case hyr124 => (intro w' hSw; clear hSw; go_simp; try with_reducible rfl)
  simp only [Act.put, List.setIfInBounds_toArray, List.set_cons_zero, List.set_cons_succ]
  refine' wpAnyH_take (i := 5) (oi := { dst := some 107, op := Op.load 3 (Operand.tmp 106), type := 3, pos := "ref.go:42", after := #[{ on := 4, ground := Ground.data }], guard := none }) (v := _) rfl (by kernel_rfl) (by kernel_rfl) (by kernel_rfl) (fun _ _ _ h => h) (Or.inl ⟨by rfl, ?hyr125⟩) hH0 ?rr125
  case hyr125 => (intro w' hSw; obtain ⟨-, z0, z1, z2⟩ := hSw; go_simp; try with_reducible rfl)
  simp only [Act.put, List.setIfInBounds_toArray, List.set_cons_zero, List.set_cons_succ]
  refine wpAnyH_ready (rs := [6]) (by kernel_rfl) (by simp) ?_
  refine AllReadyH.cons (o := { dst := some 108, op := Op.call { callee := Callee.value (Operand.func 29), args := #[Operand.tmp 105, Operand.tmp 107], argTypes := #[3, 3] }, type := 3, pos := "ref.go:42", after := #[{ on := 3, ground := Ground.data }, { on := 5, ground := Ground.data }], guard := none }) rfl (fun K hK => ?_) AllReadyH.nil
  refine step_call_want (vs := #[.int .i64 (spI c), .int .i64 (c.p)]) (R := fun u wz => u = .int .i64 (US) ∧ Keep (fun _ => False) v13.drew wz) (by rfl) 29 #[Operand.tmp 105, Operand.tmp 107] #[3, 3] rfl (by simp [Act.eval]) call27 (post_of (k12 _)) ?_
  rintro _ y12_0 ⟨rfl, k12_0⟩
  refine hK.out _ _ (⟨trivial, ((D12.more k12_0).cf 1 (by omega)).1, ((D12.more k12_0).sz 1 (by omega)).1, ((D12.more k12_0).sz 6 (by omega)).1⟩) (fun hH1 => ?_)
  clear hK K hH0
  simp only [Act.put, List.setIfInBounds_toArray, List.set_cons_zero, List.set_cons_succ]
  refine' wpAnyH_take (i := 7) (oi := { dst := some 109, op := Op.binOp BinOp.add 3 (Operand.tmp 103) (Operand.tmp 108) 3, type := 3, pos := "ref.go:42", after := #[{ on := 1, ground := Ground.data }, { on := 6, ground := Ground.data }], guard := none }) (v := _) rfl (by kernel_rfl) (by kernel_rfl) (by kernel_rfl) (fun _ _ _ h => h) (Or.inl ⟨by rfl, ?hyr127⟩) hH1 ?rr127
  case hyr127 => (intro w' hSw; clear hSw; go_simp; try with_reducible rfl)
  simp only [Act.put, List.setIfInBounds_toArray, List.set_cons_zero, List.set_cons_succ]
  refine' wpAnyH_take (i := 8) (oi := { dst := some 110, op := Op.binOp BinOp.add 3 (Operand.tmp 109) (Operand.const (Value.int IntKind.i64 3)) 3, type := 3, pos := "ref.go:42", after := #[{ on := 7, ground := Ground.data }], guard := none }) (v := _) rfl (by kernel_rfl) (by kernel_rfl) (by kernel_rfl) (fun _ _ _ h => h) (Or.inl ⟨by rfl, ?hyr128⟩) hH1 ?rr128
  case hyr128 => (intro w' hSw; clear hSw; go_simp; try with_reducible rfl)
  simp only [Act.put, List.setIfInBounds_toArray, List.set_cons_zero, List.set_cons_succ]
  refine' wpAnyH_take (i := 9) (oi := { dst := some 111, op := Op.fieldAddr 35 (Operand.tmp 3) 7, type := 0, pos := "ref.go:42", after := #[{ on := 0, ground := Ground.phase }, { on := 1, ground := Ground.phase }, { on := 2, ground := Ground.phase }, { on := 3, ground := Ground.phase }, { on := 4, ground := Ground.phase }, { on := 5, ground := Ground.phase }, { on := 6, ground := Ground.phase }, { on := 7, ground := Ground.phase }, { on := 8, ground := Ground.phase }], guard := none }) (v := _) rfl (by kernel_rfl) (by kernel_rfl) (by kernel_rfl) (fun _ _ _ h => h) (Or.inl ⟨by rfl, ?hyr129⟩) hH1 ?rr129
  case hyr129 => (intro w' hSw; clear hSw; go_simp; try with_reducible rfl)
  simp only [Act.put, List.setIfInBounds_toArray, List.set_cons_zero, List.set_cons_succ]
  refine wpAnyH_ready (rs := [10]) (by kernel_rfl) (by simp) ?_
  refine AllReadyH.cons (o := { dst := none, op := Op.store 3 (Operand.tmp 111) (Operand.tmp 110), type := 0, pos := "ref.go:42", after := #[{ on := 9, ground := Ground.data }, { on := 8, ground := Ground.data }, { on := 6, ground := Ground.chain }, { on := 0, ground := Ground.phase }, { on := 1, ground := Ground.phase }, { on := 2, ground := Ground.phase }, { on := 3, ground := Ground.phase }, { on := 4, ground := Ground.phase }, { on := 5, ground := Ground.phase }, { on := 6, ground := Ground.phase }, { on := 7, ground := Ground.phase }, { on := 8, ground := Ground.phase }], guard := none }) rfl (fun K hK => ?_) AllReadyH.nil
  refine step_store_run (by rfl) 3 (.tmp 111) (.tmp 110) rfl (by rfl) (by rfl) (store3 ((D12.more k12_0).sz 7 (by omega)).1 ((D12.more k12_0).sz 7 (by omega)).2) ?_
  refine hK.out _ _ (⟨trivial, ((show Ob w (y12_0.setCell ⟨h, 7, none⟩ (.int .i64 (mbI c))) g h q c [rbI c, spI c, omI c, obI c, rpI c, lpI c, ebI c, mbI c, 0, 0, 0] from (D12.more k12_0).set 7 _ (by show 7 < 11; omega)).cf 1 (by omega)).1, ((show Ob w (y12_0.setCell ⟨h, 7, none⟩ (.int .i64 (mbI c))) g h q c [rbI c, spI c, omI c, obI c, rpI c, lpI c, ebI c, mbI c, 0, 0, 0] from (D12.more k12_0).set 7 _ (by show 7 < 11; omega)).sz 1 (by omega)).1, ((show Ob w (y12_0.setCell ⟨h, 7, none⟩ (.int .i64 (mbI c))) g h q c [rbI c, spI c, omI c, obI c, rpI c, lpI c, ebI c, mbI c, 0, 0, 0] from (D12.more k12_0).set 7 _ (by show 7 < 11; omega)).sz 6 (by omega)).1⟩) (fun hH2 => ?_)
  clear hK K hH1
  simp only [Act.put]
  refine wpAnyH_done (by kernel_rfl) ?_ _
  refine NoPanic.normal ?_
  have O14_ := (D12.more k12_0)
  have O15 : Ob w (y12_0.setCell ⟨h, 7, none⟩ (.int .i64 (mbI c))) g h q c [rbI c, spI c, omI c, obI c, rpI c, lpI c, ebI c, mbI c, 0, 0, 0] := O14_.set 7 _ (by show 7 < 11; omega)
  generalize y12_0.setCell ⟨h, 7, none⟩ (.int .i64 (mbI c)) = v15 at O15 ⊢
  clear k12 q12a q12b
  have cc2 : v15.cell? ⟨g, 2, none⟩ = some (.int .i64 c.c) := (O15.cf 2 (by omega)).1
  have cc5 : v15.cell? ⟨g, 5, none⟩ = some (.int .i64 c.w) := (O15.cf 5 (by omega)).1
  go_upto_region 14 with fail
  refine (k13 _).mono ?_
  rintro e y13_0 ⟨rfl, k13_0⟩
  have O13_0 := O15.more k13_0
  clear cc2 cc5
  have cs8 : y13_0.cell? ⟨h, 8, none⟩ = some (.int .i64 (0)) := (O13_0.sz 8 (by omega)).1
  have cz : y13_0.frozen? ⟨h, 8, none⟩ = false := (O13_0.sz 8 (by omega)).2
  go_upto_region 14 with fail
  clear cs8 cz
  have O16 : Ob w (y13_0.setCell ⟨h, 8, none⟩ (.int .i64 (wnI c))) g h q c [rbI c, spI c, omI c, obI c, rpI c, lpI c, ebI c, mbI c, wnI c, 0, 0] := O13_0.set 8 _ (by show 8 < 11; omega)
  generalize y13_0.setCell ⟨h, 8, none⟩ (.int .i64 (wnI c)) = v16 at O16 ⊢
  clear k13
  go_upto_region 14 with fail
  have D14 := O16.more ((Keep.refl (fun _ => False) v16).drew)
  refine wp_region_noPanic ?_
  refine wp_region_held_drew (S := fun w' => True ∧ w'.cell? ⟨g, 1, none⟩ = some (.int .i64 c.p) ∧ w'.cell? ⟨g, 2, none⟩ = some (.int .i64 c.c) ∧ w'.cell? ⟨g, 3, none⟩ = some (.int .i64 c.s)) (by kernel_rfl) (⟨trivial, (D14.cf 1 (by omega)).1, (D14.cf 2 (by omega)).1, (D14.cf 3 (by omega)).1⟩) (fun hH0 => ?_)
  refine' wpAnyH_take (i := 0) (oi := { dst := some 118, op := Op.fieldAddr 29 (Operand.tmp 1) 2, type := 0, pos := "ref.go:44", after := #[], guard := none }) (v := _) rfl (by kernel_rfl) (by kernel_rfl) (by kernel_rfl) (fun _ _ _ h => h) (Or.inl ⟨by rfl, ?hyr140⟩) hH0 ?rr140
  case hyr140 => (intro w' hSw; clear hSw; go_simp; try with_reducible rfl)
  simp only [Act.put, List.setIfInBounds_toArray, List.set_cons_zero, List.set_cons_succ]
  refine' wpAnyH_take (i := 1) (oi := { dst := some 119, op := Op.load 3 (Operand.tmp 118), type := 3, pos := "ref.go:44", after := #[{ on := 0, ground := Ground.data }], guard := none }) (v := _) rfl (by kernel_rfl) (by kernel_rfl) (by kernel_rfl) (fun _ _ _ h => h) (Or.inl ⟨by rfl, ?hyr141⟩) hH0 ?rr141
  case hyr141 => (intro w' hSw; obtain ⟨-, z0, z1, z2⟩ := hSw; go_simp; try with_reducible rfl)
  simp only [Act.put, List.setIfInBounds_toArray, List.set_cons_zero, List.set_cons_succ]
  refine' wpAnyH_take (i := 2) (oi := { dst := some 120, op := Op.fieldAddr 29 (Operand.tmp 1) 1, type := 0, pos := "ref.go:44", after := #[], guard := none }) (v := _) rfl (by kernel_rfl) (by kernel_rfl) (by kernel_rfl) (fun _ _ _ h => h) (Or.inl ⟨by rfl, ?hyr142⟩) hH0 ?rr142
  case hyr142 => (intro w' hSw; clear hSw; go_simp; try with_reducible rfl)
  simp only [Act.put, List.setIfInBounds_toArray, List.set_cons_zero, List.set_cons_succ]
  refine' wpAnyH_take (i := 3) (oi := { dst := some 121, op := Op.load 3 (Operand.tmp 120), type := 3, pos := "ref.go:44", after := #[{ on := 2, ground := Ground.data }], guard := none }) (v := _) rfl (by kernel_rfl) (by kernel_rfl) (by kernel_rfl) (fun _ _ _ h => h) (Or.inl ⟨by rfl, ?hyr143⟩) hH0 ?rr143
  case hyr143 => (intro w' hSw; obtain ⟨-, z0, z1, z2⟩ := hSw; go_simp; try with_reducible rfl)
  simp only [Act.put, List.setIfInBounds_toArray, List.set_cons_zero, List.set_cons_succ]
  refine' wpAnyH_take (i := 6) (oi := { dst := some 124, op := Op.fieldAddr 29 (Operand.tmp 1) 3, type := 0, pos := "ref.go:44", after := #[], guard := none }) (v := _) rfl (by kernel_rfl) (by kernel_rfl) (by kernel_rfl) (fun _ _ _ h => h) (Or.inl ⟨by rfl, ?hyr146⟩) hH0 ?rr146
  case hyr146 => (intro w' hSw; clear hSw; go_simp; try with_reducible rfl)
  simp only [Act.put, List.setIfInBounds_toArray, List.set_cons_zero, List.set_cons_succ]
  refine' wpAnyH_take (i := 7) (oi := { dst := some 125, op := Op.load 3 (Operand.tmp 124), type := 3, pos := "ref.go:44", after := #[{ on := 6, ground := Ground.data }], guard := none }) (v := _) rfl (by kernel_rfl) (by kernel_rfl) (by kernel_rfl) (fun _ _ _ h => h) (Or.inl ⟨by rfl, ?hyr147⟩) hH0 ?rr147
  case hyr147 => (intro w' hSw; obtain ⟨-, z0, z1, z2⟩ := hSw; go_simp; try with_reducible rfl)
  simp only [Act.put, List.setIfInBounds_toArray, List.set_cons_zero, List.set_cons_succ]
  refine' wpAnyH_take (i := 8) (oi := { dst := some 126, op := Op.binOp BinOp.mul 3 (Operand.const (Value.int IntKind.i64 4)) (Operand.tmp 125) 3, type := 3, pos := "ref.go:44", after := #[{ on := 7, ground := Ground.data }], guard := none }) (v := _) rfl (by kernel_rfl) (by kernel_rfl) (by kernel_rfl) (fun _ _ _ h => h) (Or.inl ⟨by rfl, ?hyr148⟩) hH0 ?rr148
  case hyr148 => (intro w' hSw; clear hSw; go_simp; try with_reducible rfl)
  simp only [Act.put, List.setIfInBounds_toArray, List.set_cons_zero, List.set_cons_succ]
  refine wpAnyH_ready (rs := [4]) (by kernel_rfl) (by simp) ?_
  refine AllReadyH.cons (o := { dst := some 122, op := Op.call { callee := Callee.value (Operand.func 29), args := #[Operand.tmp 119, Operand.tmp 121], argTypes := #[3, 3] }, type := 3, pos := "ref.go:44", after := #[{ on := 1, ground := Ground.data }, { on := 3, ground := Ground.data }], guard := none }) rfl (fun K hK => ?_) AllReadyH.nil
  refine step_call_want (vs := #[.int .i64 (c.c), .int .i64 (c.p)]) (R := fun u wz => u = .int .i64 (U) ∧ Keep (fun _ => False) v16.drew wz) (by rfl) 29 #[Operand.tmp 119, Operand.tmp 121] #[3, 3] rfl (by simp [Act.eval]) call27 (post_of (kU _)) ?_
  rintro _ y14_0 ⟨rfl, k14_0⟩
  refine hK.out _ _ (⟨trivial, ((D14.more k14_0).cf 1 (by omega)).1, ((D14.more k14_0).cf 2 (by omega)).1, ((D14.more k14_0).cf 3 (by omega)).1⟩) (fun hH1 => ?_)
  clear hK K hH0
  simp only [Act.put, List.setIfInBounds_toArray, List.set_cons_zero, List.set_cons_succ]
  refine' wpAnyH_take (i := 5) (oi := { dst := some 123, op := Op.binOp BinOp.add 3 (Operand.tmp 122) (Operand.const (Value.int IntKind.i64 8)) 3, type := 3, pos := "ref.go:44", after := #[{ on := 4, ground := Ground.data }], guard := none }) (v := _) rfl (by kernel_rfl) (by kernel_rfl) (by kernel_rfl) (fun _ _ _ h => h) (Or.inl ⟨by rfl, ?hyr145⟩) hH1 ?rr145
  case hyr145 => (intro w' hSw; clear hSw; go_simp; try with_reducible rfl)
  simp only [Act.put, List.setIfInBounds_toArray, List.set_cons_zero, List.set_cons_succ]
  refine' wpAnyH_take (i := 9) (oi := { dst := some 127, op := Op.binOp BinOp.add 3 (Operand.tmp 123) (Operand.tmp 126) 3, type := 3, pos := "ref.go:44", after := #[{ on := 5, ground := Ground.data }, { on := 8, ground := Ground.data }], guard := none }) (v := _) rfl (by kernel_rfl) (by kernel_rfl) (by kernel_rfl) (fun _ _ _ h => h) (Or.inl ⟨by rfl, ?hyr149⟩) hH1 ?rr149
  case hyr149 => (intro w' hSw; clear hSw; go_simp; try with_reducible rfl)
  simp only [Act.put, List.setIfInBounds_toArray, List.set_cons_zero, List.set_cons_succ]
  refine' wpAnyH_take (i := 10) (oi := { dst := some 128, op := Op.fieldAddr 35 (Operand.tmp 3) 9, type := 0, pos := "ref.go:44", after := #[{ on := 0, ground := Ground.phase }, { on := 1, ground := Ground.phase }, { on := 2, ground := Ground.phase }, { on := 3, ground := Ground.phase }, { on := 4, ground := Ground.phase }, { on := 5, ground := Ground.phase }, { on := 6, ground := Ground.phase }, { on := 7, ground := Ground.phase }, { on := 8, ground := Ground.phase }, { on := 9, ground := Ground.phase }], guard := none }) (v := _) rfl (by kernel_rfl) (by kernel_rfl) (by kernel_rfl) (fun _ _ _ h => h) (Or.inl ⟨by rfl, ?hyr1410⟩) hH1 ?rr1410
  case hyr1410 => (intro w' hSw; clear hSw; go_simp; try with_reducible rfl)
  simp only [Act.put, List.setIfInBounds_toArray, List.set_cons_zero, List.set_cons_succ]
  refine wpAnyH_ready (rs := [11]) (by kernel_rfl) (by simp) ?_
  refine AllReadyH.cons (o := { dst := none, op := Op.store 3 (Operand.tmp 128) (Operand.tmp 127), type := 0, pos := "ref.go:44", after := #[{ on := 10, ground := Ground.data }, { on := 9, ground := Ground.data }, { on := 4, ground := Ground.chain }, { on := 0, ground := Ground.phase }, { on := 1, ground := Ground.phase }, { on := 2, ground := Ground.phase }, { on := 3, ground := Ground.phase }, { on := 4, ground := Ground.phase }, { on := 5, ground := Ground.phase }, { on := 6, ground := Ground.phase }, { on := 7, ground := Ground.phase }, { on := 8, ground := Ground.phase }, { on := 9, ground := Ground.phase }], guard := none }) rfl (fun K hK => ?_) AllReadyH.nil
  refine step_store_run (by rfl) 3 (.tmp 128) (.tmp 127) rfl (by rfl) (by rfl) (store3 ((D14.more k14_0).sz 9 (by omega)).1 ((D14.more k14_0).sz 9 (by omega)).2) ?_
  refine hK.out _ _ (⟨trivial, ((show Ob w (y14_0.setCell ⟨h, 9, none⟩ (.int .i64 (slI c))) g h q c [rbI c, spI c, omI c, obI c, rpI c, lpI c, ebI c, mbI c, wnI c, slI c, 0] from (D14.more k14_0).set 9 _ (by show 9 < 11; omega)).cf 1 (by omega)).1, ((show Ob w (y14_0.setCell ⟨h, 9, none⟩ (.int .i64 (slI c))) g h q c [rbI c, spI c, omI c, obI c, rpI c, lpI c, ebI c, mbI c, wnI c, slI c, 0] from (D14.more k14_0).set 9 _ (by show 9 < 11; omega)).cf 2 (by omega)).1, ((show Ob w (y14_0.setCell ⟨h, 9, none⟩ (.int .i64 (slI c))) g h q c [rbI c, spI c, omI c, obI c, rpI c, lpI c, ebI c, mbI c, wnI c, slI c, 0] from (D14.more k14_0).set 9 _ (by show 9 < 11; omega)).cf 3 (by omega)).1⟩) (fun hH2 => ?_)
  clear hK K hH1
  simp only [Act.put]
  refine wpAnyH_done (by kernel_rfl) ?_ _
  refine NoPanic.normal ?_
  have O17_ := (D14.more k14_0)
  have O18 : Ob w (y14_0.setCell ⟨h, 9, none⟩ (.int .i64 (slI c))) g h q c [rbI c, spI c, omI c, obI c, rpI c, lpI c, ebI c, mbI c, wnI c, slI c, 0] := O17_.set 9 _ (by show 9 < 11; omega)
  generalize y14_0.setCell ⟨h, 9, none⟩ (.int .i64 (slI c)) = v18 at O18 ⊢
  clear kU q14a q14b q14c
  have cc0 : v18.cell? ⟨g, 0, none⟩ = some (.int .i64 c.b) := (O18.cf 0 (by omega)).1
  have cc1 : v18.cell? ⟨g, 1, none⟩ = some (.int .i64 c.p) := (O18.cf 1 (by omega)).1
  have cc3 : v18.cell? ⟨g, 3, none⟩ = some (.int .i64 c.s) := (O18.cf 3 (by omega)).1
  have cs6 : v18.cell? ⟨h, 6, none⟩ = some (.int .i64 (ebI c)) := (O18.sz 6 (by omega)).1
  have cs10 : v18.cell? ⟨h, 10, none⟩ = some (.int .i64 (0)) := (O18.sz 10 (by omega)).1
  have cz : v18.frozen? ⟨h, 10, none⟩ = false := (O18.sz 10 (by omega)).2
  go_upto_region 16 with fail
  clear cc0 cc1 cc3 cs6 cs10 cz
  have O19 : Ob w (v18.setCell ⟨h, 10, none⟩ (.int .i64 (mrI c))) g h q c [rbI c, spI c, omI c, obI c, rpI c, lpI c, ebI c, mbI c, wnI c, slI c, mrI c] := O18.set 10 _ (by show 10 < 11; omega)
  generalize v18.setCell ⟨h, 10, none⟩ (.int .i64 (mrI c)) = v19 at O19 ⊢
  clear q15a q15b q15c q15d q15e
  have cs0 : v19.cell? ⟨h, 0, none⟩ = some (.int .i64 (rbI c)) := (O19.sz 0 (by omega)).1
  have cs1 : v19.cell? ⟨h, 1, none⟩ = some (.int .i64 (spI c)) := (O19.sz 1 (by omega)).1
  have cs2 : v19.cell? ⟨h, 2, none⟩ = some (.int .i64 (omI c)) := (O19.sz 2 (by omega)).1
  have cs3 : v19.cell? ⟨h, 3, none⟩ = some (.int .i64 (obI c)) := (O19.sz 3 (by omega)).1
  have cs4 : v19.cell? ⟨h, 4, none⟩ = some (.int .i64 (rpI c)) := (O19.sz 4 (by omega)).1
  have cs5 : v19.cell? ⟨h, 5, none⟩ = some (.int .i64 (lpI c)) := (O19.sz 5 (by omega)).1
  have cs6 : v19.cell? ⟨h, 6, none⟩ = some (.int .i64 (ebI c)) := (O19.sz 6 (by omega)).1
  have cs7 : v19.cell? ⟨h, 7, none⟩ = some (.int .i64 (mbI c)) := (O19.sz 7 (by omega)).1
  have cs8 : v19.cell? ⟨h, 8, none⟩ = some (.int .i64 (wnI c)) := (O19.sz 8 (by omega)).1
  have cs9 : v19.cell? ⟨h, 9, none⟩ = some (.int .i64 (slI c)) := (O19.sz 9 (by omega)).1
  have cs10 : v19.cell? ⟨h, 10, none⟩ = some (.int .i64 (mrI c)) := (O19.sz 10 (by omega)).1
  have cr0 : v19.cell? ⟨q, 0, none⟩ = some (.int .i64 0) := (O19.rs 0 (by omega)).1
  have cf0 : v19.frozen? ⟨q, 0, none⟩ = false := (O19.rs 0 (by omega)).2
  have cr1 : v19.cell? ⟨q, 1, none⟩ = some (.int .i64 0) := (O19.rs 1 (by omega)).1
  have cf1 : v19.frozen? ⟨q, 1, none⟩ = false := (O19.rs 1 (by omega)).2
  have cr2 : v19.cell? ⟨q, 2, none⟩ = some (.int .i64 0) := (O19.rs 2 (by omega)).1
  have cf2 : v19.frozen? ⟨q, 2, none⟩ = false := (O19.rs 2 (by omega)).2
  have cr3 : v19.cell? ⟨q, 3, none⟩ = some (.int .i64 0) := (O19.rs 3 (by omega)).1
  have cf3 : v19.frozen? ⟨q, 3, none⟩ = false := (O19.rs 3 (by omega)).2
  have cr4 : v19.cell? ⟨q, 4, none⟩ = some (.int .i64 0) := (O19.rs 4 (by omega)).1
  have cf4 : v19.frozen? ⟨q, 4, none⟩ = false := (O19.rs 4 (by omega)).2
  have cr5 : v19.cell? ⟨q, 5, none⟩ = some (.int .i64 0) := (O19.rs 5 (by omega)).1
  have cf5 : v19.frozen? ⟨q, 5, none⟩ = false := (O19.rs 5 (by omega)).2
  have cr6 : v19.cell? ⟨q, 6, none⟩ = some (.int .i64 0) := (O19.rs 6 (by omega)).1
  have cf6 : v19.frozen? ⟨q, 6, none⟩ = false := (O19.rs 6 (by omega)).2
  have cr7 : v19.cell? ⟨q, 7, none⟩ = some (.int .i64 0) := (O19.rs 7 (by omega)).1
  have cf7 : v19.frozen? ⟨q, 7, none⟩ = false := (O19.rs 7 (by omega)).2
  have cr8 : v19.cell? ⟨q, 8, none⟩ = some (.int .i64 0) := (O19.rs 8 (by omega)).1
  have cf8 : v19.frozen? ⟨q, 8, none⟩ = false := (O19.rs 8 (by omega)).2
  have cr9 : v19.cell? ⟨q, 9, none⟩ = some (.int .i64 0) := (O19.rs 9 (by omega)).1
  have cf9 : v19.frozen? ⟨q, 9, none⟩ = false := (O19.rs 9 (by omega)).2
  have cr10 : v19.cell? ⟨q, 10, none⟩ = some (.int .i64 0) := (O19.rs 10 (by omega)).1
  have cf10 : v19.frozen? ⟨q, 10, none⟩ = false := (O19.rs 10 (by omega)).2
  have HK := O19.kp
  have hne := O19.ne.2
  have hlo := O19.lo.2
  go_wp2_with fail
  have HZ : Keep (fun _ => False) w (((((((((((v19.setCell ⟨q, 0, none⟩ (.int .i64 (rbI c))).setCell ⟨q, 1, none⟩ (.int .i64 (spI c))).setCell ⟨q, 2, none⟩ (.int .i64 (omI c))).setCell ⟨q, 3, none⟩ (.int .i64 (obI c))).setCell ⟨q, 4, none⟩ (.int .i64 (rpI c))).setCell ⟨q, 5, none⟩ (.int .i64 (lpI c))).setCell ⟨q, 6, none⟩ (.int .i64 (ebI c))).setCell ⟨q, 7, none⟩ (.int .i64 (mbI c))).setCell ⟨q, 8, none⟩ (.int .i64 (wnI c))).setCell ⟨q, 9, none⟩ (.int .i64 (slI c))).setCell ⟨q, 10, none⟩ (.int .i64 (mrI c))) := (((((((((((HK.setCell (p := ⟨q, 0, none⟩) (Or.inr hlo) (.int .i64 (rbI c))).setCell (p := ⟨q, 1, none⟩) (Or.inr hlo) (.int .i64 (spI c))).setCell (p := ⟨q, 2, none⟩) (Or.inr hlo) (.int .i64 (omI c))).setCell (p := ⟨q, 3, none⟩) (Or.inr hlo) (.int .i64 (obI c))).setCell (p := ⟨q, 4, none⟩) (Or.inr hlo) (.int .i64 (rpI c))).setCell (p := ⟨q, 5, none⟩) (Or.inr hlo) (.int .i64 (lpI c))).setCell (p := ⟨q, 6, none⟩) (Or.inr hlo) (.int .i64 (ebI c))).setCell (p := ⟨q, 7, none⟩) (Or.inr hlo) (.int .i64 (mbI c))).setCell (p := ⟨q, 8, none⟩) (Or.inr hlo) (.int .i64 (wnI c))).setCell (p := ⟨q, 9, none⟩) (Or.inr hlo) (.int .i64 (slI c))).setCell (p := ⟨q, 10, none⟩) (Or.inr hlo) (.int .i64 (mrI c)))
  have RZ : Blk (((((((((((v19.setCell ⟨q, 0, none⟩ (.int .i64 (rbI c))).setCell ⟨q, 1, none⟩ (.int .i64 (spI c))).setCell ⟨q, 2, none⟩ (.int .i64 (omI c))).setCell ⟨q, 3, none⟩ (.int .i64 (obI c))).setCell ⟨q, 4, none⟩ (.int .i64 (rpI c))).setCell ⟨q, 5, none⟩ (.int .i64 (lpI c))).setCell ⟨q, 6, none⟩ (.int .i64 (ebI c))).setCell ⟨q, 7, none⟩ (.int .i64 (mbI c))).setCell ⟨q, 8, none⟩ (.int .i64 (wnI c))).setCell ⟨q, 9, none⟩ (.int .i64 (slI c))).setCell ⟨q, 10, none⟩ (.int .i64 (mrI c))) q 11 (scell [rbI c, spI c, omI c, obI c, rpI c, lpI c, ebI c, mbI c, wnI c, slI c, mrI c]) := Blk.congr ((((((((((((O19.rs).set 0 (.int .i64 (rbI c))).set 1 (.int .i64 (spI c))).set 2 (.int .i64 (omI c))).set 3 (.int .i64 (obI c))).set 4 (.int .i64 (rpI c))).set 5 (.int .i64 (lpI c))).set 6 (.int .i64 (ebI c))).set 7 (.int .i64 (mbI c))).set 8 (.int .i64 (wnI c))).set 9 (.int .i64 (slI c))).set 10 (.int .i64 (mrI c))) (fun i hi => by
    have : i = 0 ∨ i = 1 ∨ i = 2 ∨ i = 3 ∨ i = 4 ∨ i = 5 ∨ i = 6 ∨ i = 7 ∨ i = 8 ∨ i = 9 ∨ i = 10 := by omega
    rcases this with rfl | rfl | rfl | rfl | rfl | rfl | rfl | rfl | rfl | rfl | rfl <;> rfl)
  generalize (((((((((((v19.setCell ⟨q, 0, none⟩ (.int .i64 (rbI c))).setCell ⟨q, 1, none⟩ (.int .i64 (spI c))).setCell ⟨q, 2, none⟩ (.int .i64 (omI c))).setCell ⟨q, 3, none⟩ (.int .i64 (obI c))).setCell ⟨q, 4, none⟩ (.int .i64 (rpI c))).setCell ⟨q, 5, none⟩ (.int .i64 (lpI c))).setCell ⟨q, 6, none⟩ (.int .i64 (ebI c))).setCell ⟨q, 7, none⟩ (.int .i64 (mbI c))).setCell ⟨q, 8, none⟩ (.int .i64 (wnI c))).setCell ⟨q, 9, none⟩ (.int .i64 (slI c))).setCell ⟨q, 10, none⟩ (.int .i64 (mrI c))) = wz at HZ RZ ⊢
  clear cs0 cr0 cf0 cs1 cr1 cf1 cs2 cr2 cf2 cs3 cr3 cf3 cs4 cr4 cf4 cs5 cr5 cf5 cs6 cr6 cf6 cs7 cr7 cf7 cs8 cr8 cf8 cs9 cr9 cf9 cs10 cr10 cf10
  refine bodyPost_ret (v := .agg #[.int .i64 (rbI c), .int .i64 (spI c), .int .i64 (omI c), .int .i64 (obI c), .int .i64 (rpI c), .int .i64 (lpI c), .int .i64 (ebI c), .int .i64 (mbI c), .int .i64 (wnI c), .int .i64 (slI c), .int .i64 (mrI c)]) ?_ rfl ⟨rfl, HZ⟩
  rw [results_cell rfl]
  simp [asAddr, Result.andThen, load_sz RZ]
set_option maxRecDepth 100000 in
set_option maxHeartbeats 4000000 in
theorem rof_pg (w : World) {c : Cf} (hs : Span c) (hw : ¬ c.p < upI c.c c.p) : Calls Try.prog 15 #[.agg #[.int .i64 c.b, .int .i64 c.p, .int .i64 c.c, .int .i64 c.s, .int .i64 c.m, .int .i64 c.w, .bool c.f]] w fun e w' => e = .returned (.agg #[.int .i64 (rbI c), .int .i64 (spI c), .int .i64 (omI c), .int .i64 (obI c), .int .i64 (rpI c), .int .i64 (lpI c), .int .i64 (ebI c), .int .i64 (mbI c), .int .i64 (wnI c), .int .i64 (slI c), .int .i64 (mrI c)]) ∧ Keep (fun _ => False) w w' := by
  have hbp := bp_bd hs
  have hrb := rb_bd c
  have hob := ob_bd c
  have hmr := mr_bd hs
  have hsp := sp_bd hs
  have hup := up_p_bd hs
  have hom := om_bd hs
  have hoo := oo_bd hs
  have hrp := rp_bd hs
  have hlp := lp_bd hs
  have heb := eb_bd hs
  have hus := us_bd hs
  have hmb := mb_bd hs
  have hwn := wn_bd hs
  have hsl := sl_bd hs
  have hpe := pe_bd hs
  obtain ⟨b1, b2, p1, p2, s1, s2, c1, c2, w1, w2, w3, m1, m2⟩ := hs
  have l1 := lV_bd c.c
  have l2 := lV_bd (2 * (c.b * c.p) + 1)
  have l3 := lV_bd c.m
  have l4 := lV_bd (2 * c.c + 1)
  have l5 := lV_bd (2 * (c.b * c.p) + 3)
  have l6 := lV_bd (omI c)
  have eE3 : rbI c = 2 * lV c.c + lV (2 * (c.b * c.p) + 1) := rfl
  have eE4 : spI c = pgI (lV c.m + c.m * rbI c) := rfl
  have eE7 : omI c = 4 + c.s + mxI (upI c.c c.p) c.p := rfl
  have eE8 : obI c = lV (2 * c.c + 1) + lV c.c + lV (2 * (c.b * c.p) + 3) := rfl
  have eE9 : rpI c = pgI (lV (omI c) + omI c * obI c) := rfl
  have eE10 : lpI c = 2 * rpI c + c.p + spI c := rfl
  have eE11 : ebI c = upI (spI c + lpI c) c.p := rfl
  have eE12 : mbI c = ebI c + upI (spI c) c.p + 3 := rfl
  have eE13 : wnI c = upI c.c c.w := rfl
  have eE14 : slI c = upI c.c c.p + 8 + 4 * c.s := rfl
  have eE15 : mrI c = c.b + 2 * c.p * (ebI c + 2 + c.s) := rfl
  have gL : ∀ v : Int, 0 ≤ v → v < 16384 → ∀ w : World, Calls Try.prog 27 #[.int .i64 (v)] w fun e w' => e = .returned (.int .i64 (lV v)) ∧ Keep (fun _ => False) w w' := fun v h0 h1 w => l_any h0 h1 w
  have gP : ∀ n : Int, 1 ≤ n → n ≤ 65536 → ∀ w : World, Calls Try.prog 28 #[.int .i64 (n)] w fun e w' => e = .returned (.int .i64 (pgI n)) ∧ Keep (fun _ => False) w w' := fun n h0 h1 w => same_keep (pages_any h0 h1 w)
  have gU : ∀ a b : Int, 0 ≤ a → 1 ≤ b → a ≤ 1000000000 → b ≤ 1000000000 → ∀ w : World, Calls Try.prog 29 #[.int .i64 (a), .int .i64 (b)] w fun e w' => e = .returned (.int .i64 (upI a b)) ∧ Keep (fun _ => False) w w' := fun a b h0 h1 h2 h3 w => same_keep (rup_any h0 h1 h2 h3 w)
  have eMX : mxI (upI c.c c.p) c.p = c.p := by unfold mxI; rw [if_neg hw]
  rw [eMX] at eE7
  have k3a := gL c.c (by omega) (by omega)
  have k3b := gL (2 * (c.b * c.p) + 1) (by omega) (by omega)
  have k4a := gL c.m (by omega) (by omega)
  have k4b := gP (lV c.m + c.m * rbI c) (by omega) (by omega)
  have kU := gU c.c c.p (by omega) (by omega) (by omega) (by omega)
  have k8a := gL (2 * c.c + 1) (by omega) (by omega)
  have k8b := gL c.c (by omega) (by omega)
  have k8c := gL (2 * (c.b * c.p) + 3) (by omega) (by omega)
  have k9a := gL (omI c) (by omega) (by omega)
  have k9b := gP (lV (omI c) + omI c * obI c) (by omega) (by omega)
  have k11 := gU (spI c + lpI c) c.p (by omega) (by omega) (by omega) (by omega)
  have k12 := gU (spI c) c.p (by omega) (by omega) (by omega) (by omega)
  have k13 := gU c.c c.w (by omega) (by omega) (by omega) (by omega)
  rw [← eE4] at k4b
  rw [← eE9] at k9b
  rw [← eE11] at k11
  rw [← eE13] at k13
  have q3a := wrapI (x := 2 * lV c.c) (by omega) (by omega)
  have q3b := wrapI (x := 2 * (c.b * c.p)) (by omega) (by omega)
  have q3c := wrapI (x := 2 * (c.b * c.p) + 1) (by omega) (by omega)
  have q3d : IntKind.i64.wrap (2 * lV c.c + lV (2 * (c.b * c.p) + 1)) = rbI c := by rw [← eE3]; exact wrapI (by omega) (by omega)
  have q2 := wrapI (x := c.b * c.p) (by omega) (by omega)
  have q4a := wrapI (x := c.m * rbI c) (by omega) (by omega)
  have q4b := wrapI (x := lV c.m + c.m * rbI c) (by omega) (by omega)
  have q5a := wrapI (x := 4 + c.s) (by omega) (by omega)
  have q5b : IntKind.i64.wrap (4 + c.s + c.p) = omI c := by rw [← eE7]; exact wrapI (by omega) (by omega)
  have q7 : IntKind.i64.wrap (4 + c.s + upI c.c c.p) = 4 + c.s + upI c.c c.p := wrapI (by omega) (by omega)
  have q8a := wrapI (x := 2 * c.c) (by omega) (by omega)
  have q8b := wrapI (x := 2 * c.c + 1) (by omega) (by omega)
  have q8c := wrapI (x := lV (2 * c.c + 1) + lV c.c) (by omega) (by omega)
  have q8d := wrapI (x := 2 * (c.b * c.p) + 3) (by omega) (by omega)
  have q8e : IntKind.i64.wrap (lV (2 * c.c + 1) + lV c.c + lV (2 * (c.b * c.p) + 3)) = obI c := by rw [← eE8]; exact wrapI (by omega) (by omega)
  have q9a := wrapI (x := omI c * obI c) (by omega) (by omega)
  have q9b := wrapI (x := lV (omI c) + omI c * obI c) (by omega) (by omega)
  have q10a := wrapI (x := 2 * rpI c) (by omega) (by omega)
  have q10b := wrapI (x := 2 * rpI c + c.p) (by omega) (by omega)
  have q10c : IntKind.i64.wrap (2 * rpI c + c.p + spI c) = lpI c := by rw [← eE10]; exact wrapI (by omega) (by omega)
  have q11 := wrapI (x := spI c + lpI c) (by omega) (by omega)
  have q12a := wrapI (x := ebI c + upI (spI c) c.p) (by omega) (by omega)
  have q12b : IntKind.i64.wrap (ebI c + upI (spI c) c.p + 3) = mbI c := by rw [← eE12]; exact wrapI (by omega) (by omega)
  have q14a := wrapI (x := upI c.c c.p + 8) (by omega) (by omega)
  have q14b := wrapI (x := 4 * c.s) (by omega) (by omega)
  have q14c : IntKind.i64.wrap (upI c.c c.p + 8 + 4 * c.s) = slI c := by rw [← eE14]; exact wrapI (by omega) (by omega)
  have q15a := wrapI (x := 2 * c.p) (by omega) (by omega)
  have q15b := wrapI (x := ebI c + 2) (by omega) (by omega)
  have q15c := wrapI (x := ebI c + 2 + c.s) (by omega) (by omega)
  have q15d := wrapI (x := 2 * c.p * (ebI c + 2 + c.s)) (by omega) (by omega)
  have q15e : IntKind.i64.wrap (c.b + 2 * c.p * (ebI c + 2 + c.s)) = mrI c := by rw [← eE15]; exact wrapI (by omega) (by omega)
  clear gL gP gU eE3 eE4 eE7 eE8 eE9 eE10 eE11 eE12 eE13 eE14 eE15 eMX hrb hob hmr hsp hom hoo hrp hlp heb hus hmb hwn hsl hpe l1 l2 l3 l4 l5 l6 hup
  clear b1 b2 p1 p2 s1 s2 c1 c2 w1 w2 w3 m1 m2 hbp
  obtain ⟨BP, hBP⟩ : ∃ x, x = c.b * c.p := ⟨_, rfl⟩
  obtain ⟨MR, hMR⟩ : ∃ x, x = c.m * rbI c := ⟨_, rfl⟩
  obtain ⟨OO, hOO⟩ : ∃ x, x = omI c * obI c := ⟨_, rfl⟩
  obtain ⟨PE, hPE⟩ : ∃ x, x = 2 * c.p * (ebI c + 2 + c.s) := ⟨_, rfl⟩
  rw [← hBP] at k3b k8c q3b q3c q3d q8d q8e
  rw [← hMR] at k4b q4b
  rw [← hOO] at k9b q9b
  rw [← hPE] at q15e
  replace q2 : IntKind.i64.wrap (c.b * c.p) = BP := by rw [hBP]; exact q2
  replace q4a : IntKind.i64.wrap (c.m * rbI c) = MR := by rw [hMR]; exact q4a
  replace q9a : IntKind.i64.wrap (omI c * obI c) = OO := by rw [hOO]; exact q9a
  replace q15d : IntKind.i64.wrap (2 * c.p * (ebI c + 2 + c.s)) = PE := by rw [hPE]; exact q15d
  clear hBP hMR hOO hPE
  generalize upI c.c c.p = U at *
  generalize upI (spI c) c.p = US at *
  have O0 : Ob w (((w.alloc (.cells #[.int .i64 c.b, .int .i64 c.p, .int .i64 c.c, .int .i64 c.s, .int .i64 c.m, .int .i64 c.w, .bool c.f] 29)).alloc (.cells #[.int .i64 0, .int .i64 0, .int .i64 0, .int .i64 0, .int .i64 0, .int .i64 0, .int .i64 0, .int .i64 0, .int .i64 0, .int .i64 0, .int .i64 0] 35)).alloc (.cells #[.int .i64 0, .int .i64 0, .int .i64 0, .int .i64 0, .int .i64 0, .int .i64 0, .int .i64 0, .int .i64 0, .int .i64 0, .int .i64 0, .int .i64 0] 35)) w.heap.size (w.heap.size + 2) (w.heap.size + 1) c [0, 0, 0, 0, 0, 0, 0, 0, 0, 0, 0] := by
    have B1 : Blk (w.alloc (.cells #[.int .i64 c.b, .int .i64 c.p, .int .i64 c.c, .int .i64 c.s, .int .i64 c.m, .int .i64 c.w, .bool c.f] 29)) w.heap.size 7 (ccell c) := blk_alloc w _ 29 7 _ (fun i hi => by
      have : i = 0 ∨ i = 1 ∨ i = 2 ∨ i = 3 ∨ i = 4 ∨ i = 5 ∨ i = 6 := by omega
      rcases this with rfl | rfl | rfl | rfl | rfl | rfl | rfl <;> rfl)
    have B2 : Blk ((w.alloc (.cells #[.int .i64 c.b, .int .i64 c.p, .int .i64 c.c, .int .i64 c.s, .int .i64 c.m, .int .i64 c.w, .bool c.f] 29)).alloc (.cells #[.int .i64 0, .int .i64 0, .int .i64 0, .int .i64 0, .int .i64 0, .int .i64 0, .int .i64 0, .int .i64 0, .int .i64 0, .int .i64 0, .int .i64 0] 35)) (w.heap.size + 1) 11 (fun _ => .int .i64 0) := by
      have := blk_alloc (w.alloc (.cells #[.int .i64 c.b, .int .i64 c.p, .int .i64 c.c, .int .i64 c.s, .int .i64 c.m, .int .i64 c.w, .bool c.f] 29)) #[.int .i64 0, .int .i64 0, .int .i64 0, .int .i64 0, .int .i64 0, .int .i64 0, .int .i64 0, .int .i64 0, .int .i64 0, .int .i64 0, .int .i64 0] 35 11 (fun _ => .int .i64 0) (fun i hi => by
        have : i = 0 ∨ i = 1 ∨ i = 2 ∨ i = 3 ∨ i = 4 ∨ i = 5 ∨ i = 6 ∨ i = 7 ∨ i = 8 ∨ i = 9 ∨ i = 10 := by omega
        rcases this with rfl | rfl | rfl | rfl | rfl | rfl | rfl | rfl | rfl | rfl | rfl <;> rfl)
      rwa [World.size_alloc] at this
    have B3 : Blk (((w.alloc (.cells #[.int .i64 c.b, .int .i64 c.p, .int .i64 c.c, .int .i64 c.s, .int .i64 c.m, .int .i64 c.w, .bool c.f] 29)).alloc (.cells #[.int .i64 0, .int .i64 0, .int .i64 0, .int .i64 0, .int .i64 0, .int .i64 0, .int .i64 0, .int .i64 0, .int .i64 0, .int .i64 0, .int .i64 0] 35)).alloc (.cells #[.int .i64 0, .int .i64 0, .int .i64 0, .int .i64 0, .int .i64 0, .int .i64 0, .int .i64 0, .int .i64 0, .int .i64 0, .int .i64 0, .int .i64 0] 35)) (w.heap.size + 2) 11 (scell [0, 0, 0, 0, 0, 0, 0, 0, 0, 0, 0]) := by
      have := blk_alloc ((w.alloc (.cells #[.int .i64 c.b, .int .i64 c.p, .int .i64 c.c, .int .i64 c.s, .int .i64 c.m, .int .i64 c.w, .bool c.f] 29)).alloc (.cells #[.int .i64 0, .int .i64 0, .int .i64 0, .int .i64 0, .int .i64 0, .int .i64 0, .int .i64 0, .int .i64 0, .int .i64 0, .int .i64 0, .int .i64 0] 35)) #[.int .i64 0, .int .i64 0, .int .i64 0, .int .i64 0, .int .i64 0, .int .i64 0, .int .i64 0, .int .i64 0, .int .i64 0, .int .i64 0, .int .i64 0] 35 11 (scell [0, 0, 0, 0, 0, 0, 0, 0, 0, 0, 0]) (fun i hi => by
        have : i = 0 ∨ i = 1 ∨ i = 2 ∨ i = 3 ∨ i = 4 ∨ i = 5 ∨ i = 6 ∨ i = 7 ∨ i = 8 ∨ i = 9 ∨ i = 10 := by omega
        rcases this with rfl | rfl | rfl | rfl | rfl | rfl | rfl | rfl | rfl | rfl | rfl <;> rfl)
      rwa [World.size_alloc, World.size_alloc] at this
    exact ⟨(B1.alloc _).alloc _, B3, B2.alloc _, ⟨by omega, by omega⟩, ⟨by omega, by omega⟩, (((Keep.refl _ _).alloc _).alloc _).alloc _⟩
  go_enter Try.func15, Try.ntmps15
  go_upto_region 2 with fail
  generalize (((w.alloc (.cells #[.int .i64 c.b, .int .i64 c.p, .int .i64 c.c, .int .i64 c.s, .int .i64 c.m, .int .i64 c.w, .bool c.f] 29)).alloc (.cells #[.int .i64 0, .int .i64 0, .int .i64 0, .int .i64 0, .int .i64 0, .int .i64 0, .int .i64 0, .int .i64 0, .int .i64 0, .int .i64 0, .int .i64 0] 35)).alloc (.cells #[.int .i64 0, .int .i64 0, .int .i64 0, .int .i64 0, .int .i64 0, .int .i64 0, .int .i64 0, .int .i64 0, .int .i64 0, .int .i64 0, .int .i64 0] 35)) = v0 at O0 ⊢
  generalize hg : w.heap.size = g at O0 ⊢
  generalize hh : g + 2 = h at O0 ⊢
  generalize hq : g + 1 = q at O0 ⊢
  clear hg hh hq
  have cc0 : v0.cell? ⟨g, 0, none⟩ = some (.int .i64 c.b) := (O0.cf 0 (by omega)).1
  have cc1 : v0.cell? ⟨g, 1, none⟩ = some (.int .i64 c.p) := (O0.cf 1 (by omega)).1
  go_upto_region 3 with fail
  clear cc0 cc1 q2
  have cc2 : v0.cell? ⟨g, 2, none⟩ = some (.int .i64 c.c) := (O0.cf 2 (by omega)).1
  go_upto_region 4 with fail
  refine (k3a _).mono ?_
  rintro e y3_0 ⟨rfl, k3_0⟩
  have O3_0 := O0.more k3_0
  clear cc2
  go_upto_region 4 with fail
  refine (k3b _).mono ?_
  rintro e y3_1 ⟨rfl, k3_1⟩
  have O3_1 := O3_0.more k3_1
  have cs0 : y3_1.cell? ⟨h, 0, none⟩ = some (.int .i64 (0)) := (O3_1.sz 0 (by omega)).1
  have cz : y3_1.frozen? ⟨h, 0, none⟩ = false := (O3_1.sz 0 (by omega)).2
  go_upto_region 4 with fail
  clear cs0 cz
  have O1 : Ob w (y3_1.setCell ⟨h, 0, none⟩ (.int .i64 (rbI c))) g h q c [rbI c, 0, 0, 0, 0, 0, 0, 0, 0, 0, 0] := O3_1.set 0 _ (by show 0 < 11; omega)
  generalize y3_1.setCell ⟨h, 0, none⟩ (.int .i64 (rbI c)) = v1 at O1 ⊢
  clear k3a k3b q3a q3c q3d
  go_upto_region 4 with fail
  have D4 := O1.more ((Keep.refl (fun _ => False) v1).drew)
  refine wp_region_noPanic ?_
  refine wp_region_held_drew (S := fun w' => True ∧ w'.cell? ⟨g, 4, none⟩ = some (.int .i64 c.m) ∧ w'.cell? ⟨h, 0, none⟩ = some (.int .i64 (rbI c))) (by kernel_rfl) (⟨trivial, (D4.cf 4 (by omega)).1, (D4.sz 0 (by omega)).1⟩) (fun hH0 => ?_)
  refine' wpAnyH_take (i := 0) (oi := { dst := some 21, op := Op.fieldAddr 29 (Operand.tmp 1) 4, type := 0, pos := "ref.go:33", after := #[], guard := none }) (v := _) rfl (by kernel_rfl) (by kernel_rfl) (by kernel_rfl) (fun _ _ _ h => h) (Or.inl ⟨by rfl, ?hyr40⟩) hH0 ?rr40
  case hyr40 => (intro w' hSw; clear hSw; go_simp; try with_reducible rfl)
  simp only [Act.put, List.setIfInBounds_toArray, List.set_cons_zero, List.set_cons_succ]
  refine' wpAnyH_take (i := 1) (oi := { dst := some 22, op := Op.load 3 (Operand.tmp 21), type := 3, pos := "ref.go:33", after := #[{ on := 0, ground := Ground.data }], guard := none }) (v := _) rfl (by kernel_rfl) (by kernel_rfl) (by kernel_rfl) (fun _ _ _ h => h) (Or.inl ⟨by rfl, ?hyr41⟩) hH0 ?rr41
  case hyr41 => (intro w' hSw; obtain ⟨-, z0, z1⟩ := hSw; go_simp; try with_reducible rfl)
  simp only [Act.put, List.setIfInBounds_toArray, List.set_cons_zero, List.set_cons_succ]
  refine' wpAnyH_take (i := 3) (oi := { dst := some 24, op := Op.fieldAddr 29 (Operand.tmp 1) 4, type := 0, pos := "ref.go:33", after := #[], guard := none }) (v := _) rfl (by kernel_rfl) (by kernel_rfl) (by kernel_rfl) (fun _ _ _ h => h) (Or.inl ⟨by rfl, ?hyr43⟩) hH0 ?rr43
  case hyr43 => (intro w' hSw; clear hSw; go_simp; try with_reducible rfl)
  simp only [Act.put, List.setIfInBounds_toArray, List.set_cons_zero, List.set_cons_succ]
  refine' wpAnyH_take (i := 4) (oi := { dst := some 25, op := Op.load 3 (Operand.tmp 24), type := 3, pos := "ref.go:33", after := #[{ on := 3, ground := Ground.data }], guard := none }) (v := _) rfl (by kernel_rfl) (by kernel_rfl) (by kernel_rfl) (fun _ _ _ h => h) (Or.inl ⟨by rfl, ?hyr44⟩) hH0 ?rr44
  case hyr44 => (intro w' hSw; obtain ⟨-, z0, z1⟩ := hSw; go_simp; try with_reducible rfl)
  simp only [Act.put, List.setIfInBounds_toArray, List.set_cons_zero, List.set_cons_succ]
  refine' wpAnyH_take (i := 5) (oi := { dst := some 26, op := Op.fieldAddr 35 (Operand.tmp 3) 0, type := 0, pos := "ref.go:33", after := #[], guard := none }) (v := _) rfl (by kernel_rfl) (by kernel_rfl) (by kernel_rfl) (fun _ _ _ h => h) (Or.inl ⟨by rfl, ?hyr45⟩) hH0 ?rr45
  case hyr45 => (intro w' hSw; clear hSw; go_simp; try with_reducible rfl)
  simp only [Act.put, List.setIfInBounds_toArray, List.set_cons_zero, List.set_cons_succ]
  refine' wpAnyH_take (i := 6) (oi := { dst := some 27, op := Op.load 3 (Operand.tmp 26), type := 3, pos := "ref.go:33", after := #[{ on := 5, ground := Ground.data }], guard := none }) (v := _) rfl (by kernel_rfl) (by kernel_rfl) (by kernel_rfl) (fun _ _ _ h => h) (Or.inl ⟨by rfl, ?hyr46⟩) hH0 ?rr46
  case hyr46 => (intro w' hSw; obtain ⟨-, z0, z1⟩ := hSw; go_simp; try with_reducible rfl)
  simp only [Act.put, List.setIfInBounds_toArray, List.set_cons_zero, List.set_cons_succ]
  refine' wpAnyH_take (i := 7) (oi := { dst := some 28, op := Op.binOp BinOp.mul 3 (Operand.tmp 25) (Operand.tmp 27) 3, type := 3, pos := "ref.go:33", after := #[{ on := 4, ground := Ground.data }, { on := 6, ground := Ground.data }], guard := none }) (v := _) rfl (by kernel_rfl) (by kernel_rfl) (by kernel_rfl) (fun _ _ _ h => h) (Or.inl ⟨by rfl, ?hyr47⟩) hH0 ?rr47
  case hyr47 => (intro w' hSw; clear hSw; go_simp; try with_reducible rfl)
  simp only [Act.put, List.setIfInBounds_toArray, List.set_cons_zero, List.set_cons_succ]
  refine wpAnyH_ready (rs := [2]) (by kernel_rfl) (by simp) ?_
  refine AllReadyH.cons (o := { dst := some 23, op := Op.call { callee := Callee.value (Operand.func 27), args := #[Operand.tmp 22], argTypes := #[3] }, type := 3, pos := "ref.go:33", after := #[{ on := 1, ground := Ground.data }], guard := none }) rfl (fun K hK => ?_) AllReadyH.nil
  refine step_call_want (vs := #[.int .i64 (c.m)]) (R := fun u wz => u = .int .i64 (lV c.m) ∧ Keep (fun _ => False) v1.drew wz) (by rfl) 27 #[Operand.tmp 22] #[3] rfl (by simp [Act.eval]) call25 (post_of (k4a _)) ?_
  rintro _ y4_0 ⟨rfl, k4_0⟩
  refine hK.out _ _ (⟨trivial, ((D4.more k4_0).cf 4 (by omega)).1, ((D4.more k4_0).sz 0 (by omega)).1⟩) (fun hH1 => ?_)
  clear hK K hH0
  simp only [Act.put, List.setIfInBounds_toArray, List.set_cons_zero, List.set_cons_succ]
  refine' wpAnyH_take (i := 8) (oi := { dst := some 29, op := Op.binOp BinOp.add 3 (Operand.tmp 23) (Operand.tmp 28) 3, type := 3, pos := "ref.go:33", after := #[{ on := 2, ground := Ground.data }, { on := 7, ground := Ground.data }], guard := none }) (v := _) rfl (by kernel_rfl) (by kernel_rfl) (by kernel_rfl) (fun _ _ _ h => h) (Or.inl ⟨by rfl, ?hyr48⟩) hH1 ?rr48
  case hyr48 => (intro w' hSw; clear hSw; go_simp; try with_reducible rfl)
  simp only [Act.put, List.setIfInBounds_toArray, List.set_cons_zero, List.set_cons_succ]
  refine wpAnyH_ready (rs := [9]) (by kernel_rfl) (by simp) ?_
  refine AllReadyH.cons (o := { dst := some 30, op := Op.call { callee := Callee.value (Operand.func 28), args := #[Operand.tmp 29], argTypes := #[3] }, type := 3, pos := "ref.go:33", after := #[{ on := 8, ground := Ground.data }, { on := 2, ground := Ground.chain }], guard := none }) rfl (fun K hK => ?_) AllReadyH.nil
  refine step_call_want (vs := #[.int .i64 (lV c.m + MR)]) (R := fun u wz => u = .int .i64 (spI c) ∧ Keep (fun _ => False) y4_0 wz) (by rfl) 28 #[Operand.tmp 29] #[3] rfl (by simp [Act.eval]) call26 (post_of (k4b _)) ?_
  rintro _ y4_1 ⟨rfl, k4_1⟩
  refine hK.out _ _ (⟨trivial, (((D4.more k4_0).more k4_1).cf 4 (by omega)).1, (((D4.more k4_0).more k4_1).sz 0 (by omega)).1⟩) (fun hH2 => ?_)
  clear hK K hH1
  simp only [Act.put, List.setIfInBounds_toArray, List.set_cons_zero, List.set_cons_succ]
  refine' wpAnyH_take (i := 10) (oi := { dst := some 31, op := Op.fieldAddr 35 (Operand.tmp 3) 1, type := 0, pos := "ref.go:33", after := #[{ on := 0, ground := Ground.phase }, { on := 1, ground := Ground.phase }, { on := 2, ground := Ground.phase }, { on := 3, ground := Ground.phase }, { on := 4, ground := Ground.phase }, { on := 5, ground := Ground.phase }, { on := 6, ground := Ground.phase }, { on := 7, ground := Ground.phase }, { on := 8, ground := Ground.phase }, { on := 9, ground := Ground.phase }], guard := none }) (v := _) rfl (by kernel_rfl) (by kernel_rfl) (by kernel_rfl) (fun _ _ _ h => h) (Or.inl ⟨by rfl, ?hyr410⟩) hH2 ?rr410
  case hyr410 => (intro w' hSw; clear hSw; go_simp; try with_reducible rfl)
  simp only [Act.put, List.setIfInBounds_toArray, List.set_cons_zero, List.set_cons_succ]
  refine wpAnyH_ready (rs := [11]) (by kernel_rfl) (by simp) ?_
  refine AllReadyH.cons (o := { dst := none, op := Op.store 3 (Operand.tmp 31) (Operand.tmp 30), type := 0, pos := "ref.go:33", after := #[{ on := 10, ground := Ground.data }, { on := 9, ground := Ground.data }, { on := 9, ground := Ground.chain }, { on := 0, ground := Ground.phase }, { on := 1, ground := Ground.phase }, { on := 2, ground := Ground.phase }, { on := 3, ground := Ground.phase }, { on := 4, ground := Ground.phase }, { on := 5, ground := Ground.phase }, { on := 6, ground := Ground.phase }, { on := 7, ground := Ground.phase }, { on := 8, ground := Ground.phase }, { on := 9, ground := Ground.phase }], guard := none }) rfl (fun K hK => ?_) AllReadyH.nil
  refine step_store_run (by rfl) 3 (.tmp 31) (.tmp 30) rfl (by rfl) (by rfl) (store3 (((D4.more k4_0).more k4_1).sz 1 (by omega)).1 (((D4.more k4_0).more k4_1).sz 1 (by omega)).2) ?_
  refine hK.out _ _ (⟨trivial, ((show Ob w (y4_1.setCell ⟨h, 1, none⟩ (.int .i64 (spI c))) g h q c [rbI c, spI c, 0, 0, 0, 0, 0, 0, 0, 0, 0] from ((D4.more k4_0).more k4_1).set 1 _ (by show 1 < 11; omega)).cf 4 (by omega)).1, ((show Ob w (y4_1.setCell ⟨h, 1, none⟩ (.int .i64 (spI c))) g h q c [rbI c, spI c, 0, 0, 0, 0, 0, 0, 0, 0, 0] from ((D4.more k4_0).more k4_1).set 1 _ (by show 1 < 11; omega)).sz 0 (by omega)).1⟩) (fun hH3 => ?_)
  clear hK K hH2
  simp only [Act.put]
  refine wpAnyH_done (by kernel_rfl) ?_ _
  refine NoPanic.normal ?_
  have O2_ := ((D4.more k4_0).more k4_1)
  have O3 : Ob w (y4_1.setCell ⟨h, 1, none⟩ (.int .i64 (spI c))) g h q c [rbI c, spI c, 0, 0, 0, 0, 0, 0, 0, 0, 0] := O2_.set 1 _ (by show 1 < 11; omega)
  generalize y4_1.setCell ⟨h, 1, none⟩ (.int .i64 (spI c)) = v3 at O3 ⊢
  clear k4a k4b q4a q4b
  have cc1 : v3.cell? ⟨g, 1, none⟩ = some (.int .i64 c.p) := (O3.cf 1 (by omega)).1
  have cc3 : v3.cell? ⟨g, 3, none⟩ = some (.int .i64 c.s) := (O3.cf 3 (by omega)).1
  have cs2 : v3.cell? ⟨h, 2, none⟩ = some (.int .i64 (0)) := (O3.sz 2 (by omega)).1
  have cz : v3.frozen? ⟨h, 2, none⟩ = false := (O3.sz 2 (by omega)).2
  go_upto_region 6 with fail
  clear cc1 cc3 cs2 cz
  have O4 : Ob w (v3.setCell ⟨h, 2, none⟩ (.int .i64 (omI c))) g h q c [rbI c, spI c, omI c, 0, 0, 0, 0, 0, 0, 0, 0] := O3.set 2 _ (by show 2 < 11; omega)
  generalize v3.setCell ⟨h, 2, none⟩ (.int .i64 (omI c)) = v4 at O4 ⊢
  go_upto_region 6 with fail
  have D6 := O4.more ((Keep.refl (fun _ => False) v4).drew)
  refine wp_region_noPanic ?_
  refine wp_region_held_drew (S := fun w' => True ∧ w'.cell? ⟨g, 1, none⟩ = some (.int .i64 c.p) ∧ w'.cell? ⟨g, 2, none⟩ = some (.int .i64 c.c)) (by kernel_rfl) (⟨trivial, (D6.cf 1 (by omega)).1, (D6.cf 2 (by omega)).1⟩) (fun hH0 => ?_)
  refine' wpAnyH_take (i := 0) (oi := { dst := some 39, op := Op.fieldAddr 29 (Operand.tmp 1) 2, type := 0, pos := "ref.go:35", after := #[], guard := none }) (v := _) rfl (by kernel_rfl) (by kernel_rfl) (by kernel_rfl) (fun _ _ _ h => h) (Or.inl ⟨by rfl, ?hyr60⟩) hH0 ?rr60
  case hyr60 => (intro w' hSw; clear hSw; go_simp; try with_reducible rfl)
  simp only [Act.put, List.setIfInBounds_toArray, List.set_cons_zero, List.set_cons_succ]
  refine' wpAnyH_take (i := 1) (oi := { dst := some 40, op := Op.load 3 (Operand.tmp 39), type := 3, pos := "ref.go:35", after := #[{ on := 0, ground := Ground.data }], guard := none }) (v := _) rfl (by kernel_rfl) (by kernel_rfl) (by kernel_rfl) (fun _ _ _ h => h) (Or.inl ⟨by rfl, ?hyr61⟩) hH0 ?rr61
  case hyr61 => (intro w' hSw; obtain ⟨-, z0, z1⟩ := hSw; go_simp; try with_reducible rfl)
  simp only [Act.put, List.setIfInBounds_toArray, List.set_cons_zero, List.set_cons_succ]
  refine' wpAnyH_take (i := 2) (oi := { dst := some 41, op := Op.fieldAddr 29 (Operand.tmp 1) 1, type := 0, pos := "ref.go:35", after := #[], guard := none }) (v := _) rfl (by kernel_rfl) (by kernel_rfl) (by kernel_rfl) (fun _ _ _ h => h) (Or.inl ⟨by rfl, ?hyr62⟩) hH0 ?rr62
  case hyr62 => (intro w' hSw; clear hSw; go_simp; try with_reducible rfl)
  simp only [Act.put, List.setIfInBounds_toArray, List.set_cons_zero, List.set_cons_succ]
  refine' wpAnyH_take (i := 3) (oi := { dst := some 42, op := Op.load 3 (Operand.tmp 41), type := 3, pos := "ref.go:35", after := #[{ on := 2, ground := Ground.data }], guard := none }) (v := _) rfl (by kernel_rfl) (by kernel_rfl) (by kernel_rfl) (fun _ _ _ h => h) (Or.inl ⟨by rfl, ?hyr63⟩) hH0 ?rr63
  case hyr63 => (intro w' hSw; obtain ⟨-, z0, z1⟩ := hSw; go_simp; try with_reducible rfl)
  simp only [Act.put, List.setIfInBounds_toArray, List.set_cons_zero, List.set_cons_succ]
  refine' wpAnyH_take (i := 5) (oi := { dst := some 44, op := Op.fieldAddr 29 (Operand.tmp 1) 1, type := 0, pos := "ref.go:35", after := #[], guard := none }) (v := _) rfl (by kernel_rfl) (by kernel_rfl) (by kernel_rfl) (fun _ _ _ h => h) (Or.inl ⟨by rfl, ?hyr65⟩) hH0 ?rr65
  case hyr65 => (intro w' hSw; clear hSw; go_simp; try with_reducible rfl)
  simp only [Act.put, List.setIfInBounds_toArray, List.set_cons_zero, List.set_cons_succ]
  refine' wpAnyH_take (i := 6) (oi := { dst := some 45, op := Op.load 3 (Operand.tmp 44), type := 3, pos := "ref.go:35", after := #[{ on := 5, ground := Ground.data }], guard := none }) (v := _) rfl (by kernel_rfl) (by kernel_rfl) (by kernel_rfl) (fun _ _ _ h => h) (Or.inl ⟨by rfl, ?hyr66⟩) hH0 ?rr66
  case hyr66 => (intro w' hSw; obtain ⟨-, z0, z1⟩ := hSw; go_simp; try with_reducible rfl)
  simp only [Act.put, List.setIfInBounds_toArray, List.set_cons_zero, List.set_cons_succ]
  refine wpAnyH_ready (rs := [4]) (by kernel_rfl) (by simp) ?_
  refine AllReadyH.cons (o := { dst := some 43, op := Op.call { callee := Callee.value (Operand.func 29), args := #[Operand.tmp 40, Operand.tmp 42], argTypes := #[3, 3] }, type := 3, pos := "ref.go:35", after := #[{ on := 1, ground := Ground.data }, { on := 3, ground := Ground.data }], guard := none }) rfl (fun K hK => ?_) AllReadyH.nil
  refine step_call_want (vs := #[.int .i64 (c.c), .int .i64 (c.p)]) (R := fun u wz => u = .int .i64 (U) ∧ Keep (fun _ => False) v4.drew wz) (by rfl) 29 #[Operand.tmp 40, Operand.tmp 42] #[3, 3] rfl (by simp [Act.eval]) call27 (post_of (kU _)) ?_
  rintro _ y6_0 ⟨rfl, k6_0⟩
  refine hK.out _ _ (⟨trivial, ((D6.more k6_0).cf 1 (by omega)).1, ((D6.more k6_0).cf 2 (by omega)).1⟩) (fun hH1 => ?_)
  clear hK K hH0
  simp only [Act.put, List.setIfInBounds_toArray, List.set_cons_zero, List.set_cons_succ]
  refine' wpAnyH_take (i := 7) (oi := { dst := some 46, op := Op.binOp BinOp.gtr 3 (Operand.tmp 43) (Operand.tmp 45) 3, type := 4, pos := "ref.go:35", after := #[{ on := 4, ground := Ground.data }, { on := 6, ground := Ground.data }], guard := none }) (v := _) rfl (by kernel_rfl) (by kernel_rfl) (by kernel_rfl) (fun _ _ _ h => h) (Or.inl ⟨by rfl, ?hyr67⟩) hH1 ?rr67
  case hyr67 => (intro w' hSw; clear hSw; go_simp; try with_reducible rfl)
  simp only [Act.put, List.setIfInBounds_toArray, List.set_cons_zero, List.set_cons_succ]
  refine wpAnyH_done (by kernel_rfl) ?_ _
  refine NoPanic.normal ?_
  have O5_ := (D6.more k6_0)
  clear q5b
  go_upto_region 8 with fail
  clear q5a q7 hw
  have D8 := O5_.more ((Keep.refl (fun _ => False) y6_0).drew)
  refine wp_region_noPanic ?_
  refine wp_region_held_drew (S := fun w' => True ∧ w'.cell? ⟨g, 2, none⟩ = some (.int .i64 c.c)) (by kernel_rfl) (⟨trivial, (D8.cf 2 (by omega)).1⟩) (fun hH0 => ?_)
  refine' wpAnyH_take (i := 0) (oi := { dst := some 57, op := Op.fieldAddr 29 (Operand.tmp 1) 2, type := 0, pos := "ref.go:38", after := #[], guard := none }) (v := _) rfl (by kernel_rfl) (by kernel_rfl) (by kernel_rfl) (fun _ _ _ h => h) (Or.inl ⟨by rfl, ?hyr80⟩) hH0 ?rr80
  case hyr80 => (intro w' hSw; clear hSw; go_simp; try with_reducible rfl)
  simp only [Act.put, List.setIfInBounds_toArray, List.set_cons_zero, List.set_cons_succ]
  refine' wpAnyH_take (i := 1) (oi := { dst := some 58, op := Op.load 3 (Operand.tmp 57), type := 3, pos := "ref.go:38", after := #[{ on := 0, ground := Ground.data }], guard := none }) (v := _) rfl (by kernel_rfl) (by kernel_rfl) (by kernel_rfl) (fun _ _ _ h => h) (Or.inl ⟨by rfl, ?hyr81⟩) hH0 ?rr81
  case hyr81 => (intro w' hSw; obtain ⟨-, z0⟩ := hSw; go_simp; try with_reducible rfl)
  simp only [Act.put, List.setIfInBounds_toArray, List.set_cons_zero, List.set_cons_succ]
  refine' wpAnyH_take (i := 2) (oi := { dst := some 59, op := Op.binOp BinOp.mul 3 (Operand.const (Value.int IntKind.i64 2)) (Operand.tmp 58) 3, type := 3, pos := "ref.go:38", after := #[{ on := 1, ground := Ground.data }], guard := none }) (v := _) rfl (by kernel_rfl) (by kernel_rfl) (by kernel_rfl) (fun _ _ _ h => h) (Or.inl ⟨by rfl, ?hyr82⟩) hH0 ?rr82
  case hyr82 => (intro w' hSw; clear hSw; go_simp; try with_reducible rfl)
  simp only [Act.put, List.setIfInBounds_toArray, List.set_cons_zero, List.set_cons_succ]
  refine' wpAnyH_take (i := 3) (oi := { dst := some 60, op := Op.binOp BinOp.add 3 (Operand.tmp 59) (Operand.const (Value.int IntKind.i64 1)) 3, type := 3, pos := "ref.go:38", after := #[{ on := 2, ground := Ground.data }], guard := none }) (v := _) rfl (by kernel_rfl) (by kernel_rfl) (by kernel_rfl) (fun _ _ _ h => h) (Or.inl ⟨by rfl, ?hyr83⟩) hH0 ?rr83
  case hyr83 => (intro w' hSw; clear hSw; go_simp; try with_reducible rfl)
  simp only [Act.put, List.setIfInBounds_toArray, List.set_cons_zero, List.set_cons_succ]
  refine' wpAnyH_take (i := 5) (oi := { dst := some 62, op := Op.fieldAddr 29 (Operand.tmp 1) 2, type := 0, pos := "ref.go:38", after := #[], guard := none }) (v := _) rfl (by kernel_rfl) (by kernel_rfl) (by kernel_rfl) (fun _ _ _ h => h) (Or.inl ⟨by rfl, ?hyr85⟩) hH0 ?rr85
  case hyr85 => (intro w' hSw; clear hSw; go_simp; try with_reducible rfl)
  simp only [Act.put, List.setIfInBounds_toArray, List.set_cons_zero, List.set_cons_succ]
  refine' wpAnyH_take (i := 6) (oi := { dst := some 63, op := Op.load 3 (Operand.tmp 62), type := 3, pos := "ref.go:38", after := #[{ on := 5, ground := Ground.data }], guard := none }) (v := _) rfl (by kernel_rfl) (by kernel_rfl) (by kernel_rfl) (fun _ _ _ h => h) (Or.inl ⟨by rfl, ?hyr86⟩) hH0 ?rr86
  case hyr86 => (intro w' hSw; obtain ⟨-, z0⟩ := hSw; go_simp; try with_reducible rfl)
  simp only [Act.put, List.setIfInBounds_toArray, List.set_cons_zero, List.set_cons_succ]
  refine' wpAnyH_take (i := 9) (oi := { dst := some 66, op := Op.move (Operand.tmp 4), type := 3, pos := "ref.go:38", after := #[], guard := none }) (v := _) rfl (by kernel_rfl) (by kernel_rfl) (by kernel_rfl) (fun _ _ _ h => h) (Or.inl ⟨by rfl, ?hyr89⟩) hH0 ?rr89
  case hyr89 => (intro w' hSw; clear hSw; go_simp; try with_reducible rfl)
  simp only [Act.put, List.setIfInBounds_toArray, List.set_cons_zero, List.set_cons_succ]
  refine' wpAnyH_take (i := 10) (oi := { dst := some 67, op := Op.binOp BinOp.mul 3 (Operand.const (Value.int IntKind.i64 2)) (Operand.tmp 66) 3, type := 3, pos := "ref.go:38", after := #[{ on := 9, ground := Ground.data }], guard := none }) (v := _) rfl (by kernel_rfl) (by kernel_rfl) (by kernel_rfl) (fun _ _ _ h => h) (Or.inl ⟨by rfl, ?hyr810⟩) hH0 ?rr810
  case hyr810 => (intro w' hSw; clear hSw; go_simp; try with_reducible rfl)
  simp only [Act.put, List.setIfInBounds_toArray, List.set_cons_zero, List.set_cons_succ]
  refine' wpAnyH_take (i := 11) (oi := { dst := some 68, op := Op.binOp BinOp.add 3 (Operand.tmp 67) (Operand.const (Value.int IntKind.i64 3)) 3, type := 3, pos := "ref.go:38", after := #[{ on := 10, ground := Ground.data }], guard := none }) (v := _) rfl (by kernel_rfl) (by kernel_rfl) (by kernel_rfl) (fun _ _ _ h => h) (Or.inl ⟨by rfl, ?hyr811⟩) hH0 ?rr811
  case hyr811 => (intro w' hSw; clear hSw; go_simp; try with_reducible rfl)
  simp only [Act.put, List.setIfInBounds_toArray, List.set_cons_zero, List.set_cons_succ]
  refine wpAnyH_ready (rs := [4]) (by kernel_rfl) (by simp) ?_
  refine AllReadyH.cons (o := { dst := some 61, op := Op.call { callee := Callee.value (Operand.func 27), args := #[Operand.tmp 60], argTypes := #[3] }, type := 3, pos := "ref.go:38", after := #[{ on := 3, ground := Ground.data }], guard := none }) rfl (fun K hK => ?_) AllReadyH.nil
  refine step_call_want (vs := #[.int .i64 (2 * c.c + 1)]) (R := fun u wz => u = .int .i64 (lV (2 * c.c + 1)) ∧ Keep (fun _ => False) y6_0.drew wz) (by rfl) 27 #[Operand.tmp 60] #[3] rfl (by simp [Act.eval]) call25 (post_of (k8a _)) ?_
  rintro _ y8_0 ⟨rfl, k8_0⟩
  refine hK.out _ _ (⟨trivial, ((D8.more k8_0).cf 2 (by omega)).1⟩) (fun hH1 => ?_)
  clear hK K hH0
  simp only [Act.put, List.setIfInBounds_toArray, List.set_cons_zero, List.set_cons_succ]
  refine wpAnyH_ready (rs := [7]) (by kernel_rfl) (by simp) ?_
  refine AllReadyH.cons (o := { dst := some 64, op := Op.call { callee := Callee.value (Operand.func 27), args := #[Operand.tmp 63], argTypes := #[3] }, type := 3, pos := "ref.go:38", after := #[{ on := 6, ground := Ground.data }, { on := 4, ground := Ground.chain }], guard := none }) rfl (fun K hK => ?_) AllReadyH.nil
  refine step_call_want (vs := #[.int .i64 (c.c)]) (R := fun u wz => u = .int .i64 (lV c.c) ∧ Keep (fun _ => False) y8_0 wz) (by rfl) 27 #[Operand.tmp 63] #[3] rfl (by simp [Act.eval]) call25 (post_of (k8b _)) ?_
  rintro _ y8_1 ⟨rfl, k8_1⟩
  refine hK.out _ _ (⟨trivial, (((D8.more k8_0).more k8_1).cf 2 (by omega)).1⟩) (fun hH2 => ?_)
  clear hK K hH1
  simp only [Act.put, List.setIfInBounds_toArray, List.set_cons_zero, List.set_cons_succ]
  refine' wpAnyH_take (i := 8) (oi := { dst := some 65, op := Op.binOp BinOp.add 3 (Operand.tmp 61) (Operand.tmp 64) 3, type := 3, pos := "ref.go:38", after := #[{ on := 4, ground := Ground.data }, { on := 7, ground := Ground.data }], guard := none }) (v := _) rfl (by kernel_rfl) (by kernel_rfl) (by kernel_rfl) (fun _ _ _ h => h) (Or.inl ⟨by rfl, ?hyr88⟩) hH2 ?rr88
  case hyr88 => (intro w' hSw; clear hSw; go_simp; try with_reducible rfl)
  simp only [Act.put, List.setIfInBounds_toArray, List.set_cons_zero, List.set_cons_succ]
  refine wpAnyH_ready (rs := [12]) (by kernel_rfl) (by simp) ?_
  refine AllReadyH.cons (o := { dst := some 69, op := Op.call { callee := Callee.value (Operand.func 27), args := #[Operand.tmp 68], argTypes := #[3] }, type := 3, pos := "ref.go:38", after := #[{ on := 11, ground := Ground.data }, { on := 7, ground := Ground.chain }], guard := none }) rfl (fun K hK => ?_) AllReadyH.nil
  refine step_call_want (vs := #[.int .i64 (2 * BP + 3)]) (R := fun u wz => u = .int .i64 (lV (2 * BP + 3)) ∧ Keep (fun _ => False) y8_1 wz) (by rfl) 27 #[Operand.tmp 68] #[3] rfl (by simp [Act.eval]) call25 (post_of (k8c _)) ?_
  rintro _ y8_2 ⟨rfl, k8_2⟩
  refine hK.out _ _ (⟨trivial, ((((D8.more k8_0).more k8_1).more k8_2).cf 2 (by omega)).1⟩) (fun hH3 => ?_)
  clear hK K hH2
  simp only [Act.put, List.setIfInBounds_toArray, List.set_cons_zero, List.set_cons_succ]
  refine' wpAnyH_take (i := 13) (oi := { dst := some 70, op := Op.binOp BinOp.add 3 (Operand.tmp 65) (Operand.tmp 69) 3, type := 3, pos := "ref.go:38", after := #[{ on := 8, ground := Ground.data }, { on := 12, ground := Ground.data }], guard := none }) (v := _) rfl (by kernel_rfl) (by kernel_rfl) (by kernel_rfl) (fun _ _ _ h => h) (Or.inl ⟨by rfl, ?hyr813⟩) hH3 ?rr813
  case hyr813 => (intro w' hSw; clear hSw; go_simp; try with_reducible rfl)
  simp only [Act.put, List.setIfInBounds_toArray, List.set_cons_zero, List.set_cons_succ]
  refine' wpAnyH_take (i := 14) (oi := { dst := some 71, op := Op.fieldAddr 35 (Operand.tmp 3) 3, type := 0, pos := "ref.go:38", after := #[{ on := 0, ground := Ground.phase }, { on := 1, ground := Ground.phase }, { on := 2, ground := Ground.phase }, { on := 3, ground := Ground.phase }, { on := 4, ground := Ground.phase }, { on := 5, ground := Ground.phase }, { on := 6, ground := Ground.phase }, { on := 7, ground := Ground.phase }, { on := 8, ground := Ground.phase }, { on := 9, ground := Ground.phase }, { on := 10, ground := Ground.phase }, { on := 11, ground := Ground.phase }, { on := 12, ground := Ground.phase }, { on := 13, ground := Ground.phase }], guard := none }) (v := _) rfl (by kernel_rfl) (by kernel_rfl) (by kernel_rfl) (fun _ _ _ h => h) (Or.inl ⟨by rfl, ?hyr814⟩) hH3 ?rr814
  case hyr814 => (intro w' hSw; clear hSw; go_simp; try with_reducible rfl)
  simp only [Act.put, List.setIfInBounds_toArray, List.set_cons_zero, List.set_cons_succ]
  refine wpAnyH_ready (rs := [15]) (by kernel_rfl) (by simp) ?_
  refine AllReadyH.cons (o := { dst := none, op := Op.store 3 (Operand.tmp 71) (Operand.tmp 70), type := 0, pos := "ref.go:38", after := #[{ on := 14, ground := Ground.data }, { on := 13, ground := Ground.data }, { on := 12, ground := Ground.chain }, { on := 0, ground := Ground.phase }, { on := 1, ground := Ground.phase }, { on := 2, ground := Ground.phase }, { on := 3, ground := Ground.phase }, { on := 4, ground := Ground.phase }, { on := 5, ground := Ground.phase }, { on := 6, ground := Ground.phase }, { on := 7, ground := Ground.phase }, { on := 8, ground := Ground.phase }, { on := 9, ground := Ground.phase }, { on := 10, ground := Ground.phase }, { on := 11, ground := Ground.phase }, { on := 12, ground := Ground.phase }, { on := 13, ground := Ground.phase }], guard := none }) rfl (fun K hK => ?_) AllReadyH.nil
  refine step_store_run (by rfl) 3 (.tmp 71) (.tmp 70) rfl (by rfl) (by rfl) (store3 ((((D8.more k8_0).more k8_1).more k8_2).sz 3 (by omega)).1 ((((D8.more k8_0).more k8_1).more k8_2).sz 3 (by omega)).2) ?_
  refine hK.out _ _ (⟨trivial, ((show Ob w (y8_2.setCell ⟨h, 3, none⟩ (.int .i64 (obI c))) g h q c [rbI c, spI c, omI c, obI c, 0, 0, 0, 0, 0, 0, 0] from (((D8.more k8_0).more k8_1).more k8_2).set 3 _ (by show 3 < 11; omega)).cf 2 (by omega)).1⟩) (fun hH4 => ?_)
  clear hK K hH3
  simp only [Act.put]
  refine wpAnyH_done (by kernel_rfl) ?_ _
  refine NoPanic.normal ?_
  have O6_ := (((D8.more k8_0).more k8_1).more k8_2)
  have O7 : Ob w (y8_2.setCell ⟨h, 3, none⟩ (.int .i64 (obI c))) g h q c [rbI c, spI c, omI c, obI c, 0, 0, 0, 0, 0, 0, 0] := O6_.set 3 _ (by show 3 < 11; omega)
  generalize y8_2.setCell ⟨h, 3, none⟩ (.int .i64 (obI c)) = v7 at O7 ⊢
  clear k8a k8b k8c q8a q8b q8c q8d q8e q3b
  go_upto_region 9 with fail
  have D9 := O7.more ((Keep.refl (fun _ => False) v7).drew)
  refine wp_region_noPanic ?_
  refine wp_region_held_drew (S := fun w' => True ∧ w'.cell? ⟨h, 2, none⟩ = some (.int .i64 (omI c)) ∧ w'.cell? ⟨h, 3, none⟩ = some (.int .i64 (obI c))) (by kernel_rfl) (⟨trivial, (D9.sz 2 (by omega)).1, (D9.sz 3 (by omega)).1⟩) (fun hH0 => ?_)
  refine' wpAnyH_take (i := 0) (oi := { dst := some 72, op := Op.fieldAddr 35 (Operand.tmp 3) 2, type := 0, pos := "ref.go:39", after := #[], guard := none }) (v := _) rfl (by kernel_rfl) (by kernel_rfl) (by kernel_rfl) (fun _ _ _ h => h) (Or.inl ⟨by rfl, ?hyr90⟩) hH0 ?rr90
  case hyr90 => (intro w' hSw; clear hSw; go_simp; try with_reducible rfl)
  simp only [Act.put, List.setIfInBounds_toArray, List.set_cons_zero, List.set_cons_succ]
  refine' wpAnyH_take (i := 1) (oi := { dst := some 73, op := Op.load 3 (Operand.tmp 72), type := 3, pos := "ref.go:39", after := #[{ on := 0, ground := Ground.data }], guard := none }) (v := _) rfl (by kernel_rfl) (by kernel_rfl) (by kernel_rfl) (fun _ _ _ h => h) (Or.inl ⟨by rfl, ?hyr91⟩) hH0 ?rr91
  case hyr91 => (intro w' hSw; obtain ⟨-, z0, z1⟩ := hSw; go_simp; try with_reducible rfl)
  simp only [Act.put, List.setIfInBounds_toArray, List.set_cons_zero, List.set_cons_succ]
  refine' wpAnyH_take (i := 3) (oi := { dst := some 75, op := Op.fieldAddr 35 (Operand.tmp 3) 2, type := 0, pos := "ref.go:39", after := #[], guard := none }) (v := _) rfl (by kernel_rfl) (by kernel_rfl) (by kernel_rfl) (fun _ _ _ h => h) (Or.inl ⟨by rfl, ?hyr93⟩) hH0 ?rr93
  case hyr93 => (intro w' hSw; clear hSw; go_simp; try with_reducible rfl)
  simp only [Act.put, List.setIfInBounds_toArray, List.set_cons_zero, List.set_cons_succ]
  refine' wpAnyH_take (i := 4) (oi := { dst := some 76, op := Op.load 3 (Operand.tmp 75), type := 3, pos := "ref.go:39", after := #[{ on := 3, ground := Ground.data }], guard := none }) (v := _) rfl (by kernel_rfl) (by kernel_rfl) (by kernel_rfl) (fun _ _ _ h => h) (Or.inl ⟨by rfl, ?hyr94⟩) hH0 ?rr94
  case hyr94 => (intro w' hSw; obtain ⟨-, z0, z1⟩ := hSw; go_simp; try with_reducible rfl)
  simp only [Act.put, List.setIfInBounds_toArray, List.set_cons_zero, List.set_cons_succ]
  refine' wpAnyH_take (i := 5) (oi := { dst := some 77, op := Op.fieldAddr 35 (Operand.tmp 3) 3, type := 0, pos := "ref.go:39", after := #[], guard := none }) (v := _) rfl (by kernel_rfl) (by kernel_rfl) (by kernel_rfl) (fun _ _ _ h => h) (Or.inl ⟨by rfl, ?hyr95⟩) hH0 ?rr95
  case hyr95 => (intro w' hSw; clear hSw; go_simp; try with_reducible rfl)
  simp only [Act.put, List.setIfInBounds_toArray, List.set_cons_zero, List.set_cons_succ]
  refine' wpAnyH_take (i := 6) (oi := { dst := some 78, op := Op.load 3 (Operand.tmp 77), type := 3, pos := "ref.go:39", after := #[{ on := 5, ground := Ground.data }], guard := none }) (v := _) rfl (by kernel_rfl) (by kernel_rfl) (by kernel_rfl) (fun _ _ _ h => h) (Or.inl ⟨by rfl, ?hyr96⟩) hH0 ?rr96
  case hyr96 => (intro w' hSw; obtain ⟨-, z0, z1⟩ := hSw; go_simp; try with_reducible rfl)
  simp only [Act.put, List.setIfInBounds_toArray, List.set_cons_zero, List.set_cons_succ]
  refine' wpAnyH_take (i := 7) (oi := { dst := some 79, op := Op.binOp BinOp.mul 3 (Operand.tmp 76) (Operand.tmp 78) 3, type := 3, pos := "ref.go:39", after := #[{ on := 4, ground := Ground.data }, { on := 6, ground := Ground.data }], guard := none }) (v := _) rfl (by kernel_rfl) (by kernel_rfl) (by kernel_rfl) (fun _ _ _ h => h) (Or.inl ⟨by rfl, ?hyr97⟩) hH0 ?rr97
  case hyr97 => (intro w' hSw; clear hSw; go_simp; try with_reducible rfl)
  simp only [Act.put, List.setIfInBounds_toArray, List.set_cons_zero, List.set_cons_succ]
  refine wpAnyH_ready (rs := [2]) (by kernel_rfl) (by simp) ?_
  refine AllReadyH.cons (o := { dst := some 74, op := Op.call { callee := Callee.value (Operand.func 27), args := #[Operand.tmp 73], argTypes := #[3] }, type := 3, pos := "ref.go:39", after := #[{ on := 1, ground := Ground.data }], guard := none }) rfl (fun K hK => ?_) AllReadyH.nil
  refine step_call_want (vs := #[.int .i64 (omI c)]) (R := fun u wz => u = .int .i64 (lV (omI c)) ∧ Keep (fun _ => False) v7.drew wz) (by rfl) 27 #[Operand.tmp 73] #[3] rfl (by simp [Act.eval]) call25 (post_of (k9a _)) ?_
  rintro _ y9_0 ⟨rfl, k9_0⟩
  refine hK.out _ _ (⟨trivial, ((D9.more k9_0).sz 2 (by omega)).1, ((D9.more k9_0).sz 3 (by omega)).1⟩) (fun hH1 => ?_)
  clear hK K hH0
  simp only [Act.put, List.setIfInBounds_toArray, List.set_cons_zero, List.set_cons_succ]
  refine' wpAnyH_take (i := 8) (oi := { dst := some 80, op := Op.binOp BinOp.add 3 (Operand.tmp 74) (Operand.tmp 79) 3, type := 3, pos := "ref.go:39", after := #[{ on := 2, ground := Ground.data }, { on := 7, ground := Ground.data }], guard := none }) (v := _) rfl (by kernel_rfl) (by kernel_rfl) (by kernel_rfl) (fun _ _ _ h => h) (Or.inl ⟨by rfl, ?hyr98⟩) hH1 ?rr98
  case hyr98 => (intro w' hSw; clear hSw; go_simp; try with_reducible rfl)
  simp only [Act.put, List.setIfInBounds_toArray, List.set_cons_zero, List.set_cons_succ]
  refine wpAnyH_ready (rs := [9]) (by kernel_rfl) (by simp) ?_
  refine AllReadyH.cons (o := { dst := some 81, op := Op.call { callee := Callee.value (Operand.func 28), args := #[Operand.tmp 80], argTypes := #[3] }, type := 3, pos := "ref.go:39", after := #[{ on := 8, ground := Ground.data }, { on := 2, ground := Ground.chain }], guard := none }) rfl (fun K hK => ?_) AllReadyH.nil
  refine step_call_want (vs := #[.int .i64 (lV (omI c) + OO)]) (R := fun u wz => u = .int .i64 (rpI c) ∧ Keep (fun _ => False) y9_0 wz) (by rfl) 28 #[Operand.tmp 80] #[3] rfl (by simp [Act.eval]) call26 (post_of (k9b _)) ?_
  rintro _ y9_1 ⟨rfl, k9_1⟩
  refine hK.out _ _ (⟨trivial, (((D9.more k9_0).more k9_1).sz 2 (by omega)).1, (((D9.more k9_0).more k9_1).sz 3 (by omega)).1⟩) (fun hH2 => ?_)
  clear hK K hH1
  simp only [Act.put, List.setIfInBounds_toArray, List.set_cons_zero, List.set_cons_succ]
  refine' wpAnyH_take (i := 10) (oi := { dst := some 82, op := Op.fieldAddr 35 (Operand.tmp 3) 4, type := 0, pos := "ref.go:39", after := #[{ on := 0, ground := Ground.phase }, { on := 1, ground := Ground.phase }, { on := 2, ground := Ground.phase }, { on := 3, ground := Ground.phase }, { on := 4, ground := Ground.phase }, { on := 5, ground := Ground.phase }, { on := 6, ground := Ground.phase }, { on := 7, ground := Ground.phase }, { on := 8, ground := Ground.phase }, { on := 9, ground := Ground.phase }], guard := none }) (v := _) rfl (by kernel_rfl) (by kernel_rfl) (by kernel_rfl) (fun _ _ _ h => h) (Or.inl ⟨by rfl, ?hyr910⟩) hH2 ?rr910
  case hyr910 => (intro w' hSw; clear hSw; go_simp; try with_reducible rfl)
  simp only [Act.put, List.setIfInBounds_toArray, List.set_cons_zero, List.set_cons_succ]
  refine wpAnyH_ready (rs := [11]) (by kernel_rfl) (by simp) ?_
  refine AllReadyH.cons (o := { dst := none, op := Op.store 3 (Operand.tmp 82) (Operand.tmp 81), type := 0, pos := "ref.go:39", after := #[{ on := 10, ground := Ground.data }, { on := 9, ground := Ground.data }, { on := 9, ground := Ground.chain }, { on := 0, ground := Ground.phase }, { on := 1, ground := Ground.phase }, { on := 2, ground := Ground.phase }, { on := 3, ground := Ground.phase }, { on := 4, ground := Ground.phase }, { on := 5, ground := Ground.phase }, { on := 6, ground := Ground.phase }, { on := 7, ground := Ground.phase }, { on := 8, ground := Ground.phase }, { on := 9, ground := Ground.phase }], guard := none }) rfl (fun K hK => ?_) AllReadyH.nil
  refine step_store_run (by rfl) 3 (.tmp 82) (.tmp 81) rfl (by rfl) (by rfl) (store3 (((D9.more k9_0).more k9_1).sz 4 (by omega)).1 (((D9.more k9_0).more k9_1).sz 4 (by omega)).2) ?_
  refine hK.out _ _ (⟨trivial, ((show Ob w (y9_1.setCell ⟨h, 4, none⟩ (.int .i64 (rpI c))) g h q c [rbI c, spI c, omI c, obI c, rpI c, 0, 0, 0, 0, 0, 0] from ((D9.more k9_0).more k9_1).set 4 _ (by show 4 < 11; omega)).sz 2 (by omega)).1, ((show Ob w (y9_1.setCell ⟨h, 4, none⟩ (.int .i64 (rpI c))) g h q c [rbI c, spI c, omI c, obI c, rpI c, 0, 0, 0, 0, 0, 0] from ((D9.more k9_0).more k9_1).set 4 _ (by show 4 < 11; omega)).sz 3 (by omega)).1⟩) (fun hH3 => ?_)
  clear hK K hH2
  simp only [Act.put]
  refine wpAnyH_done (by kernel_rfl) ?_ _
  refine NoPanic.normal ?_
  have O8_ := ((D9.more k9_0).more k9_1)
  have O9 : Ob w (y9_1.setCell ⟨h, 4, none⟩ (.int .i64 (rpI c))) g h q c [rbI c, spI c, omI c, obI c, rpI c, 0, 0, 0, 0, 0, 0] := O8_.set 4 _ (by show 4 < 11; omega)
  generalize y9_1.setCell ⟨h, 4, none⟩ (.int .i64 (rpI c)) = v9 at O9 ⊢
  clear k9a k9b q9a q9b
  have cc1 : v9.cell? ⟨g, 1, none⟩ = some (.int .i64 c.p) := (O9.cf 1 (by omega)).1
  have cs1 : v9.cell? ⟨h, 1, none⟩ = some (.int .i64 (spI c)) := (O9.sz 1 (by omega)).1
  have cs4 : v9.cell? ⟨h, 4, none⟩ = some (.int .i64 (rpI c)) := (O9.sz 4 (by omega)).1
  have cs5 : v9.cell? ⟨h, 5, none⟩ = some (.int .i64 (0)) := (O9.sz 5 (by omega)).1
  have cz : v9.frozen? ⟨h, 5, none⟩ = false := (O9.sz 5 (by omega)).2
  go_upto_region 11 with fail
  clear cc1 cs1 cs4 cs5 cz
  have O10 : Ob w (v9.setCell ⟨h, 5, none⟩ (.int .i64 (lpI c))) g h q c [rbI c, spI c, omI c, obI c, rpI c, lpI c, 0, 0, 0, 0, 0] := O9.set 5 _ (by show 5 < 11; omega)
  generalize v9.setCell ⟨h, 5, none⟩ (.int .i64 (lpI c)) = v10 at O10 ⊢
  clear q10a q10b q10c
  have cc1 : v10.cell? ⟨g, 1, none⟩ = some (.int .i64 c.p) := (O10.cf 1 (by omega)).1
  have cs1 : v10.cell? ⟨h, 1, none⟩ = some (.int .i64 (spI c)) := (O10.sz 1 (by omega)).1
  have cs5 : v10.cell? ⟨h, 5, none⟩ = some (.int .i64 (lpI c)) := (O10.sz 5 (by omega)).1
  go_upto_region 12 with fail
  refine (k11 _).mono ?_
  rintro e y11_0 ⟨rfl, k11_0⟩
  have O11_0 := O10.more k11_0
  clear cc1 cs1 cs5
  have cs6 : y11_0.cell? ⟨h, 6, none⟩ = some (.int .i64 (0)) := (O11_0.sz 6 (by omega)).1
  have cz : y11_0.frozen? ⟨h, 6, none⟩ = false := (O11_0.sz 6 (by omega)).2
  go_upto_region 12 with fail
  clear cs6 cz
  have O11 : Ob w (y11_0.setCell ⟨h, 6, none⟩ (.int .i64 (ebI c))) g h q c [rbI c, spI c, omI c, obI c, rpI c, lpI c, ebI c, 0, 0, 0, 0] := O11_0.set 6 _ (by show 6 < 11; omega)
  generalize y11_0.setCell ⟨h, 6, none⟩ (.int .i64 (ebI c)) = v11 at O11 ⊢
  clear k11 q11
  go_upto_region 12 with fail
  have D12 := O11.more ((Keep.refl (fun _ => False) v11).drew)
  refine wp_region_noPanic ?_
  refine wp_region_held_drew (S := fun w' => True ∧ w'.cell? ⟨g, 1, none⟩ = some (.int .i64 c.p) ∧ w'.cell? ⟨h, 1, none⟩ = some (.int .i64 (spI c)) ∧ w'.cell? ⟨h, 6, none⟩ = some (.int .i64 (ebI c))) (by kernel_rfl) (⟨trivial, (D12.cf 1 (by omega)).1, (D12.sz 1 (by omega)).1, (D12.sz 6 (by omega)).1⟩) (fun hH0 => ?_)
  refine' wpAnyH_take (i := 0) (oi := { dst := some 102, op := Op.fieldAddr 35 (Operand.tmp 3) 6, type := 0, pos := "ref.go:42", after := #[], guard := none }) (v := _) rfl (by kernel_rfl) (by kernel_rfl) (by kernel_rfl) (fun _ _ _ h => h) (Or.inl ⟨by rfl, ?hyr120⟩) hH0 ?rr120
  case hyr120 => (intro w' hSw; clear hSw; go_simp; try with_reducible rfl)
  simp only [Act.put, List.setIfInBounds_toArray, List.set_cons_zero, List.set_cons_succ]
  refine' wpAnyH_take (i := 1) (oi := { dst := some 103, op := Op.load 3 (Operand.tmp 102), type := 3, pos := "ref.go:42", after := #[{ on := 0, ground := Ground.data }], guard := none }) (v := _) rfl (by kernel_rfl) (by kernel_rfl) (by kernel_rfl) (fun _ _ _ h => h) (Or.inl ⟨by rfl, ?hyr121⟩) hH0 ?rr121
  case hyr121 => (intro w' hSw; obtain ⟨-, z0, z1, z2⟩ := hSw; go_simp; try with_reducible rfl)
  simp only [Act.put, List.setIfInBounds_toArray, List.set_cons_zero, List.set_cons_succ]
  refine' wpAnyH_take (i := 2) (oi := { dst := some 104, op := Op.fieldAddr 35 (Operand.tmp 3) 1, type := 0, pos := "ref.go:42", after := #[], guard := none }) (v := _) rfl (by kernel_rfl) (by kernel_rfl) (by kernel_rfl) (fun _ _ _ h => h) (Or.inl ⟨by rfl, ?hyr122⟩) hH0 ?rr122
  case hyr122 => (intro w' hSw; clear hSw; go_simp; try with_reducible rfl)
  simp only [Act.put, List.setIfInBounds_toArray, List.set_cons_zero, List.set_cons_succ]
  refine' wpAnyH_take (i := 3) (oi := { dst := some 105, op := Op.load 3 (Operand.tmp 104), type := 3, pos := "ref.go:42", after := #[{ on := 2, ground := Ground.data }], guard := none }) (v := _) rfl (by kernel_rfl) (by kernel_rfl) (by kernel_rfl) (fun _ _ _ h => h) (Or.inl ⟨by rfl, ?hyr123⟩) hH0 ?rr123
  case hyr123 => (intro w' hSw; obtain ⟨-, z0, z1, z2⟩ := hSw; go_simp; try with_reducible rfl)
  simp only [Act.put, List.setIfInBounds_toArray, List.set_cons_zero, List.set_cons_succ]
  refine' wpAnyH_take (i := 4) (oi := { dst := some 106, op := Op.fieldAddr 29 (Operand.tmp 1) 1, type := 0, pos := "ref.go:42", after := #[], guard := none }) (v := _) rfl (by kernel_rfl) (by kernel_rfl) (by kernel_rfl) (fun _ _ _ h => h) (Or.inl ⟨by rfl, ?hyr124⟩) hH0 ?rr124
  case hyr124 => (intro w' hSw; clear hSw; go_simp; try with_reducible rfl)
  simp only [Act.put, List.setIfInBounds_toArray, List.set_cons_zero, List.set_cons_succ]
  refine' wpAnyH_take (i := 5) (oi := { dst := some 107, op := Op.load 3 (Operand.tmp 106), type := 3, pos := "ref.go:42", after := #[{ on := 4, ground := Ground.data }], guard := none }) (v := _) rfl (by kernel_rfl) (by kernel_rfl) (by kernel_rfl) (fun _ _ _ h => h) (Or.inl ⟨by rfl, ?hyr125⟩) hH0 ?rr125
  case hyr125 => (intro w' hSw; obtain ⟨-, z0, z1, z2⟩ := hSw; go_simp; try with_reducible rfl)
  simp only [Act.put, List.setIfInBounds_toArray, List.set_cons_zero, List.set_cons_succ]
  refine wpAnyH_ready (rs := [6]) (by kernel_rfl) (by simp) ?_
  refine AllReadyH.cons (o := { dst := some 108, op := Op.call { callee := Callee.value (Operand.func 29), args := #[Operand.tmp 105, Operand.tmp 107], argTypes := #[3, 3] }, type := 3, pos := "ref.go:42", after := #[{ on := 3, ground := Ground.data }, { on := 5, ground := Ground.data }], guard := none }) rfl (fun K hK => ?_) AllReadyH.nil
  refine step_call_want (vs := #[.int .i64 (spI c), .int .i64 (c.p)]) (R := fun u wz => u = .int .i64 (US) ∧ Keep (fun _ => False) v11.drew wz) (by rfl) 29 #[Operand.tmp 105, Operand.tmp 107] #[3, 3] rfl (by simp [Act.eval]) call27 (post_of (k12 _)) ?_
  rintro _ y12_0 ⟨rfl, k12_0⟩
  refine hK.out _ _ (⟨trivial, ((D12.more k12_0).cf 1 (by omega)).1, ((D12.more k12_0).sz 1 (by omega)).1, ((D12.more k12_0).sz 6 (by omega)).1⟩) (fun hH1 => ?_)
  clear hK K hH0
  simp only [Act.put, List.setIfInBounds_toArray, List.set_cons_zero, List.set_cons_succ]
  refine' wpAnyH_take (i := 7) (oi := { dst := some 109, op := Op.binOp BinOp.add 3 (Operand.tmp 103) (Operand.tmp 108) 3, type := 3, pos := "ref.go:42", after := #[{ on := 1, ground := Ground.data }, { on := 6, ground := Ground.data }], guard := none }) (v := _) rfl (by kernel_rfl) (by kernel_rfl) (by kernel_rfl) (fun _ _ _ h => h) (Or.inl ⟨by rfl, ?hyr127⟩) hH1 ?rr127
  case hyr127 => (intro w' hSw; clear hSw; go_simp; try with_reducible rfl)
  simp only [Act.put, List.setIfInBounds_toArray, List.set_cons_zero, List.set_cons_succ]
  refine' wpAnyH_take (i := 8) (oi := { dst := some 110, op := Op.binOp BinOp.add 3 (Operand.tmp 109) (Operand.const (Value.int IntKind.i64 3)) 3, type := 3, pos := "ref.go:42", after := #[{ on := 7, ground := Ground.data }], guard := none }) (v := _) rfl (by kernel_rfl) (by kernel_rfl) (by kernel_rfl) (fun _ _ _ h => h) (Or.inl ⟨by rfl, ?hyr128⟩) hH1 ?rr128
  case hyr128 => (intro w' hSw; clear hSw; go_simp; try with_reducible rfl)
  simp only [Act.put, List.setIfInBounds_toArray, List.set_cons_zero, List.set_cons_succ]
  refine' wpAnyH_take (i := 9) (oi := { dst := some 111, op := Op.fieldAddr 35 (Operand.tmp 3) 7, type := 0, pos := "ref.go:42", after := #[{ on := 0, ground := Ground.phase }, { on := 1, ground := Ground.phase }, { on := 2, ground := Ground.phase }, { on := 3, ground := Ground.phase }, { on := 4, ground := Ground.phase }, { on := 5, ground := Ground.phase }, { on := 6, ground := Ground.phase }, { on := 7, ground := Ground.phase }, { on := 8, ground := Ground.phase }], guard := none }) (v := _) rfl (by kernel_rfl) (by kernel_rfl) (by kernel_rfl) (fun _ _ _ h => h) (Or.inl ⟨by rfl, ?hyr129⟩) hH1 ?rr129
  case hyr129 => (intro w' hSw; clear hSw; go_simp; try with_reducible rfl)
  simp only [Act.put, List.setIfInBounds_toArray, List.set_cons_zero, List.set_cons_succ]
  refine wpAnyH_ready (rs := [10]) (by kernel_rfl) (by simp) ?_
  refine AllReadyH.cons (o := { dst := none, op := Op.store 3 (Operand.tmp 111) (Operand.tmp 110), type := 0, pos := "ref.go:42", after := #[{ on := 9, ground := Ground.data }, { on := 8, ground := Ground.data }, { on := 6, ground := Ground.chain }, { on := 0, ground := Ground.phase }, { on := 1, ground := Ground.phase }, { on := 2, ground := Ground.phase }, { on := 3, ground := Ground.phase }, { on := 4, ground := Ground.phase }, { on := 5, ground := Ground.phase }, { on := 6, ground := Ground.phase }, { on := 7, ground := Ground.phase }, { on := 8, ground := Ground.phase }], guard := none }) rfl (fun K hK => ?_) AllReadyH.nil
  refine step_store_run (by rfl) 3 (.tmp 111) (.tmp 110) rfl (by rfl) (by rfl) (store3 ((D12.more k12_0).sz 7 (by omega)).1 ((D12.more k12_0).sz 7 (by omega)).2) ?_
  refine hK.out _ _ (⟨trivial, ((show Ob w (y12_0.setCell ⟨h, 7, none⟩ (.int .i64 (mbI c))) g h q c [rbI c, spI c, omI c, obI c, rpI c, lpI c, ebI c, mbI c, 0, 0, 0] from (D12.more k12_0).set 7 _ (by show 7 < 11; omega)).cf 1 (by omega)).1, ((show Ob w (y12_0.setCell ⟨h, 7, none⟩ (.int .i64 (mbI c))) g h q c [rbI c, spI c, omI c, obI c, rpI c, lpI c, ebI c, mbI c, 0, 0, 0] from (D12.more k12_0).set 7 _ (by show 7 < 11; omega)).sz 1 (by omega)).1, ((show Ob w (y12_0.setCell ⟨h, 7, none⟩ (.int .i64 (mbI c))) g h q c [rbI c, spI c, omI c, obI c, rpI c, lpI c, ebI c, mbI c, 0, 0, 0] from (D12.more k12_0).set 7 _ (by show 7 < 11; omega)).sz 6 (by omega)).1⟩) (fun hH2 => ?_)
  clear hK K hH1
  simp only [Act.put]
  refine wpAnyH_done (by kernel_rfl) ?_ _
  refine NoPanic.normal ?_
  have O12_ := (D12.more k12_0)
  have O13 : Ob w (y12_0.setCell ⟨h, 7, none⟩ (.int .i64 (mbI c))) g h q c [rbI c, spI c, omI c, obI c, rpI c, lpI c, ebI c, mbI c, 0, 0, 0] := O12_.set 7 _ (by show 7 < 11; omega)
  generalize y12_0.setCell ⟨h, 7, none⟩ (.int .i64 (mbI c)) = v13 at O13 ⊢
  clear k12 q12a q12b
  have cc2 : v13.cell? ⟨g, 2, none⟩ = some (.int .i64 c.c) := (O13.cf 2 (by omega)).1
  have cc5 : v13.cell? ⟨g, 5, none⟩ = some (.int .i64 c.w) := (O13.cf 5 (by omega)).1
  go_upto_region 14 with fail
  refine (k13 _).mono ?_
  rintro e y13_0 ⟨rfl, k13_0⟩
  have O13_0 := O13.more k13_0
  clear cc2 cc5
  have cs8 : y13_0.cell? ⟨h, 8, none⟩ = some (.int .i64 (0)) := (O13_0.sz 8 (by omega)).1
  have cz : y13_0.frozen? ⟨h, 8, none⟩ = false := (O13_0.sz 8 (by omega)).2
  go_upto_region 14 with fail
  clear cs8 cz
  have O14 : Ob w (y13_0.setCell ⟨h, 8, none⟩ (.int .i64 (wnI c))) g h q c [rbI c, spI c, omI c, obI c, rpI c, lpI c, ebI c, mbI c, wnI c, 0, 0] := O13_0.set 8 _ (by show 8 < 11; omega)
  generalize y13_0.setCell ⟨h, 8, none⟩ (.int .i64 (wnI c)) = v14 at O14 ⊢
  clear k13
  go_upto_region 14 with fail
  have D14 := O14.more ((Keep.refl (fun _ => False) v14).drew)
  refine wp_region_noPanic ?_
  refine wp_region_held_drew (S := fun w' => True ∧ w'.cell? ⟨g, 1, none⟩ = some (.int .i64 c.p) ∧ w'.cell? ⟨g, 2, none⟩ = some (.int .i64 c.c) ∧ w'.cell? ⟨g, 3, none⟩ = some (.int .i64 c.s)) (by kernel_rfl) (⟨trivial, (D14.cf 1 (by omega)).1, (D14.cf 2 (by omega)).1, (D14.cf 3 (by omega)).1⟩) (fun hH0 => ?_)
  refine' wpAnyH_take (i := 0) (oi := { dst := some 118, op := Op.fieldAddr 29 (Operand.tmp 1) 2, type := 0, pos := "ref.go:44", after := #[], guard := none }) (v := _) rfl (by kernel_rfl) (by kernel_rfl) (by kernel_rfl) (fun _ _ _ h => h) (Or.inl ⟨by rfl, ?hyr140⟩) hH0 ?rr140
  case hyr140 => (intro w' hSw; clear hSw; go_simp; try with_reducible rfl)
  simp only [Act.put, List.setIfInBounds_toArray, List.set_cons_zero, List.set_cons_succ]
  refine' wpAnyH_take (i := 1) (oi := { dst := some 119, op := Op.load 3 (Operand.tmp 118), type := 3, pos := "ref.go:44", after := #[{ on := 0, ground := Ground.data }], guard := none }) (v := _) rfl (by kernel_rfl) (by kernel_rfl) (by kernel_rfl) (fun _ _ _ h => h) (Or.inl ⟨by rfl, ?hyr141⟩) hH0 ?rr141
  case hyr141 => (intro w' hSw; obtain ⟨-, z0, z1, z2⟩ := hSw; go_simp; try with_reducible rfl)
  simp only [Act.put, List.setIfInBounds_toArray, List.set_cons_zero, List.set_cons_succ]
  refine' wpAnyH_take (i := 2) (oi := { dst := some 120, op := Op.fieldAddr 29 (Operand.tmp 1) 1, type := 0, pos := "ref.go:44", after := #[], guard := none }) (v := _) rfl (by kernel_rfl) (by kernel_rfl) (by kernel_rfl) (fun _ _ _ h => h) (Or.inl ⟨by rfl, ?hyr142⟩) hH0 ?rr142
  case hyr142 => (intro w' hSw; clear hSw; go_simp; try with_reducible rfl)
  simp only [Act.put, List.setIfInBounds_toArray, List.set_cons_zero, List.set_cons_succ]
  refine' wpAnyH_take (i := 3) (oi := { dst := some 121, op := Op.load 3 (Operand.tmp 120), type := 3, pos := "ref.go:44", after := #[{ on := 2, ground := Ground.data }], guard := none }) (v := _) rfl (by kernel_rfl) (by kernel_rfl) (by kernel_rfl) (fun _ _ _ h => h) (Or.inl ⟨by rfl, ?hyr143⟩) hH0 ?rr143
  case hyr143 => (intro w' hSw; obtain ⟨-, z0, z1, z2⟩ := hSw; go_simp; try with_reducible rfl)
  simp only [Act.put, List.setIfInBounds_toArray, List.set_cons_zero, List.set_cons_succ]
  refine' wpAnyH_take (i := 6) (oi := { dst := some 124, op := Op.fieldAddr 29 (Operand.tmp 1) 3, type := 0, pos := "ref.go:44", after := #[], guard := none }) (v := _) rfl (by kernel_rfl) (by kernel_rfl) (by kernel_rfl) (fun _ _ _ h => h) (Or.inl ⟨by rfl, ?hyr146⟩) hH0 ?rr146
  case hyr146 => (intro w' hSw; clear hSw; go_simp; try with_reducible rfl)
  simp only [Act.put, List.setIfInBounds_toArray, List.set_cons_zero, List.set_cons_succ]
  refine' wpAnyH_take (i := 7) (oi := { dst := some 125, op := Op.load 3 (Operand.tmp 124), type := 3, pos := "ref.go:44", after := #[{ on := 6, ground := Ground.data }], guard := none }) (v := _) rfl (by kernel_rfl) (by kernel_rfl) (by kernel_rfl) (fun _ _ _ h => h) (Or.inl ⟨by rfl, ?hyr147⟩) hH0 ?rr147
  case hyr147 => (intro w' hSw; obtain ⟨-, z0, z1, z2⟩ := hSw; go_simp; try with_reducible rfl)
  simp only [Act.put, List.setIfInBounds_toArray, List.set_cons_zero, List.set_cons_succ]
  refine' wpAnyH_take (i := 8) (oi := { dst := some 126, op := Op.binOp BinOp.mul 3 (Operand.const (Value.int IntKind.i64 4)) (Operand.tmp 125) 3, type := 3, pos := "ref.go:44", after := #[{ on := 7, ground := Ground.data }], guard := none }) (v := _) rfl (by kernel_rfl) (by kernel_rfl) (by kernel_rfl) (fun _ _ _ h => h) (Or.inl ⟨by rfl, ?hyr148⟩) hH0 ?rr148
  case hyr148 => (intro w' hSw; clear hSw; go_simp; try with_reducible rfl)
  simp only [Act.put, List.setIfInBounds_toArray, List.set_cons_zero, List.set_cons_succ]
  refine wpAnyH_ready (rs := [4]) (by kernel_rfl) (by simp) ?_
  refine AllReadyH.cons (o := { dst := some 122, op := Op.call { callee := Callee.value (Operand.func 29), args := #[Operand.tmp 119, Operand.tmp 121], argTypes := #[3, 3] }, type := 3, pos := "ref.go:44", after := #[{ on := 1, ground := Ground.data }, { on := 3, ground := Ground.data }], guard := none }) rfl (fun K hK => ?_) AllReadyH.nil
  refine step_call_want (vs := #[.int .i64 (c.c), .int .i64 (c.p)]) (R := fun u wz => u = .int .i64 (U) ∧ Keep (fun _ => False) v14.drew wz) (by rfl) 29 #[Operand.tmp 119, Operand.tmp 121] #[3, 3] rfl (by simp [Act.eval]) call27 (post_of (kU _)) ?_
  rintro _ y14_0 ⟨rfl, k14_0⟩
  refine hK.out _ _ (⟨trivial, ((D14.more k14_0).cf 1 (by omega)).1, ((D14.more k14_0).cf 2 (by omega)).1, ((D14.more k14_0).cf 3 (by omega)).1⟩) (fun hH1 => ?_)
  clear hK K hH0
  simp only [Act.put, List.setIfInBounds_toArray, List.set_cons_zero, List.set_cons_succ]
  refine' wpAnyH_take (i := 5) (oi := { dst := some 123, op := Op.binOp BinOp.add 3 (Operand.tmp 122) (Operand.const (Value.int IntKind.i64 8)) 3, type := 3, pos := "ref.go:44", after := #[{ on := 4, ground := Ground.data }], guard := none }) (v := _) rfl (by kernel_rfl) (by kernel_rfl) (by kernel_rfl) (fun _ _ _ h => h) (Or.inl ⟨by rfl, ?hyr145⟩) hH1 ?rr145
  case hyr145 => (intro w' hSw; clear hSw; go_simp; try with_reducible rfl)
  simp only [Act.put, List.setIfInBounds_toArray, List.set_cons_zero, List.set_cons_succ]
  refine' wpAnyH_take (i := 9) (oi := { dst := some 127, op := Op.binOp BinOp.add 3 (Operand.tmp 123) (Operand.tmp 126) 3, type := 3, pos := "ref.go:44", after := #[{ on := 5, ground := Ground.data }, { on := 8, ground := Ground.data }], guard := none }) (v := _) rfl (by kernel_rfl) (by kernel_rfl) (by kernel_rfl) (fun _ _ _ h => h) (Or.inl ⟨by rfl, ?hyr149⟩) hH1 ?rr149
  case hyr149 => (intro w' hSw; clear hSw; go_simp; try with_reducible rfl)
  simp only [Act.put, List.setIfInBounds_toArray, List.set_cons_zero, List.set_cons_succ]
  refine' wpAnyH_take (i := 10) (oi := { dst := some 128, op := Op.fieldAddr 35 (Operand.tmp 3) 9, type := 0, pos := "ref.go:44", after := #[{ on := 0, ground := Ground.phase }, { on := 1, ground := Ground.phase }, { on := 2, ground := Ground.phase }, { on := 3, ground := Ground.phase }, { on := 4, ground := Ground.phase }, { on := 5, ground := Ground.phase }, { on := 6, ground := Ground.phase }, { on := 7, ground := Ground.phase }, { on := 8, ground := Ground.phase }, { on := 9, ground := Ground.phase }], guard := none }) (v := _) rfl (by kernel_rfl) (by kernel_rfl) (by kernel_rfl) (fun _ _ _ h => h) (Or.inl ⟨by rfl, ?hyr1410⟩) hH1 ?rr1410
  case hyr1410 => (intro w' hSw; clear hSw; go_simp; try with_reducible rfl)
  simp only [Act.put, List.setIfInBounds_toArray, List.set_cons_zero, List.set_cons_succ]
  refine wpAnyH_ready (rs := [11]) (by kernel_rfl) (by simp) ?_
  refine AllReadyH.cons (o := { dst := none, op := Op.store 3 (Operand.tmp 128) (Operand.tmp 127), type := 0, pos := "ref.go:44", after := #[{ on := 10, ground := Ground.data }, { on := 9, ground := Ground.data }, { on := 4, ground := Ground.chain }, { on := 0, ground := Ground.phase }, { on := 1, ground := Ground.phase }, { on := 2, ground := Ground.phase }, { on := 3, ground := Ground.phase }, { on := 4, ground := Ground.phase }, { on := 5, ground := Ground.phase }, { on := 6, ground := Ground.phase }, { on := 7, ground := Ground.phase }, { on := 8, ground := Ground.phase }, { on := 9, ground := Ground.phase }], guard := none }) rfl (fun K hK => ?_) AllReadyH.nil
  refine step_store_run (by rfl) 3 (.tmp 128) (.tmp 127) rfl (by rfl) (by rfl) (store3 ((D14.more k14_0).sz 9 (by omega)).1 ((D14.more k14_0).sz 9 (by omega)).2) ?_
  refine hK.out _ _ (⟨trivial, ((show Ob w (y14_0.setCell ⟨h, 9, none⟩ (.int .i64 (slI c))) g h q c [rbI c, spI c, omI c, obI c, rpI c, lpI c, ebI c, mbI c, wnI c, slI c, 0] from (D14.more k14_0).set 9 _ (by show 9 < 11; omega)).cf 1 (by omega)).1, ((show Ob w (y14_0.setCell ⟨h, 9, none⟩ (.int .i64 (slI c))) g h q c [rbI c, spI c, omI c, obI c, rpI c, lpI c, ebI c, mbI c, wnI c, slI c, 0] from (D14.more k14_0).set 9 _ (by show 9 < 11; omega)).cf 2 (by omega)).1, ((show Ob w (y14_0.setCell ⟨h, 9, none⟩ (.int .i64 (slI c))) g h q c [rbI c, spI c, omI c, obI c, rpI c, lpI c, ebI c, mbI c, wnI c, slI c, 0] from (D14.more k14_0).set 9 _ (by show 9 < 11; omega)).cf 3 (by omega)).1⟩) (fun hH2 => ?_)
  clear hK K hH1
  simp only [Act.put]
  refine wpAnyH_done (by kernel_rfl) ?_ _
  refine NoPanic.normal ?_
  have O15_ := (D14.more k14_0)
  have O16 : Ob w (y14_0.setCell ⟨h, 9, none⟩ (.int .i64 (slI c))) g h q c [rbI c, spI c, omI c, obI c, rpI c, lpI c, ebI c, mbI c, wnI c, slI c, 0] := O15_.set 9 _ (by show 9 < 11; omega)
  generalize y14_0.setCell ⟨h, 9, none⟩ (.int .i64 (slI c)) = v16 at O16 ⊢
  clear kU q14a q14b q14c
  have cc0 : v16.cell? ⟨g, 0, none⟩ = some (.int .i64 c.b) := (O16.cf 0 (by omega)).1
  have cc1 : v16.cell? ⟨g, 1, none⟩ = some (.int .i64 c.p) := (O16.cf 1 (by omega)).1
  have cc3 : v16.cell? ⟨g, 3, none⟩ = some (.int .i64 c.s) := (O16.cf 3 (by omega)).1
  have cs6 : v16.cell? ⟨h, 6, none⟩ = some (.int .i64 (ebI c)) := (O16.sz 6 (by omega)).1
  have cs10 : v16.cell? ⟨h, 10, none⟩ = some (.int .i64 (0)) := (O16.sz 10 (by omega)).1
  have cz : v16.frozen? ⟨h, 10, none⟩ = false := (O16.sz 10 (by omega)).2
  go_upto_region 16 with fail
  clear cc0 cc1 cc3 cs6 cs10 cz
  have O17 : Ob w (v16.setCell ⟨h, 10, none⟩ (.int .i64 (mrI c))) g h q c [rbI c, spI c, omI c, obI c, rpI c, lpI c, ebI c, mbI c, wnI c, slI c, mrI c] := O16.set 10 _ (by show 10 < 11; omega)
  generalize v16.setCell ⟨h, 10, none⟩ (.int .i64 (mrI c)) = v17 at O17 ⊢
  clear q15a q15b q15c q15d q15e
  have cs0 : v17.cell? ⟨h, 0, none⟩ = some (.int .i64 (rbI c)) := (O17.sz 0 (by omega)).1
  have cs1 : v17.cell? ⟨h, 1, none⟩ = some (.int .i64 (spI c)) := (O17.sz 1 (by omega)).1
  have cs2 : v17.cell? ⟨h, 2, none⟩ = some (.int .i64 (omI c)) := (O17.sz 2 (by omega)).1
  have cs3 : v17.cell? ⟨h, 3, none⟩ = some (.int .i64 (obI c)) := (O17.sz 3 (by omega)).1
  have cs4 : v17.cell? ⟨h, 4, none⟩ = some (.int .i64 (rpI c)) := (O17.sz 4 (by omega)).1
  have cs5 : v17.cell? ⟨h, 5, none⟩ = some (.int .i64 (lpI c)) := (O17.sz 5 (by omega)).1
  have cs6 : v17.cell? ⟨h, 6, none⟩ = some (.int .i64 (ebI c)) := (O17.sz 6 (by omega)).1
  have cs7 : v17.cell? ⟨h, 7, none⟩ = some (.int .i64 (mbI c)) := (O17.sz 7 (by omega)).1
  have cs8 : v17.cell? ⟨h, 8, none⟩ = some (.int .i64 (wnI c)) := (O17.sz 8 (by omega)).1
  have cs9 : v17.cell? ⟨h, 9, none⟩ = some (.int .i64 (slI c)) := (O17.sz 9 (by omega)).1
  have cs10 : v17.cell? ⟨h, 10, none⟩ = some (.int .i64 (mrI c)) := (O17.sz 10 (by omega)).1
  have cr0 : v17.cell? ⟨q, 0, none⟩ = some (.int .i64 0) := (O17.rs 0 (by omega)).1
  have cf0 : v17.frozen? ⟨q, 0, none⟩ = false := (O17.rs 0 (by omega)).2
  have cr1 : v17.cell? ⟨q, 1, none⟩ = some (.int .i64 0) := (O17.rs 1 (by omega)).1
  have cf1 : v17.frozen? ⟨q, 1, none⟩ = false := (O17.rs 1 (by omega)).2
  have cr2 : v17.cell? ⟨q, 2, none⟩ = some (.int .i64 0) := (O17.rs 2 (by omega)).1
  have cf2 : v17.frozen? ⟨q, 2, none⟩ = false := (O17.rs 2 (by omega)).2
  have cr3 : v17.cell? ⟨q, 3, none⟩ = some (.int .i64 0) := (O17.rs 3 (by omega)).1
  have cf3 : v17.frozen? ⟨q, 3, none⟩ = false := (O17.rs 3 (by omega)).2
  have cr4 : v17.cell? ⟨q, 4, none⟩ = some (.int .i64 0) := (O17.rs 4 (by omega)).1
  have cf4 : v17.frozen? ⟨q, 4, none⟩ = false := (O17.rs 4 (by omega)).2
  have cr5 : v17.cell? ⟨q, 5, none⟩ = some (.int .i64 0) := (O17.rs 5 (by omega)).1
  have cf5 : v17.frozen? ⟨q, 5, none⟩ = false := (O17.rs 5 (by omega)).2
  have cr6 : v17.cell? ⟨q, 6, none⟩ = some (.int .i64 0) := (O17.rs 6 (by omega)).1
  have cf6 : v17.frozen? ⟨q, 6, none⟩ = false := (O17.rs 6 (by omega)).2
  have cr7 : v17.cell? ⟨q, 7, none⟩ = some (.int .i64 0) := (O17.rs 7 (by omega)).1
  have cf7 : v17.frozen? ⟨q, 7, none⟩ = false := (O17.rs 7 (by omega)).2
  have cr8 : v17.cell? ⟨q, 8, none⟩ = some (.int .i64 0) := (O17.rs 8 (by omega)).1
  have cf8 : v17.frozen? ⟨q, 8, none⟩ = false := (O17.rs 8 (by omega)).2
  have cr9 : v17.cell? ⟨q, 9, none⟩ = some (.int .i64 0) := (O17.rs 9 (by omega)).1
  have cf9 : v17.frozen? ⟨q, 9, none⟩ = false := (O17.rs 9 (by omega)).2
  have cr10 : v17.cell? ⟨q, 10, none⟩ = some (.int .i64 0) := (O17.rs 10 (by omega)).1
  have cf10 : v17.frozen? ⟨q, 10, none⟩ = false := (O17.rs 10 (by omega)).2
  have HK := O17.kp
  have hne := O17.ne.2
  have hlo := O17.lo.2
  go_wp2_with fail
  have HZ : Keep (fun _ => False) w (((((((((((v17.setCell ⟨q, 0, none⟩ (.int .i64 (rbI c))).setCell ⟨q, 1, none⟩ (.int .i64 (spI c))).setCell ⟨q, 2, none⟩ (.int .i64 (omI c))).setCell ⟨q, 3, none⟩ (.int .i64 (obI c))).setCell ⟨q, 4, none⟩ (.int .i64 (rpI c))).setCell ⟨q, 5, none⟩ (.int .i64 (lpI c))).setCell ⟨q, 6, none⟩ (.int .i64 (ebI c))).setCell ⟨q, 7, none⟩ (.int .i64 (mbI c))).setCell ⟨q, 8, none⟩ (.int .i64 (wnI c))).setCell ⟨q, 9, none⟩ (.int .i64 (slI c))).setCell ⟨q, 10, none⟩ (.int .i64 (mrI c))) := (((((((((((HK.setCell (p := ⟨q, 0, none⟩) (Or.inr hlo) (.int .i64 (rbI c))).setCell (p := ⟨q, 1, none⟩) (Or.inr hlo) (.int .i64 (spI c))).setCell (p := ⟨q, 2, none⟩) (Or.inr hlo) (.int .i64 (omI c))).setCell (p := ⟨q, 3, none⟩) (Or.inr hlo) (.int .i64 (obI c))).setCell (p := ⟨q, 4, none⟩) (Or.inr hlo) (.int .i64 (rpI c))).setCell (p := ⟨q, 5, none⟩) (Or.inr hlo) (.int .i64 (lpI c))).setCell (p := ⟨q, 6, none⟩) (Or.inr hlo) (.int .i64 (ebI c))).setCell (p := ⟨q, 7, none⟩) (Or.inr hlo) (.int .i64 (mbI c))).setCell (p := ⟨q, 8, none⟩) (Or.inr hlo) (.int .i64 (wnI c))).setCell (p := ⟨q, 9, none⟩) (Or.inr hlo) (.int .i64 (slI c))).setCell (p := ⟨q, 10, none⟩) (Or.inr hlo) (.int .i64 (mrI c)))
  have RZ : Blk (((((((((((v17.setCell ⟨q, 0, none⟩ (.int .i64 (rbI c))).setCell ⟨q, 1, none⟩ (.int .i64 (spI c))).setCell ⟨q, 2, none⟩ (.int .i64 (omI c))).setCell ⟨q, 3, none⟩ (.int .i64 (obI c))).setCell ⟨q, 4, none⟩ (.int .i64 (rpI c))).setCell ⟨q, 5, none⟩ (.int .i64 (lpI c))).setCell ⟨q, 6, none⟩ (.int .i64 (ebI c))).setCell ⟨q, 7, none⟩ (.int .i64 (mbI c))).setCell ⟨q, 8, none⟩ (.int .i64 (wnI c))).setCell ⟨q, 9, none⟩ (.int .i64 (slI c))).setCell ⟨q, 10, none⟩ (.int .i64 (mrI c))) q 11 (scell [rbI c, spI c, omI c, obI c, rpI c, lpI c, ebI c, mbI c, wnI c, slI c, mrI c]) := Blk.congr ((((((((((((O17.rs).set 0 (.int .i64 (rbI c))).set 1 (.int .i64 (spI c))).set 2 (.int .i64 (omI c))).set 3 (.int .i64 (obI c))).set 4 (.int .i64 (rpI c))).set 5 (.int .i64 (lpI c))).set 6 (.int .i64 (ebI c))).set 7 (.int .i64 (mbI c))).set 8 (.int .i64 (wnI c))).set 9 (.int .i64 (slI c))).set 10 (.int .i64 (mrI c))) (fun i hi => by
    have : i = 0 ∨ i = 1 ∨ i = 2 ∨ i = 3 ∨ i = 4 ∨ i = 5 ∨ i = 6 ∨ i = 7 ∨ i = 8 ∨ i = 9 ∨ i = 10 := by omega
    rcases this with rfl | rfl | rfl | rfl | rfl | rfl | rfl | rfl | rfl | rfl | rfl <;> rfl)
  generalize (((((((((((v17.setCell ⟨q, 0, none⟩ (.int .i64 (rbI c))).setCell ⟨q, 1, none⟩ (.int .i64 (spI c))).setCell ⟨q, 2, none⟩ (.int .i64 (omI c))).setCell ⟨q, 3, none⟩ (.int .i64 (obI c))).setCell ⟨q, 4, none⟩ (.int .i64 (rpI c))).setCell ⟨q, 5, none⟩ (.int .i64 (lpI c))).setCell ⟨q, 6, none⟩ (.int .i64 (ebI c))).setCell ⟨q, 7, none⟩ (.int .i64 (mbI c))).setCell ⟨q, 8, none⟩ (.int .i64 (wnI c))).setCell ⟨q, 9, none⟩ (.int .i64 (slI c))).setCell ⟨q, 10, none⟩ (.int .i64 (mrI c))) = wz at HZ RZ ⊢
  clear cs0 cr0 cf0 cs1 cr1 cf1 cs2 cr2 cf2 cs3 cr3 cf3 cs4 cr4 cf4 cs5 cr5 cf5 cs6 cr6 cf6 cs7 cr7 cf7 cs8 cr8 cf8 cs9 cr9 cf9 cs10 cr10 cf10
  refine bodyPost_ret (v := .agg #[.int .i64 (rbI c), .int .i64 (spI c), .int .i64 (omI c), .int .i64 (obI c), .int .i64 (rpI c), .int .i64 (lpI c), .int .i64 (ebI c), .int .i64 (mbI c), .int .i64 (wnI c), .int .i64 (slI c), .int .i64 (mrI c)]) ?_ rfl ⟨rfl, HZ⟩
  rw [results_cell rfl]
  simp [asAddr, Result.andThen, load_sz RZ]
theorem rof_any (w : World) {c : Cf} (hs : Span c) : Calls Try.prog 15 #[.agg #[.int .i64 c.b, .int .i64 c.p, .int .i64 c.c, .int .i64 c.s, .int .i64 c.m, .int .i64 c.w, .bool c.f]] w fun e w' => e = .returned (.agg #[.int .i64 (rbI c), .int .i64 (spI c), .int .i64 (omI c), .int .i64 (obI c), .int .i64 (rpI c), .int .i64 (lpI c), .int .i64 (ebI c), .int .i64 (mbI c), .int .i64 (wnI c), .int .i64 (slI c), .int .i64 (mrI c)]) ∧ Keep (fun _ => False) w w' := by
  by_cases h : c.p < upI c.c c.p
  · exact rof_up w hs h
  · exact rof_pg w hs h
end Tg
end Go.Proofs.Ytoobjmhllfeffaa
