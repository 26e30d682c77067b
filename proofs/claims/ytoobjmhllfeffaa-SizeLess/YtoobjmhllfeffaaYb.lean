/-
  The program's addSnapshot and addRecord.
-/
import Derived.Test.YtoobjmhllfeffaaYa
namespace Go.Proofs.Ytoobjmhllfeffaa
open Go.ChangeShapes Go.WideShapes Go.ChangeAt Go.RowKit
namespace Tg
/-- A Config in g, sizes in h (of one's caller). -/
structure Oc (w0 w : World) (g h : Nat) (c : Cf) (l : List Int) : Prop where
  cf : Blk w g 7 (ccell c)
  sz : Blk w h 11 (scell l)
  ne : g ≠ h
  kp : Keep (fun b => b = h) w0 w
theorem Oc.more {w0 w w' : World} {g h : Nat} {c : Cf} {l : List Int} (o : Oc w0 w g h c l) (k : Keep (fun _ => False) w w') : Oc w0 w' g h c l :=
  ⟨o.cf.keep k (fun e => e), o.sz.keep k (fun e => e), o.ne, o.kp.next k (fun _ _ e => e.elim)⟩
theorem Oc.set {w0 w : World} {g h : Nat} {c : Cf} {l : List Int} (o : Oc w0 w g h c l) (j : Nat) (v : Int) (hj : j < l.length) : Oc w0 (w.setCell ⟨h, j, none⟩ (.int .i64 v)) g h c (l.set j v) := by
  refine ⟨o.cf.other o.ne _, (o.sz.set j _).congr (fun i _ => ?_), o.ne, o.kp.setCell (Or.inl rfl) _⟩
  unfold scell
  rw [List.getD_eq_getElem?_getD, List.getD_eq_getElem?_getD, List.getElem?_set]
  by_cases e : i = j
  · subst e; rw [if_pos rfl, if_pos rfl, if_pos hj]; rfl
  · rw [if_neg e, if_neg (fun x => e x.symm)]
theorem call35 (args : Array Value) (w : World) : (callFunc 35 args).run Try.prog w = .ok (.enter 35 args) w := enters Try.func35 (by kernel_rfl) (by kernel_rfl) args w
theorem call36 (args : Array Value) (w : World) : (callFunc 36 args).run Try.prog w = .ok (.enter 36 args) w := enters Try.func36 (by kernel_rfl) (by kernel_rfl) args w
theorem call33 (args : Array Value) (w : World) : (callFunc 33 args).run Try.prog w = .ok (.enter 33 args) w := enters Try.func33 (by kernel_rfl) (by kernel_rfl) args w
set_option maxRecDepth 100000 in
set_option maxHeartbeats 2000000 in
theorem addSnapshot_any {w : World} {h : Nat} {c : Cf} (hs : Span c) (B : Blk w h 11 (scell [0, 0, 0, 0, 0, 0, 0, 0, 0, 0, 0])) : Calls Try.prog 31 #[.pointer (some ⟨h, 0, none⟩), .agg #[.int .i64 c.b, .int .i64 c.p, .int .i64 c.c, .int .i64 c.s, .int .i64 c.m, .int .i64 c.w, .bool c.f]] w fun e w' => e = .returned (.tuple #[]) ∧ Keep (fun b => b = h) w w' ∧ Blk w' h 11 (scell [rbI c, spI c, 0, 0, 0, 0, 0, 0, 0, 0, 0]) := by
  have hbp := bp_bd hs
  have hrb := rb_bd c
  have hob := ob_bd c
  have hmr := mr_bd hs
  have hsp := sp_bd hs
  have hup := up_p_bd hs
  have hom := om_bd hs
  have hoo := oo_bd hs
  have hrp := rp_bd hs
  obtain ⟨b1, b2, p1, p2, s1, s2, c1, c2, w1, w2, w3, m1, m2⟩ := hs
  have l1 := lV_bd c.c
  have l2 := lV_bd (2 * (c.b * c.p) + 1)
  have l3 := lV_bd c.m
  have l4 := lV_bd (2 * c.c + 1)
  have l5 := lV_bd (2 * (c.b * c.p) + 3)
  have l6 := lV_bd (omI c)
  have eE3 : rbI c = 2 * lV c.c + lV (2 * (c.b * c.p) + 1) := rfl
  have eE4 : spI c = pgI (lV c.m + c.m * rbI c) := rfl
  have eE7 : omI c = 4 + c.s + mxI (upI c.c c.p) c.p := rfl
  have eE8 : obI c = lV (2 * c.c + 1) + lV c.c + lV (2 * (c.b * c.p) + 3) := rfl
  have eE9 : rpI c = pgI (lV (omI c) + omI c * obI c) := rfl
  have gL : ∀ v : Int, 0 ≤ v → v < 16384 → ∀ w : World, Calls Try.prog 35 #[.int .i64 (v)] w fun e w' => e = .returned (.int .i64 (lV v)) ∧ Keep (fun _ => False) w w' := fun v h0 h1 w => same_keep (lenOf_any h0 h1 w)
  have gP : ∀ n : Int, 1 ≤ n → n ≤ 65536 → ∀ w : World, Calls Try.prog 36 #[.int .i64 (n)] w fun e w' => e = .returned (.int .i64 (pgI n)) ∧ Keep (fun _ => False) w w' := fun n h0 h1 w => same_keep (lpages_any h0 h1 w)
  have gU : ∀ a b : Int, 0 ≤ a → 1 ≤ b → a ≤ 1000000000 → b ≤ 1000000000 → ∀ w : World, Calls Try.prog 33 #[.int .i64 (a), .int .i64 (b)] w fun e w' => e = .returned (.int .i64 (upI a b)) ∧ Keep (fun _ => False) w w' := fun a b h0 h1 h2 h3 w => same_keep (up_any h0 h1 h2 h3 w)
  have eBP : 2 * c.b * c.p = 2 * (c.b * c.p) := Int.mul_assoc _ _ _
  have k3a := gL c.c (by omega) (by omega)
  have k3b := gL (2 * (c.b * c.p) + 1) (by omega) (by omega)
  have k4a := gL c.m (by omega) (by omega)
  have k4b := gP (lV c.m + c.m * rbI c) (by omega) (by omega)
  rw [← eE4] at k4b
  have q3a := wrapI (x := 2 * lV c.c) (by omega) (by omega)
  have q3b := wrapI (x := 2 * c.b) (by omega) (by omega)
  have q3c := wrapI (x := 2 * (c.b * c.p)) (by omega) (by omega)
  have q3d := wrapI (x := 2 * (c.b * c.p) + 1) (by omega) (by omega)
  have q3e : IntKind.i64.wrap (2 * lV c.c + lV (2 * (c.b * c.p) + 1)) = rbI c := by rw [← eE3]; exact wrapI (by omega) (by omega)
  have q4a := wrapI (x := c.m * rbI c) (by omega) (by omega)
  have q4b := wrapI (x := lV c.m + c.m * rbI c) (by omega) (by omega)
  clear gL gP gU eE3 eE4 eE7 eE8 eE9 hrb hob hmr hsp hom hoo hrp l1 l2 l3 l4 l5 l6 hup b1 b2 p1 p2 s1 s2 c1 c2 w1 w2 w3 m1 m2 hbp
  obtain ⟨BP, hBP⟩ : ∃ x, x = 2 * (c.b * c.p) := ⟨_, rfl⟩
  obtain ⟨MR, hMR⟩ : ∃ x, x = c.m * rbI c := ⟨_, rfl⟩
  rw [← hBP] at k3b q3d q3e
  rw [← hMR] at k4b q4b
  replace q3c : IntKind.i64.wrap (2 * c.b * c.p) = BP := by rw [hBP, eBP]; exact q3c
  replace q4a : IntKind.i64.wrap (c.m * rbI c) = MR := by rw [hMR]; exact q4a
  clear hBP hMR eBP
  have O0 : Oc w (w.alloc (.cells #[.int .i64 c.b, .int .i64 c.p, .int .i64 c.c, .int .i64 c.s, .int .i64 c.m, .int .i64 c.w, .bool c.f] 29)) w.heap.size h c [0, 0, 0, 0, 0, 0, 0, 0, 0, 0, 0] := ⟨blk_cf w c, B.alloc _, by have := B.lt (by omega); omega, (Keep.refl _ _).alloc _⟩
  go_enter Try.func31, Try.ntmps31
  go_upto_region 1 with fail
  generalize w.alloc (.cells #[.int .i64 c.b, .int .i64 c.p, .int .i64 c.c, .int .i64 c.s, .int .i64 c.m, .int .i64 c.w, .bool c.f] 29) = v0 at O0 ⊢
  generalize w.heap.size = g at O0 ⊢
  clear B
  have D1 := O0.more ((Keep.refl (fun _ => False) v0).drew)
  refine wp_region_noPanic ?_
  refine wp_region_held_drew (S := fun w' => True ∧ w'.cell? ⟨g, 0, none⟩ = some (.int .i64 c.b) ∧ w'.cell? ⟨g, 1, none⟩ = some (.int .i64 c.p) ∧ w'.cell? ⟨g, 2, none⟩ = some (.int .i64 c.c)) (by kernel_rfl) (⟨trivial, (D1.cf 0 (by omega)).1, (D1.cf 1 (by omega)).1, (D1.cf 2 (by omega)).1⟩) (fun hH0 => ?_)
  refine' wpAnyH_take (i := 0) (oi := { dst := some 4, op := Op.move (Operand.tmp 0), type := 48, pos := "size.go:97", after := #[], guard := none }) (v := _) rfl (by kernel_rfl) (by kernel_rfl) (by kernel_rfl) (fun _ _ _ h => h) (Or.inl ⟨by rfl, ?hyr10⟩) hH0 ?rr10
  case hyr10 => (intro w' hSw; clear hSw; go_simp; try with_reducible rfl)
  simp only [Act.put, List.setIfInBounds_toArray, List.set_cons_zero, List.set_cons_succ]
  refine' wpAnyH_take (i := 1) (oi := { dst := some 5, op := Op.fieldAddr 29 (Operand.tmp 3) 2, type := 0, pos := "size.go:97", after := #[], guard := none }) (v := _) rfl (by kernel_rfl) (by kernel_rfl) (by kernel_rfl) (fun _ _ _ h => h) (Or.inl ⟨by rfl, ?hyr11⟩) hH0 ?rr11
  case hyr11 => (intro w' hSw; clear hSw; go_simp; try with_reducible rfl)
  simp only [Act.put, List.setIfInBounds_toArray, List.set_cons_zero, List.set_cons_succ]
  refine' wpAnyH_take (i := 2) (oi := { dst := some 6, op := Op.load 3 (Operand.tmp 5), type := 3, pos := "size.go:97", after := #[{ on := 1, ground := Ground.data }], guard := none }) (v := _) rfl (by kernel_rfl) (by kernel_rfl) (by kernel_rfl) (fun _ _ _ h => h) (Or.inl ⟨by rfl, ?hyr12⟩) hH0 ?rr12
  case hyr12 => (intro w' hSw; obtain ⟨-, z0, z1, z2⟩ := hSw; go_simp; try with_reducible rfl)
  simp only [Act.put, List.setIfInBounds_toArray, List.set_cons_zero, List.set_cons_succ]
  refine' wpAnyH_take (i := 5) (oi := { dst := some 9, op := Op.fieldAddr 29 (Operand.tmp 3) 0, type := 0, pos := "size.go:97", after := #[], guard := none }) (v := _) rfl (by kernel_rfl) (by kernel_rfl) (by kernel_rfl) (fun _ _ _ h => h) (Or.inl ⟨by rfl, ?hyr15⟩) hH0 ?rr15
  case hyr15 => (intro w' hSw; clear hSw; go_simp; try with_reducible rfl)
  simp only [Act.put, List.setIfInBounds_toArray, List.set_cons_zero, List.set_cons_succ]
  refine' wpAnyH_take (i := 6) (oi := { dst := some 10, op := Op.load 3 (Operand.tmp 9), type := 3, pos := "size.go:97", after := #[{ on := 5, ground := Ground.data }], guard := none }) (v := _) rfl (by kernel_rfl) (by kernel_rfl) (by kernel_rfl) (fun _ _ _ h => h) (Or.inl ⟨by rfl, ?hyr16⟩) hH0 ?rr16
  case hyr16 => (intro w' hSw; obtain ⟨-, z0, z1, z2⟩ := hSw; go_simp; try with_reducible rfl)
  simp only [Act.put, List.setIfInBounds_toArray, List.set_cons_zero, List.set_cons_succ]
  refine' wpAnyH_take (i := 7) (oi := { dst := some 11, op := Op.binOp BinOp.mul 3 (Operand.const (Value.int IntKind.i64 2)) (Operand.tmp 10) 3, type := 3, pos := "size.go:97", after := #[{ on := 6, ground := Ground.data }], guard := none }) (v := _) rfl (by kernel_rfl) (by kernel_rfl) (by kernel_rfl) (fun _ _ _ h => h) (Or.inl ⟨by rfl, ?hyr17⟩) hH0 ?rr17
  case hyr17 => (intro w' hSw; clear hSw; go_simp; try with_reducible rfl)
  simp only [Act.put, List.setIfInBounds_toArray, List.set_cons_zero, List.set_cons_succ]
  refine' wpAnyH_take (i := 8) (oi := { dst := some 12, op := Op.fieldAddr 29 (Operand.tmp 3) 1, type := 0, pos := "size.go:97", after := #[], guard := none }) (v := _) rfl (by kernel_rfl) (by kernel_rfl) (by kernel_rfl) (fun _ _ _ h => h) (Or.inl ⟨by rfl, ?hyr18⟩) hH0 ?rr18
  case hyr18 => (intro w' hSw; clear hSw; go_simp; try with_reducible rfl)
  simp only [Act.put, List.setIfInBounds_toArray, List.set_cons_zero, List.set_cons_succ]
  refine' wpAnyH_take (i := 9) (oi := { dst := some 13, op := Op.load 3 (Operand.tmp 12), type := 3, pos := "size.go:97", after := #[{ on := 8, ground := Ground.data }], guard := none }) (v := _) rfl (by kernel_rfl) (by kernel_rfl) (by kernel_rfl) (fun _ _ _ h => h) (Or.inl ⟨by rfl, ?hyr19⟩) hH0 ?rr19
  case hyr19 => (intro w' hSw; obtain ⟨-, z0, z1, z2⟩ := hSw; go_simp; try with_reducible rfl)
  simp only [Act.put, List.setIfInBounds_toArray, List.set_cons_zero, List.set_cons_succ]
  refine' wpAnyH_take (i := 10) (oi := { dst := some 14, op := Op.binOp BinOp.mul 3 (Operand.tmp 11) (Operand.tmp 13) 3, type := 3, pos := "size.go:97", after := #[{ on := 7, ground := Ground.data }, { on := 9, ground := Ground.data }], guard := none }) (v := _) rfl (by kernel_rfl) (by kernel_rfl) (by kernel_rfl) (fun _ _ _ h => h) (Or.inl ⟨by rfl, ?hyr110⟩) hH0 ?rr110
  case hyr110 => (intro w' hSw; clear hSw; go_simp; try with_reducible rfl)
  simp only [Act.put, List.setIfInBounds_toArray, List.set_cons_zero, List.set_cons_succ]
  refine' wpAnyH_take (i := 11) (oi := { dst := some 15, op := Op.binOp BinOp.add 3 (Operand.tmp 14) (Operand.const (Value.int IntKind.i64 1)) 3, type := 3, pos := "size.go:97", after := #[{ on := 10, ground := Ground.data }], guard := none }) (v := _) rfl (by kernel_rfl) (by kernel_rfl) (by kernel_rfl) (fun _ _ _ h => h) (Or.inl ⟨by rfl, ?hyr111⟩) hH0 ?rr111
  case hyr111 => (intro w' hSw; clear hSw; go_simp; try with_reducible rfl)
  simp only [Act.put, List.setIfInBounds_toArray, List.set_cons_zero, List.set_cons_succ]
  refine wpAnyH_ready (rs := [3]) (by kernel_rfl) (by simp) ?_
  refine AllReadyH.cons (o := { dst := some 7, op := Op.call { callee := Callee.value (Operand.func 35), args := #[Operand.tmp 6], argTypes := #[3] }, type := 3, pos := "size.go:97", after := #[{ on := 2, ground := Ground.data }], guard := none }) rfl (fun K hK => ?_) AllReadyH.nil
  refine step_call_want (vs := #[.int .i64 (c.c)]) (R := fun u wz => u = .int .i64 (lV c.c) ∧ Keep (fun _ => False) v0.drew wz) (by rfl) 35 #[Operand.tmp 6] #[3] rfl (by simp [Act.eval]) call35 (post_of (k3a _)) ?_
  rintro _ y1_0 ⟨rfl, k1_0⟩
  refine hK.out _ _ (⟨trivial, ((D1.more k1_0).cf 0 (by omega)).1, ((D1.more k1_0).cf 1 (by omega)).1, ((D1.more k1_0).cf 2 (by omega)).1⟩) (fun hH1 => ?_)
  clear hK K hH0
  simp only [Act.put, List.setIfInBounds_toArray, List.set_cons_zero, List.set_cons_succ]
  refine' wpAnyH_take (i := 4) (oi := { dst := some 8, op := Op.binOp BinOp.mul 3 (Operand.const (Value.int IntKind.i64 2)) (Operand.tmp 7) 3, type := 3, pos := "size.go:97", after := #[{ on := 3, ground := Ground.data }], guard := none }) (v := _) rfl (by kernel_rfl) (by kernel_rfl) (by kernel_rfl) (fun _ _ _ h => h) (Or.inl ⟨by rfl, ?hyr14⟩) hH1 ?rr14
  case hyr14 => (intro w' hSw; clear hSw; go_simp; try with_reducible rfl)
  simp only [Act.put, List.setIfInBounds_toArray, List.set_cons_zero, List.set_cons_succ]
  refine wpAnyH_ready (rs := [12]) (by kernel_rfl) (by simp) ?_
  refine AllReadyH.cons (o := { dst := some 16, op := Op.call { callee := Callee.value (Operand.func 35), args := #[Operand.tmp 15], argTypes := #[3] }, type := 3, pos := "size.go:97", after := #[{ on := 11, ground := Ground.data }, { on := 3, ground := Ground.chain }], guard := none }) rfl (fun K hK => ?_) AllReadyH.nil
  refine step_call_want (vs := #[.int .i64 (BP + 1)]) (R := fun u wz => u = .int .i64 (lV (BP + 1)) ∧ Keep (fun _ => False) y1_0 wz) (by rfl) 35 #[Operand.tmp 15] #[3] rfl (by simp [Act.eval]) call35 (post_of (k3b _)) ?_
  rintro _ y1_1 ⟨rfl, k1_1⟩
  refine hK.out _ _ (⟨trivial, (((D1.more k1_0).more k1_1).cf 0 (by omega)).1, (((D1.more k1_0).more k1_1).cf 1 (by omega)).1, (((D1.more k1_0).more k1_1).cf 2 (by omega)).1⟩) (fun hH2 => ?_)
  clear hK K hH1
  simp only [Act.put, List.setIfInBounds_toArray, List.set_cons_zero, List.set_cons_succ]
  refine' wpAnyH_take (i := 13) (oi := { dst := some 17, op := Op.binOp BinOp.add 3 (Operand.tmp 8) (Operand.tmp 16) 3, type := 3, pos := "size.go:97", after := #[{ on := 4, ground := Ground.data }, { on := 12, ground := Ground.data }], guard := none }) (v := _) rfl (by kernel_rfl) (by kernel_rfl) (by kernel_rfl) (fun _ _ _ h => h) (Or.inl ⟨by rfl, ?hyr113⟩) hH2 ?rr113
  case hyr113 => (intro w' hSw; clear hSw; go_simp; try with_reducible rfl)
  simp only [Act.put, List.setIfInBounds_toArray, List.set_cons_zero, List.set_cons_succ]
  refine' wpAnyH_take (i := 14) (oi := { dst := some 18, op := Op.nilCheck (Operand.tmp 4), type := 0, pos := "size.go:97", after := #[{ on := 0, ground := Ground.data }, { on := 0, ground := Ground.phase }, { on := 1, ground := Ground.phase }, { on := 2, ground := Ground.phase }, { on := 3, ground := Ground.phase }, { on := 4, ground := Ground.phase }, { on := 5, ground := Ground.phase }, { on := 6, ground := Ground.phase }, { on := 7, ground := Ground.phase }, { on := 8, ground := Ground.phase }, { on := 9, ground := Ground.phase }, { on := 10, ground := Ground.phase }, { on := 11, ground := Ground.phase }, { on := 12, ground := Ground.phase }, { on := 13, ground := Ground.phase }], guard := none }) (v := _) rfl (by kernel_rfl) (by kernel_rfl) (by kernel_rfl) (fun _ _ _ h => h) (Or.inl ⟨by rfl, ?hyr114⟩) hH2 ?rr114
  case hyr114 => (intro w' hSw; clear hSw; go_simp; try with_reducible rfl)
  simp only [Act.put, List.setIfInBounds_toArray, List.set_cons_zero, List.set_cons_succ]
  refine' wpAnyH_take (i := 15) (oi := { dst := some 19, op := Op.fieldAddr 24 (Operand.tmp 18) 0, type := 0, pos := "size.go:97", after := #[{ on := 14, ground := Ground.data }, { on := 0, ground := Ground.phase }, { on := 1, ground := Ground.phase }, { on := 2, ground := Ground.phase }, { on := 3, ground := Ground.phase }, { on := 4, ground := Ground.phase }, { on := 5, ground := Ground.phase }, { on := 6, ground := Ground.phase }, { on := 7, ground := Ground.phase }, { on := 8, ground := Ground.phase }, { on := 9, ground := Ground.phase }, { on := 10, ground := Ground.phase }, { on := 11, ground := Ground.phase }, { on := 12, ground := Ground.phase }, { on := 13, ground := Ground.phase }], guard := none }) (v := _) rfl (by kernel_rfl) (by kernel_rfl) (by kernel_rfl) (fun _ _ _ h => h) (Or.inl ⟨by rfl, ?hyr115⟩) hH2 ?rr115
  case hyr115 => (intro w' hSw; clear hSw; go_simp; try with_reducible rfl)
  simp only [Act.put, List.setIfInBounds_toArray, List.set_cons_zero, List.set_cons_succ]
  refine wpAnyH_ready (rs := [16]) (by kernel_rfl) (by simp) ?_
  refine AllReadyH.cons (o := { dst := none, op := Op.store 3 (Operand.tmp 19) (Operand.tmp 17), type := 0, pos := "size.go:97", after := #[{ on := 15, ground := Ground.data }, { on := 13, ground := Ground.data }, { on := 12, ground := Ground.chain }, { on := 0, ground := Ground.phase }, { on := 1, ground := Ground.phase }, { on := 2, ground := Ground.phase }, { on := 3, ground := Ground.phase }, { on := 4, ground := Ground.phase }, { on := 5, ground := Ground.phase }, { on := 6, ground := Ground.phase }, { on := 7, ground := Ground.phase }, { on := 8, ground := Ground.phase }, { on := 9, ground := Ground.phase }, { on := 10, ground := Ground.phase }, { on := 11, ground := Ground.phase }, { on := 12, ground := Ground.phase }, { on := 13, ground := Ground.phase }], guard := none }) rfl (fun K hK => ?_) AllReadyH.nil
  refine step_store_run (by rfl) 3 (.tmp 19) (.tmp 17) rfl (by rfl) (by rfl) (store3 (((D1.more k1_0).more k1_1).sz 0 (by omega)).1 (((D1.more k1_0).more k1_1).sz 0 (by omega)).2) ?_
  refine hK.out _ _ (⟨trivial, ((show Oc w (y1_1.setCell ⟨h, 0, none⟩ (.int .i64 (rbI c))) g h c [rbI c, 0, 0, 0, 0, 0, 0, 0, 0, 0, 0] from ((D1.more k1_0).more k1_1).set 0 _ (by show 0 < 11; omega)).cf 0 (by omega)).1, ((show Oc w (y1_1.setCell ⟨h, 0, none⟩ (.int .i64 (rbI c))) g h c [rbI c, 0, 0, 0, 0, 0, 0, 0, 0, 0, 0] from ((D1.more k1_0).more k1_1).set 0 _ (by show 0 < 11; omega)).cf 1 (by omega)).1, ((show Oc w (y1_1.setCell ⟨h, 0, none⟩ (.int .i64 (rbI c))) g h c [rbI c, 0, 0, 0, 0, 0, 0, 0, 0, 0, 0] from ((D1.more k1_0).more k1_1).set 0 _ (by show 0 < 11; omega)).cf 2 (by omega)).1⟩) (fun hH3 => ?_)
  clear hK K hH2
  simp only [Act.put]
  refine wpAnyH_done (by kernel_rfl) ?_ _
  refine NoPanic.normal ?_
  have O1_ := ((D1.more k1_0).more k1_1)
  have O2 : Oc w (y1_1.setCell ⟨h, 0, none⟩ (.int .i64 (rbI c))) g h c [rbI c, 0, 0, 0, 0, 0, 0, 0, 0, 0, 0] := O1_.set 0 _ (by show 0 < 11; omega)
  generalize y1_1.setCell ⟨h, 0, none⟩ (.int .i64 (rbI c)) = v2 at O2 ⊢
  clear k3a k3b q3a q3b q3c q3d q3e
  go_upto_region 2 with fail
  have D2 := O2.more ((Keep.refl (fun _ => False) v2).drew)
  refine wp_region_noPanic ?_
  refine wp_region_held_drew (S := fun w' => True ∧ w'.cell? ⟨g, 4, none⟩ = some (.int .i64 c.m) ∧ w'.cell? ⟨h, 0, none⟩ = some (.int .i64 (rbI c))) (by kernel_rfl) (⟨trivial, (D2.cf 4 (by omega)).1, (D2.sz 0 (by omega)).1⟩) (fun hH0 => ?_)
  refine' wpAnyH_take (i := 0) (oi := { dst := some 20, op := Op.move (Operand.tmp 0), type := 48, pos := "size.go:98", after := #[], guard := none }) (v := _) rfl (by kernel_rfl) (by kernel_rfl) (by kernel_rfl) (fun _ _ _ h => h) (Or.inl ⟨by rfl, ?hyr20⟩) hH0 ?rr20
  case hyr20 => (intro w' hSw; clear hSw; go_simp; try with_reducible rfl)
  simp only [Act.put, List.setIfInBounds_toArray, List.set_cons_zero, List.set_cons_succ]
  refine' wpAnyH_take (i := 1) (oi := { dst := some 21, op := Op.fieldAddr 29 (Operand.tmp 3) 4, type := 0, pos := "size.go:98", after := #[], guard := none }) (v := _) rfl (by kernel_rfl) (by kernel_rfl) (by kernel_rfl) (fun _ _ _ h => h) (Or.inl ⟨by rfl, ?hyr21⟩) hH0 ?rr21
  case hyr21 => (intro w' hSw; clear hSw; go_simp; try with_reducible rfl)
  simp only [Act.put, List.setIfInBounds_toArray, List.set_cons_zero, List.set_cons_succ]
  refine' wpAnyH_take (i := 2) (oi := { dst := some 22, op := Op.load 3 (Operand.tmp 21), type := 3, pos := "size.go:98", after := #[{ on := 1, ground := Ground.data }], guard := none }) (v := _) rfl (by kernel_rfl) (by kernel_rfl) (by kernel_rfl) (fun _ _ _ h => h) (Or.inl ⟨by rfl, ?hyr22⟩) hH0 ?rr22
  case hyr22 => (intro w' hSw; obtain ⟨-, z0, z1⟩ := hSw; go_simp; try with_reducible rfl)
  simp only [Act.put, List.setIfInBounds_toArray, List.set_cons_zero, List.set_cons_succ]
  refine' wpAnyH_take (i := 4) (oi := { dst := some 24, op := Op.fieldAddr 29 (Operand.tmp 3) 4, type := 0, pos := "size.go:98", after := #[], guard := none }) (v := _) rfl (by kernel_rfl) (by kernel_rfl) (by kernel_rfl) (fun _ _ _ h => h) (Or.inl ⟨by rfl, ?hyr24⟩) hH0 ?rr24
  case hyr24 => (intro w' hSw; clear hSw; go_simp; try with_reducible rfl)
  simp only [Act.put, List.setIfInBounds_toArray, List.set_cons_zero, List.set_cons_succ]
  refine' wpAnyH_take (i := 5) (oi := { dst := some 25, op := Op.load 3 (Operand.tmp 24), type := 3, pos := "size.go:98", after := #[{ on := 4, ground := Ground.data }], guard := none }) (v := _) rfl (by kernel_rfl) (by kernel_rfl) (by kernel_rfl) (fun _ _ _ h => h) (Or.inl ⟨by rfl, ?hyr25⟩) hH0 ?rr25
  case hyr25 => (intro w' hSw; obtain ⟨-, z0, z1⟩ := hSw; go_simp; try with_reducible rfl)
  simp only [Act.put, List.setIfInBounds_toArray, List.set_cons_zero, List.set_cons_succ]
  refine' wpAnyH_take (i := 6) (oi := { dst := some 26, op := Op.move (Operand.tmp 0), type := 48, pos := "size.go:98", after := #[], guard := none }) (v := _) rfl (by kernel_rfl) (by kernel_rfl) (by kernel_rfl) (fun _ _ _ h => h) (Or.inl ⟨by rfl, ?hyr26⟩) hH0 ?rr26
  case hyr26 => (intro w' hSw; clear hSw; go_simp; try with_reducible rfl)
  simp only [Act.put, List.setIfInBounds_toArray, List.set_cons_zero, List.set_cons_succ]
  refine' wpAnyH_take (i := 7) (oi := { dst := some 27, op := Op.nilCheck (Operand.tmp 26), type := 0, pos := "size.go:98", after := #[{ on := 6, ground := Ground.data }], guard := none }) (v := _) rfl (by kernel_rfl) (by kernel_rfl) (by kernel_rfl) (fun _ _ _ h => h) (Or.inl ⟨by rfl, ?hyr27⟩) hH0 ?rr27
  case hyr27 => (intro w' hSw; clear hSw; go_simp; try with_reducible rfl)
  simp only [Act.put, List.setIfInBounds_toArray, List.set_cons_zero, List.set_cons_succ]
  refine' wpAnyH_take (i := 8) (oi := { dst := some 28, op := Op.fieldAddr 24 (Operand.tmp 27) 0, type := 0, pos := "size.go:98", after := #[{ on := 7, ground := Ground.data }], guard := none }) (v := _) rfl (by kernel_rfl) (by kernel_rfl) (by kernel_rfl) (fun _ _ _ h => h) (Or.inl ⟨by rfl, ?hyr28⟩) hH0 ?rr28
  case hyr28 => (intro w' hSw; clear hSw; go_simp; try with_reducible rfl)
  simp only [Act.put, List.setIfInBounds_toArray, List.set_cons_zero, List.set_cons_succ]
  refine' wpAnyH_take (i := 9) (oi := { dst := some 29, op := Op.load 3 (Operand.tmp 28), type := 3, pos := "size.go:98", after := #[{ on := 8, ground := Ground.data }], guard := none }) (v := _) rfl (by kernel_rfl) (by kernel_rfl) (by kernel_rfl) (fun _ _ _ h => h) (Or.inl ⟨by rfl, ?hyr29⟩) hH0 ?rr29
  case hyr29 => (intro w' hSw; obtain ⟨-, z0, z1⟩ := hSw; go_simp; try with_reducible rfl)
  simp only [Act.put, List.setIfInBounds_toArray, List.set_cons_zero, List.set_cons_succ]
  refine' wpAnyH_take (i := 10) (oi := { dst := some 30, op := Op.binOp BinOp.mul 3 (Operand.tmp 25) (Operand.tmp 29) 3, type := 3, pos := "size.go:98", after := #[{ on := 5, ground := Ground.data }, { on := 9, ground := Ground.data }], guard := none }) (v := _) rfl (by kernel_rfl) (by kernel_rfl) (by kernel_rfl) (fun _ _ _ h => h) (Or.inl ⟨by rfl, ?hyr210⟩) hH0 ?rr210
  case hyr210 => (intro w' hSw; clear hSw; go_simp; try with_reducible rfl)
  simp only [Act.put, List.setIfInBounds_toArray, List.set_cons_zero, List.set_cons_succ]
  refine wpAnyH_ready (rs := [3]) (by kernel_rfl) (by simp) ?_
  refine AllReadyH.cons (o := { dst := some 23, op := Op.call { callee := Callee.value (Operand.func 35), args := #[Operand.tmp 22], argTypes := #[3] }, type := 3, pos := "size.go:98", after := #[{ on := 2, ground := Ground.data }], guard := none }) rfl (fun K hK => ?_) AllReadyH.nil
  refine step_call_want (vs := #[.int .i64 (c.m)]) (R := fun u wz => u = .int .i64 (lV c.m) ∧ Keep (fun _ => False) v2.drew wz) (by rfl) 35 #[Operand.tmp 22] #[3] rfl (by simp [Act.eval]) call35 (post_of (k4a _)) ?_
  rintro _ y2_0 ⟨rfl, k2_0⟩
  refine hK.out _ _ (⟨trivial, ((D2.more k2_0).cf 4 (by omega)).1, ((D2.more k2_0).sz 0 (by omega)).1⟩) (fun hH1 => ?_)
  clear hK K hH0
  simp only [Act.put, List.setIfInBounds_toArray, List.set_cons_zero, List.set_cons_succ]
  refine' wpAnyH_take (i := 11) (oi := { dst := some 31, op := Op.binOp BinOp.add 3 (Operand.tmp 23) (Operand.tmp 30) 3, type := 3, pos := "size.go:98", after := #[{ on := 3, ground := Ground.data }, { on := 10, ground := Ground.data }], guard := none }) (v := _) rfl (by kernel_rfl) (by kernel_rfl) (by kernel_rfl) (fun _ _ _ h => h) (Or.inl ⟨by rfl, ?hyr211⟩) hH1 ?rr211
  case hyr211 => (intro w' hSw; clear hSw; go_simp; try with_reducible rfl)
  simp only [Act.put, List.setIfInBounds_toArray, List.set_cons_zero, List.set_cons_succ]
  refine wpAnyH_ready (rs := [12]) (by kernel_rfl) (by simp) ?_
  refine AllReadyH.cons (o := { dst := some 32, op := Op.call { callee := Callee.value (Operand.func 36), args := #[Operand.tmp 31], argTypes := #[3] }, type := 3, pos := "size.go:98", after := #[{ on := 11, ground := Ground.data }, { on := 3, ground := Ground.chain }], guard := none }) rfl (fun K hK => ?_) AllReadyH.nil
  refine step_call_want (vs := #[.int .i64 (lV c.m + MR)]) (R := fun u wz => u = .int .i64 (spI c) ∧ Keep (fun _ => False) y2_0 wz) (by rfl) 36 #[Operand.tmp 31] #[3] rfl (by simp [Act.eval]) call36 (post_of (k4b _)) ?_
  rintro _ y2_1 ⟨rfl, k2_1⟩
  refine hK.out _ _ (⟨trivial, (((D2.more k2_0).more k2_1).cf 4 (by omega)).1, (((D2.more k2_0).more k2_1).sz 0 (by omega)).1⟩) (fun hH2 => ?_)
  clear hK K hH1
  simp only [Act.put, List.setIfInBounds_toArray, List.set_cons_zero, List.set_cons_succ]
  refine' wpAnyH_take (i := 13) (oi := { dst := some 33, op := Op.nilCheck (Operand.tmp 20), type := 0, pos := "size.go:98", after := #[{ on := 0, ground := Ground.data }, { on := 0, ground := Ground.phase }, { on := 1, ground := Ground.phase }, { on := 2, ground := Ground.phase }, { on := 3, ground := Ground.phase }, { on := 4, ground := Ground.phase }, { on := 5, ground := Ground.phase }, { on := 6, ground := Ground.phase }, { on := 7, ground := Ground.phase }, { on := 8, ground := Ground.phase }, { on := 9, ground := Ground.phase }, { on := 10, ground := Ground.phase }, { on := 11, ground := Ground.phase }, { on := 12, ground := Ground.phase }], guard := none }) (v := _) rfl (by kernel_rfl) (by kernel_rfl) (by kernel_rfl) (fun _ _ _ h => h) (Or.inl ⟨by rfl, ?hyr213⟩) hH2 ?rr213
  case hyr213 => (intro w' hSw; clear hSw; go_simp; try with_reducible rfl)
  simp only [Act.put, List.setIfInBounds_toArray, List.set_cons_zero, List.set_cons_succ]
  refine' wpAnyH_take (i := 14) (oi := { dst := some 34, op := Op.fieldAddr 24 (Operand.tmp 33) 1, type := 0, pos := "size.go:98", after := #[{ on := 13, ground := Ground.data }, { on := 0, ground := Ground.phase }, { on := 1, ground := Ground.phase }, { on := 2, ground := Ground.phase }, { on := 3, ground := Ground.phase }, { on := 4, ground := Ground.phase }, { on := 5, ground := Ground.phase }, { on := 6, ground := Ground.phase }, { on := 7, ground := Ground.phase }, { on := 8, ground := Ground.phase }, { on := 9, ground := Ground.phase }, { on := 10, ground := Ground.phase }, { on := 11, ground := Ground.phase }, { on := 12, ground := Ground.phase }], guard := none }) (v := _) rfl (by kernel_rfl) (by kernel_rfl) (by kernel_rfl) (fun _ _ _ h => h) (Or.inl ⟨by rfl, ?hyr214⟩) hH2 ?rr214
  case hyr214 => (intro w' hSw; clear hSw; go_simp; try with_reducible rfl)
  simp only [Act.put, List.setIfInBounds_toArray, List.set_cons_zero, List.set_cons_succ]
  refine wpAnyH_ready (rs := [15]) (by kernel_rfl) (by simp) ?_
  refine AllReadyH.cons (o := { dst := none, op := Op.store 3 (Operand.tmp 34) (Operand.tmp 32), type := 0, pos := "size.go:98", after := #[{ on := 14, ground := Ground.data }, { on := 12, ground := Ground.data }, { on := 12, ground := Ground.chain }, { on := 0, ground := Ground.phase }, { on := 1, ground := Ground.phase }, { on := 2, ground := Ground.phase }, { on := 3, ground := Ground.phase }, { on := 4, ground := Ground.phase }, { on := 5, ground := Ground.phase }, { on := 6, ground := Ground.phase }, { on := 7, ground := Ground.phase }, { on := 8, ground := Ground.phase }, { on := 9, ground := Ground.phase }, { on := 10, ground := Ground.phase }, { on := 11, ground := Ground.phase }, { on := 12, ground := Ground.phase }], guard := none }) rfl (fun K hK => ?_) AllReadyH.nil
  refine step_store_run (by rfl) 3 (.tmp 34) (.tmp 32) rfl (by rfl) (by rfl) (store3 (((D2.more k2_0).more k2_1).sz 1 (by omega)).1 (((D2.more k2_0).more k2_1).sz 1 (by omega)).2) ?_
  refine hK.out _ _ (⟨trivial, ((show Oc w (y2_1.setCell ⟨h, 1, none⟩ (.int .i64 (spI c))) g h c [rbI c, spI c, 0, 0, 0, 0, 0, 0, 0, 0, 0] from ((D2.more k2_0).more k2_1).set 1 _ (by show 1 < 11; omega)).cf 4 (by omega)).1, ((show Oc w (y2_1.setCell ⟨h, 1, none⟩ (.int .i64 (spI c))) g h c [rbI c, spI c, 0, 0, 0, 0, 0, 0, 0, 0, 0] from ((D2.more k2_0).more k2_1).set 1 _ (by show 1 < 11; omega)).sz 0 (by omega)).1⟩) (fun hH3 => ?_)
  clear hK K hH2
  simp only [Act.put]
  refine wpAnyH_done (by kernel_rfl) ?_ _
  refine NoPanic.normal ?_
  have O3_ := ((D2.more k2_0).more k2_1)
  have O4 : Oc w (y2_1.setCell ⟨h, 1, none⟩ (.int .i64 (spI c))) g h c [rbI c, spI c, 0, 0, 0, 0, 0, 0, 0, 0, 0] := O3_.set 1 _ (by show 1 < 11; omega)
  generalize y2_1.setCell ⟨h, 1, none⟩ (.int .i64 (spI c)) = v4 at O4 ⊢
  have HK := O4.kp
  have HB := O4.sz
  go_wp2_with fail
  refine bodyPost_end (v := .tuple #[]) (results_none rfl _ _ _) rfl ⟨rfl, HK, HB⟩
set_option maxRecDepth 100000 in
set_option maxHeartbeats 2000000 in
theorem addRecord_any {w : World} {h : Nat} {c : Cf} (hs : Span c) (B : Blk w h 11 (scell [rbI c, spI c, 0, 0, 0, 0, 0, 0, 0, 0, 0])) : Calls Try.prog 32 #[.pointer (some ⟨h, 0, none⟩), .agg #[.int .i64 c.b, .int .i64 c.p, .int .i64 c.c, .int .i64 c.s, .int .i64 c.m, .int .i64 c.w, .bool c.f]] w fun e w' => e = .returned (.tuple #[]) ∧ Keep (fun b => b = h) w w' ∧ Blk w' h 11 (scell [rbI c, spI c, omI c, obI c, rpI c, 0, 0, 0, 0, 0, 0]) := by
  have hbp := bp_bd hs
  have hrb := rb_bd c
  have hob := ob_bd c
  have hmr := mr_bd hs
  have hsp := sp_bd hs
  have hup := up_p_bd hs
  have hom := om_bd hs
  have hoo := oo_bd hs
  have hrp := rp_bd hs
  obtain ⟨b1, b2, p1, p2, s1, s2, c1, c2, w1, w2, w3, m1, m2⟩ := hs
  have l1 := lV_bd c.c
  have l2 := lV_bd (2 * (c.b * c.p) + 1)
  have l3 := lV_bd c.m
  have l4 := lV_bd (2 * c.c + 1)
  have l5 := lV_bd (2 * (c.b * c.p) + 3)
  have l6 := lV_bd (omI c)
  have eE3 : rbI c = 2 * lV c.c + lV (2 * (c.b * c.p) + 1) := rfl
  have eE4 : spI c = pgI (lV c.m + c.m * rbI c) := rfl
  have eE7 : omI c = 4 + c.s + mxI (upI c.c c.p) c.p := rfl
  have eE8 : obI c = lV (2 * c.c + 1) + lV c.c + lV (2 * (c.b * c.p) + 3) := rfl
  have eE9 : rpI c = pgI (lV (omI c) + omI c * obI c) := rfl
  have gL : ∀ v : Int, 0 ≤ v → v < 16384 → ∀ w : World, Calls Try.prog 35 #[.int .i64 (v)] w fun e w' => e = .returned (.int .i64 (lV v)) ∧ Keep (fun _ => False) w w' := fun v h0 h1 w => same_keep (lenOf_any h0 h1 w)
  have gP : ∀ n : Int, 1 ≤ n → n ≤ 65536 → ∀ w : World, Calls Try.prog 36 #[.int .i64 (n)] w fun e w' => e = .returned (.int .i64 (pgI n)) ∧ Keep (fun _ => False) w w' := fun n h0 h1 w => same_keep (lpages_any h0 h1 w)
  have gU : ∀ a b : Int, 0 ≤ a → 1 ≤ b → a ≤ 1000000000 → b ≤ 1000000000 → ∀ w : World, Calls Try.prog 33 #[.int .i64 (a), .int .i64 (b)] w fun e w' => e = .returned (.int .i64 (upI a b)) ∧ Keep (fun _ => False) w w' := fun a b h0 h1 h2 h3 w => same_keep (up_any h0 h1 h2 h3 w)
  have eBP : 2 * c.b * c.p = 2 * (c.b * c.p) := Int.mul_assoc _ _ _
  have kU := gU c.c c.p (by omega) (by omega) (by omega) (by omega)
  have hMX := mxI_bd (upI c.c c.p) c.p
  have k8a := gL (2 * c.c + 1) (by omega) (by omega)
  have k8b := gL c.c (by omega) (by omega)
  have k8c := gL (2 * (c.b * c.p) + 3) (by omega) (by omega)
  have k9a := gL (omI c) (by omega) (by omega)
  have k9b := gP (lV (omI c) + omI c * obI c) (by omega) (by omega)
  rw [← eE9] at k9b
  have q5a := wrapI (x := 4 + c.s) (by omega) (by omega)
  have q5b : IntKind.i64.wrap (4 + c.s + mxI (upI c.c c.p) c.p) = omI c := by rw [← eE7]; exact wrapI (by omega) (by omega)
  have q5c : (if upI c.c c.p < c.p then c.p else upI c.c c.p) = mxI (upI c.c c.p) c.p := by unfold mxI; split <;> split <;> omega
  have q8a := wrapI (x := 2 * c.c) (by omega) (by omega)
  have q8b := wrapI (x := 2 * c.c + 1) (by omega) (by omega)
  have q8c := wrapI (x := lV (2 * c.c + 1) + lV c.c) (by omega) (by omega)
  have q8d := wrapI (x := 2 * c.b) (by omega) (by omega)
  have q8e := wrapI (x := 2 * (c.b * c.p)) (by omega) (by omega)
  have q8f := wrapI (x := 2 * (c.b * c.p) + 3) (by omega) (by omega)
  have q8g : IntKind.i64.wrap (lV (2 * c.c + 1) + lV c.c + lV (2 * (c.b * c.p) + 3)) = obI c := by rw [← eE8]; exact wrapI (by omega) (by omega)
  have q9a := wrapI (x := omI c * obI c) (by omega) (by omega)
  have q9b := wrapI (x := lV (omI c) + omI c * obI c) (by omega) (by omega)
  clear hMX
  clear gL gP gU eE3 eE4 eE7 eE8 eE9 hrb hob hmr hsp hom hoo hrp l1 l2 l3 l4 l5 l6 hup b1 b2 p1 p2 s1 s2 c1 c2 w1 w2 w3 m1 m2 hbp
  obtain ⟨BP, hBP⟩ : ∃ x, x = 2 * (c.b * c.p) := ⟨_, rfl⟩
  obtain ⟨OO, hOO⟩ : ∃ x, x = omI c * obI c := ⟨_, rfl⟩
  rw [← hBP] at k8c q8f q8g
  rw [← hOO] at k9b q9b
  replace q8e : IntKind.i64.wrap (2 * c.b * c.p) = BP := by rw [hBP, eBP]; exact q8e
  replace q9a : IntKind.i64.wrap (omI c * obI c) = OO := by rw [hOO]; exact q9a
  clear hBP hOO eBP
  generalize mxI (upI c.c c.p) c.p = MX at q5b q5c
  generalize upI c.c c.p = U at kU q5c
  have O0 : Oc w (w.alloc (.cells #[.int .i64 c.b, .int .i64 c.p, .int .i64 c.c, .int .i64 c.s, .int .i64 c.m, .int .i64 c.w, .bool c.f] 29)) w.heap.size h c [rbI c, spI c, 0, 0, 0, 0, 0, 0, 0, 0, 0] := ⟨blk_cf w c, B.alloc _, by have := B.lt (by omega); omega, (Keep.refl _ _).alloc _⟩
  go_enter Try.func32, Try.ntmps32
  go_upto_region 1 with fail
  generalize w.alloc (.cells #[.int .i64 c.b, .int .i64 c.p, .int .i64 c.c, .int .i64 c.s, .int .i64 c.m, .int .i64 c.w, .bool c.f] 29) = v0 at O0 ⊢
  generalize w.heap.size = g at O0 ⊢
  clear B
  have D1 := O0.more ((Keep.refl (fun _ => False) v0).drew)
  refine wp_region_noPanic ?_
  refine wp_region_held_drew (S := fun w' => True ∧ w'.cell? ⟨g, 1, none⟩ = some (.int .i64 c.p) ∧ w'.cell? ⟨g, 2, none⟩ = some (.int .i64 c.c) ∧ w'.cell? ⟨g, 3, none⟩ = some (.int .i64 c.s)) (by kernel_rfl) (⟨trivial, (D1.cf 1 (by omega)).1, (D1.cf 2 (by omega)).1, (D1.cf 3 (by omega)).1⟩) (fun hH0 => ?_)
  refine' wpAnyH_take (i := 0) (oi := { dst := some 4, op := Op.move (Operand.tmp 0), type := 48, pos := "size.go:103", after := #[], guard := none }) (v := _) rfl (by kernel_rfl) (by kernel_rfl) (by kernel_rfl) (fun _ _ _ h => h) (Or.inl ⟨by rfl, ?hyr10⟩) hH0 ?rr10
  case hyr10 => (intro w' hSw; clear hSw; go_simp; try with_reducible rfl)
  simp only [Act.put, List.setIfInBounds_toArray, List.set_cons_zero, List.set_cons_succ]
  refine' wpAnyH_take (i := 1) (oi := { dst := some 5, op := Op.fieldAddr 29 (Operand.tmp 3) 3, type := 0, pos := "size.go:103", after := #[], guard := none }) (v := _) rfl (by kernel_rfl) (by kernel_rfl) (by kernel_rfl) (fun _ _ _ h => h) (Or.inl ⟨by rfl, ?hyr11⟩) hH0 ?rr11
  case hyr11 => (intro w' hSw; clear hSw; go_simp; try with_reducible rfl)
  simp only [Act.put, List.setIfInBounds_toArray, List.set_cons_zero, List.set_cons_succ]
  refine' wpAnyH_take (i := 2) (oi := { dst := some 6, op := Op.load 3 (Operand.tmp 5), type := 3, pos := "size.go:103", after := #[{ on := 1, ground := Ground.data }], guard := none }) (v := _) rfl (by kernel_rfl) (by kernel_rfl) (by kernel_rfl) (fun _ _ _ h => h) (Or.inl ⟨by rfl, ?hyr12⟩) hH0 ?rr12
  case hyr12 => (intro w' hSw; obtain ⟨-, z0, z1, z2⟩ := hSw; go_simp; try with_reducible rfl)
  simp only [Act.put, List.setIfInBounds_toArray, List.set_cons_zero, List.set_cons_succ]
  refine' wpAnyH_take (i := 3) (oi := { dst := some 7, op := Op.binOp BinOp.add 3 (Operand.const (Value.int IntKind.i64 4)) (Operand.tmp 6) 3, type := 3, pos := "size.go:103", after := #[{ on := 2, ground := Ground.data }], guard := none }) (v := _) rfl (by kernel_rfl) (by kernel_rfl) (by kernel_rfl) (fun _ _ _ h => h) (Or.inl ⟨by rfl, ?hyr13⟩) hH0 ?rr13
  case hyr13 => (intro w' hSw; clear hSw; go_simp; try with_reducible rfl)
  simp only [Act.put, List.setIfInBounds_toArray, List.set_cons_zero, List.set_cons_succ]
  refine' wpAnyH_take (i := 4) (oi := { dst := some 8, op := Op.fieldAddr 29 (Operand.tmp 3) 2, type := 0, pos := "size.go:103", after := #[], guard := none }) (v := _) rfl (by kernel_rfl) (by kernel_rfl) (by kernel_rfl) (fun _ _ _ h => h) (Or.inl ⟨by rfl, ?hyr14⟩) hH0 ?rr14
  case hyr14 => (intro w' hSw; clear hSw; go_simp; try with_reducible rfl)
  simp only [Act.put, List.setIfInBounds_toArray, List.set_cons_zero, List.set_cons_succ]
  refine' wpAnyH_take (i := 5) (oi := { dst := some 9, op := Op.load 3 (Operand.tmp 8), type := 3, pos := "size.go:103", after := #[{ on := 4, ground := Ground.data }], guard := none }) (v := _) rfl (by kernel_rfl) (by kernel_rfl) (by kernel_rfl) (fun _ _ _ h => h) (Or.inl ⟨by rfl, ?hyr15⟩) hH0 ?rr15
  case hyr15 => (intro w' hSw; obtain ⟨-, z0, z1, z2⟩ := hSw; go_simp; try with_reducible rfl)
  simp only [Act.put, List.setIfInBounds_toArray, List.set_cons_zero, List.set_cons_succ]
  refine' wpAnyH_take (i := 6) (oi := { dst := some 10, op := Op.fieldAddr 29 (Operand.tmp 3) 1, type := 0, pos := "size.go:103", after := #[], guard := none }) (v := _) rfl (by kernel_rfl) (by kernel_rfl) (by kernel_rfl) (fun _ _ _ h => h) (Or.inl ⟨by rfl, ?hyr16⟩) hH0 ?rr16
  case hyr16 => (intro w' hSw; clear hSw; go_simp; try with_reducible rfl)
  simp only [Act.put, List.setIfInBounds_toArray, List.set_cons_zero, List.set_cons_succ]
  refine' wpAnyH_take (i := 7) (oi := { dst := some 11, op := Op.load 3 (Operand.tmp 10), type := 3, pos := "size.go:103", after := #[{ on := 6, ground := Ground.data }], guard := none }) (v := _) rfl (by kernel_rfl) (by kernel_rfl) (by kernel_rfl) (fun _ _ _ h => h) (Or.inl ⟨by rfl, ?hyr17⟩) hH0 ?rr17
  case hyr17 => (intro w' hSw; obtain ⟨-, z0, z1, z2⟩ := hSw; go_simp; try with_reducible rfl)
  simp only [Act.put, List.setIfInBounds_toArray, List.set_cons_zero, List.set_cons_succ]
  refine' wpAnyH_take (i := 9) (oi := { dst := some 13, op := Op.fieldAddr 29 (Operand.tmp 3) 1, type := 0, pos := "size.go:103", after := #[], guard := none }) (v := _) rfl (by kernel_rfl) (by kernel_rfl) (by kernel_rfl) (fun _ _ _ h => h) (Or.inl ⟨by rfl, ?hyr19⟩) hH0 ?rr19
  case hyr19 => (intro w' hSw; clear hSw; go_simp; try with_reducible rfl)
  simp only [Act.put, List.setIfInBounds_toArray, List.set_cons_zero, List.set_cons_succ]
  refine' wpAnyH_take (i := 10) (oi := { dst := some 14, op := Op.load 3 (Operand.tmp 13), type := 3, pos := "size.go:103", after := #[{ on := 9, ground := Ground.data }], guard := none }) (v := _) rfl (by kernel_rfl) (by kernel_rfl) (by kernel_rfl) (fun _ _ _ h => h) (Or.inl ⟨by rfl, ?hyr110⟩) hH0 ?rr110
  case hyr110 => (intro w' hSw; obtain ⟨-, z0, z1, z2⟩ := hSw; go_simp; try with_reducible rfl)
  simp only [Act.put, List.setIfInBounds_toArray, List.set_cons_zero, List.set_cons_succ]
  refine wpAnyH_ready (rs := [8]) (by kernel_rfl) (by simp) ?_
  refine AllReadyH.cons (o := { dst := some 12, op := Op.call { callee := Callee.value (Operand.func 33), args := #[Operand.tmp 9, Operand.tmp 11], argTypes := #[3, 3] }, type := 3, pos := "size.go:103", after := #[{ on := 5, ground := Ground.data }, { on := 7, ground := Ground.data }], guard := none }) rfl (fun K hK => ?_) AllReadyH.nil
  refine step_call_want (vs := #[.int .i64 (c.c), .int .i64 (c.p)]) (R := fun u wz => u = .int .i64 (U) ∧ Keep (fun _ => False) v0.drew wz) (by rfl) 33 #[Operand.tmp 9, Operand.tmp 11] #[3, 3] rfl (by simp [Act.eval]) call33 (post_of (kU _)) ?_
  rintro _ y1_0 ⟨rfl, k1_0⟩
  refine hK.out _ _ (⟨trivial, ((D1.more k1_0).cf 1 (by omega)).1, ((D1.more k1_0).cf 2 (by omega)).1, ((D1.more k1_0).cf 3 (by omega)).1⟩) (fun hH1 => ?_)
  clear hK K hH0
  simp only [Act.put, List.setIfInBounds_toArray, List.set_cons_zero, List.set_cons_succ]
  refine' wpAnyH_take (i := 11) (oi := { dst := some 15, op := Op.call { callee := Callee.builtin Builtin.max, args := #[Operand.tmp 12, Operand.tmp 14], argTypes := #[3, 3] }, type := 3, pos := "size.go:103", after := #[{ on := 8, ground := Ground.data }, { on := 10, ground := Ground.data }], guard := none }) (v := _) rfl (by kernel_rfl) (by kernel_rfl) (by kernel_rfl) (fun _ _ _ h => h) (Or.inl ⟨by rfl, ?hyr111⟩) hH1 ?rr111
  case hyr111 => (intro w' hSw; clear hSw; go_simp; try with_reducible rfl)
  simp only [Act.put, List.setIfInBounds_toArray, List.set_cons_zero, List.set_cons_succ]
  refine' wpAnyH_take (i := 12) (oi := { dst := some 16, op := Op.binOp BinOp.add 3 (Operand.tmp 7) (Operand.tmp 15) 3, type := 3, pos := "size.go:103", after := #[{ on := 3, ground := Ground.data }, { on := 11, ground := Ground.data }], guard := none }) (v := _) rfl (by kernel_rfl) (by kernel_rfl) (by kernel_rfl) (fun _ _ _ h => h) (Or.inl ⟨by rfl, ?hyr112⟩) hH1 ?rr112
  case hyr112 => (intro w' hSw; clear hSw; go_simp; try with_reducible rfl)
  simp only [Act.put, List.setIfInBounds_toArray, List.set_cons_zero, List.set_cons_succ]
  refine' wpAnyH_take (i := 13) (oi := { dst := some 17, op := Op.nilCheck (Operand.tmp 4), type := 0, pos := "size.go:103", after := #[{ on := 0, ground := Ground.data }, { on := 0, ground := Ground.phase }, { on := 1, ground := Ground.phase }, { on := 2, ground := Ground.phase }, { on := 3, ground := Ground.phase }, { on := 4, ground := Ground.phase }, { on := 5, ground := Ground.phase }, { on := 6, ground := Ground.phase }, { on := 7, ground := Ground.phase }, { on := 8, ground := Ground.phase }, { on := 9, ground := Ground.phase }, { on := 10, ground := Ground.phase }, { on := 11, ground := Ground.phase }, { on := 12, ground := Ground.phase }], guard := none }) (v := _) rfl (by kernel_rfl) (by kernel_rfl) (by kernel_rfl) (fun _ _ _ h => h) (Or.inl ⟨by rfl, ?hyr113⟩) hH1 ?rr113
  case hyr113 => (intro w' hSw; clear hSw; go_simp; try with_reducible rfl)
  simp only [Act.put, List.setIfInBounds_toArray, List.set_cons_zero, List.set_cons_succ]
  refine' wpAnyH_take (i := 14) (oi := { dst := some 18, op := Op.fieldAddr 24 (Operand.tmp 17) 2, type := 0, pos := "size.go:103", after := #[{ on := 13, ground := Ground.data }, { on := 0, ground := Ground.phase }, { on := 1, ground := Ground.phase }, { on := 2, ground := Ground.phase }, { on := 3, ground := Ground.phase }, { on := 4, ground := Ground.phase }, { on := 5, ground := Ground.phase }, { on := 6, ground := Ground.phase }, { on := 7, ground := Ground.phase }, { on := 8, ground := Ground.phase }, { on := 9, ground := Ground.phase }, { on := 10, ground := Ground.phase }, { on := 11, ground := Ground.phase }, { on := 12, ground := Ground.phase }], guard := none }) (v := _) rfl (by kernel_rfl) (by kernel_rfl) (by kernel_rfl) (fun _ _ _ h => h) (Or.inl ⟨by rfl, ?hyr114⟩) hH1 ?rr114
  case hyr114 => (intro w' hSw; clear hSw; go_simp; try with_reducible rfl)
  simp only [Act.put, List.setIfInBounds_toArray, List.set_cons_zero, List.set_cons_succ]
  refine wpAnyH_ready (rs := [15]) (by kernel_rfl) (by simp) ?_
  refine AllReadyH.cons (o := { dst := none, op := Op.store 3 (Operand.tmp 18) (Operand.tmp 16), type := 0, pos := "size.go:103", after := #[{ on := 14, ground := Ground.data }, { on := 12, ground := Ground.data }, { on := 8, ground := Ground.chain }, { on := 0, ground := Ground.phase }, { on := 1, ground := Ground.phase }, { on := 2, ground := Ground.phase }, { on := 3, ground := Ground.phase }, { on := 4, ground := Ground.phase }, { on := 5, ground := Ground.phase }, { on := 6, ground := Ground.phase }, { on := 7, ground := Ground.phase }, { on := 8, ground := Ground.phase }, { on := 9, ground := Ground.phase }, { on := 10, ground := Ground.phase }, { on := 11, ground := Ground.phase }, { on := 12, ground := Ground.phase }], guard := none }) rfl (fun K hK => ?_) AllReadyH.nil
  refine step_store_run (by rfl) 3 (.tmp 18) (.tmp 16) rfl (by rfl) (by rfl) (store3 ((D1.more k1_0).sz 2 (by omega)).1 ((D1.more k1_0).sz 2 (by omega)).2) ?_
  refine hK.out _ _ (⟨trivial, ((show Oc w (y1_0.setCell ⟨h, 2, none⟩ (.int .i64 (omI c))) g h c [rbI c, spI c, omI c, 0, 0, 0, 0, 0, 0, 0, 0] from (D1.more k1_0).set 2 _ (by show 2 < 11; omega)).cf 1 (by omega)).1, ((show Oc w (y1_0.setCell ⟨h, 2, none⟩ (.int .i64 (omI c))) g h c [rbI c, spI c, omI c, 0, 0, 0, 0, 0, 0, 0, 0] from (D1.more k1_0).set 2 _ (by show 2 < 11; omega)).cf 2 (by omega)).1, ((show Oc w (y1_0.setCell ⟨h, 2, none⟩ (.int .i64 (omI c))) g h c [rbI c, spI c, omI c, 0, 0, 0, 0, 0, 0, 0, 0] from (D1.more k1_0).set 2 _ (by show 2 < 11; omega)).cf 3 (by omega)).1⟩) (fun hH2 => ?_)
  clear hK K hH1
  simp only [Act.put]
  refine wpAnyH_done (by kernel_rfl) ?_ _
  refine NoPanic.normal ?_
  have O1_ := (D1.more k1_0)
  have O2 : Oc w (y1_0.setCell ⟨h, 2, none⟩ (.int .i64 (omI c))) g h c [rbI c, spI c, omI c, 0, 0, 0, 0, 0, 0, 0, 0] := O1_.set 2 _ (by show 2 < 11; omega)
  generalize y1_0.setCell ⟨h, 2, none⟩ (.int .i64 (omI c)) = v2 at O2 ⊢
  clear kU q5a q5b q5c
  go_upto_region 2 with fail
  have D2 := O2.more ((Keep.refl (fun _ => False) v2).drew)
  refine wp_region_noPanic ?_
  refine wp_region_held_drew (S := fun w' => True ∧ w'.cell? ⟨g, 0, none⟩ = some (.int .i64 c.b) ∧ w'.cell? ⟨g, 1, none⟩ = some (.int .i64 c.p) ∧ w'.cell? ⟨g, 2, none⟩ = some (.int .i64 c.c)) (by kernel_rfl) (⟨trivial, (D2.cf 0 (by omega)).1, (D2.cf 1 (by omega)).1, (D2.cf 2 (by omega)).1⟩) (fun hH0 => ?_)
  refine' wpAnyH_take (i := 0) (oi := { dst := some 19, op := Op.move (Operand.tmp 0), type := 48, pos := "size.go:104", after := #[], guard := none }) (v := _) rfl (by kernel_rfl) (by kernel_rfl) (by kernel_rfl) (fun _ _ _ h => h) (Or.inl ⟨by rfl, ?hyr20⟩) hH0 ?rr20
  case hyr20 => (intro w' hSw; clear hSw; go_simp; try with_reducible rfl)
  simp only [Act.put, List.setIfInBounds_toArray, List.set_cons_zero, List.set_cons_succ]
  refine' wpAnyH_take (i := 1) (oi := { dst := some 20, op := Op.fieldAddr 29 (Operand.tmp 3) 2, type := 0, pos := "size.go:104", after := #[], guard := none }) (v := _) rfl (by kernel_rfl) (by kernel_rfl) (by kernel_rfl) (fun _ _ _ h => h) (Or.inl ⟨by rfl, ?hyr21⟩) hH0 ?rr21
  case hyr21 => (intro w' hSw; clear hSw; go_simp; try with_reducible rfl)
  simp only [Act.put, List.setIfInBounds_toArray, List.set_cons_zero, List.set_cons_succ]
  refine' wpAnyH_take (i := 2) (oi := { dst := some 21, op := Op.load 3 (Operand.tmp 20), type := 3, pos := "size.go:104", after := #[{ on := 1, ground := Ground.data }], guard := none }) (v := _) rfl (by kernel_rfl) (by kernel_rfl) (by kernel_rfl) (fun _ _ _ h => h) (Or.inl ⟨by rfl, ?hyr22⟩) hH0 ?rr22
  case hyr22 => (intro w' hSw; obtain ⟨-, z0, z1, z2⟩ := hSw; go_simp; try with_reducible rfl)
  simp only [Act.put, List.setIfInBounds_toArray, List.set_cons_zero, List.set_cons_succ]
  refine' wpAnyH_take (i := 3) (oi := { dst := some 22, op := Op.binOp BinOp.mul 3 (Operand.const (Value.int IntKind.i64 2)) (Operand.tmp 21) 3, type := 3, pos := "size.go:104", after := #[{ on := 2, ground := Ground.data }], guard := none }) (v := _) rfl (by kernel_rfl) (by kernel_rfl) (by kernel_rfl) (fun _ _ _ h => h) (Or.inl ⟨by rfl, ?hyr23⟩) hH0 ?rr23
  case hyr23 => (intro w' hSw; clear hSw; go_simp; try with_reducible rfl)
  simp only [Act.put, List.setIfInBounds_toArray, List.set_cons_zero, List.set_cons_succ]
  refine' wpAnyH_take (i := 4) (oi := { dst := some 23, op := Op.binOp BinOp.add 3 (Operand.tmp 22) (Operand.const (Value.int IntKind.i64 1)) 3, type := 3, pos := "size.go:104", after := #[{ on := 3, ground := Ground.data }], guard := none }) (v := _) rfl (by kernel_rfl) (by kernel_rfl) (by kernel_rfl) (fun _ _ _ h => h) (Or.inl ⟨by rfl, ?hyr24⟩) hH0 ?rr24
  case hyr24 => (intro w' hSw; clear hSw; go_simp; try with_reducible rfl)
  simp only [Act.put, List.setIfInBounds_toArray, List.set_cons_zero, List.set_cons_succ]
  refine' wpAnyH_take (i := 6) (oi := { dst := some 25, op := Op.fieldAddr 29 (Operand.tmp 3) 2, type := 0, pos := "size.go:104", after := #[], guard := none }) (v := _) rfl (by kernel_rfl) (by kernel_rfl) (by kernel_rfl) (fun _ _ _ h => h) (Or.inl ⟨by rfl, ?hyr26⟩) hH0 ?rr26
  case hyr26 => (intro w' hSw; clear hSw; go_simp; try with_reducible rfl)
  simp only [Act.put, List.setIfInBounds_toArray, List.set_cons_zero, List.set_cons_succ]
  refine' wpAnyH_take (i := 7) (oi := { dst := some 26, op := Op.load 3 (Operand.tmp 25), type := 3, pos := "size.go:104", after := #[{ on := 6, ground := Ground.data }], guard := none }) (v := _) rfl (by kernel_rfl) (by kernel_rfl) (by kernel_rfl) (fun _ _ _ h => h) (Or.inl ⟨by rfl, ?hyr27⟩) hH0 ?rr27
  case hyr27 => (intro w' hSw; obtain ⟨-, z0, z1, z2⟩ := hSw; go_simp; try with_reducible rfl)
  simp only [Act.put, List.setIfInBounds_toArray, List.set_cons_zero, List.set_cons_succ]
  refine' wpAnyH_take (i := 10) (oi := { dst := some 29, op := Op.fieldAddr 29 (Operand.tmp 3) 0, type := 0, pos := "size.go:104", after := #[], guard := none }) (v := _) rfl (by kernel_rfl) (by kernel_rfl) (by kernel_rfl) (fun _ _ _ h => h) (Or.inl ⟨by rfl, ?hyr210⟩) hH0 ?rr210
  case hyr210 => (intro w' hSw; clear hSw; go_simp; try with_reducible rfl)
  simp only [Act.put, List.setIfInBounds_toArray, List.set_cons_zero, List.set_cons_succ]
  refine' wpAnyH_take (i := 11) (oi := { dst := some 30, op := Op.load 3 (Operand.tmp 29), type := 3, pos := "size.go:104", after := #[{ on := 10, ground := Ground.data }], guard := none }) (v := _) rfl (by kernel_rfl) (by kernel_rfl) (by kernel_rfl) (fun _ _ _ h => h) (Or.inl ⟨by rfl, ?hyr211⟩) hH0 ?rr211
  case hyr211 => (intro w' hSw; obtain ⟨-, z0, z1, z2⟩ := hSw; go_simp; try with_reducible rfl)
  simp only [Act.put, List.setIfInBounds_toArray, List.set_cons_zero, List.set_cons_succ]
  refine' wpAnyH_take (i := 12) (oi := { dst := some 31, op := Op.binOp BinOp.mul 3 (Operand.const (Value.int IntKind.i64 2)) (Operand.tmp 30) 3, type := 3, pos := "size.go:104", after := #[{ on := 11, ground := Ground.data }], guard := none }) (v := _) rfl (by kernel_rfl) (by kernel_rfl) (by kernel_rfl) (fun _ _ _ h => h) (Or.inl ⟨by rfl, ?hyr212⟩) hH0 ?rr212
  case hyr212 => (intro w' hSw; clear hSw; go_simp; try with_reducible rfl)
  simp only [Act.put, List.setIfInBounds_toArray, List.set_cons_zero, List.set_cons_succ]
  refine' wpAnyH_take (i := 13) (oi := { dst := some 32, op := Op.fieldAddr 29 (Operand.tmp 3) 1, type := 0, pos := "size.go:104", after := #[], guard := none }) (v := _) rfl (by kernel_rfl) (by kernel_rfl) (by kernel_rfl) (fun _ _ _ h => h) (Or.inl ⟨by rfl, ?hyr213⟩) hH0 ?rr213
  case hyr213 => (intro w' hSw; clear hSw; go_simp; try with_reducible rfl)
  simp only [Act.put, List.setIfInBounds_toArray, List.set_cons_zero, List.set_cons_succ]
  refine' wpAnyH_take (i := 14) (oi := { dst := some 33, op := Op.load 3 (Operand.tmp 32), type := 3, pos := "size.go:104", after := #[{ on := 13, ground := Ground.data }], guard := none }) (v := _) rfl (by kernel_rfl) (by kernel_rfl) (by kernel_rfl) (fun _ _ _ h => h) (Or.inl ⟨by rfl, ?hyr214⟩) hH0 ?rr214
  case hyr214 => (intro w' hSw; obtain ⟨-, z0, z1, z2⟩ := hSw; go_simp; try with_reducible rfl)
  simp only [Act.put, List.setIfInBounds_toArray, List.set_cons_zero, List.set_cons_succ]
  refine' wpAnyH_take (i := 15) (oi := { dst := some 34, op := Op.binOp BinOp.mul 3 (Operand.tmp 31) (Operand.tmp 33) 3, type := 3, pos := "size.go:104", after := #[{ on := 12, ground := Ground.data }, { on := 14, ground := Ground.data }], guard := none }) (v := _) rfl (by kernel_rfl) (by kernel_rfl) (by kernel_rfl) (fun _ _ _ h => h) (Or.inl ⟨by rfl, ?hyr215⟩) hH0 ?rr215
  case hyr215 => (intro w' hSw; clear hSw; go_simp; try with_reducible rfl)
  simp only [Act.put, List.setIfInBounds_toArray, List.set_cons_zero, List.set_cons_succ]
  refine' wpAnyH_take (i := 16) (oi := { dst := some 35, op := Op.binOp BinOp.add 3 (Operand.tmp 34) (Operand.const (Value.int IntKind.i64 3)) 3, type := 3, pos := "size.go:104", after := #[{ on := 15, ground := Ground.data }], guard := none }) (v := _) rfl (by kernel_rfl) (by kernel_rfl) (by kernel_rfl) (fun _ _ _ h => h) (Or.inl ⟨by rfl, ?hyr216⟩) hH0 ?rr216
  case hyr216 => (intro w' hSw; clear hSw; go_simp; try with_reducible rfl)
  simp only [Act.put, List.setIfInBounds_toArray, List.set_cons_zero, List.set_cons_succ]
  refine wpAnyH_ready (rs := [5]) (by kernel_rfl) (by simp) ?_
  refine AllReadyH.cons (o := { dst := some 24, op := Op.call { callee := Callee.value (Operand.func 35), args := #[Operand.tmp 23], argTypes := #[3] }, type := 3, pos := "size.go:104", after := #[{ on := 4, ground := Ground.data }], guard := none }) rfl (fun K hK => ?_) AllReadyH.nil
  refine step_call_want (vs := #[.int .i64 (2 * c.c + 1)]) (R := fun u wz => u = .int .i64 (lV (2 * c.c + 1)) ∧ Keep (fun _ => False) v2.drew wz) (by rfl) 35 #[Operand.tmp 23] #[3] rfl (by simp [Act.eval]) call35 (post_of (k8a _)) ?_
  rintro _ y2_0 ⟨rfl, k2_0⟩
  refine hK.out _ _ (⟨trivial, ((D2.more k2_0).cf 0 (by omega)).1, ((D2.more k2_0).cf 1 (by omega)).1, ((D2.more k2_0).cf 2 (by omega)).1⟩) (fun hH1 => ?_)
  clear hK K hH0
  simp only [Act.put, List.setIfInBounds_toArray, List.set_cons_zero, List.set_cons_succ]
  refine wpAnyH_ready (rs := [8]) (by kernel_rfl) (by simp) ?_
  refine AllReadyH.cons (o := { dst := some 27, op := Op.call { callee := Callee.value (Operand.func 35), args := #[Operand.tmp 26], argTypes := #[3] }, type := 3, pos := "size.go:104", after := #[{ on := 7, ground := Ground.data }, { on := 5, ground := Ground.chain }], guard := none }) rfl (fun K hK => ?_) AllReadyH.nil
  refine step_call_want (vs := #[.int .i64 (c.c)]) (R := fun u wz => u = .int .i64 (lV c.c) ∧ Keep (fun _ => False) y2_0 wz) (by rfl) 35 #[Operand.tmp 26] #[3] rfl (by simp [Act.eval]) call35 (post_of (k8b _)) ?_
  rintro _ y2_1 ⟨rfl, k2_1⟩
  refine hK.out _ _ (⟨trivial, (((D2.more k2_0).more k2_1).cf 0 (by omega)).1, (((D2.more k2_0).more k2_1).cf 1 (by omega)).1, (((D2.more k2_0).more k2_1).cf 2 (by omega)).1⟩) (fun hH2 => ?_)
  clear hK K hH1
  simp only [Act.put, List.setIfInBounds_toArray, List.set_cons_zero, List.set_cons_succ]
  refine' wpAnyH_take (i := 9) (oi := { dst := some 28, op := Op.binOp BinOp.add 3 (Operand.tmp 24) (Operand.tmp 27) 3, type := 3, pos := "size.go:104", after := #[{ on := 5, ground := Ground.data }, { on := 8, ground := Ground.data }], guard := none }) (v := _) rfl (by kernel_rfl) (by kernel_rfl) (by kernel_rfl) (fun _ _ _ h => h) (Or.inl ⟨by rfl, ?hyr29⟩) hH2 ?rr29
  case hyr29 => (intro w' hSw; clear hSw; go_simp; try with_reducible rfl)
  simp only [Act.put, List.setIfInBounds_toArray, List.set_cons_zero, List.set_cons_succ]
  refine wpAnyH_ready (rs := [17]) (by kernel_rfl) (by simp) ?_
  refine AllReadyH.cons (o := { dst := some 36, op := Op.call { callee := Callee.value (Operand.func 35), args := #[Operand.tmp 35], argTypes := #[3] }, type := 3, pos := "size.go:104", after := #[{ on := 16, ground := Ground.data }, { on := 8, ground := Ground.chain }], guard := none }) rfl (fun K hK => ?_) AllReadyH.nil
  refine step_call_want (vs := #[.int .i64 (BP + 3)]) (R := fun u wz => u = .int .i64 (lV (BP + 3)) ∧ Keep (fun _ => False) y2_1 wz) (by rfl) 35 #[Operand.tmp 35] #[3] rfl (by simp [Act.eval]) call35 (post_of (k8c _)) ?_
  rintro _ y2_2 ⟨rfl, k2_2⟩
  refine hK.out _ _ (⟨trivial, ((((D2.more k2_0).more k2_1).more k2_2).cf 0 (by omega)).1, ((((D2.more k2_0).more k2_1).more k2_2).cf 1 (by omega)).1, ((((D2.more k2_0).more k2_1).more k2_2).cf 2 (by omega)).1⟩) (fun hH3 => ?_)
  clear hK K hH2
  simp only [Act.put, List.setIfInBounds_toArray, List.set_cons_zero, List.set_cons_succ]
  refine' wpAnyH_take (i := 18) (oi := { dst := some 37, op := Op.binOp BinOp.add 3 (Operand.tmp 28) (Operand.tmp 36) 3, type := 3, pos := "size.go:104", after := #[{ on := 9, ground := Ground.data }, { on := 17, ground := Ground.data }], guard := none }) (v := _) rfl (by kernel_rfl) (by kernel_rfl) (by kernel_rfl) (fun _ _ _ h => h) (Or.inl ⟨by rfl, ?hyr218⟩) hH3 ?rr218
  case hyr218 => (intro w' hSw; clear hSw; go_simp; try with_reducible rfl)
  simp only [Act.put, List.setIfInBounds_toArray, List.set_cons_zero, List.set_cons_succ]
  refine' wpAnyH_take (i := 19) (oi := { dst := some 38, op := Op.nilCheck (Operand.tmp 19), type := 0, pos := "size.go:104", after := #[{ on := 0, ground := Ground.data }, { on := 0, ground := Ground.phase }, { on := 1, ground := Ground.phase }, { on := 2, ground := Ground.phase }, { on := 3, ground := Ground.phase }, { on := 4, ground := Ground.phase }, { on := 5, ground := Ground.phase }, { on := 6, ground := Ground.phase }, { on := 7, ground := Ground.phase }, { on := 8, ground := Ground.phase }, { on := 9, ground := Ground.phase }, { on := 10, ground := Ground.phase }, { on := 11, ground := Ground.phase }, { on := 12, ground := Ground.phase }, { on := 13, ground := Ground.phase }, { on := 14, ground := Ground.phase }, { on := 15, ground := Ground.phase }, { on := 16, ground := Ground.phase }, { on := 17, ground := Ground.phase }, { on := 18, ground := Ground.phase }], guard := none }) (v := _) rfl (by kernel_rfl) (by kernel_rfl) (by kernel_rfl) (fun _ _ _ h => h) (Or.inl ⟨by rfl, ?hyr219⟩) hH3 ?rr219
  case hyr219 => (intro w' hSw; clear hSw; go_simp; try with_reducible rfl)
  simp only [Act.put, List.setIfInBounds_toArray, List.set_cons_zero, List.set_cons_succ]
  refine' wpAnyH_take (i := 20) (oi := { dst := some 39, op := Op.fieldAddr 24 (Operand.tmp 38) 3, type := 0, pos := "size.go:104", after := #[{ on := 19, ground := Ground.data }, { on := 0, ground := Ground.phase }, { on := 1, ground := Ground.phase }, { on := 2, ground := Ground.phase }, { on := 3, ground := Ground.phase }, { on := 4, ground := Ground.phase }, { on := 5, ground := Ground.phase }, { on := 6, ground := Ground.phase }, { on := 7, ground := Ground.phase }, { on := 8, ground := Ground.phase }, { on := 9, ground := Ground.phase }, { on := 10, ground := Ground.phase }, { on := 11, ground := Ground.phase }, { on := 12, ground := Ground.phase }, { on := 13, ground := Ground.phase }, { on := 14, ground := Ground.phase }, { on := 15, ground := Ground.phase }, { on := 16, ground := Ground.phase }, { on := 17, ground := Ground.phase }, { on := 18, ground := Ground.phase }], guard := none }) (v := _) rfl (by kernel_rfl) (by kernel_rfl) (by kernel_rfl) (fun _ _ _ h => h) (Or.inl ⟨by rfl, ?hyr220⟩) hH3 ?rr220
  case hyr220 => (intro w' hSw; clear hSw; go_simp; try with_reducible rfl)
  simp only [Act.put, List.setIfInBounds_toArray, List.set_cons_zero, List.set_cons_succ]
  refine wpAnyH_ready (rs := [21]) (by kernel_rfl) (by simp) ?_
  refine AllReadyH.cons (o := { dst := none, op := Op.store 3 (Operand.tmp 39) (Operand.tmp 37), type := 0, pos := "size.go:104", after := #[{ on := 20, ground := Ground.data }, { on := 18, ground := Ground.data }, { on := 17, ground := Ground.chain }, { on := 0, ground := Ground.phase }, { on := 1, ground := Ground.phase }, { on := 2, ground := Ground.phase }, { on := 3, ground := Ground.phase }, { on := 4, ground := Ground.phase }, { on := 5, ground := Ground.phase }, { on := 6, ground := Ground.phase }, { on := 7, ground := Ground.phase }, { on := 8, ground := Ground.phase }, { on := 9, ground := Ground.phase }, { on := 10, ground := Ground.phase }, { on := 11, ground := Ground.phase }, { on := 12, ground := Ground.phase }, { on := 13, ground := Ground.phase }, { on := 14, ground := Ground.phase }, { on := 15, ground := Ground.phase }, { on := 16, ground := Ground.phase }, { on := 17, ground := Ground.phase }, { on := 18, ground := Ground.phase }], guard := none }) rfl (fun K hK => ?_) AllReadyH.nil
  refine step_store_run (by rfl) 3 (.tmp 39) (.tmp 37) rfl (by rfl) (by rfl) (store3 ((((D2.more k2_0).more k2_1).more k2_2).sz 3 (by omega)).1 ((((D2.more k2_0).more k2_1).more k2_2).sz 3 (by omega)).2) ?_
  refine hK.out _ _ (⟨trivial, ((show Oc w (y2_2.setCell ⟨h, 3, none⟩ (.int .i64 (obI c))) g h c [rbI c, spI c, omI c, obI c, 0, 0, 0, 0, 0, 0, 0] from (((D2.more k2_0).more k2_1).more k2_2).set 3 _ (by show 3 < 11; omega)).cf 0 (by omega)).1, ((show Oc w (y2_2.setCell ⟨h, 3, none⟩ (.int .i64 (obI c))) g h c [rbI c, spI c, omI c, obI c, 0, 0, 0, 0, 0, 0, 0] from (((D2.more k2_0).more k2_1).more k2_2).set 3 _ (by show 3 < 11; omega)).cf 1 (by omega)).1, ((show Oc w (y2_2.setCell ⟨h, 3, none⟩ (.int .i64 (obI c))) g h c [rbI c, spI c, omI c, obI c, 0, 0, 0, 0, 0, 0, 0] from (((D2.more k2_0).more k2_1).more k2_2).set 3 _ (by show 3 < 11; omega)).cf 2 (by omega)).1⟩) (fun hH4 => ?_)
  clear hK K hH3
  simp only [Act.put]
  refine wpAnyH_done (by kernel_rfl) ?_ _
  refine NoPanic.normal ?_
  have O3_ := (((D2.more k2_0).more k2_1).more k2_2)
  have O4 : Oc w (y2_2.setCell ⟨h, 3, none⟩ (.int .i64 (obI c))) g h c [rbI c, spI c, omI c, obI c, 0, 0, 0, 0, 0, 0, 0] := O3_.set 3 _ (by show 3 < 11; omega)
  generalize y2_2.setCell ⟨h, 3, none⟩ (.int .i64 (obI c)) = v4 at O4 ⊢
  clear k8a k8b k8c q8a q8b q8c q8d q8e q8f q8g
  go_upto_region 3 with fail
  have D3 := O4.more ((Keep.refl (fun _ => False) v4).drew)
  refine wp_region_noPanic ?_
  refine wp_region_held_drew (S := fun w' => True ∧ w'.cell? ⟨h, 2, none⟩ = some (.int .i64 (omI c)) ∧ w'.cell? ⟨h, 3, none⟩ = some (.int .i64 (obI c))) (by kernel_rfl) (⟨trivial, (D3.sz 2 (by omega)).1, (D3.sz 3 (by omega)).1⟩) (fun hH0 => ?_)
  refine' wpAnyH_take (i := 0) (oi := { dst := some 40, op := Op.move (Operand.tmp 0), type := 48, pos := "size.go:105", after := #[], guard := none }) (v := _) rfl (by kernel_rfl) (by kernel_rfl) (by kernel_rfl) (fun _ _ _ h => h) (Or.inl ⟨by rfl, ?hyr30⟩) hH0 ?rr30
  case hyr30 => (intro w' hSw; clear hSw; go_simp; try with_reducible rfl)
  simp only [Act.put, List.setIfInBounds_toArray, List.set_cons_zero, List.set_cons_succ]
  refine' wpAnyH_take (i := 1) (oi := { dst := some 41, op := Op.move (Operand.tmp 0), type := 48, pos := "size.go:105", after := #[], guard := none }) (v := _) rfl (by kernel_rfl) (by kernel_rfl) (by kernel_rfl) (fun _ _ _ h => h) (Or.inl ⟨by rfl, ?hyr31⟩) hH0 ?rr31
  case hyr31 => (intro w' hSw; clear hSw; go_simp; try with_reducible rfl)
  simp only [Act.put, List.setIfInBounds_toArray, List.set_cons_zero, List.set_cons_succ]
  refine' wpAnyH_take (i := 2) (oi := { dst := some 42, op := Op.nilCheck (Operand.tmp 41), type := 0, pos := "size.go:105", after := #[{ on := 1, ground := Ground.data }], guard := none }) (v := _) rfl (by kernel_rfl) (by kernel_rfl) (by kernel_rfl) (fun _ _ _ h => h) (Or.inl ⟨by rfl, ?hyr32⟩) hH0 ?rr32
  case hyr32 => (intro w' hSw; clear hSw; go_simp; try with_reducible rfl)
  simp only [Act.put, List.setIfInBounds_toArray, List.set_cons_zero, List.set_cons_succ]
  refine' wpAnyH_take (i := 3) (oi := { dst := some 43, op := Op.fieldAddr 24 (Operand.tmp 42) 2, type := 0, pos := "size.go:105", after := #[{ on := 2, ground := Ground.data }], guard := none }) (v := _) rfl (by kernel_rfl) (by kernel_rfl) (by kernel_rfl) (fun _ _ _ h => h) (Or.inl ⟨by rfl, ?hyr33⟩) hH0 ?rr33
  case hyr33 => (intro w' hSw; clear hSw; go_simp; try with_reducible rfl)
  simp only [Act.put, List.setIfInBounds_toArray, List.set_cons_zero, List.set_cons_succ]
  refine' wpAnyH_take (i := 4) (oi := { dst := some 44, op := Op.load 3 (Operand.tmp 43), type := 3, pos := "size.go:105", after := #[{ on := 3, ground := Ground.data }], guard := none }) (v := _) rfl (by kernel_rfl) (by kernel_rfl) (by kernel_rfl) (fun _ _ _ h => h) (Or.inl ⟨by rfl, ?hyr34⟩) hH0 ?rr34
  case hyr34 => (intro w' hSw; obtain ⟨-, z0, z1⟩ := hSw; go_simp; try with_reducible rfl)
  simp only [Act.put, List.setIfInBounds_toArray, List.set_cons_zero, List.set_cons_succ]
  refine' wpAnyH_take (i := 6) (oi := { dst := some 46, op := Op.move (Operand.tmp 0), type := 48, pos := "size.go:105", after := #[], guard := none }) (v := _) rfl (by kernel_rfl) (by kernel_rfl) (by kernel_rfl) (fun _ _ _ h => h) (Or.inl ⟨by rfl, ?hyr36⟩) hH0 ?rr36
  case hyr36 => (intro w' hSw; clear hSw; go_simp; try with_reducible rfl)
  simp only [Act.put, List.setIfInBounds_toArray, List.set_cons_zero, List.set_cons_succ]
  refine' wpAnyH_take (i := 7) (oi := { dst := some 47, op := Op.nilCheck (Operand.tmp 46), type := 0, pos := "size.go:105", after := #[{ on := 6, ground := Ground.data }], guard := none }) (v := _) rfl (by kernel_rfl) (by kernel_rfl) (by kernel_rfl) (fun _ _ _ h => h) (Or.inl ⟨by rfl, ?hyr37⟩) hH0 ?rr37
  case hyr37 => (intro w' hSw; clear hSw; go_simp; try with_reducible rfl)
  simp only [Act.put, List.setIfInBounds_toArray, List.set_cons_zero, List.set_cons_succ]
  refine' wpAnyH_take (i := 8) (oi := { dst := some 48, op := Op.fieldAddr 24 (Operand.tmp 47) 2, type := 0, pos := "size.go:105", after := #[{ on := 7, ground := Ground.data }], guard := none }) (v := _) rfl (by kernel_rfl) (by kernel_rfl) (by kernel_rfl) (fun _ _ _ h => h) (Or.inl ⟨by rfl, ?hyr38⟩) hH0 ?rr38
  case hyr38 => (intro w' hSw; clear hSw; go_simp; try with_reducible rfl)
  simp only [Act.put, List.setIfInBounds_toArray, List.set_cons_zero, List.set_cons_succ]
  refine' wpAnyH_take (i := 9) (oi := { dst := some 49, op := Op.load 3 (Operand.tmp 48), type := 3, pos := "size.go:105", after := #[{ on := 8, ground := Ground.data }], guard := none }) (v := _) rfl (by kernel_rfl) (by kernel_rfl) (by kernel_rfl) (fun _ _ _ h => h) (Or.inl ⟨by rfl, ?hyr39⟩) hH0 ?rr39
  case hyr39 => (intro w' hSw; obtain ⟨-, z0, z1⟩ := hSw; go_simp; try with_reducible rfl)
  simp only [Act.put, List.setIfInBounds_toArray, List.set_cons_zero, List.set_cons_succ]
  refine' wpAnyH_take (i := 10) (oi := { dst := some 50, op := Op.move (Operand.tmp 0), type := 48, pos := "size.go:105", after := #[], guard := none }) (v := _) rfl (by kernel_rfl) (by kernel_rfl) (by kernel_rfl) (fun _ _ _ h => h) (Or.inl ⟨by rfl, ?hyr310⟩) hH0 ?rr310
  case hyr310 => (intro w' hSw; clear hSw; go_simp; try with_reducible rfl)
  simp only [Act.put, List.setIfInBounds_toArray, List.set_cons_zero, List.set_cons_succ]
  refine' wpAnyH_take (i := 11) (oi := { dst := some 51, op := Op.nilCheck (Operand.tmp 50), type := 0, pos := "size.go:105", after := #[{ on := 10, ground := Ground.data }], guard := none }) (v := _) rfl (by kernel_rfl) (by kernel_rfl) (by kernel_rfl) (fun _ _ _ h => h) (Or.inl ⟨by rfl, ?hyr311⟩) hH0 ?rr311
  case hyr311 => (intro w' hSw; clear hSw; go_simp; try with_reducible rfl)
  simp only [Act.put, List.setIfInBounds_toArray, List.set_cons_zero, List.set_cons_succ]
  refine' wpAnyH_take (i := 12) (oi := { dst := some 52, op := Op.fieldAddr 24 (Operand.tmp 51) 3, type := 0, pos := "size.go:105", after := #[{ on := 11, ground := Ground.data }], guard := none }) (v := _) rfl (by kernel_rfl) (by kernel_rfl) (by kernel_rfl) (fun _ _ _ h => h) (Or.inl ⟨by rfl, ?hyr312⟩) hH0 ?rr312
  case hyr312 => (intro w' hSw; clear hSw; go_simp; try with_reducible rfl)
  simp only [Act.put, List.setIfInBounds_toArray, List.set_cons_zero, List.set_cons_succ]
  refine' wpAnyH_take (i := 13) (oi := { dst := some 53, op := Op.load 3 (Operand.tmp 52), type := 3, pos := "size.go:105", after := #[{ on := 12, ground := Ground.data }], guard := none }) (v := _) rfl (by kernel_rfl) (by kernel_rfl) (by kernel_rfl) (fun _ _ _ h => h) (Or.inl ⟨by rfl, ?hyr313⟩) hH0 ?rr313
  case hyr313 => (intro w' hSw; obtain ⟨-, z0, z1⟩ := hSw; go_simp; try with_reducible rfl)
  simp only [Act.put, List.setIfInBounds_toArray, List.set_cons_zero, List.set_cons_succ]
  refine' wpAnyH_take (i := 14) (oi := { dst := some 54, op := Op.binOp BinOp.mul 3 (Operand.tmp 49) (Operand.tmp 53) 3, type := 3, pos := "size.go:105", after := #[{ on := 9, ground := Ground.data }, { on := 13, ground := Ground.data }], guard := none }) (v := _) rfl (by kernel_rfl) (by kernel_rfl) (by kernel_rfl) (fun _ _ _ h => h) (Or.inl ⟨by rfl, ?hyr314⟩) hH0 ?rr314
  case hyr314 => (intro w' hSw; clear hSw; go_simp; try with_reducible rfl)
  simp only [Act.put, List.setIfInBounds_toArray, List.set_cons_zero, List.set_cons_succ]
  refine wpAnyH_ready (rs := [5]) (by kernel_rfl) (by simp) ?_
  refine AllReadyH.cons (o := { dst := some 45, op := Op.call { callee := Callee.value (Operand.func 35), args := #[Operand.tmp 44], argTypes := #[3] }, type := 3, pos := "size.go:105", after := #[{ on := 4, ground := Ground.data }], guard := none }) rfl (fun K hK => ?_) AllReadyH.nil
  refine step_call_want (vs := #[.int .i64 (omI c)]) (R := fun u wz => u = .int .i64 (lV (omI c)) ∧ Keep (fun _ => False) v4.drew wz) (by rfl) 35 #[Operand.tmp 44] #[3] rfl (by simp [Act.eval]) call35 (post_of (k9a _)) ?_
  rintro _ y3_0 ⟨rfl, k3_0⟩
  refine hK.out _ _ (⟨trivial, ((D3.more k3_0).sz 2 (by omega)).1, ((D3.more k3_0).sz 3 (by omega)).1⟩) (fun hH1 => ?_)
  clear hK K hH0
  simp only [Act.put, List.setIfInBounds_toArray, List.set_cons_zero, List.set_cons_succ]
  refine' wpAnyH_take (i := 15) (oi := { dst := some 55, op := Op.binOp BinOp.add 3 (Operand.tmp 45) (Operand.tmp 54) 3, type := 3, pos := "size.go:105", after := #[{ on := 5, ground := Ground.data }, { on := 14, ground := Ground.data }], guard := none }) (v := _) rfl (by kernel_rfl) (by kernel_rfl) (by kernel_rfl) (fun _ _ _ h => h) (Or.inl ⟨by rfl, ?hyr315⟩) hH1 ?rr315
  case hyr315 => (intro w' hSw; clear hSw; go_simp; try with_reducible rfl)
  simp only [Act.put, List.setIfInBounds_toArray, List.set_cons_zero, List.set_cons_succ]
  refine wpAnyH_ready (rs := [16]) (by kernel_rfl) (by simp) ?_
  refine AllReadyH.cons (o := { dst := some 56, op := Op.call { callee := Callee.value (Operand.func 36), args := #[Operand.tmp 55], argTypes := #[3] }, type := 3, pos := "size.go:105", after := #[{ on := 15, ground := Ground.data }, { on := 5, ground := Ground.chain }], guard := none }) rfl (fun K hK => ?_) AllReadyH.nil
  refine step_call_want (vs := #[.int .i64 (lV (omI c) + OO)]) (R := fun u wz => u = .int .i64 (rpI c) ∧ Keep (fun _ => False) y3_0 wz) (by rfl) 36 #[Operand.tmp 55] #[3] rfl (by simp [Act.eval]) call36 (post_of (k9b _)) ?_
  rintro _ y3_1 ⟨rfl, k3_1⟩
  refine hK.out _ _ (⟨trivial, (((D3.more k3_0).more k3_1).sz 2 (by omega)).1, (((D3.more k3_0).more k3_1).sz 3 (by omega)).1⟩) (fun hH2 => ?_)
  clear hK K hH1
  simp only [Act.put, List.setIfInBounds_toArray, List.set_cons_zero, List.set_cons_succ]
  refine' wpAnyH_take (i := 17) (oi := { dst := some 57, op := Op.nilCheck (Operand.tmp 40), type := 0, pos := "size.go:105", after := #[{ on := 0, ground := Ground.data }, { on := 0, ground := Ground.phase }, { on := 1, ground := Ground.phase }, { on := 2, ground := Ground.phase }, { on := 3, ground := Ground.phase }, { on := 4, ground := Ground.phase }, { on := 5, ground := Ground.phase }, { on := 6, ground := Ground.phase }, { on := 7, ground := Ground.phase }, { on := 8, ground := Ground.phase }, { on := 9, ground := Ground.phase }, { on := 10, ground := Ground.phase }, { on := 11, ground := Ground.phase }, { on := 12, ground := Ground.phase }, { on := 13, ground := Ground.phase }, { on := 14, ground := Ground.phase }, { on := 15, ground := Ground.phase }, { on := 16, ground := Ground.phase }], guard := none }) (v := _) rfl (by kernel_rfl) (by kernel_rfl) (by kernel_rfl) (fun _ _ _ h => h) (Or.inl ⟨by rfl, ?hyr317⟩) hH2 ?rr317
  case hyr317 => (intro w' hSw; clear hSw; go_simp; try with_reducible rfl)
  simp only [Act.put, List.setIfInBounds_toArray, List.set_cons_zero, List.set_cons_succ]
  refine' wpAnyH_take (i := 18) (oi := { dst := some 58, op := Op.fieldAddr 24 (Operand.tmp 57) 4, type := 0, pos := "size.go:105", after := #[{ on := 17, ground := Ground.data }, { on := 0, ground := Ground.phase }, { on := 1, ground := Ground.phase }, { on := 2, ground := Ground.phase }, { on := 3, ground := Ground.phase }, { on := 4, ground := Ground.phase }, { on := 5, ground := Ground.phase }, { on := 6, ground := Ground.phase }, { on := 7, ground := Ground.phase }, { on := 8, ground := Ground.phase }, { on := 9, ground := Ground.phase }, { on := 10, ground := Ground.phase }, { on := 11, ground := Ground.phase }, { on := 12, ground := Ground.phase }, { on := 13, ground := Ground.phase }, { on := 14, ground := Ground.phase }, { on := 15, ground := Ground.phase }, { on := 16, ground := Ground.phase }], guard := none }) (v := _) rfl (by kernel_rfl) (by kernel_rfl) (by kernel_rfl) (fun _ _ _ h => h) (Or.inl ⟨by rfl, ?hyr318⟩) hH2 ?rr318
  case hyr318 => (intro w' hSw; clear hSw; go_simp; try with_reducible rfl)
  simp only [Act.put, List.setIfInBounds_toArray, List.set_cons_zero, List.set_cons_succ]
  refine wpAnyH_ready (rs := [19]) (by kernel_rfl) (by simp) ?_
  refine AllReadyH.cons (o := { dst := none, op := Op.store 3 (Operand.tmp 58) (Operand.tmp 56), type := 0, pos := "size.go:105", after := #[{ on := 18, ground := Ground.data }, { on := 16, ground := Ground.data }, { on := 16, ground := Ground.chain }, { on := 0, ground := Ground.phase }, { on := 1, ground := Ground.phase }, { on := 2, ground := Ground.phase }, { on := 3, ground := Ground.phase }, { on := 4, ground := Ground.phase }, { on := 5, ground := Ground.phase }, { on := 6, ground := Ground.phase }, { on := 7, ground := Ground.phase }, { on := 8, ground := Ground.phase }, { on := 9, ground := Ground.phase }, { on := 10, ground := Ground.phase }, { on := 11, ground := Ground.phase }, { on := 12, ground := Ground.phase }, { on := 13, ground := Ground.phase }, { on := 14, ground := Ground.phase }, { on := 15, ground := Ground.phase }, { on := 16, ground := Ground.phase }], guard := none }) rfl (fun K hK => ?_) AllReadyH.nil
  refine step_store_run (by rfl) 3 (.tmp 58) (.tmp 56) rfl (by rfl) (by rfl) (store3 (((D3.more k3_0).more k3_1).sz 4 (by omega)).1 (((D3.more k3_0).more k3_1).sz 4 (by omega)).2) ?_
  refine hK.out _ _ (⟨trivial, ((show Oc w (y3_1.setCell ⟨h, 4, none⟩ (.int .i64 (rpI c))) g h c [rbI c, spI c, omI c, obI c, rpI c, 0, 0, 0, 0, 0, 0] from ((D3.more k3_0).more k3_1).set 4 _ (by show 4 < 11; omega)).sz 2 (by omega)).1, ((show Oc w (y3_1.setCell ⟨h, 4, none⟩ (.int .i64 (rpI c))) g h c [rbI c, spI c, omI c, obI c, rpI c, 0, 0, 0, 0, 0, 0] from ((D3.more k3_0).more k3_1).set 4 _ (by show 4 < 11; omega)).sz 3 (by omega)).1⟩) (fun hH3 => ?_)
  clear hK K hH2
  simp only [Act.put]
  refine wpAnyH_done (by kernel_rfl) ?_ _
  refine NoPanic.normal ?_
  have O5_ := ((D3.more k3_0).more k3_1)
  have O6 : Oc w (y3_1.setCell ⟨h, 4, none⟩ (.int .i64 (rpI c))) g h c [rbI c, spI c, omI c, obI c, rpI c, 0, 0, 0, 0, 0, 0] := O5_.set 4 _ (by show 4 < 11; omega)
  generalize y3_1.setCell ⟨h, 4, none⟩ (.int .i64 (rpI c)) = v6 at O6 ⊢
  have HK := O6.kp
  have HB := O6.sz
  go_wp2_with fail
  refine bodyPost_end (v := .tuple #[]) (results_none rfl _ _ _) rfl ⟨rfl, HK, HB⟩
end Tg
end Go.Proofs.Ytoobjmhllfeffaa
