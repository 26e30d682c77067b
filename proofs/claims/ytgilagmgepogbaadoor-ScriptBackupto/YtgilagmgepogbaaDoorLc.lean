/-
  ScriptReads, over any memory: for any text of at most some bytes.
-/
import Derived.Test.YtgilagmgepogbaaDoorRg
import Derived.Test.YtgilagmgepogbaaDoorRe
import Derived.Test.YtgilagmgepogbaaDoorLb
set_option linter.unusedVariables false
namespace Go.Proofs.YtgilagmgepogbaaDoor
open Go.ChangeShapes Go.WideShapes Go.ChangeAt Go.RowKit
namespace Tg
open Qm Km

theorem ec13 (args : Array Value) (w : World) : (callFunc 13 args).run Tryd.prog w = .ok (.enter 13 args) w := enters Tryd.func13 (by kernel_rfl) (by kernel_rfl) args w
theorem step_invoke0 {ops : Array Oper} {o : Oper} {a : Act} {w : World} {K : Act → World → Prop} {Q : Exit → Act → World → Prop} {E : Prop}
    (hw : Region.wanted o (yielded ops a.tmps) = true) (x : Operand) (nm : String) (hop : o.op = Op.call { callee := Callee.invoke x nm, args := #[], argTypes := #[] })
    {r : Value} {f : FuncId} {us : Array Value} {R : Value → World → Prop} (hr : a.eval x = r) (he : (invoke (.fn (.method nm) #[]) #[r]).run Tryd.prog w = .ok (.enter f us) w) (hc : Calls Tryd.prog f us w fun e w2 => ∃ v, e = .returned v ∧ R v w2)
    (hK : ∀ v w', R v w' → K (a.put o.dst v) w') : if Region.wanted o (yielded ops a.tmps) = true then Oper.wp Tryd.prog o a w K Q else E := by
  rw [if_pos hw]
  subst hr
  obtain ⟨dst, op, ty, pos, after, guard⟩ := o
  simp only at hop
  subst hop
  have e0 : execOp a.eval { dst := dst, op := Op.call { callee := Callee.invoke x nm, args := #[], argTypes := #[] }, type := ty, pos := pos, after := after, guard := guard } = invoke (.fn (.method nm) #[]) (#[a.eval x] ++ (#[] : Array Operand).map a.eval) := rfl
  have e1 : #[a.eval x] ++ (#[] : Array Operand).map a.eval = #[a.eval x] := by simp
  unfold Oper.wp
  rw [e0, e1, he, Oper.upon_enter]
  exact hc.mono (by rintro e w2 ⟨v, rfl, hr⟩; exact hK v w2 hr)
/-- Where a row of one's own lies. -/
theorem Gw.at {e : TypeId} {sz : Nat} {w0 w : World} {a : Option Addr} {n cap : Nat} {xs : List Value} (h : Gw e sz w0 w a n cap xs) (hn : 0 < n) : ∃ g, a = some ⟨g, 0, none⟩ ∧ ∀ W, Keep (fun _ => False) w W → ∀ j u, xs[j]? = some u → W.cell? ⟨g, j, none⟩ = some u := by
  rcases h.own.2 with ⟨_, h0⟩ | ⟨g, c, cur, e1, -⟩
  · omega
  · injection e1 with e1
    subst e1
    refine ⟨g, rfl, fun W k j u hu => ?_⟩
    rcases h.rd.keep k with h | ⟨b, o, h1, h2⟩
    · rw [h] at hu; cases hu
    · injection h1 with h1
      injection h1 with h1 h3
      subst h1 h3
      have := h2 j u hu
      rwa [Nat.zero_add] at this
theorem rcs_at : ∀ {L : List Cm} {i : Nat} (h : i < L.length), (rcs L)[i * 4]? = some (.int .u8 (L[i].k : Nat)) ∧ (rcs L)[i * 4 + 1]? = some (.int .i64 L[i].a) ∧ (rcs L)[i * 4 + 2]? = some (.int .i64 L[i].b) ∧ (rcs L)[i * 4 + 3]? = some (.string (str L[i].d))
  | [], i, h => by simp at h
  | c :: L, 0, h => ⟨rfl, rfl, rfl, rfl⟩
  | c :: L, i + 1, h => by
    have ih := rcs_at (L := L) (i := i) (by simpa using h)
    have e : ∀ j, (rcs (c :: L))[(i + 1) * 4 + j]? = (rcs L)[i * 4 + j]? := fun j => by
      have : rcs (c :: L) = rc4 c ++ rcs L := by simp [rcs]
      rw [this, List.getElem?_append_right (by simp [rc4]; omega)]
      congr 1
      simp [rc4]
      omega
    have e0 := e 0
    simp only [Nat.add_zero] at e0
    rw [e0, e 1, e 2, e 3]
    exact ih

set_option maxHeartbeats 1500000 in
set_option maxRecDepth 100000 in
/-- ScriptReads. -/
theorem reads_law (s : ByteArray) (hs : s.size ≤ 1048576) (w : World) (hG : Gt w) : Calls Tryd.prog 4 #[.string s] w fun e w' => e = .returned (.bool true) ∧ Keep (fun _ => False) w w' := by
  have ha := awake_any w hG
  have HG : Hid (Gt w) := hG
  have p1 := fun W hW => sparse_any s W hW
  have p2 := fun W => rparse_any s (by omega) W
  have hok := parse_ok (t := bs s) (bs_byte s)
  have hbd := par_bound s
  generalize parse (bs s) = P at *
  obtain ⟨L, n, x⟩ := P
  simp only at *
  have HO : Hid ((∀ c ∈ L, c.Ok ∧ c.d.length ≤ 16384) ∧ L.length ≤ 1000) := hok
  clear hG hs hok
  go_enter Tryd.func4, Tryd.ntmps4
  go_wp2_with fail
  refine ha.mono ?_
  rintro e w1 ⟨rfl, k1⟩
  go_wp2_with fail
  refine (p1 _ (HG.out.keep k1).1).mono ?_
  rintro e w2 ⟨a2, c2, rfl, g2⟩
  have k2 := k1.trans g2.keep
  go_wp2_with fail
  refine (p2 _).mono ?_
  rintro e w3 ⟨a3, c3, rfl, g3⟩
  have K3 : Hid (Keep (fun _ => False) w w3) := k2.trans g3.keep
  have G2 : Hid (Gw 36 1 w1 w3 a2 L.length c2 (cvs L)) := g2.more g3.keep
  have G3 : Hid (Gw 32 4 w2 w3 a3 L.length c3 (rcs L)) := g3
  clear ha p1 p2 g2 g3 k1 k2 hbd
  go_wp2_with fail
  go_loopw [9] (fun y wr => ∃ i : Nat, y = .int .i64 (i : Nat) ∧ i ≤ L.length ∧ Keep (fun _ => False) w3 wr) (fun y _ => L.length - (intOf y).toNat)
  case atStart => exact ⟨0, rfl, by omega, Keep.refl _ _⟩
  case round =>
    obtain ⟨i, rfl, hi, hk⟩ := hrel
    by_cases hlt : i < L.length
    · have hc := HO.out.1 L[i] (List.getElem_mem hlt)
      have hLl := HO.out.2
      obtain ⟨g2, rfl, hg2⟩ := G2.out.at (by omega)
      obtain ⟨g3, rfl, hg3⟩ := G3.out.at (by omega)
      have hcv : ∀ W, Keep (fun _ => False) wr W → W.cell? ⟨g2, i, none⟩ = some (cv L[i]) := fun W k => hg2 W (hk.trans k) i _ (by simp [cvs, hlt])
      have hr4 := rcs_at hlt
      have hrc : ∀ W, Keep (fun _ => False) wr W → W.cell? ⟨g3, i * 4, none⟩ = some (.int .u8 (L[i].k : Nat)) ∧ W.cell? ⟨g3, i * 4 + 1, none⟩ = some (.int .i64 L[i].a) ∧ W.cell? ⟨g3, i * 4 + 2, none⟩ = some (.int .i64 L[i].b) ∧ W.cell? ⟨g3, i * 4 + 3, none⟩ = some (.string (str L[i].d)) := fun W k =>
        ⟨hg3 W (hk.trans k) _ _ hr4.1, hg3 W (hk.trans k) _ _ hr4.2.1, hg3 W (hk.trans k) _ _ hr4.2.2.1, hg3 W (hk.trans k) _ _ hr4.2.2.2⟩
      have hfit := fit_of_ok hc.1 (by omega)
      have hof := of_any (Tg.Cm.Ok.pl hc.1) wr
      have hin := invoke_text (c := L[i]) hfit.kind
      have htx0 := fun W hW => text_any hfit W hW
      have hrt := fun W => rtext_any hfit W
      have hcvv : cv L[i] = .iface (cty L[i].k) (cag L[i]) := rfl
      rw [hcvv] at hcv hof hin
      have HGW : Hid (Gt wr) := (HG.out.keep K3.out).keep hk
      have KW : Hid (Keep (fun _ => False) w3 wr) := hk
      have j1 : (i : Int) < L.length := by omega
      have j2 : IntKind.i64.wrap ((i : Int) + 1) = (i : Int) + 1 := by rw [IntKind.wrap_i64]; omega
      generalize cty L[i].k = TY at *
      generalize cag L[i] = AG at *
      generalize ctf L[i].k = F at *
      generalize str (txt L[i]) = TX at *
      generalize str L[i].d = D at *
      generalize L[i].a = A at *
      generalize L[i].b = B at *
      generalize L[i].k = KD at *
      have h0 := hcv wr (Keep.refl _ _)
      have HCV : Hid (∀ W, Keep (fun _ => False) wr W → W.cell? ⟨g2, i, none⟩ = some (.iface TY AG)) := hcv
      have HRC : Hid (∀ W, Keep (fun _ => False) wr W → W.cell? ⟨g3, i * 4, none⟩ = some (.int .u8 (KD : Nat)) ∧ W.cell? ⟨g3, i * 4 + 1, none⟩ = some (.int .i64 A) ∧ W.cell? ⟨g3, i * 4 + 2, none⟩ = some (.int .i64 B) ∧ W.cell? ⟨g3, i * 4 + 3, none⟩ = some (.string D)) := hrc
      clear hcv hrc hr4 hc hfit hg2 hg3 hcvv hk hi
      go_wp2_with fail
      refine hof.mono ?_
      rintro e w4 ⟨rfl, k4⟩
      clear hof h0
      go_upto_region 11 with fail
      have Hc : Hid (∀ W, Keep (fun _ => False) (w4.alloc (.cells #[.int .u8 (KD : Nat), .int .i64 A, .int .i64 B, .string D] 32)) W → W.cell? ⟨w4.heap.size, 0, none⟩ = some (.int .u8 (KD : Nat)) ∧ W.cell? ⟨w4.heap.size, 1, none⟩ = some (.int .i64 A) ∧ W.cell? ⟨w4.heap.size, 2, none⟩ = some (.int .i64 B) ∧ W.cell? ⟨w4.heap.size, 3, none⟩ = some (.string D) ∧ W.cell? ⟨g2, i, none⟩ = some (.iface TY AG) ∧ W.cell? ⟨g3, i * 4, none⟩ = some (.int .u8 (KD : Nat)) ∧ W.cell? ⟨g3, i * 4 + 1, none⟩ = some (.int .i64 A) ∧ W.cell? ⟨g3, i * 4 + 2, none⟩ = some (.int .i64 B) ∧ W.cell? ⟨g3, i * 4 + 3, none⟩ = some (.string D)) := fun W k => by
        obtain ⟨q0, q1, q2, q3⟩ := rtext_cells w4 (KD : Nat) A B D W k
        have kk := ((k4.alloc _).trans k)
        exact ⟨q0, q1, q2, q3, HCV.out W kk, HRC.out W kk⟩
      have htx : ∀ W, Keep (fun _ => False) (w4.alloc (.cells #[.int .u8 (KD : Nat), .int .i64 A, .int .i64 B, .string D] 32)) W → Calls Tryd.prog F #[AG] W fun e w' => e = .returned (.string TX) ∧ Keep (fun _ => False) W w' := fun W k => htx0 W (HGW.out.keep ((k4.alloc _).trans k))
      have KQ : Hid (Keep (fun _ => False) w3 (w4.alloc (.cells #[.int .u8 (KD : Nat), .int .i64 A, .int .i64 B, .string D] 32))) := (KW.out.trans k4).alloc _
      clear htx0 k4 HCV HRC HGW
      generalize w4.alloc (.cells #[.int .u8 (KD : Nat), .int .i64 A, .int .i64 B, .string D] 32) = wq at *
      refine wp_region_noPanic ?_
      refine wp_region_held_drew (S := fun w' => Keep (fun _ => False) wq w') (by kernel_rfl) ((Keep.refl _ _).drew) (fun hH0 => ?_)
      refine' wpAnyH_take (i := 0) (oi := { dst := some 55, op := Op.move (Operand.tmp 11), type := 4, pos := "law.go:68", after := #[], guard := none }) (v := _) rfl (by kernel_rfl) (by kernel_rfl) (by kernel_rfl) (fun _ _ _ h => h) (Or.inl ⟨by rfl, ?hy0⟩) hH0 ?r0
      case hy0 => (intro w' hSw; clear hSw; go_simp; try with_reducible rfl)
      simp only [Act.put, List.setIfInBounds_toArray, List.set_cons_zero, List.set_cons_succ]
      refine' wpAnyH_take (i := 1) (oi := { dst := some 56, op := Op.unOp UnOp.not 4 (Operand.tmp 55), type := 4, pos := "law.go:68", after := #[{ on := 0, ground := Ground.data }], guard := none }) (v := _) rfl (by kernel_rfl) (by kernel_rfl) (by kernel_rfl) (fun _ _ _ h => h) (Or.inl ⟨by rfl, ?hy1⟩) hH0 ?r1
      case hy1 => (intro w' hSw; clear hSw; go_simp; try with_reducible rfl)
      simp only [Act.put, List.setIfInBounds_toArray, List.set_cons_zero, List.set_cons_succ]
      refine' wpAnyH_take (i := 2) (oi := { dst := some 57, op := Op.move (Operand.tmp 56), type := 4, pos := "law.go:68", after := #[{ on := 1, ground := Ground.data }], guard := none }) (v := _) rfl (by kernel_rfl) (by kernel_rfl) (by kernel_rfl) (fun _ _ _ h => h) (Or.inl ⟨by rfl, ?hy2⟩) hH0 ?r2
      case hy2 => (intro w' hSw; clear hSw; go_simp; try with_reducible rfl)
      simp only [Act.put, List.setIfInBounds_toArray, List.set_cons_zero, List.set_cons_succ]
      refine' wpAnyH_take (i := 3) (oi := { dst := some 58, op := Op.load 32 (Operand.tmp 10), type := 32, pos := "law.go:68", after := #[{ on := 2, ground := Ground.guard }], guard := some (2, false) }) (v := _) rfl (by kernel_rfl) (by kernel_rfl) (by kernel_rfl) (fun _ _ _ h => h) (Or.inl ⟨by rfl, ?hy3⟩) hH0 ?r3
      case hy3 => (intro w' hSw; obtain ⟨c0, c1, c2, c3, c4, c5, c6, c7, c8⟩ := Hc.out _ hSw; clear hSw; go_simp; try with_reducible rfl)
      simp only [Act.put, List.setIfInBounds_toArray, List.set_cons_zero, List.set_cons_succ]
      refine' wpAnyH_take (i := 4) (oi := { dst := some 59, op := Op.move (Operand.tmp 6), type := 28, pos := "law.go:68", after := #[{ on := 2, ground := Ground.guard }], guard := some (2, false) }) (v := _) rfl (by kernel_rfl) (by kernel_rfl) (by kernel_rfl) (fun _ _ _ h => h) (Or.inl ⟨by rfl, ?hy4⟩) hH0 ?r4
      case hy4 => (intro w' hSw; clear hSw; go_simp; try with_reducible rfl)
      simp only [Act.put, List.setIfInBounds_toArray, List.set_cons_zero, List.set_cons_succ]
      refine' wpAnyH_take (i := 5) (oi := { dst := some 60, op := Op.move (Operand.tmp 9), type := 3, pos := "law.go:68", after := #[{ on := 2, ground := Ground.guard }], guard := some (2, false) }) (v := _) rfl (by kernel_rfl) (by kernel_rfl) (by kernel_rfl) (fun _ _ _ h => h) (Or.inl ⟨by rfl, ?hy5⟩) hH0 ?r5
      case hy5 => (intro w' hSw; clear hSw; go_simp; try with_reducible rfl)
      simp only [Act.put, List.setIfInBounds_toArray, List.set_cons_zero, List.set_cons_succ]
      refine' wpAnyH_take (i := 6) (oi := { dst := some 61, op := Op.indexAddr 28 (Operand.tmp 59) (Operand.tmp 60), type := 0, pos := "law.go:68", after := #[{ on := 4, ground := Ground.data }, { on := 5, ground := Ground.data }, { on := 2, ground := Ground.guard }], guard := some (2, false) }) (v := _) rfl (by kernel_rfl) (by kernel_rfl) (by kernel_rfl) (fun _ _ _ h => h) (Or.inl ⟨by rfl, ?hy6⟩) hH0 ?r6
      case hy6 => (intro w' hSw; clear hSw; go_simp; try with_reducible rfl)
      simp only [Act.put, List.setIfInBounds_toArray, List.set_cons_zero, List.set_cons_succ]
      refine' wpAnyH_take (i := 7) (oi := { dst := some 62, op := Op.load 32 (Operand.tmp 61), type := 32, pos := "law.go:68", after := #[{ on := 6, ground := Ground.data }, { on := 2, ground := Ground.guard }], guard := some (2, false) }) (v := _) rfl (by kernel_rfl) (by kernel_rfl) (by kernel_rfl) (fun _ _ _ h => h) (Or.inl ⟨by rfl, ?hy7⟩) hH0 ?r7
      case hy7 => (intro w' hSw; obtain ⟨c0, c1, c2, c3, c4, c5, c6, c7, c8⟩ := Hc.out _ hSw; clear hSw; go_simp; try with_reducible rfl)
      simp only [Act.put, List.setIfInBounds_toArray, List.set_cons_zero, List.set_cons_succ]
      refine' wpAnyH_take (i := 8) (oi := { dst := some 63, op := Op.binOp BinOp.neq 32 (Operand.tmp 58) (Operand.tmp 62) 32, type := 4, pos := "law.go:68", after := #[{ on := 3, ground := Ground.data }, { on := 7, ground := Ground.data }, { on := 2, ground := Ground.guard }], guard := some (2, false) }) (v := _) rfl (by kernel_rfl) (by kernel_rfl) (by kernel_rfl) (fun _ _ _ h => h) (Or.inl ⟨by rfl, ?hy8⟩) hH0 ?r8
      case hy8 => (intro w' hSw; clear hSw; go_simp; try with_reducible rfl)
      simp only [Act.put, List.setIfInBounds_toArray, List.set_cons_zero, List.set_cons_succ]
      refine' wpAnyH_take (i := 9) (oi := { dst := some 64, op := Op.pick (Operand.tmp 57) (Operand.const (Value.bool true)) (Operand.tmp 63), type := 4, pos := "law.go:68", after := #[{ on := 2, ground := Ground.data }, { on := 8, ground := Ground.data }], guard := none }) (v := _) rfl (by kernel_rfl) (by kernel_rfl) (by kernel_rfl) (fun _ _ _ h => h) (Or.inl ⟨by rfl, ?hy9⟩) hH0 ?r9
      case hy9 => (intro w' hSw; clear hSw; go_simp; try with_reducible rfl)
      simp only [Act.put, List.setIfInBounds_toArray, List.set_cons_zero, List.set_cons_succ]
      refine' wpAnyH_take (i := 10) (oi := { dst := some 65, op := Op.move (Operand.tmp 64), type := 4, pos := "law.go:68", after := #[{ on := 9, ground := Ground.data }, { on := 2, ground := Ground.chain }], guard := none }) (v := _) rfl (by kernel_rfl) (by kernel_rfl) (by kernel_rfl) (fun _ _ _ h => h) (Or.inl ⟨by rfl, ?hy10⟩) hH0 ?r10
      case hy10 => (intro w' hSw; clear hSw; go_simp; try with_reducible rfl)
      simp only [Act.put, List.setIfInBounds_toArray, List.set_cons_zero, List.set_cons_succ]
      refine' wpAnyH_take (i := 11) (oi := { dst := some 66, op := Op.move (Operand.tmp 3), type := 23, pos := "law.go:68", after := #[{ on := 10, ground := Ground.guard }], guard := some (10, false) }) (v := _) rfl (by kernel_rfl) (by kernel_rfl) (by kernel_rfl) (fun _ _ _ h => h) (Or.inl ⟨by rfl, ?hy11⟩) hH0 ?r11
      case hy11 => (intro w' hSw; clear hSw; go_simp; try with_reducible rfl)
      simp only [Act.put, List.setIfInBounds_toArray, List.set_cons_zero, List.set_cons_succ]
      refine' wpAnyH_take (i := 12) (oi := { dst := some 67, op := Op.move (Operand.tmp 9), type := 3, pos := "law.go:68", after := #[{ on := 10, ground := Ground.guard }], guard := some (10, false) }) (v := _) rfl (by kernel_rfl) (by kernel_rfl) (by kernel_rfl) (fun _ _ _ h => h) (Or.inl ⟨by rfl, ?hy12⟩) hH0 ?r12
      case hy12 => (intro w' hSw; clear hSw; go_simp; try with_reducible rfl)
      simp only [Act.put, List.setIfInBounds_toArray, List.set_cons_zero, List.set_cons_succ]
      refine' wpAnyH_take (i := 13) (oi := { dst := some 68, op := Op.indexAddr 23 (Operand.tmp 66) (Operand.tmp 67), type := 0, pos := "law.go:68", after := #[{ on := 11, ground := Ground.data }, { on := 12, ground := Ground.data }, { on := 10, ground := Ground.guard }], guard := some (10, false) }) (v := _) rfl (by kernel_rfl) (by kernel_rfl) (by kernel_rfl) (fun _ _ _ h => h) (Or.inl ⟨by rfl, ?hy13⟩) hH0 ?r13
      case hy13 => (intro w' hSw; clear hSw; go_simp; try with_reducible rfl)
      simp only [Act.put, List.setIfInBounds_toArray, List.set_cons_zero, List.set_cons_succ]
      refine' wpAnyH_take (i := 14) (oi := { dst := some 69, op := Op.load 36 (Operand.tmp 68), type := 36, pos := "law.go:68", after := #[{ on := 13, ground := Ground.data }, { on := 10, ground := Ground.guard }], guard := some (10, false) }) (v := _) rfl (by kernel_rfl) (by kernel_rfl) (by kernel_rfl) (fun _ _ _ h => h) (Or.inl ⟨by rfl, ?hy14⟩) hH0 ?r14
      case hy14 => (intro w' hSw; obtain ⟨c0, c1, c2, c3, c4, c5, c6, c7, c8⟩ := Hc.out _ hSw; clear hSw; go_simp; try with_reducible rfl)
      simp only [Act.put, List.setIfInBounds_toArray, List.set_cons_zero, List.set_cons_succ]
      refine' wpAnyH_take (i := 16) (oi := { dst := some 71, op := Op.load 32 (Operand.tmp 10), type := 32, pos := "law.go:68", after := #[{ on := 10, ground := Ground.guard }], guard := some (10, false) }) (v := _) rfl (by kernel_rfl) (by kernel_rfl) (by kernel_rfl) (fun _ _ _ h => h) (Or.inl ⟨by rfl, ?hy16⟩) hH0 ?r16
      case hy16 => (intro w' hSw; obtain ⟨c0, c1, c2, c3, c4, c5, c6, c7, c8⟩ := Hc.out _ hSw; clear hSw; go_simp; try with_reducible rfl)
      simp only [Act.put, List.setIfInBounds_toArray, List.set_cons_zero, List.set_cons_succ]
      refine wpAnyH_ready (rs := [15]) (by kernel_rfl) (by simp) ?_
      refine AllReadyH.cons (o := { dst := some 70, op := Op.call { callee := Callee.invoke (Operand.tmp 69) "Text", args := #[], argTypes := #[] }, type := 9, pos := "law.go:68", after := #[{ on := 14, ground := Ground.data }, { on := 10, ground := Ground.chain }, { on := 10, ground := Ground.guard }], guard := some (10, false) }) rfl (fun K hK => ?_) AllReadyH.nil
      refine step_invoke0 (R := fun u2 w2 => u2 = .string TX ∧ Keep (fun _ => False) wq w2) (by rfl) (.tmp 69) "Text" rfl (by rfl) (hin _) (post_keep (htx _ hH0) hH0) ?_
      rintro u0 w4 ⟨rfl, hk0⟩
      refine hK.out _ _ (hk0) (fun hH1 => ?_)
      clear hK K hH0
      simp only [Act.put, List.setIfInBounds_toArray, List.set_cons_zero, List.set_cons_succ]
      refine wpAnyH_ready (rs := [17]) (by kernel_rfl) (by simp) ?_
      refine AllReadyH.cons (o := { dst := some 72, op := Op.call { callee := Callee.value (Operand.func 13), args := #[Operand.tmp 71], argTypes := #[32] }, type := 9, pos := "law.go:68", after := #[{ on := 16, ground := Ground.data }, { on := 15, ground := Ground.chain }, { on := 10, ground := Ground.guard }], guard := some (10, false) }) rfl (fun K hK => ?_) AllReadyH.nil
      refine step_call_want (vs := #[.agg #[.int .u8 (KD : Int), .int .i64 A, .int .i64 B, .string D]]) (R := fun u2 w2 => u2 = .string TX ∧ Keep (fun _ => False) wq w2) (by rfl) 13 #[Operand.tmp 71] #[32] rfl (by simp [Act.eval]) ec13 (post_keep (hrt _) hH1) ?_
      rintro u1 w5 ⟨rfl, hk1⟩
      refine hK.out _ _ (hk1) (fun hH2 => ?_)
      clear hK K hH1
      simp only [Act.put, List.setIfInBounds_toArray, List.set_cons_zero, List.set_cons_succ]
      refine' wpAnyH_take (i := 18) (oi := { dst := some 73, op := Op.binOp BinOp.neq 9 (Operand.tmp 70) (Operand.tmp 72) 9, type := 4, pos := "law.go:68", after := #[{ on := 15, ground := Ground.data }, { on := 17, ground := Ground.data }, { on := 10, ground := Ground.guard }], guard := some (10, false) }) (v := _) rfl (by kernel_rfl) (by kernel_rfl) (by kernel_rfl) (fun _ _ _ h => h) (Or.inl ⟨by rfl, ?hy18⟩) hH2 ?r18
      case hy18 => (intro w' hSw; clear hSw; go_simp; try with_reducible rfl)
      simp only [Act.put, List.setIfInBounds_toArray, List.set_cons_zero, List.set_cons_succ]
      refine' wpAnyH_take (i := 19) (oi := { dst := some 74, op := Op.pick (Operand.tmp 65) (Operand.const (Value.bool true)) (Operand.tmp 73), type := 4, pos := "law.go:68", after := #[{ on := 10, ground := Ground.data }, { on := 18, ground := Ground.data }], guard := none }) (v := _) rfl (by kernel_rfl) (by kernel_rfl) (by kernel_rfl) (fun _ _ _ h => h) (Or.inl ⟨by rfl, ?hy19⟩) hH2 ?r19
      case hy19 => (intro w' hSw; clear hSw; go_simp; try with_reducible rfl)
      simp only [Act.put, List.setIfInBounds_toArray, List.set_cons_zero, List.set_cons_succ]
      refine wpAnyH_done (by kernel_rfl) ?_ _
      refine NoPanic.normal ?_
      go_wp2_with fail
      go_roundw
      case rel => exact ⟨i + 1, by rw [Int.natCast_add]; rfl, by omega, KQ.out.trans hk1⟩
      case measure => simp [intOf]; omega
    · obtain rfl : i = L.length := by omega
      have j1 : ¬ (L.length : Int) < L.length := by omega
      have KW : Hid (Keep (fun _ => False) w3 wr) := hk
      clear hk hi hlt
      go_wp2_with fail
      go_ret
      exact ⟨rfl, K3.out.trans KW.out⟩
end Tg
end Go.Proofs.YtgilagmgepogbaaDoor
