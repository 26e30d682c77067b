/-
  BlocksCollect, given what the program's own calls answer.
-/
import Derived.Test.YtkddonmddgfpnabBg
namespace Go.Proofs.Ytkddonmddgfpnab
open Go.ChangeShapes Go.WideShapes Go.ChangeAt Go.RowKit
namespace Tg
theorem step_invoke_want {P : Program} {ops : Array Oper} {o : Oper} {a : Act} {w : World} {K : Act → World → Prop} {Q : Exit → Act → World → Prop} {E : Prop}
    (hw : Region.wanted o (yielded ops a.tmps) = true) (x : Operand) (nm : String) (xs : Array Operand) (ts : Array TypeId) (hop : o.op = Op.call { callee := Callee.invoke x nm, args := xs, argTypes := ts })
    {r : Value} {f : FuncId} {vs us : Array Value} {R : Value → World → Prop} (hr : a.eval x = r) (hx : xs.map a.eval = vs) (he : (invoke (.fn (.method nm) #[]) (#[r] ++ vs)).run P w = .ok (.enter f us) w) (hc : Calls P f us w fun e w2 => ∃ v, e = .returned v ∧ R v w2)
    (hK : ∀ v w', R v w' → K (a.put o.dst v) w') : if Region.wanted o (yielded ops a.tmps) = true then Oper.wp P o a w K Q else E := by
  rw [if_pos hw]
  subst hx hr
  obtain ⟨dst, op, ty, pos, after, guard⟩ := o
  simp only at hop
  subst hop
  have e0 : execOp a.eval { dst := dst, op := Op.call { callee := Callee.invoke x nm, args := xs, argTypes := ts }, type := ty, pos := pos, after := after, guard := guard } = invoke (.fn (.method nm) #[]) (#[a.eval x] ++ xs.map a.eval) := rfl
  unfold Oper.wp
  rw [e0, he, Oper.upon_enter]
  exact hc.mono (by rintro e w2 ⟨v, rfl, hr⟩; exact hK v w2 hr)
theorem invSet (q : Nat) (x y z : Int) (w : World) : (invoke (.fn (.method "Set") #[]) (#[.iface 64 (.pointer (some ⟨q, 0, none⟩))] ++ #[.int .i64 x, .int .i64 y, .int .i64 z])).run Try.prog w = .ok (.enter 74 #[.pointer (some ⟨q, 0, none⟩), .int .i64 x, .int .i64 y, .int .i64 z]) w := by kernel_rfl
theorem nilSet (q : Nat) (w : World) : (nilAhead 260 64 (.pointer (some ⟨q, 0, none⟩)) "Set").run Try.prog w = .ok (some false) w := by kernel_rfl
theorem build_op (x y z : Int) (w : World) : (Instr.buildSlice 50 1 #[(0, .agg #[.int .i64 x, .int .i64 y, .int .i64 z])]).run Try.prog w = .ok (.slice (some ⟨w.heap.size, 0, none⟩) 1 1) (w.alloc (.cells #[.int .i64 x, .int .i64 y, .int .i64 z] 51)) := by kernel_rfl
theorem Rp.app1K {w0 w : World} {a : Option Addr} {cap : Nat} {m : List Rn} (h : Rp w0 w a cap m) (hl : m.length ≤ 100000) (x : Rn) :
    ∃ a' cap' w', (Builtin.append_ #[50, 50] 50 #[.slice a m.length cap, .slice (some ⟨w.heap.size, 0, none⟩) 1 1]).run Try.prog (w.alloc (.cells #[.int .i64 x.lba, .int .i64 x.len, .int .i64 x.phys] 51)) = .ok (.slice a' (m.length + 1) cap') w' ∧ Rp w0 w' a' cap' (m ++ [x]) ∧ Keep (fun b => w0.heap.size ≤ b) w w' := by
  obtain ⟨a', cap', w', h1, h2, h3⟩ := (h.more ((Keep.refl (fun _ => False) w).alloc (.cells #[.int .i64 x.lba, .int .i64 x.len, .int .i64 x.phys] 51))).appN ⟨w.heap.size, 0, none⟩ 1 [x] (by simp; omega) (fun j u hu => cells_new w _ 51 j u (by simpa [rcells, rcs] using hu))
  exact ⟨a', cap', w', h1, h2, ((Keep.refl (fun b => w0.heap.size ≤ b) w).alloc _).trans h3⟩
theorem mkOps_fits : ∀ {A : Int} {M : List Rn}, (0 ≤ A ∧ A ≤ 1000000000) → (∀ y ∈ M, 0 ≤ y.lba ∧ 1 ≤ y.len ∧ y.len ≤ 512 ∧ y.lba ≤ 512) → (∀ j, 0 ≤ sumLen (M.take j) ∧ sumLen (M.take j) ≤ 32) → Fits (mkOps A M) := fun {A M} hA hb hs x hx => by
  obtain ⟨j, hj⟩ := List.getElem?_of_mem hx
  have hjl : j < M.length := by have := (List.getElem?_eq_some_iff.1 hj).1; rwa [mkOps_len] at this
  obtain ⟨y, hy⟩ : ∃ y, M[j]? = some y := ⟨_, List.getElem?_eq_getElem hjl⟩
  have e1 : mkOps A M = mkOps A (M.take j ++ [y] ++ M.drop (j + 1)) := by rw [← take_more hy, List.take_append_drop]
  have key : ∀ (B : Int) (P Q : List Rn), mkOps B (P ++ Q) = mkOps B P ++ mkOps (B + sumLen P) Q := by
    intro B P
    induction P generalizing B with
    | nil => intro Q; simp [mkOps, sumLen]
    | cons p P ih =>
      intro Q
      simp only [List.cons_append, mkOps, sumLen, ih (B + p.len) Q]
      rw [show B + p.len + sumLen P = B + (p.len + sumLen P) by omega]
  rw [e1, key, mkOps_snoc, List.append_assoc, List.getElem?_append_right (by rw [mkOps_len, List.length_take]; omega)] at hj
  rw [show j - (mkOps A (List.take j M)).length = 0 by rw [mkOps_len, List.length_take]; omega] at hj
  simp only [List.cons_append, List.getElem?_cons_zero, Option.some.injEq] at hj
  have h1 := hb y (List.mem_of_getElem? hy)
  have h2 := hs j
  subst hj
  simp only
  omega
theorem Rp.at0 {w0 w : World} {a : Option Addr} {cap : Nat} {m : List Rn} (h : Rp w0 w a cap m) {g o : Nat} (e : a = some ⟨g, o, none⟩) (hm : m ≠ []) : o = 0 := by
  rcases h.own.2 with ⟨e1, hn⟩ | ⟨g1, c, cur, e1, -⟩
  · exact (hm (List.eq_nil_of_length_eq_zero hn)).elim
  · injection e1 with e1
    rw [e] at e1
    injection e1 with e1
    injection e1
set_option maxRecDepth 100000 in
set_option maxHeartbeats 4000000 in
theorem collect_yes (HA : AwOk) (HV : ValidOk) (HM : MovesOk) {w : World} {a : Option Addr} {cap : Nat} {p : List Rn} (hP : Rz w a cap p) (hfp : Fits p) {pages fr tt : Int} (hpb : -9223372036854775808 ≤ pages ∧ pages ≤ 9223372036854775807) (hfb : -9223372036854775808 ≤ fr ∧ fr ≤ 9223372036854775807) (htb : -9223372036854775808 ≤ tt ∧ tt ≤ 9223372036854775807) (h : p.length ≤ 100 ∧ (1 ≤ pages ∧ pages ≤ 32) ∧ (0 ≤ fr ∧ fr ≤ 63) ∧ (0 ≤ tt ∧ tt ≤ 63) ∧ ¬ fr = tt) :
    Calls Try.prog 7 #[.slice a p.length cap, .int .i64 pages, .int .i64 fr, .int .i64 tt] w fun e w' => e = .returned (.bool true) ∧ Keep (fun _ => False) w w' := by
  have hc1 := hP.1
  have hc2 := hP.2.1
  obtain ⟨h0, ⟨h1, h2⟩, ⟨h3, h4⟩, ⟨h5, h6⟩, h7⟩ := h
  have d0 : ¬ (100 : Int) < (p.length : Int) := by omega
  have b0 : decide ((100 : Int) < (p.length : Int)) = false := decide_eq_false d0
  have d1 : ¬ pages < 1 := by omega
  have b1 : decide (pages < 1) = false := decide_eq_false d1
  have d2 : ¬ 32 < pages := by omega
  have b2 : decide (32 < pages) = false := decide_eq_false d2
  have d3 : ¬ fr < 0 := by omega
  have b3 : decide (fr < 0) = false := decide_eq_false d3
  have d4 : ¬ 63 < fr := by omega
  have b4 : decide (63 < fr) = false := decide_eq_false d4
  have d5 : ¬ tt < 0 := by omega
  have b5 : decide (tt < 0) = false := decide_eq_false d5
  have d6 : ¬ 63 < tt := by omega
  have b6 : decide (63 < tt) = false := decide_eq_false d6
  have d7 : (fr == tt) = false := by simp [h7]
  obtain ⟨f, rfl⟩ : ∃ f : Nat, fr = (f : Int) := ⟨fr.toNat, by omega⟩
  obtain ⟨t, rfl⟩ : ∃ t : Nat, tt = (t : Int) := ⟨tt.toNat, by omega⟩
  have hf63 : f ≤ 63 := by omega
  have ht63 : t ≤ 63 := by omega
  have hne : ¬ f = t := fun e => h7 (by rw [e])
  go_enter Try.func7, Try.ntmps7
  go_wp2_with fail
  refine (HA _).mono ?_
  rintro e w0 ⟨rfl, k0⟩
  have hfo := fold9 (hP.more k0) hfp
  go_wp2_with fail
  refine hfo.mono ?_
  rintro e w1 ⟨aL, cL, rfl, RL⟩
  have hF := fold_fit p
  have hf13 := fold_fit13 p
  have hlf := foldR_fits p
  clear hfo
  generalize foldR p = l at RL hF hf13 hlf
  have ZL := RL.rs.rz
  have hcl := ZL.1
  have hcl2 := ZL.2.1
  have hl5 := hF.len
  obtain ⟨m, hm⟩ : ∃ m, m = l.length := ⟨_, rfl⟩
  have hm' : Hid (m = l.length) := hm
  rw [← hm] at hcl hl5 ⊢
  clear hm
  have dmul : IntKind.i64.wrap (64 * pages) = 64 * pages := wrapI (by omega) (by omega)
  have hin := inside13 ZL hF (P := 64 * pages) (by omega)
  rw [← show m = l.length from hm'] at hin
  go_wp2_with fail
  refine hin.mono ?_
  rintro e w2 ⟨rfl, k2⟩
  have K2 := (k0.trans RL.keep).trans k2
  have ZL2 := ZL.more k2
  clear hin RL k0 ZL hP d0 d1 d2 d3 d4 d5 d6 d7 b0 b1 b2 b3 b4 b5 b6
  cases hiP : inP (64 * pages) l with
  | false =>
    clear hiP
    go_wp2_with fail
    go_ret
    exact ⟨rfl, K2⟩
  | true =>
    have hvo : vOk l 64 pages = true := by
      unfold vOk
      rw [decide_eq_true ⟨h1, h2⟩, hf13, decide_eq_true (by omega), hiP]
      rfl
    have hso : sOk l pages = true := by
      unfold sOk
      rw [decide_eq_true ⟨h1, h2⟩, hf13]
      simp only [Bool.true_and, List.all_eq_true, decide_eq_true_iff]
      intro x hx
      have h1 := inP_iff.1 hiP x hx
      have h2 := hF.bd hx
      omega
    have hv := HV 64 pages ZL2 hlf (by omega) hpb
    simp only [hvo, if_true] at hv
    rw [← show m = l.length from hm', show Int.toNat 64 = 64 from rfl] at hv
    go_wp2_with fail
    refine hv.mono ?_
    rintro e w3 ⟨⟨aV, cV, rfl, IV⟩, k3⟩
    have K3 := K2.trans k3
    have ZL3 := ZL2.more k3
    have hcV := IV.1
    rw [valL_len] at hcV
    have hcV2 := IV.2.1
    have hmv := HM (f : Int) pages ZL3 hlf (by omega) hpb
    rw [← show m = l.length from hm'] at hmv
    clear hv hvo K2 k2 k3 ZL2 HA
    go_wp2_with fail
    refine hmv.mono ?_
    rintro e w4 ⟨h4', k4⟩
    rw [if_pos ⟨hso, by omega, by omega⟩] at h4'
    obtain ⟨aM, cM, rfl, ZM, hfr⟩ := h4'
    have K4 := K3.trans k4
    have ZL4 := ZL3.more k4
    have IV4 := IV.more k4
    have hcM := ZM.1
    have hcM2 := ZM.2.1
    have hkb : (movL pages (f : Int) l).length ≤ 512 := Nat.le_trans movL_len (splL_512 hF)
    have n5 := newS true (w := w4) (C := 512) (N := 512) (by omega) (by omega) (by omega) (by omega)
    rw [show ((512 : Nat) : Int) = 512 from rfl, show List.replicate 512 (-1 : Int) = setT (l.take 0) blank from rfl] at n5
    unfold mapV at n5
    clear hmv K3 ZL3 IV
    go_wp2_with fail
    refine n5.mono ?_
    rintro e w5 ⟨q, S, rfl, SP⟩
    have hvt : Hid ((valL pages l 64)[t]? = some (cnt pages (t : Int) l)) := by show _ = _; simp [valL, show t < 64 by omega]
    have hvf : Hid ((valL pages l 64)[f]? = some (cnt pages (f : Int) l)) := by show _ = _; simp [valL, show f < 64 by omega]
    obtain ⟨gV, oV, rfl, cvt⟩ := (IV4.more SP.keep).at (show (valL pages l 64)[t]? = some _ from hvt)
    obtain ⟨gV', oV', e, cvf⟩ := (IV4.more SP.keep).at (show (valL pages l 64)[f]? = some _ from hvf)
    injection e with e
    injection e with e1 e2
    subst e1 e2
    clear n5
    by_cases hz : cnt pages (t : Int) l = 0
    rotate_left
    · have hz1 : (cnt pages (t : Int) l != 0) = true := by simp [hz]
      have HK := K4.trans SP.keep
      clear SP ZL4 ZM IV4 K4
      generalize cnt pages (t : Int) l = cT at cvt hz hz1
      generalize cnt pages (f : Int) l = cF at cvf
      go_wp2_with fail
      go_ret
      exact ⟨rfl, HK⟩
    by_cases hg : pages < cnt pages (f : Int) l
    · rw [hz] at cvt
      have HK := K4.trans SP.keep
      clear SP ZL4 ZM IV4 K4
      generalize cnt pages (f : Int) l = cF at cvf hg
      go_wp2_with fail
      go_ret
      exact ⟨rfl, HK⟩
    rw [hz] at cvt
    have hzH : Hid (cnt pages (t : Int) l = 0) := hz
    obtain ⟨cF, hcF⟩ : ∃ c, c = cnt pages (f : Int) l := ⟨_, rfl⟩
    have hcF' : Hid (cF = cnt pages (f : Int) l) := hcF
    rw [← hcF] at cvf hg
    have hgd : decide (pages < cF) = false := decide_eq_false hg
    clear hz hcF
    go_wp2_with fail
    go_loopw [16] (fun v wx => ∃ i : Nat, i ≤ m ∧ v = .int .i64 (i : Int) ∧ Sp w4 wx true q S (fun _ => False) 512 512 (setT (l.take i) blank)) (fun v _ => m - (intOf v).toNat)
    case atStart => exact ⟨0, by omega, rfl, SP⟩
    case round =>
      clear SP cvt cvf hgd
      obtain ⟨i, hi, rfl, SP⟩ := hrel
      by_cases hlt : i < m
      · obtain ⟨x, hx⟩ := get_rn (m := l) (i := i) (by rw [← show m = l.length from hm']; exact hlt)
        obtain ⟨gL, oL, rfl, y0, y1, y2⟩ := (ZL4.more SP.keep).at hx
        have hst := set_step (P := 64 * pages) (by omega) hF hiP hx
        have hbx := hF.bd (List.mem_of_getElem? hx)
        have hnS : ¬ S gL := fun e => by
          have hx0 : l ≠ [] := fun e => by rw [e] at hx; simp at hx
          have h1 := ZL4.block hx0
          have h2 := (SP.sw gL e).1
          omega
        have cX : ∀ w', Keep S wr w' → w'.cell? ⟨gL, oL + i * 3, none⟩ = some (.int .i64 x.lba) ∧ w'.cell? ⟨gL, oL + i * 3 + 1, none⟩ = some (.int .i64 x.len) ∧ w'.cell? ⟨gL, oL + i * 3 + 2, none⟩ = some (.int .i64 x.phys) := fun w' k => by
          obtain ⟨g', o', e, q0, q1, q2⟩ := ((ZL4.more SP.keep).keep k (fun g o e hM => by injection e with e; injection e with e1 e2; subst e1; exact hnS)).at hx
          injection e with e
          injection e with e1 e2
          subst e1 e2
          exact ⟨q0, q1, q2⟩
        have SPd := SP.more ((Keep.refl (fun _ => False) wr).drewB)
        have c6 : Calls Try.prog 74 #[.pointer (some ⟨q, 0, none⟩), .int .i64 x.lba, .int .i64 x.len, .int .i64 x.phys] wr.drew (fun e w2 => ∃ v, e = .returned v ∧ v = .int .i64 0 ∧ Sp w4 w2 true q S (fun _ => False) 512 512 (setT (l.take (i + 1)) blank) ∧ Keep S wr w2) := by
          have c0 := SPd.set (x := x) (by omega) (by omega)
          rw [hst] at c0
          refine c0.mono ?_
          rintro e w2 ⟨rfl, h1, h2⟩
          exact ⟨_, rfl, rfl, h1, ((Keep.refl S wr).drewB).trans h2⟩
        have di : (i : Int) < (m : Int) := by omega
        have dw := wrapI (x := (i : Int) + 1) (by omega) (by omega)
        have hlt' : Hid (i < m) := hlt
        clear hlt hst hx SPd
        go_upto_region 16 with fail
        refine wp_region_noPanic ?_
        refine wp_region_held_drew (S := fun w' => Keep S wr w' ∧ True) (by kernel_rfl) (⟨(Keep.refl S wr).drewB, trivial⟩) (fun hH0 => ?_)
        refine' wpAnyH_take (i := 0) (oi := { dst := some 121, op := Op.move (Operand.tmp 14), type := 46, pos := "more.go:30", after := #[], guard := none }) (v := _) rfl (by kernel_rfl) (by kernel_rfl) (by kernel_rfl) (fun _ _ _ h => h) (Or.inl ⟨by rfl, ?hya0⟩) hH0 ?ra0
        case hya0 => (intro w' hSw; have z0 := (cX w' hSw.1).1; have z1 := (cX w' hSw.1).2.1; have z2 := (cX w' hSw.1).2.2; clear hSw; have nA := nilSet q w'; go_simp; try with_reducible rfl)
        simp only [Act.put, List.setIfInBounds_toArray, List.set_cons_zero, List.set_cons_succ]
        refine' wpAnyH_take (i := 1) (oi := { dst := some 122, op := Op.move (Operand.tmp 9), type := 27, pos := "more.go:30", after := #[], guard := none }) (v := _) rfl (by kernel_rfl) (by kernel_rfl) (by kernel_rfl) (fun _ _ _ h => h) (Or.inl ⟨by rfl, ?hya1⟩) hH0 ?ra1
        case hya1 => (intro w' hSw; have z0 := (cX w' hSw.1).1; have z1 := (cX w' hSw.1).2.1; have z2 := (cX w' hSw.1).2.2; clear hSw; have nA := nilSet q w'; go_simp; try with_reducible rfl)
        simp only [Act.put, List.setIfInBounds_toArray, List.set_cons_zero, List.set_cons_succ]
        refine' wpAnyH_take (i := 2) (oi := { dst := some 123, op := Op.move (Operand.tmp 16), type := 3, pos := "more.go:30", after := #[], guard := none }) (v := _) rfl (by kernel_rfl) (by kernel_rfl) (by kernel_rfl) (fun _ _ _ h => h) (Or.inl ⟨by rfl, ?hya2⟩) hH0 ?ra2
        case hya2 => (intro w' hSw; have z0 := (cX w' hSw.1).1; have z1 := (cX w' hSw.1).2.1; have z2 := (cX w' hSw.1).2.2; clear hSw; have nA := nilSet q w'; go_simp; try with_reducible rfl)
        simp only [Act.put, List.setIfInBounds_toArray, List.set_cons_zero, List.set_cons_succ]
        refine' wpAnyH_take (i := 3) (oi := { dst := some 124, op := Op.indexAddr 27 (Operand.tmp 122) (Operand.tmp 123), type := 0, pos := "more.go:30", after := #[{ on := 1, ground := Ground.data }, { on := 2, ground := Ground.data }], guard := none }) (v := _) rfl (by kernel_rfl) (by kernel_rfl) (by kernel_rfl) (fun _ _ _ h => h) (Or.inl ⟨by rfl, ?hya3⟩) hH0 ?ra3
        case hya3 => (intro w' hSw; have z0 := (cX w' hSw.1).1; have z1 := (cX w' hSw.1).2.1; have z2 := (cX w' hSw.1).2.2; clear hSw; have nA := nilSet q w'; go_simp; try with_reducible rfl)
        simp only [Act.put, List.setIfInBounds_toArray, List.set_cons_zero, List.set_cons_succ]
        refine' wpAnyH_take (i := 4) (oi := { dst := some 125, op := Op.fieldAddr 35 (Operand.tmp 124) 0, type := 0, pos := "more.go:30", after := #[{ on := 3, ground := Ground.data }], guard := none }) (v := _) rfl (by kernel_rfl) (by kernel_rfl) (by kernel_rfl) (fun _ _ _ h => h) (Or.inl ⟨by rfl, ?hya4⟩) hH0 ?ra4
        case hya4 => (intro w' hSw; have z0 := (cX w' hSw.1).1; have z1 := (cX w' hSw.1).2.1; have z2 := (cX w' hSw.1).2.2; clear hSw; have nA := nilSet q w'; go_simp; try with_reducible rfl)
        simp only [Act.put, List.setIfInBounds_toArray, List.set_cons_zero, List.set_cons_succ]
        refine' wpAnyH_take (i := 5) (oi := { dst := some 126, op := Op.load 3 (Operand.tmp 125), type := 3, pos := "more.go:30", after := #[{ on := 4, ground := Ground.data }], guard := none }) (v := _) rfl (by kernel_rfl) (by kernel_rfl) (by kernel_rfl) (fun _ _ _ h => h) (Or.inl ⟨by rfl, ?hya5⟩) hH0 ?ra5
        case hya5 => (intro w' hSw; have z0 := (cX w' hSw.1).1; have z1 := (cX w' hSw.1).2.1; have z2 := (cX w' hSw.1).2.2; clear hSw; have nA := nilSet q w'; go_simp; try with_reducible rfl)
        simp only [Act.put, List.setIfInBounds_toArray, List.set_cons_zero, List.set_cons_succ]
        refine' wpAnyH_take (i := 6) (oi := { dst := some 127, op := Op.move (Operand.tmp 9), type := 27, pos := "more.go:30", after := #[], guard := none }) (v := _) rfl (by kernel_rfl) (by kernel_rfl) (by kernel_rfl) (fun _ _ _ h => h) (Or.inl ⟨by rfl, ?hya6⟩) hH0 ?ra6
        case hya6 => (intro w' hSw; have z0 := (cX w' hSw.1).1; have z1 := (cX w' hSw.1).2.1; have z2 := (cX w' hSw.1).2.2; clear hSw; have nA := nilSet q w'; go_simp; try with_reducible rfl)
        simp only [Act.put, List.setIfInBounds_toArray, List.set_cons_zero, List.set_cons_succ]
        refine' wpAnyH_take (i := 7) (oi := { dst := some 128, op := Op.move (Operand.tmp 16), type := 3, pos := "more.go:30", after := #[], guard := none }) (v := _) rfl (by kernel_rfl) (by kernel_rfl) (by kernel_rfl) (fun _ _ _ h => h) (Or.inl ⟨by rfl, ?hya7⟩) hH0 ?ra7
        case hya7 => (intro w' hSw; have z0 := (cX w' hSw.1).1; have z1 := (cX w' hSw.1).2.1; have z2 := (cX w' hSw.1).2.2; clear hSw; have nA := nilSet q w'; go_simp; try with_reducible rfl)
        simp only [Act.put, List.setIfInBounds_toArray, List.set_cons_zero, List.set_cons_succ]
        refine' wpAnyH_take (i := 8) (oi := { dst := some 129, op := Op.indexAddr 27 (Operand.tmp 127) (Operand.tmp 128), type := 0, pos := "more.go:30", after := #[{ on := 6, ground := Ground.data }, { on := 7, ground := Ground.data }], guard := none }) (v := _) rfl (by kernel_rfl) (by kernel_rfl) (by kernel_rfl) (fun _ _ _ h => h) (Or.inl ⟨by rfl, ?hya8⟩) hH0 ?ra8
        case hya8 => (intro w' hSw; have z0 := (cX w' hSw.1).1; have z1 := (cX w' hSw.1).2.1; have z2 := (cX w' hSw.1).2.2; clear hSw; have nA := nilSet q w'; go_simp; try with_reducible rfl)
        simp only [Act.put, List.setIfInBounds_toArray, List.set_cons_zero, List.set_cons_succ]
        refine' wpAnyH_take (i := 9) (oi := { dst := some 130, op := Op.fieldAddr 35 (Operand.tmp 129) 1, type := 0, pos := "more.go:30", after := #[{ on := 8, ground := Ground.data }], guard := none }) (v := _) rfl (by kernel_rfl) (by kernel_rfl) (by kernel_rfl) (fun _ _ _ h => h) (Or.inl ⟨by rfl, ?hya9⟩) hH0 ?ra9
        case hya9 => (intro w' hSw; have z0 := (cX w' hSw.1).1; have z1 := (cX w' hSw.1).2.1; have z2 := (cX w' hSw.1).2.2; clear hSw; have nA := nilSet q w'; go_simp; try with_reducible rfl)
        simp only [Act.put, List.setIfInBounds_toArray, List.set_cons_zero, List.set_cons_succ]
        refine' wpAnyH_take (i := 10) (oi := { dst := some 131, op := Op.load 3 (Operand.tmp 130), type := 3, pos := "more.go:30", after := #[{ on := 9, ground := Ground.data }], guard := none }) (v := _) rfl (by kernel_rfl) (by kernel_rfl) (by kernel_rfl) (fun _ _ _ h => h) (Or.inl ⟨by rfl, ?hya10⟩) hH0 ?ra10
        case hya10 => (intro w' hSw; have z0 := (cX w' hSw.1).1; have z1 := (cX w' hSw.1).2.1; have z2 := (cX w' hSw.1).2.2; clear hSw; have nA := nilSet q w'; go_simp; try with_reducible rfl)
        simp only [Act.put, List.setIfInBounds_toArray, List.set_cons_zero, List.set_cons_succ]
        refine' wpAnyH_take (i := 11) (oi := { dst := some 132, op := Op.move (Operand.tmp 9), type := 27, pos := "more.go:30", after := #[], guard := none }) (v := _) rfl (by kernel_rfl) (by kernel_rfl) (by kernel_rfl) (fun _ _ _ h => h) (Or.inl ⟨by rfl, ?hya11⟩) hH0 ?ra11
        case hya11 => (intro w' hSw; have z0 := (cX w' hSw.1).1; have z1 := (cX w' hSw.1).2.1; have z2 := (cX w' hSw.1).2.2; clear hSw; have nA := nilSet q w'; go_simp; try with_reducible rfl)
        simp only [Act.put, List.setIfInBounds_toArray, List.set_cons_zero, List.set_cons_succ]
        refine' wpAnyH_take (i := 12) (oi := { dst := some 133, op := Op.move (Operand.tmp 16), type := 3, pos := "more.go:30", after := #[], guard := none }) (v := _) rfl (by kernel_rfl) (by kernel_rfl) (by kernel_rfl) (fun _ _ _ h => h) (Or.inl ⟨by rfl, ?hya12⟩) hH0 ?ra12
        case hya12 => (intro w' hSw; have z0 := (cX w' hSw.1).1; have z1 := (cX w' hSw.1).2.1; have z2 := (cX w' hSw.1).2.2; clear hSw; have nA := nilSet q w'; go_simp; try with_reducible rfl)
        simp only [Act.put, List.setIfInBounds_toArray, List.set_cons_zero, List.set_cons_succ]
        refine' wpAnyH_take (i := 13) (oi := { dst := some 134, op := Op.indexAddr 27 (Operand.tmp 132) (Operand.tmp 133), type := 0, pos := "more.go:30", after := #[{ on := 11, ground := Ground.data }, { on := 12, ground := Ground.data }], guard := none }) (v := _) rfl (by kernel_rfl) (by kernel_rfl) (by kernel_rfl) (fun _ _ _ h => h) (Or.inl ⟨by rfl, ?hya13⟩) hH0 ?ra13
        case hya13 => (intro w' hSw; have z0 := (cX w' hSw.1).1; have z1 := (cX w' hSw.1).2.1; have z2 := (cX w' hSw.1).2.2; clear hSw; have nA := nilSet q w'; go_simp; try with_reducible rfl)
        simp only [Act.put, List.setIfInBounds_toArray, List.set_cons_zero, List.set_cons_succ]
        refine' wpAnyH_take (i := 14) (oi := { dst := some 135, op := Op.fieldAddr 35 (Operand.tmp 134) 2, type := 0, pos := "more.go:30", after := #[{ on := 13, ground := Ground.data }], guard := none }) (v := _) rfl (by kernel_rfl) (by kernel_rfl) (by kernel_rfl) (fun _ _ _ h => h) (Or.inl ⟨by rfl, ?hya14⟩) hH0 ?ra14
        case hya14 => (intro w' hSw; have z0 := (cX w' hSw.1).1; have z1 := (cX w' hSw.1).2.1; have z2 := (cX w' hSw.1).2.2; clear hSw; have nA := nilSet q w'; go_simp; try with_reducible rfl)
        simp only [Act.put, List.setIfInBounds_toArray, List.set_cons_zero, List.set_cons_succ]
        refine' wpAnyH_take (i := 15) (oi := { dst := some 136, op := Op.load 3 (Operand.tmp 135), type := 3, pos := "more.go:30", after := #[{ on := 14, ground := Ground.data }], guard := none }) (v := _) rfl (by kernel_rfl) (by kernel_rfl) (by kernel_rfl) (fun _ _ _ h => h) (Or.inl ⟨by rfl, ?hya15⟩) hH0 ?ra15
        case hya15 => (intro w' hSw; have z0 := (cX w' hSw.1).1; have z1 := (cX w' hSw.1).2.1; have z2 := (cX w' hSw.1).2.2; clear hSw; have nA := nilSet q w'; go_simp; try with_reducible rfl)
        simp only [Act.put, List.setIfInBounds_toArray, List.set_cons_zero, List.set_cons_succ]
        refine' wpAnyH_take (i := 16) (oi := { dst := some 137, op := Op.makeFunc (Fn.method "Set") #[Operand.tmp 121] #[], type := 49, pos := "more.go:30", after := #[{ on := 0, ground := Ground.data }], guard := none }) (v := _) rfl (by kernel_rfl) (by kernel_rfl) (by kernel_rfl) (fun _ _ _ h => h) (Or.inl ⟨by rfl, ?hya16⟩) hH0 ?ra16
        case hya16 => (intro w' hSw; have z0 := (cX w' hSw.1).1; have z1 := (cX w' hSw.1).2.1; have z2 := (cX w' hSw.1).2.2; clear hSw; have nA := nilSet q w'; go_simp; try with_reducible rfl)
        simp only [Act.put, List.setIfInBounds_toArray, List.set_cons_zero, List.set_cons_succ]
        refine' wpAnyH_take (i := 17) (oi := { dst := some 138, op := Op.nilCheck (Operand.tmp 137), type := 49, pos := "more.go:30", after := #[{ on := 16, ground := Ground.data }], guard := none }) (v := _) rfl (by kernel_rfl) (by kernel_rfl) (by kernel_rfl) (fun _ _ _ h => h) (Or.inl ⟨by rfl, ?hya17⟩) hH0 ?ra17
        case hya17 => (intro w' hSw; have z0 := (cX w' hSw.1).1; have z1 := (cX w' hSw.1).2.1; have z2 := (cX w' hSw.1).2.2; clear hSw; have nA := nilSet q w'; go_simp; try with_reducible rfl)
        simp only [Act.put, List.setIfInBounds_toArray, List.set_cons_zero, List.set_cons_succ]
        refine' wpAnyH_take (i := 18) (oi := { dst := some 139, op := Op.move (Operand.tmp 121), type := 46, pos := "more.go:30", after := #[{ on := 0, ground := Ground.data }, { on := 16, ground := Ground.data }, { on := 17, ground := Ground.data }], guard := none }) (v := _) rfl (by kernel_rfl) (by kernel_rfl) (by kernel_rfl) (fun _ _ _ h => h) (Or.inl ⟨by rfl, ?hya18⟩) hH0 ?ra18
        case hya18 => (intro w' hSw; have z0 := (cX w' hSw.1).1; have z1 := (cX w' hSw.1).2.1; have z2 := (cX w' hSw.1).2.2; clear hSw; have nA := nilSet q w'; go_simp; try with_reducible rfl)
        simp only [Act.put, List.setIfInBounds_toArray, List.set_cons_zero, List.set_cons_succ]
        refine wpAnyH_ready (rs := [19]) (by kernel_rfl) (by simp) ?_
        refine AllReadyH.cons (o := { dst := some 140, op := Op.call { callee := Callee.invoke (Operand.tmp 139) "Set", args := #[Operand.tmp 126, Operand.tmp 131, Operand.tmp 136], argTypes := #[3, 3, 3] }, type := 24, pos := "more.go:30", after := #[{ on := 18, ground := Ground.data }, { on := 5, ground := Ground.data }, { on := 10, ground := Ground.data }, { on := 15, ground := Ground.data }], guard := none }) rfl (fun K hK => ?_) AllReadyH.nil
        refine step_invoke_want (vs := #[.int .i64 x.lba, .int .i64 x.len, .int .i64 x.phys]) (R := fun v w2 => v = .int .i64 0 ∧ Sp w4 w2 true q S (fun _ => False) 512 512 (setT (l.take (i + 1)) blank) ∧ Keep S wr w2) (by rfl) (.tmp 139) "Set" #[.tmp 126, .tmp 131, .tmp 136] #[3, 3, 3] rfl (by rfl) (by simp [Act.eval]) (invSet q x.lba x.len x.phys _) c6 ?_
        rintro v w6 ⟨rfl, SP6, k6⟩
        refine hK.out _ _ (⟨k6, trivial⟩) (fun hH1 => ?_)
        clear hK K hH0
        simp only [Act.put, List.setIfInBounds_toArray, List.set_cons_zero, List.set_cons_succ]
        refine' wpAnyH_take (i := 20) (oi := { dst := some 141, op := Op.binOp BinOp.neq 24 (Operand.tmp 140) (Operand.const (Value.int IntKind.i64 0)) 24, type := 4, pos := "more.go:30", after := #[{ on := 19, ground := Ground.data }], guard := none }) (v := _) rfl (by kernel_rfl) (by kernel_rfl) (by kernel_rfl) (fun _ _ _ h => h) (Or.inl ⟨by rfl, ?hya20⟩) hH1 ?ra20
        case hya20 => (intro w' hSw; clear hSw; go_simp; try with_reducible rfl)
        simp only [Act.put, List.setIfInBounds_toArray, List.set_cons_zero, List.set_cons_succ]
        refine wpAnyH_done (by kernel_rfl) ?_ _
        refine NoPanic.normal ?_
        clear cX c6
        go_wp2_with fail
        go_roundw
        case rel => exact ⟨i + 1, hlt', by go_num, SP6⟩
        case measure => have : i < m := hlt'; simp [intOf]; omega
      · have ei : i = m := by omega
        have di : ¬ (i : Int) < (m : Int) := by omega
        rw [ei, show m = l.length from hm', List.take_length] at SP
        have hp0 : 0 < pages := by omega
        have hA : 0 ≤ (t : Int) * pages ∧ (t : Int) * pages ≤ 63 * pages := ⟨Int.mul_nonneg h5 (by omega), Int.mul_le_mul_of_nonneg_right h6 (by omega)⟩
        have hcf : cnt pages (f : Int) l ≤ pages := by rw [← show cF = _ from hcF']; exact hg
        obtain ⟨u, hu1, hu2, hMv⟩ := all_moved (fr := (f : Int)) (tt := (t : Int)) ⟨h1, h2⟩ ⟨h5, h6⟩ hF hiP hcf
        have hcn : Hid (∀ b : Int, cnt pages b (refR u 512) = if b = (f : Int) then 0 else if b = (t : Int) then cnt pages (f : Int) l else cnt pages b l) := fun b => moved_end ⟨h1, h2⟩ h7 hF hMv hzH b
        obtain ⟨hF2, hf2, hi2⟩ := ref_fit ⟨h1, h2⟩ hMv.len hMv.bd
        have hbd : Hid (∀ y ∈ movL pages (f : Int) l, 0 ≤ y.lba ∧ 1 ≤ y.len ∧ y.len ≤ 512 ∧ y.lba ≤ 512) := fun y hy => by
          have q3 := splL_in hF (mov_mem.1 hy).1
          omega
        have hsm : Hid (∀ i, 0 ≤ sumLen ((movL pages (f : Int) l).take i) ∧ sumLen ((movL pages (f : Int) l).take i) ≤ 32) := fun i => by
          have hnn : ∀ z ∈ movL pages (f : Int) l, 0 ≤ z.len := fun z hz => by have := splL_in hF (mov_mem.1 hz).1; omega
          have e := mov_sum hp0 (f : Int) l
          have e2 : sumLen (movL pages (f : Int) l) = sumLen ((movL pages (f : Int) l).take i) + sumLen ((movL pages (f : Int) l).drop i) := by rw [← sumLen_app, List.take_append_drop]
          have q1 := sumLen_nn (l := (movL pages (f : Int) l).take i) (fun z hz => hnn z (List.mem_of_mem_take hz))
          have q2 := sumLen_nn (l := (movL pages (f : Int) l).drop i) (fun z hz => hnn z (List.mem_of_mem_drop hz))
          omega
        obtain ⟨A, hAe⟩ : ∃ A, A = (t : Int) * pages := ⟨_, rfl⟩
        rw [← hAe] at hA hu1 hu2
        have dA : IntKind.i64.wrap ((t : Int) * pages) = A := by rw [← hAe]; exact wrapI (by omega) (by omega)
        have hAb : 0 ≤ A ∧ A ≤ 2016 := by omega
        obtain ⟨kM, hkM⟩ : ∃ k, k = (movL pages (f : Int) l).length := ⟨_, rfl⟩
        have hkM' : Hid (kM = (movL pages (f : Int) l).length) := hkM
        rw [← hkM] at hcM hkb ⊢
        have hu1' : Hid ((runL 512 (mkOps A (movL pages (f : Int) l)) (setT l blank)).2 = 0) := hu1
        have hu2' : Hid (allL 512 (mkOps A (movL pages (f : Int) l)) (setT l blank) = u) := hu2
        clear hkM hMv hAe hA hcf hlt ei hso hfr hf13 hu1 hu2
        generalize movL pages (f : Int) l = M at ZM hkM' hbd hsm hu1' hu2'
        generalize wr = wb at SP ⊢
        have RA0 : Rp wb wb none 0 (mkOps A (M.take 0)) := Rp.nil wb
        go_wp2_with fail
        go_loopw [17, 18, 19] (fun av ov v wx => ∃ (i ko co : Nat) (ao : Option Addr), i ≤ kM ∧ v = .int .i64 (i : Int) ∧ av = .int .i64 (A + sumLen (M.take i)) ∧ ov = .slice ao ko co ∧ Hid (ko = i) ∧ Rp wb wx ao co (mkOps A (M.take i))) (fun _ _ v _ => kM - (intOf v).toNat)
        case atStart => exact ⟨0, 0, 0, none, by omega, rfl, by rw [List.take_zero]; show _ = Value.int .i64 (A + 0); rw [Int.add_zero], rfl, rfl, RA0⟩
        case round =>
          clear RA0 dA di
          obtain ⟨i, ko, co, ao, hi, rfl, rfl, rfl, hko, RA⟩ := hrel
          by_cases hlt : i < kM
          · obtain ⟨y, hy⟩ := get_rn (m := M) (i := i) (by rw [← show kM = _ from hkM']; exact hlt)
            obtain ⟨yb1, yb2, yb3, yb4⟩ := (show ∀ y ∈ M, _ from hbd) y (List.mem_of_getElem? hy)
            have hsb := (show ∀ i, _ from hsm) i
            have hil : (mkOps A (M.take i)).length = i := by rw [mkOps_len, List.length_take, ← show kM = _ from hkM']; omega
            have hnx : mkOps A (M.take (i + 1)) = mkOps A (M.take i) ++ [⟨y.lba, y.len, A + sumLen (M.take i)⟩] := by rw [take_more hy, mkOps_snoc]
            have hnx2 : Hid (sumLen (M.take (i + 1)) = sumLen (M.take i) + y.len) := by show _ = _; rw [take_more hy, sumLen_snoc]
            have hM0 : M ≠ [] := fun e => by rw [e] at hy; simp at hy
            have ZMw := ZM.more (SP.keep.trans RA.keep)
            obtain ⟨gM, oM, rfl, y0, y1, -⟩ := ZMw.at hy
            have hMb : gM < wb.heap.size := Nat.lt_of_lt_of_le (ZM.block hM0) SP.keep.size
            have cY : ∀ w', Keep (fun b => wb.heap.size ≤ b) wr w' → w'.cell? ⟨gM, oM + i * 3, none⟩ = some (.int .i64 y.lba) ∧ w'.cell? ⟨gM, oM + i * 3 + 1, none⟩ = some (.int .i64 y.len) := fun w' k => by
              obtain ⟨g', o', e, q0, q1, -⟩ := (ZMw.keep k (fun g o e hM => by injection e with e; injection e with e1 e2; subst e1; omega)).at hy
              injection e with e
              injection e with e1 e2
              subst e1 e2
              exact ⟨q0, q1⟩
            have di : (i : Int) < (kM : Int) := by omega
            have dw := wrapI (x := (i : Int) + 1) (by omega) (by omega)
            have ds : IntKind.i64.wrap (A + sumLen (M.take i) + y.len) = A + sumLen (M.take i) + y.len := wrapI (by omega) (by omega)
            have hlt' : Hid (i < kM) := hlt
            obtain ⟨a5, c5, w5, happ, RA5, K5⟩ := (RA.more ((Keep.refl (fun _ => False) wr).drewB)).app1K (by rw [hil]; omega) ⟨y.lba, y.len, A + sumLen (M.take i)⟩
            rw [hil] at happ
            rw [← hnx] at RA5
            obtain rfl : ko = i := hko
            have y1' := (cY w5 (((Keep.refl (fun b => wb.heap.size ≤ b) wr).drewB).trans K5)).2
            clear hlt hy hil hnx hM0 ZMw y0 y1 hMb RA
            generalize sumLen (M.take ko) = SM at ds hnx2 happ hsb
            generalize wr = w2 at cY happ K5 ⊢
            go_upto_region 23 with fail
            refine wp_region_noPanic ?_
            refine wp_region_held_drew (S := fun w' => Keep (fun b => wb.heap.size ≤ b) w2 w' ∧ True) (by kernel_rfl) (⟨(Keep.refl (fun b => wb.heap.size ≤ b) w2).drewB, trivial⟩) (fun hH0 => ?_)
            refine' wpAnyH_take (i := 0) (oi := { dst := some 157, op := Op.move (Operand.tmp 18), type := 50, pos := "more.go:37", after := #[], guard := none }) (v := _) rfl (by kernel_rfl) (by kernel_rfl) (by kernel_rfl) (fun _ _ _ h => h) (Or.inl ⟨by rfl, ?hyb0⟩) hH0 ?rb0
            case hyb0 => (intro w' hSw; have z0 := (cY w' hSw.1).1; have z1 := (cY w' hSw.1).2; clear hSw; go_simp; try with_reducible rfl)
            simp only [Act.put, List.setIfInBounds_toArray, List.set_cons_zero, List.set_cons_succ]
            refine' wpAnyH_take (i := 1) (oi := { dst := some 158, op := Op.move (Operand.tmp 12), type := 27, pos := "more.go:37", after := #[], guard := none }) (v := _) rfl (by kernel_rfl) (by kernel_rfl) (by kernel_rfl) (fun _ _ _ h => h) (Or.inl ⟨by rfl, ?hyb1⟩) hH0 ?rb1
            case hyb1 => (intro w' hSw; have z0 := (cY w' hSw.1).1; have z1 := (cY w' hSw.1).2; clear hSw; go_simp; try with_reducible rfl)
            simp only [Act.put, List.setIfInBounds_toArray, List.set_cons_zero, List.set_cons_succ]
            refine' wpAnyH_take (i := 2) (oi := { dst := some 159, op := Op.move (Operand.tmp 19), type := 3, pos := "more.go:37", after := #[], guard := none }) (v := _) rfl (by kernel_rfl) (by kernel_rfl) (by kernel_rfl) (fun _ _ _ h => h) (Or.inl ⟨by rfl, ?hyb2⟩) hH0 ?rb2
            case hyb2 => (intro w' hSw; have z0 := (cY w' hSw.1).1; have z1 := (cY w' hSw.1).2; clear hSw; go_simp; try with_reducible rfl)
            simp only [Act.put, List.setIfInBounds_toArray, List.set_cons_zero, List.set_cons_succ]
            refine' wpAnyH_take (i := 3) (oi := { dst := some 160, op := Op.indexAddr 27 (Operand.tmp 158) (Operand.tmp 159), type := 0, pos := "more.go:37", after := #[{ on := 1, ground := Ground.data }, { on := 2, ground := Ground.data }], guard := none }) (v := _) rfl (by kernel_rfl) (by kernel_rfl) (by kernel_rfl) (fun _ _ _ h => h) (Or.inl ⟨by rfl, ?hyb3⟩) hH0 ?rb3
            case hyb3 => (intro w' hSw; have z0 := (cY w' hSw.1).1; have z1 := (cY w' hSw.1).2; clear hSw; go_simp; try with_reducible rfl)
            simp only [Act.put, List.setIfInBounds_toArray, List.set_cons_zero, List.set_cons_succ]
            refine' wpAnyH_take (i := 4) (oi := { dst := some 161, op := Op.fieldAddr 35 (Operand.tmp 160) 0, type := 0, pos := "more.go:37", after := #[{ on := 3, ground := Ground.data }], guard := none }) (v := _) rfl (by kernel_rfl) (by kernel_rfl) (by kernel_rfl) (fun _ _ _ h => h) (Or.inl ⟨by rfl, ?hyb4⟩) hH0 ?rb4
            case hyb4 => (intro w' hSw; have z0 := (cY w' hSw.1).1; have z1 := (cY w' hSw.1).2; clear hSw; go_simp; try with_reducible rfl)
            simp only [Act.put, List.setIfInBounds_toArray, List.set_cons_zero, List.set_cons_succ]
            refine' wpAnyH_take (i := 5) (oi := { dst := some 162, op := Op.load 3 (Operand.tmp 161), type := 3, pos := "more.go:37", after := #[{ on := 4, ground := Ground.data }], guard := none }) (v := _) rfl (by kernel_rfl) (by kernel_rfl) (by kernel_rfl) (fun _ _ _ h => h) (Or.inl ⟨by rfl, ?hyb5⟩) hH0 ?rb5
            case hyb5 => (intro w' hSw; have z0 := (cY w' hSw.1).1; have z1 := (cY w' hSw.1).2; clear hSw; go_simp; try with_reducible rfl)
            simp only [Act.put, List.setIfInBounds_toArray, List.set_cons_zero, List.set_cons_succ]
            refine' wpAnyH_take (i := 6) (oi := { dst := some 163, op := Op.move (Operand.tmp 12), type := 27, pos := "more.go:37", after := #[], guard := none }) (v := _) rfl (by kernel_rfl) (by kernel_rfl) (by kernel_rfl) (fun _ _ _ h => h) (Or.inl ⟨by rfl, ?hyb6⟩) hH0 ?rb6
            case hyb6 => (intro w' hSw; have z0 := (cY w' hSw.1).1; have z1 := (cY w' hSw.1).2; clear hSw; go_simp; try with_reducible rfl)
            simp only [Act.put, List.setIfInBounds_toArray, List.set_cons_zero, List.set_cons_succ]
            refine' wpAnyH_take (i := 7) (oi := { dst := some 164, op := Op.move (Operand.tmp 19), type := 3, pos := "more.go:37", after := #[], guard := none }) (v := _) rfl (by kernel_rfl) (by kernel_rfl) (by kernel_rfl) (fun _ _ _ h => h) (Or.inl ⟨by rfl, ?hyb7⟩) hH0 ?rb7
            case hyb7 => (intro w' hSw; have z0 := (cY w' hSw.1).1; have z1 := (cY w' hSw.1).2; clear hSw; go_simp; try with_reducible rfl)
            simp only [Act.put, List.setIfInBounds_toArray, List.set_cons_zero, List.set_cons_succ]
            refine' wpAnyH_take (i := 8) (oi := { dst := some 165, op := Op.indexAddr 27 (Operand.tmp 163) (Operand.tmp 164), type := 0, pos := "more.go:37", after := #[{ on := 6, ground := Ground.data }, { on := 7, ground := Ground.data }], guard := none }) (v := _) rfl (by kernel_rfl) (by kernel_rfl) (by kernel_rfl) (fun _ _ _ h => h) (Or.inl ⟨by rfl, ?hyb8⟩) hH0 ?rb8
            case hyb8 => (intro w' hSw; have z0 := (cY w' hSw.1).1; have z1 := (cY w' hSw.1).2; clear hSw; go_simp; try with_reducible rfl)
            simp only [Act.put, List.setIfInBounds_toArray, List.set_cons_zero, List.set_cons_succ]
            refine' wpAnyH_take (i := 9) (oi := { dst := some 166, op := Op.fieldAddr 35 (Operand.tmp 165) 1, type := 0, pos := "more.go:37", after := #[{ on := 8, ground := Ground.data }], guard := none }) (v := _) rfl (by kernel_rfl) (by kernel_rfl) (by kernel_rfl) (fun _ _ _ h => h) (Or.inl ⟨by rfl, ?hyb9⟩) hH0 ?rb9
            case hyb9 => (intro w' hSw; have z0 := (cY w' hSw.1).1; have z1 := (cY w' hSw.1).2; clear hSw; go_simp; try with_reducible rfl)
            simp only [Act.put, List.setIfInBounds_toArray, List.set_cons_zero, List.set_cons_succ]
            refine' wpAnyH_take (i := 10) (oi := { dst := some 167, op := Op.load 3 (Operand.tmp 166), type := 3, pos := "more.go:37", after := #[{ on := 9, ground := Ground.data }], guard := none }) (v := _) rfl (by kernel_rfl) (by kernel_rfl) (by kernel_rfl) (fun _ _ _ h => h) (Or.inl ⟨by rfl, ?hyb10⟩) hH0 ?rb10
            case hyb10 => (intro w' hSw; have z0 := (cY w' hSw.1).1; have z1 := (cY w' hSw.1).2; clear hSw; go_simp; try with_reducible rfl)
            simp only [Act.put, List.setIfInBounds_toArray, List.set_cons_zero, List.set_cons_succ]
            refine' wpAnyH_take (i := 11) (oi := { dst := some 168, op := Op.move (Operand.tmp 17), type := 3, pos := "more.go:37", after := #[], guard := none }) (v := _) rfl (by kernel_rfl) (by kernel_rfl) (by kernel_rfl) (fun _ _ _ h => h) (Or.inl ⟨by rfl, ?hyb11⟩) hH0 ?rb11
            case hyb11 => (intro w' hSw; have z0 := (cY w' hSw.1).1; have z1 := (cY w' hSw.1).2; clear hSw; go_simp; try with_reducible rfl)
            simp only [Act.put, List.setIfInBounds_toArray, List.set_cons_zero, List.set_cons_succ]
            refine' wpAnyH_take (i := 12) (oi := { dst := some 169, op := Op.build 51 #[(0, Operand.tmp 162), (1, Operand.tmp 167), (2, Operand.tmp 168)], type := 51, pos := "more.go:37", after := #[{ on := 5, ground := Ground.data }, { on := 10, ground := Ground.data }, { on := 11, ground := Ground.data }], guard := none }) (v := _) rfl (by kernel_rfl) (by kernel_rfl) (by kernel_rfl) (fun _ _ _ h => h) (Or.inl ⟨by rfl, ?hyb12⟩) hH0 ?rb12
            case hyb12 => (intro w' hSw; have z0 := (cY w' hSw.1).1; have z1 := (cY w' hSw.1).2; clear hSw; go_simp; try with_reducible rfl)
            simp only [Act.put, List.setIfInBounds_toArray, List.set_cons_zero, List.set_cons_succ]
            refine wpAnyH_ready (rs := [13]) (by kernel_rfl) (by simp) ?_
            refine AllReadyH.cons (o := { dst := some 170, op := Op.buildSlice 50 1 #[(0, Operand.tmp 169)], type := 50, pos := "more.go:37", after := #[{ on := 12, ground := Ground.data }], guard := none }) rfl (fun K hK => ?_) AllReadyH.nil
            refine step_build_run (by rfl) 50 1 (.tmp 169) rfl (by rfl) (build_op y.lba y.len (A + SM) _) ?_
            refine hK.out _ _ (⟨((Keep.refl (fun b => wb.heap.size ≤ b) w2).drewB).alloc _, trivial⟩) (fun hH1 => ?_)
            clear hK K hH0
            simp only [Act.put, List.setIfInBounds_toArray, List.set_cons_zero, List.set_cons_succ]
            refine wpAnyH_ready (rs := [14]) (by kernel_rfl) (by simp) ?_
            refine AllReadyH.cons (o := { dst := some 171, op := Op.call { callee := Callee.builtin Builtin.append, args := #[Operand.tmp 157, Operand.tmp 170], argTypes := #[50, 50] }, type := 50, pos := "more.go:37", after := #[{ on := 0, ground := Ground.data }, { on := 13, ground := Ground.data }], guard := none }) rfl (fun K hK => ?_) AllReadyH.nil
            refine step_append_run (by rfl) (.tmp 157) (.tmp 170) 50 rfl (by rfl) (by rfl) happ ?_
            refine hK.out _ _ (⟨((Keep.refl (fun b => wb.heap.size ≤ b) w2).drewB).trans K5, trivial⟩) (fun hH2 => ?_)
            clear hK K hH1
            simp only [Act.put, List.setIfInBounds_toArray, List.set_cons_zero, List.set_cons_succ]
            refine' wpAnyH_take (i := 15) (oi := { dst := some 18, op := Op.assign (Operand.tmp 171), type := 50, pos := "more.go:37", after := #[{ on := 14, ground := Ground.data }, { on := 14, ground := Ground.chain }, { on := 0, ground := Ground.phase }, { on := 1, ground := Ground.phase }, { on := 2, ground := Ground.phase }, { on := 3, ground := Ground.phase }, { on := 4, ground := Ground.phase }, { on := 5, ground := Ground.phase }, { on := 6, ground := Ground.phase }, { on := 7, ground := Ground.phase }, { on := 8, ground := Ground.phase }, { on := 9, ground := Ground.phase }, { on := 10, ground := Ground.phase }, { on := 11, ground := Ground.phase }, { on := 12, ground := Ground.phase }, { on := 13, ground := Ground.phase }, { on := 14, ground := Ground.phase }], guard := none }) (v := _) rfl (by kernel_rfl) (by kernel_rfl) (by kernel_rfl) (fun _ _ _ h => h) (Or.inl ⟨by rfl, ?hyb15⟩) hH2 ?rb15
            case hyb15 => (intro w' hSw; clear hSw; go_simp; try with_reducible rfl)
            simp only [Act.put, List.setIfInBounds_toArray, List.set_cons_zero, List.set_cons_succ]
            refine wpAnyH_done (by kernel_rfl) ?_ _
            refine NoPanic.normal ?_
            clear cY happ
            go_wp2_with fail
            go_roundw
            case rel => exact ⟨ko + 1, ko + 1, c5, a5, hlt', by go_num, by rw [show sumLen (M.take (ko + 1)) = _ from hnx2]; go_num, rfl, rfl, RA5⟩
            case measure => have : ko < kM := hlt'; simp [intOf]; omega
          · have ei : i = kM := by omega
            have di : ¬ (i : Int) < (kM : Int) := by omega
            have hta : M.take i = M := List.take_of_length_le (by rw [← show kM = _ from hkM']; omega)
            rw [hta] at RA
            have hol : (mkOps A M).length = i := by rw [mkOps_len, ← show kM = _ from hkM']; omega
            have SP2 := SP.more RA.keep
            have hfo : Fits (mkOps A M) := mkOps_fits (by omega) (show ∀ y ∈ M, _ from hbd) (fun j => (show ∀ i, _ from hsm) j)
            have c8 := apply_any SP2 RA.rs.rz hfo (fun g o e hne e2 => by
              have h1 := (SP.sw g e2).2.1
              rcases Rp.at0 RA e hne with rfl
              have h2 := (RA.block e).1
              omega)
            unfold Apd at c8
            rw [show (runL 512 (mkOps A M) (setT l blank)).2 = 0 from hu1', show allL 512 (mkOps A M) (setT l blank) = u from hu2', hol] at c8
            unfold mapV at c8
            obtain rfl : ko = i := hko
            have IV8 := fun (w8 : World) (k : Keep (fun _ => False) w4 w8) => IV4.more k
            generalize sumLen (M.take ko) = SM
            clear hlt hol hfo hta hsm hbd SP2 SP RA ei hcM hkb
            go_wp2_with fail
            refine c8.mono ?_
            rintro e w8 ⟨rfl, SP8, k8⟩
            have c9 := SP8.runs
            unfold fRuns at c9
            have m9 := mRuns47 q
            have K8 := SP8.keep
            clear c8 k8 SP8
            have hl2 := hF2.len
            have hf2' : Fits (refR u 512) := fun x hx => by have := hF2.bd hx; omega
            have hvo : vOk (refR u 512) 64 pages = true := by
              unfold vOk
              rw [decide_eq_true ⟨h1, h2⟩, hf2, decide_eq_true (by omega), hi2]
              rfl
            obtain ⟨m2, hm2⟩ : ∃ m2, m2 = (refR u 512).length := ⟨_, rfl⟩
            have hm2' : Hid (m2 = (refR u 512).length) := hm2
            rw [← hm2] at c9 hl2
            clear hm2 hf2 hi2 hF2
            generalize refR u 512 = l2 at c9 hf2' hvo hm2' hcn
            go_wp2_with fail
            refine c9.mono ?_
            rintro e w9 ⟨a9, d9, rfl, R9, k9, -⟩
            have hv := HV 64 pages R9.rz hf2' (by omega) hpb
            simp only [hvo, if_true] at hv
            rw [← show m2 = l2.length from hm2', show Int.toNat 64 = 64 from rfl] at hv
            clear c9 m9
            go_wp2_with fail
            refine hv.mono ?_
            rintro e w10 ⟨⟨aW, cW, rfl, IW⟩, k10⟩
            have hcW := IW.1
            rw [valL_len] at hcW
            have hcW2 := IW.2.1
            have K10 := K8.trans (k9.trans k10)
            have HK := K4.trans K10
            have IV10 := IV8 w10 K10
            have hwt : (valL pages l2 64)[t]? = some cF := by
              have := (show ∀ b : Int, _ from hcn) (t : Int)
              rw [if_neg (fun e => h7 e.symm), if_pos rfl, ← show cF = _ from hcF'] at this
              simp [valL, show t < 64 by omega, this]
            have hwf : (valL pages l2 64)[f]? = some 0 := by
              have := (show ∀ b : Int, _ from hcn) (f : Int)
              rw [if_pos rfl] at this
              simp [valL, show f < 64 by omega, this]
            have hwb : Hid (∀ b : Nat, b < 64 → ¬ b = f → ¬ b = t → (valL pages l2 64)[b]? = some (cnt pages (b : Int) l) ∧ (valL pages l 64)[b]? = some (cnt pages (b : Int) l)) := fun b hb n1 n2 => by
              have := (show ∀ b : Int, _ from hcn) (b : Int)
              rw [if_neg (by omega), if_neg (by omega)] at this
              simp [valL, hb, this]
            obtain ⟨gW, oW, rfl, cwt⟩ := IW.at hwt
            obtain ⟨gW', oW', e, cwf⟩ := IW.at hwf
            injection e with e
            injection e with e1 e2
            subst e1 e2
            have hvf2 : (valL pages l 64)[f]? = some cF := by rw [show cF = _ from hcF']; exact hvf
            obtain ⟨gV', oV', e, cvf⟩ := IV10.at hvf2
            injection e with e
            injection e with e1 e2
            subst e1 e2
            clear hv hvo R9 hcn k9 k10 K8 IV8 hvf2 hwt hwf hvt hvf IV4 K4
            have f6 : (cF != cF) = false := by simp
            have f7 : ((0 : Int) != 0) = false := by simp
            go_upto_region 28 with fail
            go_quiet (fail)
            have kq := (Keep.refl (fun _ => False) w10).drewN nq
            have HKq := HK.trans kq
            have IVq := IV10.more kq
            have IWq := IW.more kq
            clear cwt cwf cvf IV10 IW K10 HK
            generalize w10.drewN nq = w11 at HKq IVq IWq ⊢
            clear kq
            go_wp2_with fail
            go_loopw [21] (fun v wx => ∃ b : Nat, b ≤ 64 ∧ v = .int .i64 (b : Int) ∧ Keep (fun _ => False) w11 wx) (fun v _ => 64 - (intOf v).toNat)
            case atStart => exact ⟨0, by omega, rfl, Keep.refl _ _⟩
            case round =>
              obtain ⟨b, hb, rfl, kb⟩ := hrel
              by_cases hlt : b < 64
              · have db : (b : Int) < 64 := by omega
                have dwb := wrapI (x := (b : Int) + 1) (by omega) (by omega)
                have hlt' : Hid (b < 64) := hlt
                by_cases n1 : b = f
                · subst n1
                  have g1 : ((b : Int) != (b : Int)) = false := by simp
                  clear hlt
                  go_upto_region 33 with fail
                  go_quiet (fail)
                  have kq := (Keep.refl (fun _ => False) wr).drewN nq
                  go_wp2_with fail
                  go_roundw
                  case rel => exact ⟨b + 1, hlt', by go_num, kb.trans kq⟩
                  case measure => have : b < 64 := hlt'; simp [intOf]; omega
                · have g1 : ((b : Int) != (f : Int)) = true := by simp; omega
                  by_cases n2 : b = t
                  · subst n2
                    have g2 : ((b : Int) != (b : Int)) = false := by simp
                    clear hlt
                    go_upto_region 33 with fail
                    go_quiet (fail)
                    have kq := (Keep.refl (fun _ => False) wr).drewN nq
                    go_wp2_with fail
                    go_roundw
                    case rel => exact ⟨b + 1, hlt', by go_num, kb.trans kq⟩
                    case measure => have : b < 64 := hlt'; simp [intOf]; omega
                  · have g2 : ((b : Int) != (t : Int)) = true := by simp; omega
                    obtain ⟨hb1, hb2⟩ := (show ∀ b : Nat, _ from hwb) b hlt n1 n2
                    obtain ⟨g', o', e, cw⟩ := (IWq.more kb).at hb1
                    injection e with e
                    injection e with e1 e2
                    subst e1 e2
                    obtain ⟨g', o', e, cv⟩ := (IVq.more kb).at hb2
                    injection e with e
                    injection e with e1 e2
                    subst e1 e2
                    clear hb1 hb2 hlt
                    generalize cnt pages (b : Int) l = cB at cw cv
                    have g3 : (cB != cB) = false := by simp
                    go_upto_region 33 with fail
                    go_quiet (fail)
                    have kq := (Keep.refl (fun _ => False) wr).drewN nq
                    go_wp2_with fail
                    go_roundw
                    case rel => exact ⟨b + 1, hlt', by go_num, kb.trans kq⟩
                    case measure => have : b < 64 := hlt'; simp [intOf]; omega
              · have db : ¬ (b : Int) < 64 := by omega
                go_wp2_with fail
                go_ret
                exact ⟨rfl, HKq.trans kb⟩
theorem collect_walk (HA : AwOk) (HV : ValidOk) (HM : MovesOk) {w : World} {a : Option Addr} {cap : Nat} {p : List Rn} (hP : Rz w a cap p) (hfp : Fits p) {pages fr tt : Int} (hpb : -9223372036854775808 ≤ pages ∧ pages ≤ 9223372036854775807) (hfb : -9223372036854775808 ≤ fr ∧ fr ≤ 9223372036854775807) (htb : -9223372036854775808 ≤ tt ∧ tt ≤ 9223372036854775807) :
    Calls Try.prog 7 #[.slice a p.length cap, .int .i64 pages, .int .i64 fr, .int .i64 tt] w fun e w' => e = .returned (.bool true) ∧ Keep (fun _ => False) w w' := by
  by_cases h : p.length ≤ 100 ∧ (1 ≤ pages ∧ pages ≤ 32) ∧ (0 ≤ fr ∧ fr ≤ 63) ∧ (0 ≤ tt ∧ tt ≤ 63) ∧ ¬ fr = tt
  · exact collect_yes HA HV HM hP hfp hpb hfb htb h
  · exact collect_no HA hP h
end Tg
end Go.Proofs.Ytkddonmddgfpnab
