/-
  awake and LeafKnown, given what the program's own calls answer.
-/
import Derived.Test.YtginnojbmpnleaaLo
namespace Go.Proofs.Ytginnojbmpnleaa
open Go.ChangeShapes Go.WideShapes Go.ChangeAt Go.RowKit
namespace Tg
set_option maxRecDepth 100000 in
set_option maxHeartbeats 2000000 in
theorem known_walk (HA : AwOk) (HC : CutOk) (HP : PagesOk) (w : World) : Calls Try.prog 3 #[] w fun e w' => e = .returned (.bool true) ∧ Keep (fun _ => False) w w' := by
  go_enter Try.func3, Try.ntmps3
  go_wp2_with fail
  refine (HA w).mono ?_
  rintro e w0 ⟨rfl, k0⟩
  go_wp2_with fail
  refine (HC (s := ⟨1, 0, 0, []⟩) (row_nil _) (by simp) (by simp)).mono ?_
  rintro e w1 ⟨h1, k1⟩
  rw [if_neg (show ¬ cutE ⟨1, 0, 0, []⟩ = 0 by decide), show cutE ⟨1, 0, 0, []⟩ = 1 by decide] at h1
  obtain ⟨a1, c1, rfl⟩ := h1
  obtain ⟨wm, b, hmk, hb, hrow, km⟩ : ∃ (wm : World) (b : List Int), (Instr.makeSlice 28 (.int .i64 65537) (.int .i64 65537)).run Try.prog w1 = .ok (.slice (some ⟨w1.heap.size, 0, none⟩) 65537 65537) wm ∧ b.length = 65537 ∧ Row wm (some ⟨w1.heap.size, 0, none⟩) 65537 65537 b ∧ Keep (fun _ => False) w1 wm :=
    ⟨_, _, make_bytes 65537 (by omega) w1, tab_len _ _, (blk_made w1 (.int .u8 0) 5 65537).row (d := fun _ => 0) (fun _ => by omega) 0 65537 65537 (by omega) (by omega) (by omega), (Keep.refl _ _).alloc _⟩
  go_wp2_with fail
  refine (HC (s := ⟨3, 0, 0, b⟩) hrow (by simp) (by simp)).mono ?_
  rintro e w2 ⟨h2, k2⟩
  have hce : cutE ⟨3, 0, 0, b⟩ = 2 := by unfold cutE; simp [hb]
  rw [if_neg (show ¬ cutE ⟨3, 0, 0, b⟩ = 0 by rw [hce]; decide), hce] at h2
  obtain ⟨a2, c2, rfl⟩ := h2
  clear hce hrow hmk hb
  go_wp2_with fail
  refine (HC (s := ⟨2, 0, 0, []⟩) (row_nil _) (by simp) (by simp)).mono ?_
  rintro e w3 ⟨h3, k3⟩
  rw [if_pos (show cutE ⟨2, 0, 0, []⟩ = 0 by decide)] at h3
  obtain ⟨a3, c3, rfl, R3⟩ := h3
  obtain ⟨g, o, rfl, hc⟩ := R3.at (i := 0) (p := pgS ⟨2, 0, 0, []⟩ 0) rfl
  have c6 : w3.cell? ⟨g, o + 6, none⟩ = some (.int .u32 1) := by have := hc 6 (by omega); simpa [pcl, pgS, npg] using this
  have hc31 : 1 ≤ c3 := R3.1
  have hc32 := R3.2.1
  have K3 := (k0.trans k1).trans ((km.trans k2).trans k3)
  rw [show (cutL ⟨2, 0, 0, []⟩).length = 1 from rfl]
  have P0 : ∀ w', Calls Try.prog 10 #[.int .i64 0] w' fun e w2 => e = .returned (.int .i64 1) ∧ Keep (fun _ => False) w' w2 := fun w' => HP 0 w'
  have P1 : ∀ w', Calls Try.prog 10 #[.int .i64 32] w' fun e w2 => e = .returned (.int .i64 1) ∧ Keep (fun _ => False) w' w2 := fun w' => HP 32 w'
  have P2 : ∀ w', Calls Try.prog 10 #[.int .i64 (-1)] w' fun e w2 => e = .returned (.int .i64 0) ∧ Keep (fun _ => False) w' w2 := fun w' => HP (-1) w'
  have P3 : ∀ w', Calls Try.prog 10 #[.int .i64 65537] w' fun e w2 => e = .returned (.int .i64 0) ∧ Keep (fun _ => False) w' w2 := fun w' => HP 65537 w'
  have P4 : ∀ w', Calls Try.prog 10 #[.int .i64 65536] w' fun e w2 => e = .returned (.int .i64 2048) ∧ Keep (fun _ => False) w' w2 := fun w' => HP 65536 w'
  clear hc R3 HA HC HP
  go_wp2_with fail
  refine (P0 _).mono ?_
  rintro e w4 ⟨rfl, k4⟩
  go_wp2_with fail
  refine (P1 _).mono ?_
  rintro e w5 ⟨rfl, k5⟩
  go_wp2_with fail
  refine (P2 _).mono ?_
  rintro e w6 ⟨rfl, k6⟩
  go_wp2_with fail
  refine (P3 _).mono ?_
  rintro e w7 ⟨rfl, k7⟩
  go_wp2_with fail
  refine (P4 _).mono ?_
  rintro e w8 ⟨rfl, k8⟩
  go_wp2_with fail
  go_ret
  exact ⟨rfl, ((((K3.trans k4).trans k5).trans k6).trans k7).trans k8⟩
theorem step_build2_run {P : Program} {ops : Array Oper} {o : Oper} {a : Act} {w : World} {K : Act → World → Prop} {Q : Exit → Act → World → Prop} {E : Prop}
    (hw : Region.wanted o (yielded ops a.tmps) = true) (t : TypeId) (n : Nat) (x y : Operand) (hop : o.op = Op.buildSlice t n #[(0, x), (1, y)]) {v1 v2 v' : Value} {w' : World} (hx : a.eval x = v1) (hy : a.eval y = v2) (hrun : (Instr.buildSlice t n #[(0, v1), (1, v2)]).run P w = .ok v' w')
    (hK : K (a.put o.dst v') w') : if Region.wanted o (yielded ops a.tmps) = true then Oper.wp P o a w K Q else E := by
  rw [if_pos hw]
  unfold Oper.wp
  simp [execOp, hop, hx, hy, hrun, Result.andThen]
  exact hK
theorem build2_pg (p q : Pg) (w : World) : (Instr.buildSlice 23 2 #[(0, .agg (pgA p)), (1, .agg (pgA q))]).run Try.prog w = .ok (.slice (some ⟨w.heap.size, 0, none⟩) 2 2) (w.alloc (.cells (pgA p ++ pgA q) 33)) := by kernel_rfl
theorem rg_two (w : World) (p q : Pg) : Rg (w.alloc (.cells (pgA p ++ pgA q) 33)) (some ⟨w.heap.size, 0, none⟩) 2 [p, q] := by
  refine ⟨Nat.le_refl _, by omega, Or.inr ⟨_, 0, rfl, fun i r hr j hj => ?_⟩⟩
  have h : (pgA p ++ pgA q).toList[i * 39 + j]? = some (pcl r j) := by
    have := pcells_at (l := [p, q]) hr j hj
    simpa [pcells] using this
  have := cells_new w (pgA p ++ pgA q) 33 (i * 39 + j) _ (by simpa using h)
  rwa [Addr.add_lit, ← Nat.add_assoc] at this
/-- A page 1 alone joins to nothing. -/
theorem join_none {s : St} {L : List St} (h : JoinS [pgS s 1] L) : L = [] := by
  cases L with
  | nil => rfl
  | cons t L =>
    exfalso
    have hw := (h.2 t).1 (List.mem_cons_self ..)
    obtain ⟨p, hp, -, e⟩ := (hw.2 (pgS t 0)).1 (mem_cutL.2 ⟨0, npg_pos _, rfl⟩)
    rw [List.mem_singleton.1 hp] at e
    have : (strip (pgS s 1)).ix = (pgS t 0).ix := by rw [e]
    simp [strip, pgS] at this
def b33 : List Int := List.replicate 32 0 ++ [5]
def s33 : St := ⟨3, 2, 7, b33⟩
theorem s33_ok : s33.Ok := ⟨Or.inr rfl, by decide, by decide, by decide, by decide⟩
theorem s33_cut : cutL s33 = [pgS s33 0, pgS s33 1] := rfl
set_option maxRecDepth 100000 in
set_option maxHeartbeats 2000000 in
theorem awake_any (HC : CutOk) (HJ : JoinOk) (HP : PagesOk) : AwOk := fun w => by
  obtain ⟨wm, hmk, B0, km⟩ : ∃ (wm : World), (Instr.makeSlice 28 (.int .i64 33) (.int .i64 33)).run Try.prog w = .ok (.slice (some ⟨w.heap.size, 0, none⟩) 33 33) wm ∧ Blk wm w.heap.size 33 (fun _ => .int .u8 0) ∧ Keep (fun _ => False) w wm :=
    ⟨_, make_bytes 33 (by omega) w, blk_made w (.int .u8 0) 5 33, (Keep.refl _ _).alloc _⟩
  have cst := (B0 32 (by omega)).1
  have fst := (B0 32 (by omega)).2
  have B1 := B0.set 32 (.int .u8 5)
  have K1 : Keep (fun _ => False) w (wm.setCell ⟨w.heap.size, 32, none⟩ (.int .u8 5)) := km.next ((Keep.refl (fun k => k = w.heap.size) wm).setCell (by first | exact Or.inl rfl | rfl) _) (fun x hx e => by omega)
  have hrow : Row (wm.setCell ⟨w.heap.size, 32, none⟩ (.int .u8 5)) (some ⟨w.heap.size, 0, none⟩) 33 33 b33 := by
    refine ⟨rfl, by omega, by omega, by decide, Or.inr ⟨_, 0, rfl, fun i hi => ?_⟩⟩
    rw [Nat.zero_add, (B1 i hi).1]
    by_cases c : i = 32
    · subst c; rfl
    · simp only [if_neg c]
      have : b33.getD i 0 = 0 := by
        unfold b33
        rw [List.getD_eq_getElem?_getD, List.getElem?_append_left (by simp; omega)]
        rw [List.getElem?_replicate, if_pos (by omega)]
        rfl
      rw [this]
  clear B0 B1
  go_enter Try.func8, Try.ntmps8
  go_wp2_with fail
  refine (HC (s := s33) hrow (by decide) (by decide)).mono ?_
  rintro e w2 ⟨h2, k2⟩
  rw [if_pos (show cutE s33 = 0 by decide)] at h2
  obtain ⟨a2, c2, rfl, R2⟩ := h2
  have hok1 := cutL_ok s33_ok
  rw [s33_cut] at R2 hok1 ⊢
  obtain ⟨p0, hp0⟩ : ∃ p, p = pgS s33 0 := ⟨_, rfl⟩
  obtain ⟨p1, hp1⟩ : ∃ p, p = pgS s33 1 := ⟨_, rfl⟩
  rw [← hp0, ← hp1] at R2 hok1 ⊢
  have hokk : ∀ q ∈ [p1, p0], q.Ok := fun q hq => hok1 q (by simp at hq ⊢; exact hq.symm)
  obtain ⟨g, o, rfl, hc1⟩ := R2.at (i := 1) (p := p1) rfl
  have c1 : w2.cell? ⟨g, o + 39 + 1, none⟩ = some (.int .u32 33) := by have := hc1 1 (by omega); rw [hp1] at this; exact this
  have c5 : w2.cell? ⟨g, o + 39 + 5, none⟩ = some (.int .u32 1) := by have := hc1 5 (by omega); rw [hp1] at this; exact this
  have c6 : w2.cell? ⟨g, o + 39 + 6, none⟩ = some (.int .u32 2) := by have := hc1 6 (by omega); rw [hp1] at this; exact this
  have c7 : w2.cell? ⟨g, o + 39 + 7, none⟩ = some (.int .u8 5) := by have := hc1 7 (by omega); rw [hp1] at this; exact this
  have hc21 : 2 ≤ c2 := R2.1
  have hc22 := R2.2.1
  have hl1 : ∀ w', Keep (fun _ => False) w2 w' → (Instr.loadAt 33 (.pointer (some ⟨g, o + 39, none⟩))).run Try.prog w' = .ok (.agg (pgA p1)) w' := fun w' k => by
    obtain ⟨g', o', e, hc'⟩ := (R2.more k).at (i := 1) (p := p1) rfl
    injection e with e
    injection e with e1 e2
    subst e1 e2
    exact pg_load hc'
  have hl0 : ∀ w', Keep (fun _ => False) w2 w' → (Instr.loadAt 33 (.pointer (some ⟨g, o, none⟩))).run Try.prog w' = .ok (.agg (pgA p0)) w' := fun w' k => by
    obtain ⟨g', o', e, hc'⟩ := (R2.more k).at (i := 0) (p := p0) rfl
    injection e with e
    injection e with e1 e2
    subst e1 e2
    exact pg_load (fun j hj => by have := hc' j hj; rwa [Nat.zero_mul, Nat.add_zero] at this)
  simp only [List.length_cons, List.length_nil, Nat.zero_add, Nat.reduceAdd]
  clear cst fst hmk hrow HC hc1
  go_upto_region 6 with fail
  clear c1 c5 c6 c7
  refine wp_region_noPanic ?_
  refine wp_region_held_drew (S := fun w' => Keep (fun _ => False) w2 w') (by kernel_rfl) ((Keep.refl _ w2).drew) (fun hH0 => ?_)
  refine' wpAnyH_take (i := 0) (oi := { dst := some 50, op := Op.move (Operand.tmp 2), type := 23, pos := "law.go:18", after := #[], guard := none }) (v := _) rfl (by kernel_rfl) (by kernel_rfl) (by kernel_rfl) (fun _ _ _ h => h) (Or.inl ⟨by rfl, ?hya0⟩) hH0 ?ra0
  case hya0 => (intro w' hSw; clear hSw; go_simp; try with_reducible rfl)
  simp only [Act.put, List.setIfInBounds_toArray, List.set_cons_zero, List.set_cons_succ]
  refine' wpAnyH_take (i := 1) (oi := { dst := some 51, op := Op.indexAddr 23 (Operand.tmp 50) (Operand.const (Value.int IntKind.i64 1)), type := 0, pos := "law.go:18", after := #[{ on := 0, ground := Ground.data }], guard := none }) (v := _) rfl (by kernel_rfl) (by kernel_rfl) (by kernel_rfl) (fun _ _ _ h => h) (Or.inl ⟨by rfl, ?hya1⟩) hH0 ?ra1
  case hya1 => (intro w' hSw; clear hSw; go_simp; try with_reducible rfl)
  simp only [Act.put, List.setIfInBounds_toArray, List.set_cons_zero, List.set_cons_succ]
  refine' wpAnyH_take (i := 2) (oi := { dst := some 52, op := Op.load 33 (Operand.tmp 51), type := 33, pos := "law.go:18", after := #[{ on := 1, ground := Ground.data }], guard := none }) (v := .agg (pgA p1)) rfl (by kernel_rfl) (by kernel_rfl) (by kernel_rfl) (fun _ _ _ h => h) (yields_load (by rfl) 33 (.tmp 51) rfl (by rfl) hl1) hH0 ?ra2
  simp only [Act.put, List.setIfInBounds_toArray, List.set_cons_zero, List.set_cons_succ]
  refine' wpAnyH_take (i := 3) (oi := { dst := some 53, op := Op.move (Operand.tmp 2), type := 23, pos := "law.go:18", after := #[], guard := none }) (v := _) rfl (by kernel_rfl) (by kernel_rfl) (by kernel_rfl) (fun _ _ _ h => h) (Or.inl ⟨by rfl, ?hya3⟩) hH0 ?ra3
  case hya3 => (intro w' hSw; clear hSw; go_simp; try with_reducible rfl)
  simp only [Act.put, List.setIfInBounds_toArray, List.set_cons_zero, List.set_cons_succ]
  refine' wpAnyH_take (i := 4) (oi := { dst := some 54, op := Op.indexAddr 23 (Operand.tmp 53) (Operand.const (Value.int IntKind.i64 0)), type := 0, pos := "law.go:18", after := #[{ on := 3, ground := Ground.data }], guard := none }) (v := _) rfl (by kernel_rfl) (by kernel_rfl) (by kernel_rfl) (fun _ _ _ h => h) (Or.inl ⟨by rfl, ?hya4⟩) hH0 ?ra4
  case hya4 => (intro w' hSw; clear hSw; go_simp; try with_reducible rfl)
  simp only [Act.put, List.setIfInBounds_toArray, List.set_cons_zero, List.set_cons_succ]
  refine' wpAnyH_take (i := 5) (oi := { dst := some 55, op := Op.load 33 (Operand.tmp 54), type := 33, pos := "law.go:18", after := #[{ on := 4, ground := Ground.data }], guard := none }) (v := .agg (pgA p0)) rfl (by kernel_rfl) (by kernel_rfl) (by kernel_rfl) (fun _ _ _ h => h) (yields_load (by rfl) 33 (.tmp 54) rfl (by rfl) hl0) hH0 ?ra5
  simp only [Act.put, List.setIfInBounds_toArray, List.set_cons_zero, List.set_cons_succ]
  refine wpAnyH_ready (rs := [6]) (by kernel_rfl) (by simp) ?_
  refine AllReadyH.cons (o := { dst := some 56, op := Op.buildSlice 23 2 #[(0, Operand.tmp 52), (1, Operand.tmp 55)], type := 23, pos := "law.go:18", after := #[{ on := 2, ground := Ground.data }, { on := 5, ground := Ground.data }], guard := none }) rfl (fun K hK => ?_) AllReadyH.nil
  refine step_build2_run (by rfl) 23 2 (.tmp 52) (.tmp 55) rfl (by rfl) (by rfl) (build2_pg p1 p0 _) ?_
  refine hK.out _ _ (((Keep.refl (fun _ => False) w2).drew).alloc _) (fun hH1 => ?_)
  clear hK K hH0
  simp only [Act.put, List.setIfInBounds_toArray, List.set_cons_zero, List.set_cons_succ]
  have hj := HJ.post (rg_two w2.drew p1 p0) hokk (n := 2) rfl (by omega)
  refine wpAnyH_ready (rs := [7]) (by kernel_rfl) (by simp) ?_
  refine AllReadyH.cons (o := { dst := some 57, op := Op.call { callee := Callee.value (Operand.func 13), args := #[Operand.tmp 56], argTypes := #[23] }, type := 37, pos := "law.go:18", after := #[{ on := 6, ground := Ground.data }], guard := none }) rfl (fun K hK => ?_) AllReadyH.nil
  refine step_call_want (vs := #[.slice (some ⟨w2.drew.heap.size, 0, none⟩) 2 2]) (R := JoinP [p1, p0] (w2.drew.alloc (.cells (pgA p1 ++ pgA p0) 33))) (by rfl) 13 #[Operand.tmp 56] #[23] rfl (by simp [Act.eval]) call13 (hj) ?_
  rintro _ w3 ⟨a3, c3, m3, rs, L, rfl, hm3, Q3, hsy, hjs, k3⟩
  refine hK.out _ _ ((((Keep.refl (fun _ => False) w2).drew).alloc _).trans k3) (fun hH2 => ?_)
  clear hK K hH1
  simp only [Act.put, List.setIfInBounds_toArray, List.set_cons_zero, List.set_cons_succ]
  refine' wpAnyH_take (i := 8) (oi := { dst := some 4, op := Op.assign (Operand.tmp 57), type := 37, pos := "law.go:18", after := #[{ on := 7, ground := Ground.data }, { on := 7, ground := Ground.chain }, { on := 0, ground := Ground.phase }, { on := 1, ground := Ground.phase }, { on := 2, ground := Ground.phase }, { on := 3, ground := Ground.phase }, { on := 4, ground := Ground.phase }, { on := 5, ground := Ground.phase }, { on := 6, ground := Ground.phase }, { on := 7, ground := Ground.phase }], guard := none }) (v := _) rfl (by kernel_rfl) (by kernel_rfl) (by kernel_rfl) (fun _ _ _ h => h) (Or.inl ⟨by rfl, ?hya8⟩) hH2 ?ra8
  case hya8 => (intro w' hSw; clear hSw; go_simp; try with_reducible rfl)
  simp only [Act.put, List.setIfInBounds_toArray, List.set_cons_zero, List.set_cons_succ]
  refine wpAnyH_done (by kernel_rfl) ?_ _
  refine NoPanic.normal ?_
  obtain rfl : L = [s33] := join_one hjs (join_mem (l := [p0, p1]) (fun p => by simp [or_comm]) (by have := join_cut s33_ok; rw [s33_cut, ← hp0, ← hp1] at this; exact this))
  obtain ⟨r, rfl⟩ : ∃ r, rs = [r] := by
    have := hsy.1
    match rs, this with
    | [r], _ => exact ⟨r, rfl⟩
  obtain rfl : m3 = 1 := hm3.symm
  obtain ⟨-, -, e13, hrw⟩ := hsy.2 0 r s33 rfl rfl
  obtain ⟨ra, rlen, rcap, hr0⟩ : ∃ ra rlen rcap, Sl.mk r.a r.len r.cap = ⟨ra, rlen, rcap⟩ := ⟨_, _, _, rfl⟩
  have hlen : r.len = 33 := hrw.1.symm
  obtain ⟨gr, og, ea, hca⟩ : ∃ b o, r.a = some ⟨b, o, none⟩ ∧ ∀ i, i < r.len → w3.cell? ⟨b, o + i, none⟩ = some (.int .u8 (b33.getD i 0)) := hrw.2.2.2.2.resolve_left (by rw [hlen]; omega)
  obtain ⟨g3, o3, ha3, hc3⟩ := Q3.at (i := 0) (r := r) rfl
  subst ha3
  have c32 : w3.cell? ⟨g3, o3 + 2, none⟩ = some (.int .u32 7) := by have := hc3 2 (by omega); simpa [rwc, e13, s33] using this
  have c33 : w3.cell? ⟨g3, o3 + 3, none⟩ = some (.slice (some ⟨gr, og, none⟩) 33 r.cap) := by have := hc3 3 (by omega); simpa [rwc, hlen, ea] using this
  have cb : w3.cell? ⟨gr, og + 32, none⟩ = some (.int .u8 5) := hca 32 (by rw [hlen]; omega)
  have hcr : 33 ≤ r.cap := by have := hrw.2.1; omega
  have hcr2 := hrw.2.2.1
  have hc31 : 1 ≤ c3 := Q3.1
  have hc32 := Q3.2.1
  have hne : ¬ c2 = 1 := by omega
  have K3 : Keep (fun _ => False) w2 w3 := (((Keep.refl _ w2).drew).alloc _).trans k3
  have R3 := (R2.more K3).cut (t := 1) (by simp)
  have hj2 := HJ.post R3 (fun q hq => hok1 q (by simp at hq ⊢; exact Or.inr hq)) (n := 1) rfl (by omega)
  rw [show cutP (some ⟨g, o, none⟩) c2 1 = some ⟨g, o + 39, none⟩ by unfold cutP; rw [if_neg hne, Option.map_some, Addr.add_lit]] at hj2
  have P0 : ∀ w', Calls Try.prog 10 #[.int .i64 33] w' fun e w2 => e = .returned (.int .i64 2) ∧ Keep (fun _ => False) w' w2 := fun w' => HP 33 w'
  clear hj hjs hsy Q3 hc3 hrw hca hl1 hl0 hr0
  go_wp2_with fail
  refine hj2.mono ?_
  rintro e w5 ⟨_, rfl, a5, c5, m5, rs5, L5, rfl, hm5, Q5, hsy5, hjs5, k5⟩
  have hL5 : L5 = [] := by
    rw [hp1] at hjs5
    exact join_none hjs5
  obtain rfl : m5 = 0 := by rw [← hm5, hsy5.1, hL5]; rfl
  clear hj2 hjs5 hsy5 Q5 hm5
  go_wp2_with fail
  refine (P0 _).mono ?_
  rintro e w6 ⟨rfl, k6⟩
  go_wp2_with fail
  go_ret
  exact ⟨rfl, ((K1.trans k2).trans K3).trans (k5.trans k6)⟩
end Tg
end Go.Proofs.Ytginnojbmpnleaa
