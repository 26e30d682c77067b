/-
  LeafMixed's body, given what the program's own calls answer.
-/
import Derived.Test.YtginnojbmpnleaaLx
namespace Go.Proofs.Ytginnojbmpnleaa
open Go.ChangeShapes Go.WideShapes Go.ChangeAt Go.RowKit
namespace Tg
theorem call14 (args : Array Value) (w : World) : (callFunc 14 args).run Try.prog w = .ok (.enter 14 args) w := enters Try.func14 (by kernel_rfl) (by kernel_rfl) args w
theorem call15 (args : Array Value) (w : World) : (callFunc 15 args).run Try.prog w = .ok (.enter 15 args) w := enters Try.func15 (by kernel_rfl) (by kernel_rfl) args w
theorem call16 (args : Array Value) (w : World) : (callFunc 16 args).run Try.prog w = .ok (.enter 16 args) w := enters Try.func16 (by kernel_rfl) (by kernel_rfl) args w
theorem keep_cell {S : Nat → Prop} {w w' : World} (k : Keep S w w') {g o : Nat} {v : Value} (h : w.cell? ⟨g, o, none⟩ = some v) (hs : ¬ S g) : w'.cell? ⟨g, o, none⟩ = some v := by
  rw [← h]
  exact World.cell?_of_block (w := w) (a := ⟨g, o, none⟩) (k.block g (World.block_lt_of_cell? w _ h) hs)
theorem Ro.zero {w0 w : World} {cap g o : Nat} {m : List Pg} (h : Ro w0 w (some ⟨g, o, none⟩) cap m) : o = 0 := by
  rcases h.own.2 with ⟨e, -⟩ | ⟨g', c', cur, e, -⟩
  · injection e with e1; cases e1
  · injection e with e1
    injection e1 with e1
    injection e1 with e1 e2
theorem post_wrap {n : Int} {s : Nat} (h1 : 1 ≤ s) (h2 : s ≤ 100000) (w : World) : Calls Try.prog 15 #[.int .i64 n, .int .i64 (s : Int)] w fun e w2 => ∃ u, e = .returned u ∧ (fun (u : Value) wz => ∃ k : Nat, k < s ∧ u = .int .i64 (k : Int) ∧ wz = w) u w2 :=
  (wrap_any h1 h2 w).mono (fun _ _ ⟨k, hk, h, e⟩ => ⟨_, h, k, hk, rfl, e⟩)
theorem post_changed {q : Pg} (hq : q.Ok) (f0 f1 f2 f3 : Int) (w : World) : Calls Try.prog 16 #[.agg (pgA q), .agg #[.int .i64 f0, .int .i64 f1, .int .i64 f2, .int .i64 f3]] w fun e w2 => ∃ u, e = .returned u ∧ (fun (u : Value) wz => ∃ q' : Pg, q'.Ok ∧ u = .agg (pgA q') ∧ Keep (fun _ => False) w wz) u w2 :=
  (changed_any hq f0 f1 f2 f3 w).mono (fun _ _ ⟨k, hk, h, e⟩ => ⟨_, h, k, hk, rfl, e⟩)
/-- What Join tells. -/
def JoinP (l : List Pg) (w : World) (u : Value) (wz : World) : Prop := ∃ a' c' m rs L, u = .slice a' m c' ∧ List.length rs = m ∧ Rws wz a' c' rs ∧ Says wz rs L ∧ JoinS l L ∧ Keep (fun _ => False) w wz
theorem JoinOk.post (HJ : JoinOk) {w : World} {a : Option Addr} {cap n : Nat} {l : List Pg} (hR : Rg w a cap l) (hok : ∀ q ∈ l, q.Ok) (hn : l.length = n) (hl : n ≤ 100000) : Calls Try.prog 13 #[.slice a n cap] w fun e w2 => ∃ u, e = .returned u ∧ JoinP l w u w2 := by
  subst hn
  exact (HJ hR hok hl).mono (fun _ _ ⟨a', c', rs, L, h1, h2, h3, h4, h5⟩ => ⟨_, h1, a', c', _, rs, L, rfl, rfl, h2, h3, h4, h5⟩)
theorem same_raw {w : World} {r1 r2 : Raw} {s : St} (h1 : r1.k = s.kind ∧ r1.e = s.ep ∧ r1.g = s.gr ∧ Row w r1.a r1.len r1.cap s.bytes) (h2 : r2.k = s.kind ∧ r2.e = s.ep ∧ r2.g = s.gr ∧ Row w r2.a r2.len r2.cap s.bytes) :
    Calls Try.prog 14 #[.agg (rwA r2), .agg (rwA r1)] w fun e w' => e = .returned (.bool true) ∧ Keep (fun _ => False) w w' := by
  obtain ⟨a1, a2, a3, a4⟩ := h1
  obtain ⟨b1, b2, b3, b4⟩ := h2
  unfold rwA
  rw [a1, a2, a3, b1, b2, b3]
  exact same_yes b4 a4
set_option maxRecDepth 100000 in
set_option maxHeartbeats 2000000 in
theorem mixed_walk (HA : AwOk) (HJ : JoinOk) {w : World} {a pa : Option Addr} {nl cl np pc : Nat} {rs : List Raw} {L : List St} (hS0 : ArgS w a nl cl rs L) (hP0 : Rpk w pa np pc) (turn : Int) :
    Calls Try.prog 7 #[.slice a nl cl, .slice pa np pc, .int .i64 turn] w fun e w' => e = .returned (.bool true) ∧ Keep (fun _ => False) w w' := by
  go_enter Try.func7, Try.ntmps7
  go_wp2_with fail
  refine (HA w).mono ?_
  rintro e w0 ⟨rfl, k0⟩
  clear HA
  have hS := hS0.more k0
  have hP := hP0.more k0
  clear hS0 hP0
  have hcl := hS.1.1
  rw [hS.2.1] at hcl
  have hcl2 := hS.1.2.1
  have hpc := hP.1
  have hpc2 := hP.2.1
  by_cases x1 : nl ≤ 6
  · have d1 : ¬ (6 : Int) < (nl : Int) := by omega
    by_cases x2 : np ≤ 40
    · have d2 : ¬ (40 : Int) < (np : Int) := by omega
      by_cases x3 : nl = 0
      · subst x3
        go_wp2_with fail
        go_ret
        exact ⟨rfl, k0⟩
      · have q1 : ((nl : Int) == 0) = false := by simp; omega
        go_wp2_with fail
        go_loopw [7, 8] (fun rv v wx => ∃ (i c : Nat) (pga : Option Addr) (l : List Pg), i ≤ np ∧ v = .int .i64 (i : Int) ∧ rv = .slice pga i c ∧ Ro w0 wx pga c l ∧ Hid (l.length = i) ∧ Hid (∀ q ∈ l, q.Ok)) (fun _ v _ => np - (intOf v).toNat)
        case atStart => exact ⟨0, 0, none, [], by omega, rfl, rfl, Ro.nil _, rfl, (fun q hq => by cases hq)⟩
        case round =>
          obtain ⟨i, c, pga, l, hi, rfl, rfl, Ri, hli, hok⟩ := hrel
          by_cases hlt : i < np
          · obtain ⟨gp, op, ep, f0, f1, f2, f3, hpk⟩ := hP.at hlt
            subst ep
            have c0 : wr.cell? ⟨gp, op + i * 4, none⟩ = some (.int .i64 f0) := hpk wr Ri.keep 0 (by omega)
            have di : (i : Int) < (np : Int) := by omega
            have dw := wrapI (x := (i : Int) + 1) (by omega) (by omega)
            go_wp2_with fail
            refine (wrap_any (n := f0) (s := nl) (by omega) (by omega) _).mono ?_
            rintro e w3 ⟨k, hk, rfl, ew⟩
            subst w3
            obtain ⟨gs, os, es, r, s, -, -, e1, e2, e3, b1, b2, hst⟩ := hS.at hk
            subst es
            obtain ⟨w4, hst4, B4, K4⟩ := new_raw30 wr r
            have hld := raw_load30 (hst wr Ri.keep).2
            go_upto_region 10 with (first | (guard_target =~ wpList _ _ _ (Oper.mk _ (Op.load 30 _) _ _ _ _ :: _) _ _; refine wpList_load_run (by rfl) 30 (.tmp 47) rfl (by rfl) hld ?_) | (guard_target =~ wpList _ _ _ (Oper.mk _ (Op.store 30 _ _) _ _ _ _ :: _) _ _; refine wpList_store_run rfl 30 (.tmp 9) (.tmp 48) rfl (by rfl) (by rfl) hst4 ?_))
            simp only [Act.put]
            have cB0 : w4.cell? ⟨wr.heap.size, 0, none⟩ = some (.int .i64 r.k) := (B4 0 (by omega)).1
            have cB1 : w4.cell? ⟨wr.heap.size, 1, none⟩ = some (.int .u32 r.e) := (B4 1 (by omega)).1
            have cB2 : w4.cell? ⟨wr.heap.size, 2, none⟩ = some (.int .u32 r.g) := (B4 2 (by omega)).1
            have cB3 : w4.cell? ⟨wr.heap.size, 3, none⟩ = some (.slice r.a r.len r.cap) := (B4 3 (by omega)).1
            clear hst4 hld c0 B4
            generalize wr.heap.size = b9 at cB0 cB1 cB2 cB3
            have hrow := (hst w4 (Ri.keep.trans K4)).1
            by_cases hgo : (r.k = 2 ∨ r.k = 3) ∧ r.len ≤ 300
            · obtain ⟨hk23, hl3⟩ := hgo
              have d3 : ¬ (300 : Int) < (r.len : Int) := by omega
              go_cut [62] from 32 to 91 (fun v wx => v = .bool false ∧ wx = w4)
              case first =>
                clear hrow b1 b2 e1 e2 e3
                rcases hk23 with h | h
                · have g1 : (r.k != 2) = false := by simp [h]
                  clear h
                  go_wp2_with fail
                  go_meet
                  exact ⟨rfl, rfl⟩
                · have g1 : (r.k != 2) = true := by simp [h]
                  have g2 : (r.k != 3) = false := by simp [h]
                  clear h
                  go_wp2_with fail
                  go_meet
                  exact ⟨rfl, rfl⟩
              case rest =>
                obtain ⟨rfl, rfl⟩ := hcut
                obtain ⟨st, hst0⟩ : ∃ st : St, st = ⟨r.k, r.e, r.g, s.bytes⟩ := ⟨_, rfl⟩
                have hsto : st.Ok := by subst hst0; exact ⟨hk23, by show s.bytes.length ≤ 65536; rw [hrow.1]; omega, hrow.2.2.2.1, by show 0 ≤ r.e ∧ r.e ≤ 4294967295; rw [e2]; exact b1, by show 0 ≤ r.g ∧ r.g ≤ 4294967295; rw [e3]; exact b2⟩
                have hrc := rcut_any (s := ⟨r.k, r.e, r.g, s.bytes⟩) hrow (by omega)
                clear hk23 b1 b2 e1 e2 e3
                go_wp2_with fail
                refine hrc.mono ?_
                rintro e w6 ⟨a6, c6, rfl, R6⟩
                rw [← hst0] at R6 ⊢
                have hn61 := npg_pos st.bytes.length
                have hn62 := npg_max hsto.len
                obtain ⟨g6, o6, e6, -⟩ := R6.rg.at (cutL_get st hn61)
                subst e6
                obtain rfl := R6.zero
                have hc6 := R6.rg.1
                have hc62 := R6.rg.2.1
                have hlc6 : (cutL st).length = npg st.bytes.length := cutL_len st
                rw [hlc6] at hc6 ⊢
                obtain ⟨n6, hn6⟩ : ∃ n6, npg st.bytes.length = n6 := ⟨_, rfl⟩
                rw [hn6] at hn61 hn62 hc6 ⊢
                clear hrc hlc6 cB0 cB1 cB2 cB3
                have hnp1 : ¬ pga = some ⟨gp, 0, none⟩ := fun e => by
                  have h1 := (Ri.block e).1
                  have h2 := World.block_lt_of_cell? w0 _ (hpk w0 (Keep.refl _ _) 0 (by omega))
                  simp at h2
                  omega
                have hnp2 : ¬ pga = some ⟨g6, 0, none⟩ := fun e => by
                  have h1 := (Ri.block e).2
                  have h2 := K4.size
                  have h3 := (R6.block (g := g6) rfl).1
                  omega
                have hl79 : ∀ w', Keep (fun b => pga = some ⟨b, 0, none⟩) w6 w' → (Instr.loadAt 3 (.pointer (some ⟨gp, op + i * 4 + 1, none⟩))).run Try.prog w' = .ok (.int .i64 f1) w' := fun w' k => load3 (keep_cell k (hpk w6 ((Ri.keep.trans K4).trans R6.keep) 1 (by omega)) hnp1)
                have hl88 : ∀ w', Keep (fun b => pga = some ⟨b, 0, none⟩) w6 w' → (Instr.loadAt 45 (.pointer (some ⟨gp, op + i * 4, none⟩))).run Try.prog w' = .ok (.agg #[.int .i64 f0, .int .i64 f1, .int .i64 f2, .int .i64 f3]) w' := fun w' k => pick_load (fun j hj => keep_cell k (hpk w6 ((Ri.keep.trans K4).trans R6.keep) j hj) hnp1)
                have hl84' : ∀ k2, k2 < n6 → ∀ w', Keep (fun b => pga = some ⟨b, 0, none⟩) w6 w' → (Instr.loadAt 33 (.pointer (some ⟨g6, k2 * 39, none⟩))).run Try.prog w' = .ok (.agg (pgA (pgS st k2))) w' := fun k2 hk2 w' k => by
                  obtain ⟨g', o', e, hc'⟩ := R6.rg.at (cutL_get st (by rw [hn6]; exact hk2))
                  injection e with e
                  injection e with e1 e2
                  subst e1 e2
                  rw [show k2 * 39 = 0 + k2 * 39 by omega]
                  exact pg_load (fun j hj => keep_cell k (hc' j hj) hnp2)
                have hlt' : Hid (i < np) := hlt
                clear hlt
                go_upto_region 13 with fail
                refine wp_region_noPanic ?_
                refine wp_region_held_drew (S := fun w' => Keep (fun b => pga = some ⟨b, 0, none⟩) w6 w') (by kernel_rfl) ((Keep.refl _ w6).drew) (fun hH0 => ?_)
                refine' wpAnyH_take (i := 0) (oi := { dst := some 73, op := Op.move (Operand.tmp 7), type := 23, pos := "more.go:24", after := #[], guard := none }) (v := _) rfl (by kernel_rfl) (by kernel_rfl) (by kernel_rfl) (fun _ _ _ h => h) (Or.inl ⟨by rfl, ?hya0⟩) hH0 ?ra0
                case hya0 => (intro w' hSw; clear hSw; go_simp; try with_reducible rfl)
                simp only [Act.put, List.setIfInBounds_toArray, List.set_cons_zero, List.set_cons_succ]
                refine' wpAnyH_take (i := 1) (oi := { dst := some 74, op := Op.move (Operand.tmp 10), type := 23, pos := "more.go:24", after := #[], guard := none }) (v := _) rfl (by kernel_rfl) (by kernel_rfl) (by kernel_rfl) (fun _ _ _ h => h) (Or.inl ⟨by rfl, ?hya1⟩) hH0 ?ra1
                case hya1 => (intro w' hSw; clear hSw; go_simp; try with_reducible rfl)
                simp only [Act.put, List.setIfInBounds_toArray, List.set_cons_zero, List.set_cons_succ]
                refine' wpAnyH_take (i := 2) (oi := { dst := some 75, op := Op.move (Operand.tmp 1), type := 41, pos := "more.go:24", after := #[], guard := none }) (v := _) rfl (by kernel_rfl) (by kernel_rfl) (by kernel_rfl) (fun _ _ _ h => h) (Or.inl ⟨by rfl, ?hya2⟩) hH0 ?ra2
                case hya2 => (intro w' hSw; clear hSw; go_simp; try with_reducible rfl)
                simp only [Act.put, List.setIfInBounds_toArray, List.set_cons_zero, List.set_cons_succ]
                refine' wpAnyH_take (i := 3) (oi := { dst := some 76, op := Op.move (Operand.tmp 8), type := 3, pos := "more.go:24", after := #[], guard := none }) (v := _) rfl (by kernel_rfl) (by kernel_rfl) (by kernel_rfl) (fun _ _ _ h => h) (Or.inl ⟨by rfl, ?hya3⟩) hH0 ?ra3
                case hya3 => (intro w' hSw; clear hSw; go_simp; try with_reducible rfl)
                simp only [Act.put, List.setIfInBounds_toArray, List.set_cons_zero, List.set_cons_succ]
                refine' wpAnyH_take (i := 4) (oi := { dst := some 77, op := Op.indexAddr 41 (Operand.tmp 75) (Operand.tmp 76), type := 0, pos := "more.go:24", after := #[{ on := 2, ground := Ground.data }, { on := 3, ground := Ground.data }], guard := none }) (v := _) rfl (by kernel_rfl) (by kernel_rfl) (by kernel_rfl) (fun _ _ _ h => h) (Or.inl ⟨by rfl, ?hya4⟩) hH0 ?ra4
                case hya4 => (intro w' hSw; clear hSw; go_simp; try with_reducible rfl)
                simp only [Act.put, List.setIfInBounds_toArray, List.set_cons_zero, List.set_cons_succ]
                refine' wpAnyH_take (i := 5) (oi := { dst := some 78, op := Op.fieldAddr 45 (Operand.tmp 77) 1, type := 0, pos := "more.go:24", after := #[{ on := 4, ground := Ground.data }], guard := none }) (v := _) rfl (by kernel_rfl) (by kernel_rfl) (by kernel_rfl) (fun _ _ _ h => h) (Or.inl ⟨by rfl, ?hya5⟩) hH0 ?ra5
                case hya5 => (intro w' hSw; clear hSw; go_simp; try with_reducible rfl)
                simp only [Act.put, List.setIfInBounds_toArray, List.set_cons_zero, List.set_cons_succ]
                refine' wpAnyH_take (i := 6) (oi := { dst := some 79, op := Op.load 3 (Operand.tmp 78), type := 3, pos := "more.go:24", after := #[{ on := 5, ground := Ground.data }], guard := none }) (v := .int .i64 f1) rfl (by kernel_rfl) (by kernel_rfl) (by kernel_rfl) (fun _ _ _ h => h) (yields_load (by rfl) 3 (.tmp 78) rfl (by rfl) hl79) hH0 ?ra6
                simp only [Act.put, List.setIfInBounds_toArray, List.set_cons_zero, List.set_cons_succ]
                refine' wpAnyH_take (i := 7) (oi := { dst := some 80, op := Op.move (Operand.tmp 10), type := 23, pos := "more.go:24", after := #[], guard := none }) (v := _) rfl (by kernel_rfl) (by kernel_rfl) (by kernel_rfl) (fun _ _ _ h => h) (Or.inl ⟨by rfl, ?hya7⟩) hH0 ?ra7
                case hya7 => (intro w' hSw; clear hSw; go_simp; try with_reducible rfl)
                simp only [Act.put, List.setIfInBounds_toArray, List.set_cons_zero, List.set_cons_succ]
                refine' wpAnyH_take (i := 8) (oi := { dst := some 81, op := Op.call { callee := Callee.builtin Builtin.len, args := #[Operand.tmp 80], argTypes := #[23] }, type := 3, pos := "more.go:24", after := #[{ on := 7, ground := Ground.data }], guard := none }) (v := _) rfl (by kernel_rfl) (by kernel_rfl) (by kernel_rfl) (fun _ _ _ h => h) (Or.inl ⟨by rfl, ?hya8⟩) hH0 ?ra8
                case hya8 => (intro w' hSw; clear hSw; go_simp; try with_reducible rfl)
                simp only [Act.put, List.setIfInBounds_toArray, List.set_cons_zero, List.set_cons_succ]
                refine' wpAnyH_take (i := 12) (oi := { dst := some 85, op := Op.move (Operand.tmp 1), type := 41, pos := "more.go:24", after := #[], guard := none }) (v := _) rfl (by kernel_rfl) (by kernel_rfl) (by kernel_rfl) (fun _ _ _ h => h) (Or.inl ⟨by rfl, ?hya12⟩) hH0 ?ra12
                case hya12 => (intro w' hSw; clear hSw; go_simp; try with_reducible rfl)
                simp only [Act.put, List.setIfInBounds_toArray, List.set_cons_zero, List.set_cons_succ]
                refine' wpAnyH_take (i := 13) (oi := { dst := some 86, op := Op.move (Operand.tmp 8), type := 3, pos := "more.go:24", after := #[], guard := none }) (v := _) rfl (by kernel_rfl) (by kernel_rfl) (by kernel_rfl) (fun _ _ _ h => h) (Or.inl ⟨by rfl, ?hya13⟩) hH0 ?ra13
                case hya13 => (intro w' hSw; clear hSw; go_simp; try with_reducible rfl)
                simp only [Act.put, List.setIfInBounds_toArray, List.set_cons_zero, List.set_cons_succ]
                refine' wpAnyH_take (i := 14) (oi := { dst := some 87, op := Op.indexAddr 41 (Operand.tmp 85) (Operand.tmp 86), type := 0, pos := "more.go:24", after := #[{ on := 12, ground := Ground.data }, { on := 13, ground := Ground.data }], guard := none }) (v := _) rfl (by kernel_rfl) (by kernel_rfl) (by kernel_rfl) (fun _ _ _ h => h) (Or.inl ⟨by rfl, ?hya14⟩) hH0 ?ra14
                case hya14 => (intro w' hSw; clear hSw; go_simp; try with_reducible rfl)
                simp only [Act.put, List.setIfInBounds_toArray, List.set_cons_zero, List.set_cons_succ]
                refine' wpAnyH_take (i := 15) (oi := { dst := some 88, op := Op.load 45 (Operand.tmp 87), type := 45, pos := "more.go:24", after := #[{ on := 14, ground := Ground.data }], guard := none }) (v := .agg #[.int .i64 f0, .int .i64 f1, .int .i64 f2, .int .i64 f3]) rfl (by kernel_rfl) (by kernel_rfl) (by kernel_rfl) (fun _ _ _ h => h) (yields_load (by rfl) 45 (.tmp 87) rfl (by rfl) hl88) hH0 ?ra15
                simp only [Act.put, List.setIfInBounds_toArray, List.set_cons_zero, List.set_cons_succ]
                refine wpAnyH_ready (rs := [9]) (by kernel_rfl) (by simp) ?_
                refine AllReadyH.cons (o := { dst := some 82, op := Op.call { callee := Callee.value (Operand.func 15), args := #[Operand.tmp 79, Operand.tmp 81], argTypes := #[3, 3] }, type := 3, pos := "more.go:24", after := #[{ on := 6, ground := Ground.data }, { on := 8, ground := Ground.data }], guard := none }) rfl (fun K hK => ?_) AllReadyH.nil
                refine step_call_want (vs := #[.int .i64 f1, .int .i64 (n6 : Int)]) (R := fun u wz => ∃ k : Nat, k < n6 ∧ u = .int .i64 (k : Int) ∧ wz = w6.drew) (by rfl) 15 #[Operand.tmp 79, Operand.tmp 81] #[3, 3] rfl (by simp [Act.eval]) call15 (post_wrap hn61 (by omega) _) ?_
                rintro _ _ ⟨k2, hk2, rfl, rfl⟩
                refine hK.out _ _ (((Keep.refl (fun b => pga = some ⟨b, 0, none⟩) w6).drew)) (fun hH1 => ?_)
                clear hK K hH0
                simp only [Act.put, List.setIfInBounds_toArray, List.set_cons_zero, List.set_cons_succ]
                have hl84 := hl84' k2 hk2
                refine' wpAnyH_take (i := 10) (oi := { dst := some 83, op := Op.indexAddr 23 (Operand.tmp 74) (Operand.tmp 82), type := 0, pos := "more.go:24", after := #[{ on := 1, ground := Ground.data }, { on := 9, ground := Ground.data }], guard := none }) (v := _) rfl (by kernel_rfl) (by kernel_rfl) (by kernel_rfl) (fun _ _ _ h => h) (Or.inl ⟨by rfl, ?hya10⟩) hH1 ?ra10
                case hya10 => (intro w' hSw; clear hSw; go_simp; try with_reducible rfl)
                simp only [Act.put, List.setIfInBounds_toArray, List.set_cons_zero, List.set_cons_succ]
                refine' wpAnyH_take (i := 11) (oi := { dst := some 84, op := Op.load 33 (Operand.tmp 83), type := 33, pos := "more.go:24", after := #[{ on := 10, ground := Ground.data }], guard := none }) (v := .agg (pgA (pgS st k2))) rfl (by kernel_rfl) (by kernel_rfl) (by kernel_rfl) (fun _ _ _ h => h) (yields_load (by rfl) 33 (.tmp 83) rfl (by rfl) hl84) hH1 ?ra11
                simp only [Act.put, List.setIfInBounds_toArray, List.set_cons_zero, List.set_cons_succ]
                refine wpAnyH_ready (rs := [16]) (by kernel_rfl) (by simp) ?_
                refine AllReadyH.cons (o := { dst := some 89, op := Op.call { callee := Callee.value (Operand.func 16), args := #[Operand.tmp 84, Operand.tmp 88], argTypes := #[33, 45] }, type := 33, pos := "more.go:24", after := #[{ on := 11, ground := Ground.data }, { on := 15, ground := Ground.data }, { on := 9, ground := Ground.chain }], guard := none }) rfl (fun K hK => ?_) AllReadyH.nil
                refine step_call_want (vs := #[.agg (pgA (pgS st k2)), .agg #[.int .i64 f0, .int .i64 f1, .int .i64 f2, .int .i64 f3]]) (R := fun u wz => ∃ q' : Pg, q'.Ok ∧ u = .agg (pgA q') ∧ Keep (fun _ => False) w6.drew wz) (by rfl) 16 #[Operand.tmp 84, Operand.tmp 88] #[33, 45] rfl (by simp [Act.eval]) call16 (post_changed (pgS_ok hsto (by rw [hn6]; exact hk2)) f0 f1 f2 f3 _) ?_
                rintro _ w8 ⟨q, hq, rfl, k8⟩
                refine hK.out _ _ (((Keep.refl (fun b => pga = some ⟨b, 0, none⟩) w6).drew).trans (k8.mono (fun _ _ e => e.elim))) (fun hH2 => ?_)
                clear hK K hH1
                simp only [Act.put, List.setIfInBounds_toArray, List.set_cons_zero, List.set_cons_succ]
                refine wpAnyH_ready (rs := [17]) (by kernel_rfl) (by simp) ?_
                refine AllReadyH.cons (o := { dst := some 90, op := Op.buildSlice 23 1 #[(0, Operand.tmp 89)], type := 23, pos := "more.go:24", after := #[{ on := 16, ground := Ground.data }], guard := none }) rfl (fun K hK => ?_) AllReadyH.nil
                refine step_build_run (by rfl) 23 1 (.tmp 89) rfl (by rfl) (build_pg q _) ?_
                refine hK.out _ _ ((((Keep.refl (fun b => pga = some ⟨b, 0, none⟩) w6).drew).trans (k8.mono (fun _ _ e => e.elim))).alloc _) (fun hH3 => ?_)
                clear hK K hH2
                simp only [Act.put, List.setIfInBounds_toArray, List.set_cons_zero, List.set_cons_succ]
                obtain ⟨a9, c9, w9, hr9, R9, k9, -⟩ := (Ri.more (((K4.trans R6.keep).drew).trans k8)).app1 (by rw [show l.length = i from hli]; omega) q
                rw [show l.length = i from hli] at hr9
                refine wpAnyH_ready (rs := [18]) (by kernel_rfl) (by simp) ?_
                refine AllReadyH.cons (o := { dst := some 91, op := Op.call { callee := Callee.builtin Builtin.append, args := #[Operand.tmp 73, Operand.tmp 90], argTypes := #[23, 23] }, type := 23, pos := "more.go:24", after := #[{ on := 0, ground := Ground.data }, { on := 17, ground := Ground.data }, { on := 16, ground := Ground.chain }], guard := none }) rfl (fun K hK => ?_) AllReadyH.nil
                refine step_append_run (by rfl) (.tmp 73) (.tmp 90) 23 rfl (by rfl) (by rfl) hr9 ?_
                refine hK.out _ _ ((((Keep.refl (fun b => pga = some ⟨b, 0, none⟩) w6).drew).trans (k8.mono (fun _ _ e => e.elim))).trans k9) (fun hH4 => ?_)
                clear hK K hH3
                simp only [Act.put, List.setIfInBounds_toArray, List.set_cons_zero, List.set_cons_succ]
                refine' wpAnyH_take (i := 19) (oi := { dst := some 7, op := Op.assign (Operand.tmp 91), type := 23, pos := "more.go:24", after := #[{ on := 18, ground := Ground.data }, { on := 18, ground := Ground.chain }, { on := 0, ground := Ground.phase }, { on := 1, ground := Ground.phase }, { on := 2, ground := Ground.phase }, { on := 3, ground := Ground.phase }, { on := 4, ground := Ground.phase }, { on := 5, ground := Ground.phase }, { on := 6, ground := Ground.phase }, { on := 7, ground := Ground.phase }, { on := 8, ground := Ground.phase }, { on := 9, ground := Ground.phase }, { on := 10, ground := Ground.phase }, { on := 11, ground := Ground.phase }, { on := 12, ground := Ground.phase }, { on := 13, ground := Ground.phase }, { on := 14, ground := Ground.phase }, { on := 15, ground := Ground.phase }, { on := 16, ground := Ground.phase }, { on := 17, ground := Ground.phase }, { on := 18, ground := Ground.phase }], guard := none }) (v := _) rfl (by kernel_rfl) (by kernel_rfl) (by kernel_rfl) (fun _ _ _ h => h) (Or.inl ⟨by rfl, ?hya19⟩) hH4 ?ra19
                case hya19 => (intro w' hSw; clear hSw; go_simp; try with_reducible rfl)
                simp only [Act.put, List.setIfInBounds_toArray, List.set_cons_zero, List.set_cons_succ]
                refine wpAnyH_done (by kernel_rfl) ?_ _
                refine NoPanic.normal ?_
                clear hl79 hl88 hl84' hl84 hr9
                go_wp2_with fail
                go_roundw
                case rel => exact ⟨i + 1, c9, a9, l ++ [q], hlt', by go_num, rfl, R9, by show _ = _; rw [List.length_append, show l.length = i from hli]; rfl, fun x hx => (List.mem_append.1 hx).elim ((show ∀ q ∈ l, q.Ok from hok) x) (fun h => by rw [List.mem_singleton.1 h]; exact hq)⟩
                case measure => have : i < np := hlt'; simp [intOf]; omega
            · go_cut [62] from 32 to 91 (fun v wx => v = .bool true ∧ wx = w4)
              case first =>
                clear hrow b1 b2 e1 e2 e3
                by_cases h : r.k = 2 ∨ r.k = 3
                · have d3 : (300 : Int) < (r.len : Int) := by
                    have : ¬ r.len ≤ 300 := fun e => hgo ⟨h, e⟩
                    omega
                  clear hgo
                  rcases h with h | h
                  · have g1 : (r.k != 2) = false := by simp [h]
                    clear h
                    go_wp2_with fail
                    go_meet
                    exact ⟨rfl, rfl⟩
                  · have g1 : (r.k != 2) = true := by simp [h]
                    have g2 : (r.k != 3) = false := by simp [h]
                    clear h
                    go_wp2_with fail
                    go_meet
                    exact ⟨rfl, rfl⟩
                · have g1 : (r.k != 2) = true := by simp; omega
                  have g2 : (r.k != 3) = true := by simp; omega
                  clear h hgo
                  go_wp2_with fail
                  go_meet
                  exact ⟨rfl, rfl⟩
              case rest =>
                obtain ⟨rfl, rfl⟩ := hcut
                have KR := (k0.trans Ri.keep).trans K4
                go_wp2_with fail
                go_ret
                exact ⟨rfl, KR⟩
          · obtain rfl : i = np := by omega
            have hli' : l.length = i := hli
            have hok' : ∀ q ∈ l, q.Ok := hok
            have Rp0 := Ri.rg
            have hno : pga = none → l = [] ∧ c = 0 := fun e => by subst e; exact Ri.none_cap
            have hj1 := HJ.post Rp0 hok' hli' (by omega)
            have hpcc := Rp0.1
            rw [hli'] at hpcc
            have hpcc2 := Rp0.2.1
            have KW := Ri.keep
            clear hli hok q1 hS hP
            go_wp2_with fail
            refine hj1.mono ?_
            rintro e w10 ⟨_, rfl, a10, c10, m1, rs1, L1, rfl, hm1, Q1, hsy1, hjs1, k10⟩
            have E1 := ro_made w10
            obtain ⟨b1, q1, v1, hrA, E2, f1⟩ := E1.appY2 (Rp0.more (k10.trans E1.keep)) hno (n1 := 0) (n2 := i) (n3 := i) rfl hli' (by omega) (by omega)
            obtain ⟨b2, q2, v2, hrB, E3, f2⟩ := E2.appY2 (Rp0.more (k10.trans E2.keep)) hno (n2 := i) (n3 := i + i) f1 hli' rfl (by omega)
            have hmemA : ∀ p, p ∈ l ↔ p ∈ [] ++ l ++ l := fun p => by simp
            have hj2 := HJ.post E3.rg (fun q hq => hok' q ((hmemA q).2 hq)) f2 (by omega)
            clear hj1
            go_wp2_with (first | (at_builtin; refine wpList_append_run rfl (.tmp 94) (.tmp 95) 23 rfl (by rfl) (by rfl) hrA ?_) | (at_builtin; refine wpList_append_run rfl (.tmp 96) (.tmp 97) 23 rfl (by rfl) (by rfl) hrB ?_))
            refine hj2.mono ?_
            rintro e w13 ⟨_, rfl, a13, c13, m2, rs2, L2, rfl, hm2, Q2, hsy2, hjs2, kk⟩
            have k13 : Keep (fun _ => False) w10 w13 := E3.keep.trans kk
            obtain rfl : L2 = L1 := join_one hjs2 (join_mem hmemA hjs1)
            obtain rfl : m2 = m1 := by rw [← hm2, ← hm1, hsy2.1, hsy1.1]
            have K13 : Keep (fun _ => False) w0 w13 := KW.trans (k10.trans k13)
            have Rp := Rp0.more (k10.trans k13)
            clear hj2 hjs2 E1 E2 E3 hrA hrB f1 f2 kk hmemA Rp0 Ri
            have hok := hok'
            by_cases hz : i = 0
            · subst hz
              have hs1 := fun w' => rest_run w' pga (len := 0) (cap := c) (t := 0) (by omega)
              have hs2 := fun w' => first_run w' pga (len := 0) (cap := c) (t := 0) (by omega)
              go_upto_region 19 with fail
              refine wp_region_noPanic ?_
              refine wp_region_held_drew (S := fun w' => Keep (fun _ => False) w13 w') (by kernel_rfl) ((Keep.refl _ w13).drew) (fun hH0 => ?_)
              refine' wpAnyH_take (i := 1) (oi := { dst := some 108, op := Op.move (Operand.tmp 7), type := 23, pos := "more.go:32", after := #[], guard := none }) (v := _) rfl (by kernel_rfl) (by kernel_rfl) (by kernel_rfl) (fun _ _ _ h => h) (Or.inl ⟨by rfl, ?hybx1⟩) hH0 ?rbx1
              case hybx1 => (intro w' hSw; clear hSw; go_simp; try with_reducible rfl)
              simp only [Act.put, List.setIfInBounds_toArray, List.set_cons_zero, List.set_cons_succ]
              refine' wpAnyH_take (i := 2) (oi := { dst := some 109, op := Op.move (Operand.tmp 13), type := 3, pos := "more.go:32", after := #[], guard := none }) (v := _) rfl (by kernel_rfl) (by kernel_rfl) (by kernel_rfl) (fun _ _ _ h => h) (Or.inl ⟨by rfl, ?hybx2⟩) hH0 ?rbx2
              case hybx2 => (intro w' hSw; clear hSw; go_simp; try with_reducible rfl)
              simp only [Act.put, List.setIfInBounds_toArray, List.set_cons_zero, List.set_cons_succ]
              refine' wpAnyH_take (i := 3) (oi := { dst := some 110, op := Op.slice 23 (Operand.tmp 108) (some (Operand.tmp 109)) none none, type := 23, pos := "more.go:32", after := #[{ on := 1, ground := Ground.data }, { on := 2, ground := Ground.data }], guard := none }) (v := .slice (cutP pga c 0) (0 - 0) (c - 0)) rfl (by kernel_rfl) (by kernel_rfl) (by kernel_rfl) (fun _ _ _ h => h) (yields_rest (by rfl) 23 (.tmp 108) (.tmp 109) rfl (by rfl) (by rfl) hs1) hH0 ?rbx3
              simp only [Act.put, List.setIfInBounds_toArray, List.set_cons_zero, List.set_cons_succ]
              refine' wpAnyH_take (i := 5) (oi := { dst := some 112, op := Op.move (Operand.tmp 7), type := 23, pos := "more.go:32", after := #[], guard := none }) (v := _) rfl (by kernel_rfl) (by kernel_rfl) (by kernel_rfl) (fun _ _ _ h => h) (Or.inl ⟨by rfl, ?hybx5⟩) hH0 ?rbx5
              case hybx5 => (intro w' hSw; clear hSw; go_simp; try with_reducible rfl)
              simp only [Act.put, List.setIfInBounds_toArray, List.set_cons_zero, List.set_cons_succ]
              refine' wpAnyH_take (i := 6) (oi := { dst := some 113, op := Op.move (Operand.tmp 13), type := 3, pos := "more.go:32", after := #[], guard := none }) (v := _) rfl (by kernel_rfl) (by kernel_rfl) (by kernel_rfl) (fun _ _ _ h => h) (Or.inl ⟨by rfl, ?hybx6⟩) hH0 ?rbx6
              case hybx6 => (intro w' hSw; clear hSw; go_simp; try with_reducible rfl)
              simp only [Act.put, List.setIfInBounds_toArray, List.set_cons_zero, List.set_cons_succ]
              refine' wpAnyH_take (i := 7) (oi := { dst := some 114, op := Op.slice 23 (Operand.tmp 112) none (some (Operand.tmp 113)) none, type := 23, pos := "more.go:32", after := #[{ on := 5, ground := Ground.data }, { on := 6, ground := Ground.data }], guard := none }) (v := .slice pga 0 c) rfl (by kernel_rfl) (by kernel_rfl) (by kernel_rfl) (fun _ _ _ h => h) (yields_first (by rfl) 23 (.tmp 112) (.tmp 113) rfl (by rfl) (by rfl) hs2) hH0 ?rbx7
              simp only [Act.put, List.setIfInBounds_toArray, List.set_cons_zero, List.set_cons_succ]
              refine wpAnyH_ready (rs := [0]) (by kernel_rfl) (by simp) ?_
              refine AllReadyH.cons (o := { dst := some 107, op := Op.buildSlice 23 0 #[], type := 23, pos := "more.go:32", after := #[], guard := none }) rfl (fun K hK => ?_) AllReadyH.nil
              refine step_build0_run (by rfl) 23 rfl (build0_pg _) ?_
              refine hK.out _ _ (((Keep.refl (fun _ => False) w13).drew).alloc _) (fun hH1 => ?_)
              clear hK K hH0
              simp only [Act.put, List.setIfInBounds_toArray, List.set_cons_zero, List.set_cons_succ]
              have F1 := ro_made w13.drew
              obtain ⟨b4, q4, v4, hr4, F2, f4⟩ := F1.appY2 ((Rp.more (((Keep.refl _ _).drew).trans F1.keep)).cut (t := 0) (by omega)) (fun e => by obtain ⟨h1, h2⟩ := hno (cutP_none e); rw [h1]; simp [h2]) (n1 := 0) (n2 := 0 - 0) (n3 := 0 - 0) rfl (by rw [List.length_drop, hli']) (by omega) (by omega)
              refine wpAnyH_ready (rs := [4]) (by kernel_rfl) (by simp) ?_
              refine AllReadyH.cons (o := { dst := some 111, op := Op.call { callee := Callee.builtin Builtin.append, args := #[Operand.tmp 107, Operand.tmp 110], argTypes := #[23, 23] }, type := 23, pos := "more.go:32", after := #[{ on := 0, ground := Ground.data }, { on := 3, ground := Ground.data }], guard := none }) rfl (fun K hK => ?_) AllReadyH.nil
              refine step_append_run (by rfl) (.tmp 107) (.tmp 110) 23 rfl (by rfl) (by rfl) hr4 ?_
              refine hK.out _ _ (((Keep.refl (fun _ => False) w13).drew).trans F2.keep) (fun hH2 => ?_)
              clear hK K hH1
              simp only [Act.put, List.setIfInBounds_toArray, List.set_cons_zero, List.set_cons_succ]
              obtain ⟨b5, q5, v5, hr5, F3, f5⟩ := F2.appY2 ((Rp.more (((Keep.refl _ _).drew).trans F2.keep)).first 0) (fun e => by obtain ⟨h1, h2⟩ := hno e; rw [h1]; simp [h2]) (n2 := 0) (n3 := 0) f4 (by rw [List.length_take, hli']; omega) (by omega) (by omega)
              refine wpAnyH_ready (rs := [8]) (by kernel_rfl) (by simp) ?_
              refine AllReadyH.cons (o := { dst := some 115, op := Op.call { callee := Callee.builtin Builtin.append, args := #[Operand.tmp 111, Operand.tmp 114], argTypes := #[23, 23] }, type := 23, pos := "more.go:32", after := #[{ on := 4, ground := Ground.data }, { on := 7, ground := Ground.data }, { on := 4, ground := Ground.chain }], guard := none }) rfl (fun K hK => ?_) AllReadyH.nil
              refine step_append_run (by rfl) (.tmp 111) (.tmp 114) 23 rfl (by rfl) (by rfl) hr5 ?_
              refine hK.out _ _ (((Keep.refl (fun _ => False) w13).drew).trans F3.keep) (fun hH3 => ?_)
              clear hK K hH2
              simp only [Act.put, List.setIfInBounds_toArray, List.set_cons_zero, List.set_cons_succ]
              have hmem : ∀ p, p ∈ l ↔ p ∈ [] ++ l.drop 0 ++ l.take 0 := fun p => by
                rw [List.nil_append, List.mem_append, Or.comm, ← List.mem_append, List.take_append_drop]
              have hj3 := HJ.post F3.rg (fun q hq => hok q ((hmem q).2 hq)) f5 (by omega)
              refine wpAnyH_ready (rs := [9]) (by kernel_rfl) (by simp) ?_
              refine AllReadyH.cons (o := { dst := some 116, op := Op.call { callee := Callee.value (Operand.func 13), args := #[Operand.tmp 115], argTypes := #[23] }, type := 37, pos := "more.go:32", after := #[{ on := 8, ground := Ground.data }, { on := 8, ground := Ground.chain }], guard := none }) rfl (fun K hK => ?_) AllReadyH.nil
              refine step_call_want (vs := #[.slice b5 0 q5]) (R := JoinP ([] ++ l.drop 0 ++ l.take 0) v5) (by rfl) 13 #[Operand.tmp 115] #[23] rfl (by simp [Act.eval]) call13 (hj3) ?_
              rintro _ w14 ⟨a14, c14, m3, rs3, L3, rfl, hm3, Q3, hsy3, hjs3, k14⟩
              refine hK.out _ _ (((Keep.refl (fun _ => False) w13).drew).trans (F3.keep.trans k14)) (fun hH4 => ?_)
              clear hK K hH3
              simp only [Act.put, List.setIfInBounds_toArray, List.set_cons_zero, List.set_cons_succ]
              refine' wpAnyH_take (i := 10) (oi := { dst := some 14, op := Op.assign (Operand.tmp 116), type := 37, pos := "more.go:32", after := #[{ on := 9, ground := Ground.data }, { on := 9, ground := Ground.chain }, { on := 0, ground := Ground.phase }, { on := 1, ground := Ground.phase }, { on := 2, ground := Ground.phase }, { on := 3, ground := Ground.phase }, { on := 4, ground := Ground.phase }, { on := 5, ground := Ground.phase }, { on := 6, ground := Ground.phase }, { on := 7, ground := Ground.phase }, { on := 8, ground := Ground.phase }, { on := 9, ground := Ground.phase }], guard := none }) (v := _) rfl (by kernel_rfl) (by kernel_rfl) (by kernel_rfl) (fun _ _ _ h => h) (Or.inl ⟨by rfl, ?hybx10⟩) hH4 ?rbx10
              case hybx10 => (intro w' hSw; clear hSw; go_simp; try with_reducible rfl)
              simp only [Act.put, List.setIfInBounds_toArray, List.set_cons_zero, List.set_cons_succ]
              refine wpAnyH_done (by kernel_rfl) ?_ _
              refine NoPanic.normal ?_
              obtain rfl : L3 = L2 := join_one hjs3 (join_mem hmem hjs1)
              obtain rfl : m3 = m2 := by rw [← hm3, ← hm2, hsy3.1, hsy2.1]
              have Q1' := Q1.more (k13.trans (((Keep.refl _ w13).drew).trans (F3.keep.trans k14)))
              have Q2' := Q2.more (((Keep.refl _ w13).drew).trans (F3.keep.trans k14))
              have S1' := hsy1.more (k13.trans (((Keep.refl _ w13).drew).trans (F3.keep.trans k14)))
              have S2' := hsy2.more (((Keep.refl _ w13).drew).trans (F3.keep.trans k14))
              have KE : Keep (fun _ => False) w0 w14 := K13.trans (((Keep.refl _ w13).drew).trans (F3.keep.trans k14))
              clear F1 F2 F3 hr4 hr5 hj3 hjs3 hjs1 hs1 hs2 Q1 Q2 hsy1 hsy2 f4 f5 hmem
              have hmm : ((m3 : Int) != (m3 : Int)) = false := by simp
              have hm1c := Q1'.1
              have hm2c := Q2'.1
              have hm3c := Q3.1
              have hm1d := Q1'.2.1
              have hm2d := Q2'.2.1
              have hm3d := Q3.2.1
              rw [hm1] at hm1c
              rw [hm2] at hm2c
              rw [hm3] at hm3c
              go_wp2_with fail
              go_loopw [15] (fun v wx => ∃ i : Nat, i ≤ m3 ∧ v = .int .i64 (i : Int) ∧ Keep (fun _ => False) w14 wx) (fun v _ => m3 - (intOf v).toNat)
              case atStart => exact ⟨0, by omega, rfl, Keep.refl _ _⟩
              case round =>
                obtain ⟨i, hi, rfl, kr⟩ := hrel
                by_cases hlt : i < m3
                · obtain ⟨r1, h1⟩ : ∃ r, rs1[i]? = some r := ⟨_, List.getElem?_eq_getElem (by omega)⟩
                  obtain ⟨r2, h2⟩ : ∃ r, rs2[i]? = some r := ⟨_, List.getElem?_eq_getElem (by omega)⟩
                  obtain ⟨r3, h3⟩ : ∃ r, rs3[i]? = some r := ⟨_, List.getElem?_eq_getElem (by omega)⟩
                  obtain ⟨s, hs⟩ : ∃ s, L3[i]? = some s := ⟨_, List.getElem?_eq_getElem (by have := S1'.1; omega)⟩
                  obtain ⟨ga, oa, ea, hca⟩ := Q1'.at h1
                  subst ea
                  obtain ⟨gb, ob, eb, hcb⟩ := Q2'.at h2
                  subst eb
                  obtain ⟨gc, oc, ec, hcc⟩ := Q3.at h3
                  subst ec
                  have hA : ∀ w', Keep (fun _ => False) wr w' → w'.cell? ⟨ga, oa + i * 4, none⟩ = some (.int .i64 r1.k) ∧ w'.cell? ⟨ga, oa + i * 4 + 1, none⟩ = some (.int .u32 r1.e) ∧ w'.cell? ⟨ga, oa + i * 4 + 2, none⟩ = some (.int .u32 r1.g) ∧ w'.cell? ⟨ga, oa + i * 4 + 3, none⟩ = some (.slice r1.a r1.len r1.cap) := fun w' k =>
                    ⟨keep_cell (kr.trans k) (hca 0 (by omega)) (fun e => e), keep_cell (kr.trans k) (hca 1 (by omega)) (fun e => e), keep_cell (kr.trans k) (hca 2 (by omega)) (fun e => e), keep_cell (kr.trans k) (hca 3 (by omega)) (fun e => e)⟩
                  have hB' : ∀ w', Keep (fun _ => False) wr w' → (Instr.loadAt 30 (.pointer (some ⟨gb, ob + i * 4, none⟩))).run Try.prog w' = .ok (.agg (rwA r2)) w' := fun w' k => raw_load30 (fun j hj => keep_cell (kr.trans k) (hcb j hj) (fun e => e))
                  have hB3' : ∀ w', Keep (fun _ => False) wr w' → (Instr.loadAt 30 (.pointer (some ⟨gc, oc + i * 4, none⟩))).run Try.prog w' = .ok (.agg (rwA r3)) w' := fun w' k => raw_load30 (fun j hj => keep_cell (kr.trans k) (hcc j hj) (fun e => e))
                  have hsm2' : ∀ w', Keep (fun _ => False) wr w' → Calls Try.prog 14 #[.agg (rwA r2), .agg (rwA r1)] w' fun e w2 => e = .returned (.bool true) ∧ Keep (fun _ => False) w' w2 := fun w' k => same_raw ((S1'.more (kr.trans k)).2 i r1 s h1 hs) ((S2'.more (kr.trans k)).2 i r2 s h2 hs)
                  have hsm3' : ∀ w', Keep (fun _ => False) wr w' → Calls Try.prog 14 #[.agg (rwA r3), .agg (rwA r1)] w' fun e w2 => e = .returned (.bool true) ∧ Keep (fun _ => False) w' w2 := fun w' k => same_raw ((S1'.more (kr.trans k)).2 i r1 s h1 hs) ((hsy3.more (kr.trans k)).2 i r3 s h3 hs)
                  have di : (i : Int) < (m3 : Int) := by omega
                  have dw := wrapI (x := (i : Int) + 1) (by omega) (by omega)
                  have hlt' : Hid (i < m3) := hlt
                  clear hlt hs h1 h2 h3 hca hcb hcc
                  go_upto_region 25 with fail
                  refine wp_region_noPanic ?_
                  refine wp_region_held_drew (S := fun w' => Keep (fun _ => False) wr w') (by kernel_rfl) ((Keep.refl _ wr).drew) (fun hH0 => ?_)
                  refine' wpAnyH_take (i := 0) (oi := { dst := some 135, op := Op.move (Operand.tmp 11), type := 37, pos := "more.go:37", after := #[], guard := none }) (v := _) rfl (by kernel_rfl) (by kernel_rfl) (by kernel_rfl) (fun _ _ _ h => h) (Or.inl ⟨by rfl, ?hycx0⟩) hH0 ?rcx0
                  case hycx0 => (intro w' hSw; clear hSw; go_simp; try with_reducible rfl)
                  simp only [Act.put, List.setIfInBounds_toArray, List.set_cons_zero, List.set_cons_succ]
                  refine' wpAnyH_take (i := 1) (oi := { dst := some 136, op := Op.move (Operand.tmp 15), type := 3, pos := "more.go:37", after := #[], guard := none }) (v := _) rfl (by kernel_rfl) (by kernel_rfl) (by kernel_rfl) (fun _ _ _ h => h) (Or.inl ⟨by rfl, ?hycx1⟩) hH0 ?rcx1
                  case hycx1 => (intro w' hSw; clear hSw; go_simp; try with_reducible rfl)
                  simp only [Act.put, List.setIfInBounds_toArray, List.set_cons_zero, List.set_cons_succ]
                  refine' wpAnyH_take (i := 2) (oi := { dst := some 137, op := Op.indexAddr 37 (Operand.tmp 135) (Operand.tmp 136), type := 0, pos := "more.go:37", after := #[{ on := 0, ground := Ground.data }, { on := 1, ground := Ground.data }], guard := none }) (v := _) rfl (by kernel_rfl) (by kernel_rfl) (by kernel_rfl) (fun _ _ _ h => h) (Or.inl ⟨by rfl, ?hycx2⟩) hH0 ?rcx2
                  case hycx2 => (intro w' hSw; clear hSw; go_simp; try with_reducible rfl)
                  simp only [Act.put, List.setIfInBounds_toArray, List.set_cons_zero, List.set_cons_succ]
                  refine' wpAnyH_take (i := 3) (oi := { dst := some 138, op := Op.fieldAddr 30 (Operand.tmp 137) 0, type := 0, pos := "more.go:37", after := #[{ on := 2, ground := Ground.data }], guard := none }) (v := _) rfl (by kernel_rfl) (by kernel_rfl) (by kernel_rfl) (fun _ _ _ h => h) (Or.inl ⟨by rfl, ?hycx3⟩) hH0 ?rcx3
                  case hycx3 => (intro w' hSw; clear hSw; go_simp; try with_reducible rfl)
                  simp only [Act.put, List.setIfInBounds_toArray, List.set_cons_zero, List.set_cons_succ]
                  refine' wpAnyH_take (i := 4) (oi := { dst := some 139, op := Op.load 3 (Operand.tmp 138), type := 3, pos := "more.go:37", after := #[{ on := 3, ground := Ground.data }], guard := none }) (v := .int .i64 r1.k) rfl (by kernel_rfl) (by kernel_rfl) (by kernel_rfl) (fun _ _ _ h => h) (yields_load (by rfl) 3 (.tmp 138) rfl (by rfl) (fun w' k => load3 (hA w' k).1)) hH0 ?rcx4
                  simp only [Act.put, List.setIfInBounds_toArray, List.set_cons_zero, List.set_cons_succ]
                  refine' wpAnyH_take (i := 5) (oi := { dst := some 140, op := Op.move (Operand.tmp 11), type := 37, pos := "more.go:37", after := #[], guard := none }) (v := _) rfl (by kernel_rfl) (by kernel_rfl) (by kernel_rfl) (fun _ _ _ h => h) (Or.inl ⟨by rfl, ?hycx5⟩) hH0 ?rcx5
                  case hycx5 => (intro w' hSw; clear hSw; go_simp; try with_reducible rfl)
                  simp only [Act.put, List.setIfInBounds_toArray, List.set_cons_zero, List.set_cons_succ]
                  refine' wpAnyH_take (i := 6) (oi := { dst := some 141, op := Op.move (Operand.tmp 15), type := 3, pos := "more.go:37", after := #[], guard := none }) (v := _) rfl (by kernel_rfl) (by kernel_rfl) (by kernel_rfl) (fun _ _ _ h => h) (Or.inl ⟨by rfl, ?hycx6⟩) hH0 ?rcx6
                  case hycx6 => (intro w' hSw; clear hSw; go_simp; try with_reducible rfl)
                  simp only [Act.put, List.setIfInBounds_toArray, List.set_cons_zero, List.set_cons_succ]
                  refine' wpAnyH_take (i := 7) (oi := { dst := some 142, op := Op.indexAddr 37 (Operand.tmp 140) (Operand.tmp 141), type := 0, pos := "more.go:37", after := #[{ on := 5, ground := Ground.data }, { on := 6, ground := Ground.data }], guard := none }) (v := _) rfl (by kernel_rfl) (by kernel_rfl) (by kernel_rfl) (fun _ _ _ h => h) (Or.inl ⟨by rfl, ?hycx7⟩) hH0 ?rcx7
                  case hycx7 => (intro w' hSw; clear hSw; go_simp; try with_reducible rfl)
                  simp only [Act.put, List.setIfInBounds_toArray, List.set_cons_zero, List.set_cons_succ]
                  refine' wpAnyH_take (i := 8) (oi := { dst := some 143, op := Op.fieldAddr 30 (Operand.tmp 142) 1, type := 0, pos := "more.go:37", after := #[{ on := 7, ground := Ground.data }], guard := none }) (v := _) rfl (by kernel_rfl) (by kernel_rfl) (by kernel_rfl) (fun _ _ _ h => h) (Or.inl ⟨by rfl, ?hycx8⟩) hH0 ?rcx8
                  case hycx8 => (intro w' hSw; clear hSw; go_simp; try with_reducible rfl)
                  simp only [Act.put, List.setIfInBounds_toArray, List.set_cons_zero, List.set_cons_succ]
                  refine' wpAnyH_take (i := 9) (oi := { dst := some 144, op := Op.load 27 (Operand.tmp 143), type := 27, pos := "more.go:37", after := #[{ on := 8, ground := Ground.data }], guard := none }) (v := .int .u32 r1.e) rfl (by kernel_rfl) (by kernel_rfl) (by kernel_rfl) (fun _ _ _ h => h) (yields_load (by rfl) 27 (.tmp 143) rfl (by rfl) (fun w' k => load27 (hA w' k).2.1)) hH0 ?rcx9
                  simp only [Act.put, List.setIfInBounds_toArray, List.set_cons_zero, List.set_cons_succ]
                  refine' wpAnyH_take (i := 10) (oi := { dst := some 145, op := Op.move (Operand.tmp 11), type := 37, pos := "more.go:37", after := #[], guard := none }) (v := _) rfl (by kernel_rfl) (by kernel_rfl) (by kernel_rfl) (fun _ _ _ h => h) (Or.inl ⟨by rfl, ?hycx10⟩) hH0 ?rcx10
                  case hycx10 => (intro w' hSw; clear hSw; go_simp; try with_reducible rfl)
                  simp only [Act.put, List.setIfInBounds_toArray, List.set_cons_zero, List.set_cons_succ]
                  refine' wpAnyH_take (i := 11) (oi := { dst := some 146, op := Op.move (Operand.tmp 15), type := 3, pos := "more.go:37", after := #[], guard := none }) (v := _) rfl (by kernel_rfl) (by kernel_rfl) (by kernel_rfl) (fun _ _ _ h => h) (Or.inl ⟨by rfl, ?hycx11⟩) hH0 ?rcx11
                  case hycx11 => (intro w' hSw; clear hSw; go_simp; try with_reducible rfl)
                  simp only [Act.put, List.setIfInBounds_toArray, List.set_cons_zero, List.set_cons_succ]
                  refine' wpAnyH_take (i := 12) (oi := { dst := some 147, op := Op.indexAddr 37 (Operand.tmp 145) (Operand.tmp 146), type := 0, pos := "more.go:37", after := #[{ on := 10, ground := Ground.data }, { on := 11, ground := Ground.data }], guard := none }) (v := _) rfl (by kernel_rfl) (by kernel_rfl) (by kernel_rfl) (fun _ _ _ h => h) (Or.inl ⟨by rfl, ?hycx12⟩) hH0 ?rcx12
                  case hycx12 => (intro w' hSw; clear hSw; go_simp; try with_reducible rfl)
                  simp only [Act.put, List.setIfInBounds_toArray, List.set_cons_zero, List.set_cons_succ]
                  refine' wpAnyH_take (i := 13) (oi := { dst := some 148, op := Op.fieldAddr 30 (Operand.tmp 147) 2, type := 0, pos := "more.go:37", after := #[{ on := 12, ground := Ground.data }], guard := none }) (v := _) rfl (by kernel_rfl) (by kernel_rfl) (by kernel_rfl) (fun _ _ _ h => h) (Or.inl ⟨by rfl, ?hycx13⟩) hH0 ?rcx13
                  case hycx13 => (intro w' hSw; clear hSw; go_simp; try with_reducible rfl)
                  simp only [Act.put, List.setIfInBounds_toArray, List.set_cons_zero, List.set_cons_succ]
                  refine' wpAnyH_take (i := 14) (oi := { dst := some 149, op := Op.load 27 (Operand.tmp 148), type := 27, pos := "more.go:37", after := #[{ on := 13, ground := Ground.data }], guard := none }) (v := .int .u32 r1.g) rfl (by kernel_rfl) (by kernel_rfl) (by kernel_rfl) (fun _ _ _ h => h) (yields_load (by rfl) 27 (.tmp 148) rfl (by rfl) (fun w' k => load27 (hA w' k).2.2.1)) hH0 ?rcx14
                  simp only [Act.put, List.setIfInBounds_toArray, List.set_cons_zero, List.set_cons_succ]
                  refine' wpAnyH_take (i := 15) (oi := { dst := some 150, op := Op.move (Operand.tmp 11), type := 37, pos := "more.go:37", after := #[], guard := none }) (v := _) rfl (by kernel_rfl) (by kernel_rfl) (by kernel_rfl) (fun _ _ _ h => h) (Or.inl ⟨by rfl, ?hycx15⟩) hH0 ?rcx15
                  case hycx15 => (intro w' hSw; clear hSw; go_simp; try with_reducible rfl)
                  simp only [Act.put, List.setIfInBounds_toArray, List.set_cons_zero, List.set_cons_succ]
                  refine' wpAnyH_take (i := 16) (oi := { dst := some 151, op := Op.move (Operand.tmp 15), type := 3, pos := "more.go:37", after := #[], guard := none }) (v := _) rfl (by kernel_rfl) (by kernel_rfl) (by kernel_rfl) (fun _ _ _ h => h) (Or.inl ⟨by rfl, ?hycx16⟩) hH0 ?rcx16
                  case hycx16 => (intro w' hSw; clear hSw; go_simp; try with_reducible rfl)
                  simp only [Act.put, List.setIfInBounds_toArray, List.set_cons_zero, List.set_cons_succ]
                  refine' wpAnyH_take (i := 17) (oi := { dst := some 152, op := Op.indexAddr 37 (Operand.tmp 150) (Operand.tmp 151), type := 0, pos := "more.go:37", after := #[{ on := 15, ground := Ground.data }, { on := 16, ground := Ground.data }], guard := none }) (v := _) rfl (by kernel_rfl) (by kernel_rfl) (by kernel_rfl) (fun _ _ _ h => h) (Or.inl ⟨by rfl, ?hycx17⟩) hH0 ?rcx17
                  case hycx17 => (intro w' hSw; clear hSw; go_simp; try with_reducible rfl)
                  simp only [Act.put, List.setIfInBounds_toArray, List.set_cons_zero, List.set_cons_succ]
                  refine' wpAnyH_take (i := 18) (oi := { dst := some 153, op := Op.fieldAddr 30 (Operand.tmp 152) 3, type := 0, pos := "more.go:37", after := #[{ on := 17, ground := Ground.data }], guard := none }) (v := _) rfl (by kernel_rfl) (by kernel_rfl) (by kernel_rfl) (fun _ _ _ h => h) (Or.inl ⟨by rfl, ?hycx18⟩) hH0 ?rcx18
                  case hycx18 => (intro w' hSw; clear hSw; go_simp; try with_reducible rfl)
                  simp only [Act.put, List.setIfInBounds_toArray, List.set_cons_zero, List.set_cons_succ]
                  refine' wpAnyH_take (i := 19) (oi := { dst := some 154, op := Op.load 28 (Operand.tmp 153), type := 28, pos := "more.go:37", after := #[{ on := 18, ground := Ground.data }], guard := none }) (v := .slice r1.a r1.len r1.cap) rfl (by kernel_rfl) (by kernel_rfl) (by kernel_rfl) (fun _ _ _ h => h) (yields_load (by rfl) 28 (.tmp 153) rfl (by rfl) (fun w' k => load28 (hA w' k).2.2.2)) hH0 ?rcx19
                  simp only [Act.put, List.setIfInBounds_toArray, List.set_cons_zero, List.set_cons_succ]
                  refine' wpAnyH_take (i := 20) (oi := { dst := some 155, op := Op.build 36 #[(0, Operand.tmp 139), (1, Operand.tmp 144), (2, Operand.tmp 149), (3, Operand.tmp 154)], type := 36, pos := "more.go:37", after := #[{ on := 4, ground := Ground.data }, { on := 9, ground := Ground.data }, { on := 14, ground := Ground.data }, { on := 19, ground := Ground.data }], guard := none }) (v := _) rfl (by kernel_rfl) (by kernel_rfl) (by kernel_rfl) (fun _ _ _ h => h) (Or.inl ⟨by rfl, ?hycx20⟩) hH0 ?rcx20
                  case hycx20 => (intro w' hSw; clear hSw; go_simp; try with_reducible rfl)
                  simp only [Act.put, List.setIfInBounds_toArray, List.set_cons_zero, List.set_cons_succ]
                  refine wpAnyH_ready (rs := [21]) (by kernel_rfl) (by simp) ?_
                  refine AllReadyH.cons (o := { dst := some 16, op := Op.alloc 36, type := 0, pos := "more.go:37", after := #[], guard := none }) rfl (fun K hK => ?_) AllReadyH.nil
                  go_simp
                  refine hK.out _ _ (((Keep.refl (fun _ => False) wr).drew).alloc _) (fun hH1 => ?_)
                  clear hK K hH0
                  obtain ⟨v2, hst, B2, K2⟩ := new_raw36 wr.drew r1
                  refine wpAnyH_ready (rs := [22]) (by kernel_rfl) (by simp) ?_
                  refine AllReadyH.cons (o := { dst := none, op := Op.store 36 (Operand.tmp 16) (Operand.tmp 155), type := 0, pos := "more.go:37", after := #[{ on := 21, ground := Ground.data }, { on := 20, ground := Ground.data }, { on := 0, ground := Ground.phase }, { on := 1, ground := Ground.phase }, { on := 2, ground := Ground.phase }, { on := 3, ground := Ground.phase }, { on := 4, ground := Ground.phase }, { on := 5, ground := Ground.phase }, { on := 6, ground := Ground.phase }, { on := 7, ground := Ground.phase }, { on := 8, ground := Ground.phase }, { on := 9, ground := Ground.phase }, { on := 10, ground := Ground.phase }, { on := 11, ground := Ground.phase }, { on := 12, ground := Ground.phase }, { on := 13, ground := Ground.phase }, { on := 14, ground := Ground.phase }, { on := 15, ground := Ground.phase }, { on := 16, ground := Ground.phase }, { on := 17, ground := Ground.phase }, { on := 18, ground := Ground.phase }, { on := 19, ground := Ground.phase }, { on := 20, ground := Ground.phase }, { on := 21, ground := Ground.phase }], guard := none }) rfl (fun K hK => ?_) AllReadyH.nil
                  refine step_store_run (by rfl) 36 (.tmp 16) (.tmp 155) rfl (by rfl) (by rfl) hst ?_
                  refine hK.out _ _ (((Keep.refl (fun _ => False) wr).drew).trans K2) (fun hH2 => ?_)
                  clear hK K hH1
                  simp only [Act.put]
                  refine wpAnyH_done (by kernel_rfl) ?_ _
                  refine NoPanic.normal ?_
                  have Kv : Keep (fun _ => False) wr v2 := ((Keep.refl _ wr).drew).trans K2
                  have hB : ∀ w', Keep (fun _ => False) v2 w' → _ := fun w' k => hB' w' (Kv.trans k)
                  have hB3 : ∀ w', Keep (fun _ => False) v2 w' → _ := fun w' k => hB3' w' (Kv.trans k)
                  have hsm2 : ∀ w', Keep (fun _ => False) v2 w' → _ := fun w' k => hsm2' w' (Kv.trans k)
                  have hsm3 : ∀ w', Keep (fun _ => False) v2 w' → _ := fun w' k => hsm3' w' (Kv.trans k)
                  have hC : ∀ w', Keep (fun _ => False) v2 w' → (Instr.loadAt 36 (.pointer (some ⟨wr.drew.heap.size, 0, none⟩))).run Try.prog w' = .ok (.agg (rwA r1)) w' := fun w' k => raw_load36 (fun j hj => by rw [Nat.zero_add]; exact (Blk.keep B2 k (fun e => e) j hj).1)
                  clear hst hA hB' hB3' hsm2' hsm3'
                  go_upto_region 26 with fail
                  refine wp_region_noPanic ?_
                  refine wp_region_held_drew (S := fun w' => Keep (fun _ => False) v2 w') (by kernel_rfl) ((Keep.refl _ v2).drew) (fun hH0 => ?_)
                  refine' wpAnyH_take (i := 0) (oi := { dst := some 156, op := Op.move (Operand.tmp 12), type := 37, pos := "more.go:38", after := #[], guard := none }) (v := _) rfl (by kernel_rfl) (by kernel_rfl) (by kernel_rfl) (fun _ _ _ h => h) (Or.inl ⟨by rfl, ?hydx0⟩) hH0 ?rdx0
                  case hydx0 => (intro w' hSw; clear hSw; go_simp; try with_reducible rfl)
                  simp only [Act.put, List.setIfInBounds_toArray, List.set_cons_zero, List.set_cons_succ]
                  refine' wpAnyH_take (i := 1) (oi := { dst := some 157, op := Op.move (Operand.tmp 15), type := 3, pos := "more.go:38", after := #[], guard := none }) (v := _) rfl (by kernel_rfl) (by kernel_rfl) (by kernel_rfl) (fun _ _ _ h => h) (Or.inl ⟨by rfl, ?hydx1⟩) hH0 ?rdx1
                  case hydx1 => (intro w' hSw; clear hSw; go_simp; try with_reducible rfl)
                  simp only [Act.put, List.setIfInBounds_toArray, List.set_cons_zero, List.set_cons_succ]
                  refine' wpAnyH_take (i := 2) (oi := { dst := some 158, op := Op.indexAddr 37 (Operand.tmp 156) (Operand.tmp 157), type := 0, pos := "more.go:38", after := #[{ on := 0, ground := Ground.data }, { on := 1, ground := Ground.data }], guard := none }) (v := _) rfl (by kernel_rfl) (by kernel_rfl) (by kernel_rfl) (fun _ _ _ h => h) (Or.inl ⟨by rfl, ?hydx2⟩) hH0 ?rdx2
                  case hydx2 => (intro w' hSw; clear hSw; go_simp; try with_reducible rfl)
                  simp only [Act.put, List.setIfInBounds_toArray, List.set_cons_zero, List.set_cons_succ]
                  refine' wpAnyH_take (i := 3) (oi := { dst := some 159, op := Op.load 30 (Operand.tmp 158), type := 30, pos := "more.go:38", after := #[{ on := 2, ground := Ground.data }], guard := none }) (v := .agg (rwA r2)) rfl (by kernel_rfl) (by kernel_rfl) (by kernel_rfl) (fun _ _ _ h => h) (yields_load (by rfl) 30 (.tmp 158) rfl (by rfl) hB) hH0 ?rdx3
                  simp only [Act.put, List.setIfInBounds_toArray, List.set_cons_zero, List.set_cons_succ]
                  refine' wpAnyH_take (i := 4) (oi := { dst := some 160, op := Op.load 36 (Operand.tmp 16), type := 36, pos := "more.go:38", after := #[], guard := none }) (v := .agg (rwA r1)) rfl (by kernel_rfl) (by kernel_rfl) (by kernel_rfl) (fun _ _ _ h => h) (yields_load (by rfl) 36 (.tmp 16) rfl (by rfl) hC) hH0 ?rdx4
                  simp only [Act.put, List.setIfInBounds_toArray, List.set_cons_zero, List.set_cons_succ]
                  refine wpAnyH_ready (rs := [5]) (by kernel_rfl) (by simp) ?_
                  refine AllReadyH.cons (o := { dst := some 161, op := Op.call { callee := Callee.value (Operand.func 14), args := #[Operand.tmp 159, Operand.tmp 160], argTypes := #[30, 36] }, type := 4, pos := "more.go:38", after := #[{ on := 3, ground := Ground.data }, { on := 4, ground := Ground.data }], guard := none }) rfl (fun K hK => ?_) AllReadyH.nil
                  refine step_call_want (vs := #[.agg (rwA r2), .agg (rwA r1)]) (R := fun u wz => u = .bool true ∧ Keep (fun _ => False) v2.drew wz) (by rfl) 14 #[Operand.tmp 159, Operand.tmp 160] #[30, 36] rfl (by simp [Act.eval]) call14 (post_of (hsm2 _ ((Keep.refl (fun _ => False) v2).drew))) ?_
                  rintro _ v3 ⟨rfl, k3⟩
                  refine hK.out _ _ (((Keep.refl (fun _ => False) v2).drew).trans k3) (fun hH1 => ?_)
                  clear hK K hH0
                  simp only [Act.put, List.setIfInBounds_toArray, List.set_cons_zero, List.set_cons_succ]
                  refine' wpAnyH_take (i := 6) (oi := { dst := some 162, op := Op.unOp UnOp.not 4 (Operand.tmp 161), type := 4, pos := "more.go:38", after := #[{ on := 5, ground := Ground.data }], guard := none }) (v := .bool false) rfl (by kernel_rfl) (by kernel_rfl) (by kernel_rfl) (fun _ _ _ h => h) (Or.inl ⟨by rfl, ?hydx6⟩) hH1 ?rdx6
                  case hydx6 => (intro w' hSw; clear hSw; go_simp; try with_reducible rfl)
                  simp only [Act.put, List.setIfInBounds_toArray, List.set_cons_zero, List.set_cons_succ]
                  refine' wpAnyH_take (i := 7) (oi := { dst := some 163, op := Op.move (Operand.tmp 162), type := 4, pos := "more.go:38", after := #[{ on := 6, ground := Ground.data }, { on := 5, ground := Ground.chain }], guard := none }) (v := _) rfl (by kernel_rfl) (by kernel_rfl) (by kernel_rfl) (fun _ _ _ h => h) (Or.inl ⟨by rfl, ?hydx7⟩) hH1 ?rdx7
                  case hydx7 => (intro w' hSw; clear hSw; go_simp; try with_reducible rfl)
                  simp only [Act.put, List.setIfInBounds_toArray, List.set_cons_zero, List.set_cons_succ]
                  refine' wpAnyH_take (i := 8) (oi := { dst := some 164, op := Op.move (Operand.tmp 14), type := 37, pos := "more.go:38", after := #[{ on := 7, ground := Ground.guard }], guard := some (7, false) }) (v := _) rfl (by kernel_rfl) (by kernel_rfl) (by kernel_rfl) (fun _ _ _ h => h) (Or.inl ⟨by rfl, ?hydx8⟩) hH1 ?rdx8
                  case hydx8 => (intro w' hSw; clear hSw; go_simp; try with_reducible rfl)
                  simp only [Act.put, List.setIfInBounds_toArray, List.set_cons_zero, List.set_cons_succ]
                  refine' wpAnyH_take (i := 9) (oi := { dst := some 165, op := Op.move (Operand.tmp 15), type := 3, pos := "more.go:38", after := #[{ on := 7, ground := Ground.guard }], guard := some (7, false) }) (v := _) rfl (by kernel_rfl) (by kernel_rfl) (by kernel_rfl) (fun _ _ _ h => h) (Or.inl ⟨by rfl, ?hydx9⟩) hH1 ?rdx9
                  case hydx9 => (intro w' hSw; clear hSw; go_simp; try with_reducible rfl)
                  simp only [Act.put, List.setIfInBounds_toArray, List.set_cons_zero, List.set_cons_succ]
                  refine' wpAnyH_take (i := 10) (oi := { dst := some 166, op := Op.indexAddr 37 (Operand.tmp 164) (Operand.tmp 165), type := 0, pos := "more.go:38", after := #[{ on := 8, ground := Ground.data }, { on := 9, ground := Ground.data }, { on := 7, ground := Ground.guard }], guard := some (7, false) }) (v := _) rfl (by kernel_rfl) (by kernel_rfl) (by kernel_rfl) (fun _ _ _ h => h) (Or.inl ⟨by rfl, ?hydx10⟩) hH1 ?rdx10
                  case hydx10 => (intro w' hSw; clear hSw; go_simp; try with_reducible rfl)
                  simp only [Act.put, List.setIfInBounds_toArray, List.set_cons_zero, List.set_cons_succ]
                  refine' wpAnyH_take (i := 11) (oi := { dst := some 167, op := Op.load 30 (Operand.tmp 166), type := 30, pos := "more.go:38", after := #[{ on := 10, ground := Ground.data }, { on := 7, ground := Ground.guard }], guard := some (7, false) }) (v := .agg (rwA r3)) rfl (by kernel_rfl) (by kernel_rfl) (by kernel_rfl) (fun _ _ _ h => h) (yields_load (by rfl) 30 (.tmp 166) rfl (by rfl) hB3) hH1 ?rdx11
                  simp only [Act.put, List.setIfInBounds_toArray, List.set_cons_zero, List.set_cons_succ]
                  refine' wpAnyH_take (i := 12) (oi := { dst := some 168, op := Op.load 36 (Operand.tmp 16), type := 36, pos := "more.go:38", after := #[{ on := 7, ground := Ground.guard }], guard := some (7, false) }) (v := .agg (rwA r1)) rfl (by kernel_rfl) (by kernel_rfl) (by kernel_rfl) (fun _ _ _ h => h) (yields_load (by rfl) 36 (.tmp 16) rfl (by rfl) hC) hH1 ?rdx12
                  simp only [Act.put, List.setIfInBounds_toArray, List.set_cons_zero, List.set_cons_succ]
                  refine wpAnyH_ready (rs := [13]) (by kernel_rfl) (by simp) ?_
                  refine AllReadyH.cons (o := { dst := some 169, op := Op.call { callee := Callee.value (Operand.func 14), args := #[Operand.tmp 167, Operand.tmp 168], argTypes := #[30, 36] }, type := 4, pos := "more.go:38", after := #[{ on := 11, ground := Ground.data }, { on := 12, ground := Ground.data }, { on := 7, ground := Ground.chain }, { on := 7, ground := Ground.guard }], guard := some (7, false) }) rfl (fun K hK => ?_) AllReadyH.nil
                  refine step_call_want (vs := #[.agg (rwA r3), .agg (rwA r1)]) (R := fun u wz => u = .bool true ∧ Keep (fun _ => False) v3 wz) (by rfl) 14 #[Operand.tmp 167, Operand.tmp 168] #[30, 36] rfl (by simp [Act.eval]) call14 (post_of (hsm3 _ (((Keep.refl (fun _ => False) v2).drew).trans k3))) ?_
                  rintro _ v5 ⟨rfl, k5⟩
                  refine hK.out _ _ ((((Keep.refl (fun _ => False) v2).drew).trans k3).trans k5) (fun hH2 => ?_)
                  clear hK K hH1
                  simp only [Act.put, List.setIfInBounds_toArray, List.set_cons_zero, List.set_cons_succ]
                  refine' wpAnyH_take (i := 14) (oi := { dst := some 170, op := Op.unOp UnOp.not 4 (Operand.tmp 169), type := 4, pos := "more.go:38", after := #[{ on := 13, ground := Ground.data }, { on := 7, ground := Ground.guard }], guard := some (7, false) }) (v := .bool false) rfl (by kernel_rfl) (by kernel_rfl) (by kernel_rfl) (fun _ _ _ h => h) (Or.inl ⟨by rfl, ?hydx14⟩) hH2 ?rdx14
                  case hydx14 => (intro w' hSw; clear hSw; go_simp; try with_reducible rfl)
                  simp only [Act.put, List.setIfInBounds_toArray, List.set_cons_zero, List.set_cons_succ]
                  refine' wpAnyH_take (i := 15) (oi := { dst := some 171, op := Op.pick (Operand.tmp 163) (Operand.const (Value.bool true)) (Operand.tmp 170), type := 4, pos := "more.go:38", after := #[{ on := 7, ground := Ground.data }, { on := 14, ground := Ground.data }], guard := none }) (v := .bool false) rfl (by kernel_rfl) (by kernel_rfl) (by kernel_rfl) (fun _ _ _ h => h) (Or.inl ⟨by rfl, ?hydx15⟩) hH2 ?rdx15
                  case hydx15 => (intro w' hSw; clear hSw; go_simp; try with_reducible rfl)
                  simp only [Act.put, List.setIfInBounds_toArray, List.set_cons_zero, List.set_cons_succ]
                  refine wpAnyH_done (by kernel_rfl) ?_ _
                  refine NoPanic.normal ?_
                  go_wp2_with fail
                  go_roundw
                  case rel => exact ⟨i + 1, hlt', by go_num, kr.trans (Kv.trans ((((Keep.refl _ v2).drew).trans k3).trans k5))⟩
                  case measure => have : i < m3 := hlt'; simp [intOf]; omega
                · obtain rfl : i = m3 := by omega
                  go_wp2_with fail
                  go_ret
                  exact ⟨rfl, (k0.trans KE).trans kr⟩
            · have dz : (0 : Int) < (i : Int) := by omega
              go_wp2_with fail
              refine (wrap_any (n := turn) (s := i) (by omega) (by omega) _).mono ?_
              rintro e w3 ⟨k, hk, rfl, ew⟩
              subst w3
              have hs1 := fun w' => rest_run w' pga (len := i) (cap := c) (t := k) (by omega)
              have hs2 := fun w' => first_run w' pga (len := i) (cap := c) (t := k) (by omega)
              go_upto_region 19 with fail
              refine wp_region_noPanic ?_
              refine wp_region_held_drew (S := fun w' => Keep (fun _ => False) w13 w') (by kernel_rfl) ((Keep.refl _ w13).drew) (fun hH0 => ?_)
              refine' wpAnyH_take (i := 1) (oi := { dst := some 108, op := Op.move (Operand.tmp 7), type := 23, pos := "more.go:32", after := #[], guard := none }) (v := _) rfl (by kernel_rfl) (by kernel_rfl) (by kernel_rfl) (fun _ _ _ h => h) (Or.inl ⟨by rfl, ?hyby1⟩) hH0 ?rby1
              case hyby1 => (intro w' hSw; clear hSw; go_simp; try with_reducible rfl)
              simp only [Act.put, List.setIfInBounds_toArray, List.set_cons_zero, List.set_cons_succ]
              refine' wpAnyH_take (i := 2) (oi := { dst := some 109, op := Op.move (Operand.tmp 13), type := 3, pos := "more.go:32", after := #[], guard := none }) (v := _) rfl (by kernel_rfl) (by kernel_rfl) (by kernel_rfl) (fun _ _ _ h => h) (Or.inl ⟨by rfl, ?hyby2⟩) hH0 ?rby2
              case hyby2 => (intro w' hSw; clear hSw; go_simp; try with_reducible rfl)
              simp only [Act.put, List.setIfInBounds_toArray, List.set_cons_zero, List.set_cons_succ]
              refine' wpAnyH_take (i := 3) (oi := { dst := some 110, op := Op.slice 23 (Operand.tmp 108) (some (Operand.tmp 109)) none none, type := 23, pos := "more.go:32", after := #[{ on := 1, ground := Ground.data }, { on := 2, ground := Ground.data }], guard := none }) (v := .slice (cutP pga c k) (i - k) (c - k)) rfl (by kernel_rfl) (by kernel_rfl) (by kernel_rfl) (fun _ _ _ h => h) (yields_rest (by rfl) 23 (.tmp 108) (.tmp 109) rfl (by rfl) (by rfl) hs1) hH0 ?rby3
              simp only [Act.put, List.setIfInBounds_toArray, List.set_cons_zero, List.set_cons_succ]
              refine' wpAnyH_take (i := 5) (oi := { dst := some 112, op := Op.move (Operand.tmp 7), type := 23, pos := "more.go:32", after := #[], guard := none }) (v := _) rfl (by kernel_rfl) (by kernel_rfl) (by kernel_rfl) (fun _ _ _ h => h) (Or.inl ⟨by rfl, ?hyby5⟩) hH0 ?rby5
              case hyby5 => (intro w' hSw; clear hSw; go_simp; try with_reducible rfl)
              simp only [Act.put, List.setIfInBounds_toArray, List.set_cons_zero, List.set_cons_succ]
              refine' wpAnyH_take (i := 6) (oi := { dst := some 113, op := Op.move (Operand.tmp 13), type := 3, pos := "more.go:32", after := #[], guard := none }) (v := _) rfl (by kernel_rfl) (by kernel_rfl) (by kernel_rfl) (fun _ _ _ h => h) (Or.inl ⟨by rfl, ?hyby6⟩) hH0 ?rby6
              case hyby6 => (intro w' hSw; clear hSw; go_simp; try with_reducible rfl)
              simp only [Act.put, List.setIfInBounds_toArray, List.set_cons_zero, List.set_cons_succ]
              refine' wpAnyH_take (i := 7) (oi := { dst := some 114, op := Op.slice 23 (Operand.tmp 112) none (some (Operand.tmp 113)) none, type := 23, pos := "more.go:32", after := #[{ on := 5, ground := Ground.data }, { on := 6, ground := Ground.data }], guard := none }) (v := .slice pga k c) rfl (by kernel_rfl) (by kernel_rfl) (by kernel_rfl) (fun _ _ _ h => h) (yields_first (by rfl) 23 (.tmp 112) (.tmp 113) rfl (by rfl) (by rfl) hs2) hH0 ?rby7
              simp only [Act.put, List.setIfInBounds_toArray, List.set_cons_zero, List.set_cons_succ]
              refine wpAnyH_ready (rs := [0]) (by kernel_rfl) (by simp) ?_
              refine AllReadyH.cons (o := { dst := some 107, op := Op.buildSlice 23 0 #[], type := 23, pos := "more.go:32", after := #[], guard := none }) rfl (fun K hK => ?_) AllReadyH.nil
              refine step_build0_run (by rfl) 23 rfl (build0_pg _) ?_
              refine hK.out _ _ (((Keep.refl (fun _ => False) w13).drew).alloc _) (fun hH1 => ?_)
              clear hK K hH0
              simp only [Act.put, List.setIfInBounds_toArray, List.set_cons_zero, List.set_cons_succ]
              have F1 := ro_made w13.drew
              obtain ⟨b4, q4, v4, hr4, F2, f4⟩ := F1.appY2 ((Rp.more (((Keep.refl _ _).drew).trans F1.keep)).cut (t := k) (by omega)) (fun e => by obtain ⟨h1, h2⟩ := hno (cutP_none e); rw [h1]; simp [h2]) (n1 := 0) (n2 := i - k) (n3 := i - k) rfl (by rw [List.length_drop, hli']) (by omega) (by omega)
              refine wpAnyH_ready (rs := [4]) (by kernel_rfl) (by simp) ?_
              refine AllReadyH.cons (o := { dst := some 111, op := Op.call { callee := Callee.builtin Builtin.append, args := #[Operand.tmp 107, Operand.tmp 110], argTypes := #[23, 23] }, type := 23, pos := "more.go:32", after := #[{ on := 0, ground := Ground.data }, { on := 3, ground := Ground.data }], guard := none }) rfl (fun K hK => ?_) AllReadyH.nil
              refine step_append_run (by rfl) (.tmp 107) (.tmp 110) 23 rfl (by rfl) (by rfl) hr4 ?_
              refine hK.out _ _ (((Keep.refl (fun _ => False) w13).drew).trans F2.keep) (fun hH2 => ?_)
              clear hK K hH1
              simp only [Act.put, List.setIfInBounds_toArray, List.set_cons_zero, List.set_cons_succ]
              obtain ⟨b5, q5, v5, hr5, F3, f5⟩ := F2.appY2 ((Rp.more (((Keep.refl _ _).drew).trans F2.keep)).first k) (fun e => by obtain ⟨h1, h2⟩ := hno e; rw [h1]; simp [h2]) (n2 := k) (n3 := i) f4 (by rw [List.length_take, hli']; omega) (by omega) (by omega)
              refine wpAnyH_ready (rs := [8]) (by kernel_rfl) (by simp) ?_
              refine AllReadyH.cons (o := { dst := some 115, op := Op.call { callee := Callee.builtin Builtin.append, args := #[Operand.tmp 111, Operand.tmp 114], argTypes := #[23, 23] }, type := 23, pos := "more.go:32", after := #[{ on := 4, ground := Ground.data }, { on := 7, ground := Ground.data }, { on := 4, ground := Ground.chain }], guard := none }) rfl (fun K hK => ?_) AllReadyH.nil
              refine step_append_run (by rfl) (.tmp 111) (.tmp 114) 23 rfl (by rfl) (by rfl) hr5 ?_
              refine hK.out _ _ (((Keep.refl (fun _ => False) w13).drew).trans F3.keep) (fun hH3 => ?_)
              clear hK K hH2
              simp only [Act.put, List.setIfInBounds_toArray, List.set_cons_zero, List.set_cons_succ]
              have hmem : ∀ p, p ∈ l ↔ p ∈ [] ++ l.drop k ++ l.take k := fun p => by
                rw [List.nil_append, List.mem_append, Or.comm, ← List.mem_append, List.take_append_drop]
              have hj3 := HJ.post F3.rg (fun q hq => hok q ((hmem q).2 hq)) f5 (by omega)
              refine wpAnyH_ready (rs := [9]) (by kernel_rfl) (by simp) ?_
              refine AllReadyH.cons (o := { dst := some 116, op := Op.call { callee := Callee.value (Operand.func 13), args := #[Operand.tmp 115], argTypes := #[23] }, type := 37, pos := "more.go:32", after := #[{ on := 8, ground := Ground.data }, { on := 8, ground := Ground.chain }], guard := none }) rfl (fun K hK => ?_) AllReadyH.nil
              refine step_call_want (vs := #[.slice b5 i q5]) (R := JoinP ([] ++ l.drop k ++ l.take k) v5) (by rfl) 13 #[Operand.tmp 115] #[23] rfl (by simp [Act.eval]) call13 (hj3) ?_
              rintro _ w14 ⟨a14, c14, m3, rs3, L3, rfl, hm3, Q3, hsy3, hjs3, k14⟩
              refine hK.out _ _ (((Keep.refl (fun _ => False) w13).drew).trans (F3.keep.trans k14)) (fun hH4 => ?_)
              clear hK K hH3
              simp only [Act.put, List.setIfInBounds_toArray, List.set_cons_zero, List.set_cons_succ]
              refine' wpAnyH_take (i := 10) (oi := { dst := some 14, op := Op.assign (Operand.tmp 116), type := 37, pos := "more.go:32", after := #[{ on := 9, ground := Ground.data }, { on := 9, ground := Ground.chain }, { on := 0, ground := Ground.phase }, { on := 1, ground := Ground.phase }, { on := 2, ground := Ground.phase }, { on := 3, ground := Ground.phase }, { on := 4, ground := Ground.phase }, { on := 5, ground := Ground.phase }, { on := 6, ground := Ground.phase }, { on := 7, ground := Ground.phase }, { on := 8, ground := Ground.phase }, { on := 9, ground := Ground.phase }], guard := none }) (v := _) rfl (by kernel_rfl) (by kernel_rfl) (by kernel_rfl) (fun _ _ _ h => h) (Or.inl ⟨by rfl, ?hyby10⟩) hH4 ?rby10
              case hyby10 => (intro w' hSw; clear hSw; go_simp; try with_reducible rfl)
              simp only [Act.put, List.setIfInBounds_toArray, List.set_cons_zero, List.set_cons_succ]
              refine wpAnyH_done (by kernel_rfl) ?_ _
              refine NoPanic.normal ?_
              obtain rfl : L3 = L2 := join_one hjs3 (join_mem hmem hjs1)
              obtain rfl : m3 = m2 := by rw [← hm3, ← hm2, hsy3.1, hsy2.1]
              have Q1' := Q1.more (k13.trans (((Keep.refl _ w13).drew).trans (F3.keep.trans k14)))
              have Q2' := Q2.more (((Keep.refl _ w13).drew).trans (F3.keep.trans k14))
              have S1' := hsy1.more (k13.trans (((Keep.refl _ w13).drew).trans (F3.keep.trans k14)))
              have S2' := hsy2.more (((Keep.refl _ w13).drew).trans (F3.keep.trans k14))
              have KE : Keep (fun _ => False) w0 w14 := K13.trans (((Keep.refl _ w13).drew).trans (F3.keep.trans k14))
              clear F1 F2 F3 hr4 hr5 hj3 hjs3 hjs1 hs1 hs2 Q1 Q2 hsy1 hsy2 f4 f5 hmem
              have hmm : ((m3 : Int) != (m3 : Int)) = false := by simp
              have hm1c := Q1'.1
              have hm2c := Q2'.1
              have hm3c := Q3.1
              have hm1d := Q1'.2.1
              have hm2d := Q2'.2.1
              have hm3d := Q3.2.1
              rw [hm1] at hm1c
              rw [hm2] at hm2c
              rw [hm3] at hm3c
              go_wp2_with fail
              go_loopw [15] (fun v wx => ∃ i : Nat, i ≤ m3 ∧ v = .int .i64 (i : Int) ∧ Keep (fun _ => False) w14 wx) (fun v _ => m3 - (intOf v).toNat)
              case atStart => exact ⟨0, by omega, rfl, Keep.refl _ _⟩
              case round =>
                obtain ⟨i, hi, rfl, kr⟩ := hrel
                by_cases hlt : i < m3
                · obtain ⟨r1, h1⟩ : ∃ r, rs1[i]? = some r := ⟨_, List.getElem?_eq_getElem (by omega)⟩
                  obtain ⟨r2, h2⟩ : ∃ r, rs2[i]? = some r := ⟨_, List.getElem?_eq_getElem (by omega)⟩
                  obtain ⟨r3, h3⟩ : ∃ r, rs3[i]? = some r := ⟨_, List.getElem?_eq_getElem (by omega)⟩
                  obtain ⟨s, hs⟩ : ∃ s, L3[i]? = some s := ⟨_, List.getElem?_eq_getElem (by have := S1'.1; omega)⟩
                  obtain ⟨ga, oa, ea, hca⟩ := Q1'.at h1
                  subst ea
                  obtain ⟨gb, ob, eb, hcb⟩ := Q2'.at h2
                  subst eb
                  obtain ⟨gc, oc, ec, hcc⟩ := Q3.at h3
                  subst ec
                  have hA : ∀ w', Keep (fun _ => False) wr w' → w'.cell? ⟨ga, oa + i * 4, none⟩ = some (.int .i64 r1.k) ∧ w'.cell? ⟨ga, oa + i * 4 + 1, none⟩ = some (.int .u32 r1.e) ∧ w'.cell? ⟨ga, oa + i * 4 + 2, none⟩ = some (.int .u32 r1.g) ∧ w'.cell? ⟨ga, oa + i * 4 + 3, none⟩ = some (.slice r1.a r1.len r1.cap) := fun w' k =>
                    ⟨keep_cell (kr.trans k) (hca 0 (by omega)) (fun e => e), keep_cell (kr.trans k) (hca 1 (by omega)) (fun e => e), keep_cell (kr.trans k) (hca 2 (by omega)) (fun e => e), keep_cell (kr.trans k) (hca 3 (by omega)) (fun e => e)⟩
                  have hB' : ∀ w', Keep (fun _ => False) wr w' → (Instr.loadAt 30 (.pointer (some ⟨gb, ob + i * 4, none⟩))).run Try.prog w' = .ok (.agg (rwA r2)) w' := fun w' k => raw_load30 (fun j hj => keep_cell (kr.trans k) (hcb j hj) (fun e => e))
                  have hB3' : ∀ w', Keep (fun _ => False) wr w' → (Instr.loadAt 30 (.pointer (some ⟨gc, oc + i * 4, none⟩))).run Try.prog w' = .ok (.agg (rwA r3)) w' := fun w' k => raw_load30 (fun j hj => keep_cell (kr.trans k) (hcc j hj) (fun e => e))
                  have hsm2' : ∀ w', Keep (fun _ => False) wr w' → Calls Try.prog 14 #[.agg (rwA r2), .agg (rwA r1)] w' fun e w2 => e = .returned (.bool true) ∧ Keep (fun _ => False) w' w2 := fun w' k => same_raw ((S1'.more (kr.trans k)).2 i r1 s h1 hs) ((S2'.more (kr.trans k)).2 i r2 s h2 hs)
                  have hsm3' : ∀ w', Keep (fun _ => False) wr w' → Calls Try.prog 14 #[.agg (rwA r3), .agg (rwA r1)] w' fun e w2 => e = .returned (.bool true) ∧ Keep (fun _ => False) w' w2 := fun w' k => same_raw ((S1'.more (kr.trans k)).2 i r1 s h1 hs) ((hsy3.more (kr.trans k)).2 i r3 s h3 hs)
                  have di : (i : Int) < (m3 : Int) := by omega
                  have dw := wrapI (x := (i : Int) + 1) (by omega) (by omega)
                  have hlt' : Hid (i < m3) := hlt
                  clear hlt hs h1 h2 h3 hca hcb hcc
                  go_upto_region 25 with fail
                  refine wp_region_noPanic ?_
                  refine wp_region_held_drew (S := fun w' => Keep (fun _ => False) wr w') (by kernel_rfl) ((Keep.refl _ wr).drew) (fun hH0 => ?_)
                  refine' wpAnyH_take (i := 0) (oi := { dst := some 135, op := Op.move (Operand.tmp 11), type := 37, pos := "more.go:37", after := #[], guard := none }) (v := _) rfl (by kernel_rfl) (by kernel_rfl) (by kernel_rfl) (fun _ _ _ h => h) (Or.inl ⟨by rfl, ?hycy0⟩) hH0 ?rcy0
                  case hycy0 => (intro w' hSw; clear hSw; go_simp; try with_reducible rfl)
                  simp only [Act.put, List.setIfInBounds_toArray, List.set_cons_zero, List.set_cons_succ]
                  refine' wpAnyH_take (i := 1) (oi := { dst := some 136, op := Op.move (Operand.tmp 15), type := 3, pos := "more.go:37", after := #[], guard := none }) (v := _) rfl (by kernel_rfl) (by kernel_rfl) (by kernel_rfl) (fun _ _ _ h => h) (Or.inl ⟨by rfl, ?hycy1⟩) hH0 ?rcy1
                  case hycy1 => (intro w' hSw; clear hSw; go_simp; try with_reducible rfl)
                  simp only [Act.put, List.setIfInBounds_toArray, List.set_cons_zero, List.set_cons_succ]
                  refine' wpAnyH_take (i := 2) (oi := { dst := some 137, op := Op.indexAddr 37 (Operand.tmp 135) (Operand.tmp 136), type := 0, pos := "more.go:37", after := #[{ on := 0, ground := Ground.data }, { on := 1, ground := Ground.data }], guard := none }) (v := _) rfl (by kernel_rfl) (by kernel_rfl) (by kernel_rfl) (fun _ _ _ h => h) (Or.inl ⟨by rfl, ?hycy2⟩) hH0 ?rcy2
                  case hycy2 => (intro w' hSw; clear hSw; go_simp; try with_reducible rfl)
                  simp only [Act.put, List.setIfInBounds_toArray, List.set_cons_zero, List.set_cons_succ]
                  refine' wpAnyH_take (i := 3) (oi := { dst := some 138, op := Op.fieldAddr 30 (Operand.tmp 137) 0, type := 0, pos := "more.go:37", after := #[{ on := 2, ground := Ground.data }], guard := none }) (v := _) rfl (by kernel_rfl) (by kernel_rfl) (by kernel_rfl) (fun _ _ _ h => h) (Or.inl ⟨by rfl, ?hycy3⟩) hH0 ?rcy3
                  case hycy3 => (intro w' hSw; clear hSw; go_simp; try with_reducible rfl)
                  simp only [Act.put, List.setIfInBounds_toArray, List.set_cons_zero, List.set_cons_succ]
                  refine' wpAnyH_take (i := 4) (oi := { dst := some 139, op := Op.load 3 (Operand.tmp 138), type := 3, pos := "more.go:37", after := #[{ on := 3, ground := Ground.data }], guard := none }) (v := .int .i64 r1.k) rfl (by kernel_rfl) (by kernel_rfl) (by kernel_rfl) (fun _ _ _ h => h) (yields_load (by rfl) 3 (.tmp 138) rfl (by rfl) (fun w' k => load3 (hA w' k).1)) hH0 ?rcy4
                  simp only [Act.put, List.setIfInBounds_toArray, List.set_cons_zero, List.set_cons_succ]
                  refine' wpAnyH_take (i := 5) (oi := { dst := some 140, op := Op.move (Operand.tmp 11), type := 37, pos := "more.go:37", after := #[], guard := none }) (v := _) rfl (by kernel_rfl) (by kernel_rfl) (by kernel_rfl) (fun _ _ _ h => h) (Or.inl ⟨by rfl, ?hycy5⟩) hH0 ?rcy5
                  case hycy5 => (intro w' hSw; clear hSw; go_simp; try with_reducible rfl)
                  simp only [Act.put, List.setIfInBounds_toArray, List.set_cons_zero, List.set_cons_succ]
                  refine' wpAnyH_take (i := 6) (oi := { dst := some 141, op := Op.move (Operand.tmp 15), type := 3, pos := "more.go:37", after := #[], guard := none }) (v := _) rfl (by kernel_rfl) (by kernel_rfl) (by kernel_rfl) (fun _ _ _ h => h) (Or.inl ⟨by rfl, ?hycy6⟩) hH0 ?rcy6
                  case hycy6 => (intro w' hSw; clear hSw; go_simp; try with_reducible rfl)
                  simp only [Act.put, List.setIfInBounds_toArray, List.set_cons_zero, List.set_cons_succ]
                  refine' wpAnyH_take (i := 7) (oi := { dst := some 142, op := Op.indexAddr 37 (Operand.tmp 140) (Operand.tmp 141), type := 0, pos := "more.go:37", after := #[{ on := 5, ground := Ground.data }, { on := 6, ground := Ground.data }], guard := none }) (v := _) rfl (by kernel_rfl) (by kernel_rfl) (by kernel_rfl) (fun _ _ _ h => h) (Or.inl ⟨by rfl, ?hycy7⟩) hH0 ?rcy7
                  case hycy7 => (intro w' hSw; clear hSw; go_simp; try with_reducible rfl)
                  simp only [Act.put, List.setIfInBounds_toArray, List.set_cons_zero, List.set_cons_succ]
                  refine' wpAnyH_take (i := 8) (oi := { dst := some 143, op := Op.fieldAddr 30 (Operand.tmp 142) 1, type := 0, pos := "more.go:37", after := #[{ on := 7, ground := Ground.data }], guard := none }) (v := _) rfl (by kernel_rfl) (by kernel_rfl) (by kernel_rfl) (fun _ _ _ h => h) (Or.inl ⟨by rfl, ?hycy8⟩) hH0 ?rcy8
                  case hycy8 => (intro w' hSw; clear hSw; go_simp; try with_reducible rfl)
                  simp only [Act.put, List.setIfInBounds_toArray, List.set_cons_zero, List.set_cons_succ]
                  refine' wpAnyH_take (i := 9) (oi := { dst := some 144, op := Op.load 27 (Operand.tmp 143), type := 27, pos := "more.go:37", after := #[{ on := 8, ground := Ground.data }], guard := none }) (v := .int .u32 r1.e) rfl (by kernel_rfl) (by kernel_rfl) (by kernel_rfl) (fun _ _ _ h => h) (yields_load (by rfl) 27 (.tmp 143) rfl (by rfl) (fun w' k => load27 (hA w' k).2.1)) hH0 ?rcy9
                  simp only [Act.put, List.setIfInBounds_toArray, List.set_cons_zero, List.set_cons_succ]
                  refine' wpAnyH_take (i := 10) (oi := { dst := some 145, op := Op.move (Operand.tmp 11), type := 37, pos := "more.go:37", after := #[], guard := none }) (v := _) rfl (by kernel_rfl) (by kernel_rfl) (by kernel_rfl) (fun _ _ _ h => h) (Or.inl ⟨by rfl, ?hycy10⟩) hH0 ?rcy10
                  case hycy10 => (intro w' hSw; clear hSw; go_simp; try with_reducible rfl)
                  simp only [Act.put, List.setIfInBounds_toArray, List.set_cons_zero, List.set_cons_succ]
                  refine' wpAnyH_take (i := 11) (oi := { dst := some 146, op := Op.move (Operand.tmp 15), type := 3, pos := "more.go:37", after := #[], guard := none }) (v := _) rfl (by kernel_rfl) (by kernel_rfl) (by kernel_rfl) (fun _ _ _ h => h) (Or.inl ⟨by rfl, ?hycy11⟩) hH0 ?rcy11
                  case hycy11 => (intro w' hSw; clear hSw; go_simp; try with_reducible rfl)
                  simp only [Act.put, List.setIfInBounds_toArray, List.set_cons_zero, List.set_cons_succ]
                  refine' wpAnyH_take (i := 12) (oi := { dst := some 147, op := Op.indexAddr 37 (Operand.tmp 145) (Operand.tmp 146), type := 0, pos := "more.go:37", after := #[{ on := 10, ground := Ground.data }, { on := 11, ground := Ground.data }], guard := none }) (v := _) rfl (by kernel_rfl) (by kernel_rfl) (by kernel_rfl) (fun _ _ _ h => h) (Or.inl ⟨by rfl, ?hycy12⟩) hH0 ?rcy12
                  case hycy12 => (intro w' hSw; clear hSw; go_simp; try with_reducible rfl)
                  simp only [Act.put, List.setIfInBounds_toArray, List.set_cons_zero, List.set_cons_succ]
                  refine' wpAnyH_take (i := 13) (oi := { dst := some 148, op := Op.fieldAddr 30 (Operand.tmp 147) 2, type := 0, pos := "more.go:37", after := #[{ on := 12, ground := Ground.data }], guard := none }) (v := _) rfl (by kernel_rfl) (by kernel_rfl) (by kernel_rfl) (fun _ _ _ h => h) (Or.inl ⟨by rfl, ?hycy13⟩) hH0 ?rcy13
                  case hycy13 => (intro w' hSw; clear hSw; go_simp; try with_reducible rfl)
                  simp only [Act.put, List.setIfInBounds_toArray, List.set_cons_zero, List.set_cons_succ]
                  refine' wpAnyH_take (i := 14) (oi := { dst := some 149, op := Op.load 27 (Operand.tmp 148), type := 27, pos := "more.go:37", after := #[{ on := 13, ground := Ground.data }], guard := none }) (v := .int .u32 r1.g) rfl (by kernel_rfl) (by kernel_rfl) (by kernel_rfl) (fun _ _ _ h => h) (yields_load (by rfl) 27 (.tmp 148) rfl (by rfl) (fun w' k => load27 (hA w' k).2.2.1)) hH0 ?rcy14
                  simp only [Act.put, List.setIfInBounds_toArray, List.set_cons_zero, List.set_cons_succ]
                  refine' wpAnyH_take (i := 15) (oi := { dst := some 150, op := Op.move (Operand.tmp 11), type := 37, pos := "more.go:37", after := #[], guard := none }) (v := _) rfl (by kernel_rfl) (by kernel_rfl) (by kernel_rfl) (fun _ _ _ h => h) (Or.inl ⟨by rfl, ?hycy15⟩) hH0 ?rcy15
                  case hycy15 => (intro w' hSw; clear hSw; go_simp; try with_reducible rfl)
                  simp only [Act.put, List.setIfInBounds_toArray, List.set_cons_zero, List.set_cons_succ]
                  refine' wpAnyH_take (i := 16) (oi := { dst := some 151, op := Op.move (Operand.tmp 15), type := 3, pos := "more.go:37", after := #[], guard := none }) (v := _) rfl (by kernel_rfl) (by kernel_rfl) (by kernel_rfl) (fun _ _ _ h => h) (Or.inl ⟨by rfl, ?hycy16⟩) hH0 ?rcy16
                  case hycy16 => (intro w' hSw; clear hSw; go_simp; try with_reducible rfl)
                  simp only [Act.put, List.setIfInBounds_toArray, List.set_cons_zero, List.set_cons_succ]
                  refine' wpAnyH_take (i := 17) (oi := { dst := some 152, op := Op.indexAddr 37 (Operand.tmp 150) (Operand.tmp 151), type := 0, pos := "more.go:37", after := #[{ on := 15, ground := Ground.data }, { on := 16, ground := Ground.data }], guard := none }) (v := _) rfl (by kernel_rfl) (by kernel_rfl) (by kernel_rfl) (fun _ _ _ h => h) (Or.inl ⟨by rfl, ?hycy17⟩) hH0 ?rcy17
                  case hycy17 => (intro w' hSw; clear hSw; go_simp; try with_reducible rfl)
                  simp only [Act.put, List.setIfInBounds_toArray, List.set_cons_zero, List.set_cons_succ]
                  refine' wpAnyH_take (i := 18) (oi := { dst := some 153, op := Op.fieldAddr 30 (Operand.tmp 152) 3, type := 0, pos := "more.go:37", after := #[{ on := 17, ground := Ground.data }], guard := none }) (v := _) rfl (by kernel_rfl) (by kernel_rfl) (by kernel_rfl) (fun _ _ _ h => h) (Or.inl ⟨by rfl, ?hycy18⟩) hH0 ?rcy18
                  case hycy18 => (intro w' hSw; clear hSw; go_simp; try with_reducible rfl)
                  simp only [Act.put, List.setIfInBounds_toArray, List.set_cons_zero, List.set_cons_succ]
                  refine' wpAnyH_take (i := 19) (oi := { dst := some 154, op := Op.load 28 (Operand.tmp 153), type := 28, pos := "more.go:37", after := #[{ on := 18, ground := Ground.data }], guard := none }) (v := .slice r1.a r1.len r1.cap) rfl (by kernel_rfl) (by kernel_rfl) (by kernel_rfl) (fun _ _ _ h => h) (yields_load (by rfl) 28 (.tmp 153) rfl (by rfl) (fun w' k => load28 (hA w' k).2.2.2)) hH0 ?rcy19
                  simp only [Act.put, List.setIfInBounds_toArray, List.set_cons_zero, List.set_cons_succ]
                  refine' wpAnyH_take (i := 20) (oi := { dst := some 155, op := Op.build 36 #[(0, Operand.tmp 139), (1, Operand.tmp 144), (2, Operand.tmp 149), (3, Operand.tmp 154)], type := 36, pos := "more.go:37", after := #[{ on := 4, ground := Ground.data }, { on := 9, ground := Ground.data }, { on := 14, ground := Ground.data }, { on := 19, ground := Ground.data }], guard := none }) (v := _) rfl (by kernel_rfl) (by kernel_rfl) (by kernel_rfl) (fun _ _ _ h => h) (Or.inl ⟨by rfl, ?hycy20⟩) hH0 ?rcy20
                  case hycy20 => (intro w' hSw; clear hSw; go_simp; try with_reducible rfl)
                  simp only [Act.put, List.setIfInBounds_toArray, List.set_cons_zero, List.set_cons_succ]
                  refine wpAnyH_ready (rs := [21]) (by kernel_rfl) (by simp) ?_
                  refine AllReadyH.cons (o := { dst := some 16, op := Op.alloc 36, type := 0, pos := "more.go:37", after := #[], guard := none }) rfl (fun K hK => ?_) AllReadyH.nil
                  go_simp
                  refine hK.out _ _ (((Keep.refl (fun _ => False) wr).drew).alloc _) (fun hH1 => ?_)
                  clear hK K hH0
                  obtain ⟨v2, hst, B2, K2⟩ := new_raw36 wr.drew r1
                  refine wpAnyH_ready (rs := [22]) (by kernel_rfl) (by simp) ?_
                  refine AllReadyH.cons (o := { dst := none, op := Op.store 36 (Operand.tmp 16) (Operand.tmp 155), type := 0, pos := "more.go:37", after := #[{ on := 21, ground := Ground.data }, { on := 20, ground := Ground.data }, { on := 0, ground := Ground.phase }, { on := 1, ground := Ground.phase }, { on := 2, ground := Ground.phase }, { on := 3, ground := Ground.phase }, { on := 4, ground := Ground.phase }, { on := 5, ground := Ground.phase }, { on := 6, ground := Ground.phase }, { on := 7, ground := Ground.phase }, { on := 8, ground := Ground.phase }, { on := 9, ground := Ground.phase }, { on := 10, ground := Ground.phase }, { on := 11, ground := Ground.phase }, { on := 12, ground := Ground.phase }, { on := 13, ground := Ground.phase }, { on := 14, ground := Ground.phase }, { on := 15, ground := Ground.phase }, { on := 16, ground := Ground.phase }, { on := 17, ground := Ground.phase }, { on := 18, ground := Ground.phase }, { on := 19, ground := Ground.phase }, { on := 20, ground := Ground.phase }, { on := 21, ground := Ground.phase }], guard := none }) rfl (fun K hK => ?_) AllReadyH.nil
                  refine step_store_run (by rfl) 36 (.tmp 16) (.tmp 155) rfl (by rfl) (by rfl) hst ?_
                  refine hK.out _ _ (((Keep.refl (fun _ => False) wr).drew).trans K2) (fun hH2 => ?_)
                  clear hK K hH1
                  simp only [Act.put]
                  refine wpAnyH_done (by kernel_rfl) ?_ _
                  refine NoPanic.normal ?_
                  have Kv : Keep (fun _ => False) wr v2 := ((Keep.refl _ wr).drew).trans K2
                  have hB : ∀ w', Keep (fun _ => False) v2 w' → _ := fun w' k => hB' w' (Kv.trans k)
                  have hB3 : ∀ w', Keep (fun _ => False) v2 w' → _ := fun w' k => hB3' w' (Kv.trans k)
                  have hsm2 : ∀ w', Keep (fun _ => False) v2 w' → _ := fun w' k => hsm2' w' (Kv.trans k)
                  have hsm3 : ∀ w', Keep (fun _ => False) v2 w' → _ := fun w' k => hsm3' w' (Kv.trans k)
                  have hC : ∀ w', Keep (fun _ => False) v2 w' → (Instr.loadAt 36 (.pointer (some ⟨wr.drew.heap.size, 0, none⟩))).run Try.prog w' = .ok (.agg (rwA r1)) w' := fun w' k => raw_load36 (fun j hj => by rw [Nat.zero_add]; exact (Blk.keep B2 k (fun e => e) j hj).1)
                  clear hst hA hB' hB3' hsm2' hsm3'
                  go_upto_region 26 with fail
                  refine wp_region_noPanic ?_
                  refine wp_region_held_drew (S := fun w' => Keep (fun _ => False) v2 w') (by kernel_rfl) ((Keep.refl _ v2).drew) (fun hH0 => ?_)
                  refine' wpAnyH_take (i := 0) (oi := { dst := some 156, op := Op.move (Operand.tmp 12), type := 37, pos := "more.go:38", after := #[], guard := none }) (v := _) rfl (by kernel_rfl) (by kernel_rfl) (by kernel_rfl) (fun _ _ _ h => h) (Or.inl ⟨by rfl, ?hydy0⟩) hH0 ?rdy0
                  case hydy0 => (intro w' hSw; clear hSw; go_simp; try with_reducible rfl)
                  simp only [Act.put, List.setIfInBounds_toArray, List.set_cons_zero, List.set_cons_succ]
                  refine' wpAnyH_take (i := 1) (oi := { dst := some 157, op := Op.move (Operand.tmp 15), type := 3, pos := "more.go:38", after := #[], guard := none }) (v := _) rfl (by kernel_rfl) (by kernel_rfl) (by kernel_rfl) (fun _ _ _ h => h) (Or.inl ⟨by rfl, ?hydy1⟩) hH0 ?rdy1
                  case hydy1 => (intro w' hSw; clear hSw; go_simp; try with_reducible rfl)
                  simp only [Act.put, List.setIfInBounds_toArray, List.set_cons_zero, List.set_cons_succ]
                  refine' wpAnyH_take (i := 2) (oi := { dst := some 158, op := Op.indexAddr 37 (Operand.tmp 156) (Operand.tmp 157), type := 0, pos := "more.go:38", after := #[{ on := 0, ground := Ground.data }, { on := 1, ground := Ground.data }], guard := none }) (v := _) rfl (by kernel_rfl) (by kernel_rfl) (by kernel_rfl) (fun _ _ _ h => h) (Or.inl ⟨by rfl, ?hydy2⟩) hH0 ?rdy2
                  case hydy2 => (intro w' hSw; clear hSw; go_simp; try with_reducible rfl)
                  simp only [Act.put, List.setIfInBounds_toArray, List.set_cons_zero, List.set_cons_succ]
                  refine' wpAnyH_take (i := 3) (oi := { dst := some 159, op := Op.load 30 (Operand.tmp 158), type := 30, pos := "more.go:38", after := #[{ on := 2, ground := Ground.data }], guard := none }) (v := .agg (rwA r2)) rfl (by kernel_rfl) (by kernel_rfl) (by kernel_rfl) (fun _ _ _ h => h) (yields_load (by rfl) 30 (.tmp 158) rfl (by rfl) hB) hH0 ?rdy3
                  simp only [Act.put, List.setIfInBounds_toArray, List.set_cons_zero, List.set_cons_succ]
                  refine' wpAnyH_take (i := 4) (oi := { dst := some 160, op := Op.load 36 (Operand.tmp 16), type := 36, pos := "more.go:38", after := #[], guard := none }) (v := .agg (rwA r1)) rfl (by kernel_rfl) (by kernel_rfl) (by kernel_rfl) (fun _ _ _ h => h) (yields_load (by rfl) 36 (.tmp 16) rfl (by rfl) hC) hH0 ?rdy4
                  simp only [Act.put, List.setIfInBounds_toArray, List.set_cons_zero, List.set_cons_succ]
                  refine wpAnyH_ready (rs := [5]) (by kernel_rfl) (by simp) ?_
                  refine AllReadyH.cons (o := { dst := some 161, op := Op.call { callee := Callee.value (Operand.func 14), args := #[Operand.tmp 159, Operand.tmp 160], argTypes := #[30, 36] }, type := 4, pos := "more.go:38", after := #[{ on := 3, ground := Ground.data }, { on := 4, ground := Ground.data }], guard := none }) rfl (fun K hK => ?_) AllReadyH.nil
                  refine step_call_want (vs := #[.agg (rwA r2), .agg (rwA r1)]) (R := fun u wz => u = .bool true ∧ Keep (fun _ => False) v2.drew wz) (by rfl) 14 #[Operand.tmp 159, Operand.tmp 160] #[30, 36] rfl (by simp [Act.eval]) call14 (post_of (hsm2 _ ((Keep.refl (fun _ => False) v2).drew))) ?_
                  rintro _ v3 ⟨rfl, k3⟩
                  refine hK.out _ _ (((Keep.refl (fun _ => False) v2).drew).trans k3) (fun hH1 => ?_)
                  clear hK K hH0
                  simp only [Act.put, List.setIfInBounds_toArray, List.set_cons_zero, List.set_cons_succ]
                  refine' wpAnyH_take (i := 6) (oi := { dst := some 162, op := Op.unOp UnOp.not 4 (Operand.tmp 161), type := 4, pos := "more.go:38", after := #[{ on := 5, ground := Ground.data }], guard := none }) (v := .bool false) rfl (by kernel_rfl) (by kernel_rfl) (by kernel_rfl) (fun _ _ _ h => h) (Or.inl ⟨by rfl, ?hydy6⟩) hH1 ?rdy6
                  case hydy6 => (intro w' hSw; clear hSw; go_simp; try with_reducible rfl)
                  simp only [Act.put, List.setIfInBounds_toArray, List.set_cons_zero, List.set_cons_succ]
                  refine' wpAnyH_take (i := 7) (oi := { dst := some 163, op := Op.move (Operand.tmp 162), type := 4, pos := "more.go:38", after := #[{ on := 6, ground := Ground.data }, { on := 5, ground := Ground.chain }], guard := none }) (v := _) rfl (by kernel_rfl) (by kernel_rfl) (by kernel_rfl) (fun _ _ _ h => h) (Or.inl ⟨by rfl, ?hydy7⟩) hH1 ?rdy7
                  case hydy7 => (intro w' hSw; clear hSw; go_simp; try with_reducible rfl)
                  simp only [Act.put, List.setIfInBounds_toArray, List.set_cons_zero, List.set_cons_succ]
                  refine' wpAnyH_take (i := 8) (oi := { dst := some 164, op := Op.move (Operand.tmp 14), type := 37, pos := "more.go:38", after := #[{ on := 7, ground := Ground.guard }], guard := some (7, false) }) (v := _) rfl (by kernel_rfl) (by kernel_rfl) (by kernel_rfl) (fun _ _ _ h => h) (Or.inl ⟨by rfl, ?hydy8⟩) hH1 ?rdy8
                  case hydy8 => (intro w' hSw; clear hSw; go_simp; try with_reducible rfl)
                  simp only [Act.put, List.setIfInBounds_toArray, List.set_cons_zero, List.set_cons_succ]
                  refine' wpAnyH_take (i := 9) (oi := { dst := some 165, op := Op.move (Operand.tmp 15), type := 3, pos := "more.go:38", after := #[{ on := 7, ground := Ground.guard }], guard := some (7, false) }) (v := _) rfl (by kernel_rfl) (by kernel_rfl) (by kernel_rfl) (fun _ _ _ h => h) (Or.inl ⟨by rfl, ?hydy9⟩) hH1 ?rdy9
                  case hydy9 => (intro w' hSw; clear hSw; go_simp; try with_reducible rfl)
                  simp only [Act.put, List.setIfInBounds_toArray, List.set_cons_zero, List.set_cons_succ]
                  refine' wpAnyH_take (i := 10) (oi := { dst := some 166, op := Op.indexAddr 37 (Operand.tmp 164) (Operand.tmp 165), type := 0, pos := "more.go:38", after := #[{ on := 8, ground := Ground.data }, { on := 9, ground := Ground.data }, { on := 7, ground := Ground.guard }], guard := some (7, false) }) (v := _) rfl (by kernel_rfl) (by kernel_rfl) (by kernel_rfl) (fun _ _ _ h => h) (Or.inl ⟨by rfl, ?hydy10⟩) hH1 ?rdy10
                  case hydy10 => (intro w' hSw; clear hSw; go_simp; try with_reducible rfl)
                  simp only [Act.put, List.setIfInBounds_toArray, List.set_cons_zero, List.set_cons_succ]
                  refine' wpAnyH_take (i := 11) (oi := { dst := some 167, op := Op.load 30 (Operand.tmp 166), type := 30, pos := "more.go:38", after := #[{ on := 10, ground := Ground.data }, { on := 7, ground := Ground.guard }], guard := some (7, false) }) (v := .agg (rwA r3)) rfl (by kernel_rfl) (by kernel_rfl) (by kernel_rfl) (fun _ _ _ h => h) (yields_load (by rfl) 30 (.tmp 166) rfl (by rfl) hB3) hH1 ?rdy11
                  simp only [Act.put, List.setIfInBounds_toArray, List.set_cons_zero, List.set_cons_succ]
                  refine' wpAnyH_take (i := 12) (oi := { dst := some 168, op := Op.load 36 (Operand.tmp 16), type := 36, pos := "more.go:38", after := #[{ on := 7, ground := Ground.guard }], guard := some (7, false) }) (v := .agg (rwA r1)) rfl (by kernel_rfl) (by kernel_rfl) (by kernel_rfl) (fun _ _ _ h => h) (yields_load (by rfl) 36 (.tmp 16) rfl (by rfl) hC) hH1 ?rdy12
                  simp only [Act.put, List.setIfInBounds_toArray, List.set_cons_zero, List.set_cons_succ]
                  refine wpAnyH_ready (rs := [13]) (by kernel_rfl) (by simp) ?_
                  refine AllReadyH.cons (o := { dst := some 169, op := Op.call { callee := Callee.value (Operand.func 14), args := #[Operand.tmp 167, Operand.tmp 168], argTypes := #[30, 36] }, type := 4, pos := "more.go:38", after := #[{ on := 11, ground := Ground.data }, { on := 12, ground := Ground.data }, { on := 7, ground := Ground.chain }, { on := 7, ground := Ground.guard }], guard := some (7, false) }) rfl (fun K hK => ?_) AllReadyH.nil
                  refine step_call_want (vs := #[.agg (rwA r3), .agg (rwA r1)]) (R := fun u wz => u = .bool true ∧ Keep (fun _ => False) v3 wz) (by rfl) 14 #[Operand.tmp 167, Operand.tmp 168] #[30, 36] rfl (by simp [Act.eval]) call14 (post_of (hsm3 _ (((Keep.refl (fun _ => False) v2).drew).trans k3))) ?_
                  rintro _ v5 ⟨rfl, k5⟩
                  refine hK.out _ _ ((((Keep.refl (fun _ => False) v2).drew).trans k3).trans k5) (fun hH2 => ?_)
                  clear hK K hH1
                  simp only [Act.put, List.setIfInBounds_toArray, List.set_cons_zero, List.set_cons_succ]
                  refine' wpAnyH_take (i := 14) (oi := { dst := some 170, op := Op.unOp UnOp.not 4 (Operand.tmp 169), type := 4, pos := "more.go:38", after := #[{ on := 13, ground := Ground.data }, { on := 7, ground := Ground.guard }], guard := some (7, false) }) (v := .bool false) rfl (by kernel_rfl) (by kernel_rfl) (by kernel_rfl) (fun _ _ _ h => h) (Or.inl ⟨by rfl, ?hydy14⟩) hH2 ?rdy14
                  case hydy14 => (intro w' hSw; clear hSw; go_simp; try with_reducible rfl)
                  simp only [Act.put, List.setIfInBounds_toArray, List.set_cons_zero, List.set_cons_succ]
                  refine' wpAnyH_take (i := 15) (oi := { dst := some 171, op := Op.pick (Operand.tmp 163) (Operand.const (Value.bool true)) (Operand.tmp 170), type := 4, pos := "more.go:38", after := #[{ on := 7, ground := Ground.data }, { on := 14, ground := Ground.data }], guard := none }) (v := .bool false) rfl (by kernel_rfl) (by kernel_rfl) (by kernel_rfl) (fun _ _ _ h => h) (Or.inl ⟨by rfl, ?hydy15⟩) hH2 ?rdy15
                  case hydy15 => (intro w' hSw; clear hSw; go_simp; try with_reducible rfl)
                  simp only [Act.put, List.setIfInBounds_toArray, List.set_cons_zero, List.set_cons_succ]
                  refine wpAnyH_done (by kernel_rfl) ?_ _
                  refine NoPanic.normal ?_
                  go_wp2_with fail
                  go_roundw
                  case rel => exact ⟨i + 1, hlt', by go_num, kr.trans (Kv.trans ((((Keep.refl _ v2).drew).trans k3).trans k5))⟩
                  case measure => have : i < m3 := hlt'; simp [intOf]; omega
                · obtain rfl : i = m3 := by omega
                  go_wp2_with fail
                  go_ret
                  exact ⟨rfl, (k0.trans KE).trans kr⟩
    · have d2 : (40 : Int) < (np : Int) := by omega
      go_wp2_with fail
      go_ret
      exact ⟨rfl, k0⟩
  · have d1 : (6 : Int) < (nl : Int) := by omega
    go_wp2_with fail
    go_ret
    exact ⟨rfl, k0⟩
end Tg
end Go.Proofs.Ytginnojbmpnleaa
