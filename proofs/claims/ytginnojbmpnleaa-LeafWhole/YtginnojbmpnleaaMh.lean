/-
  The program's agree, walked.
-/
import Derived.Test.YtginnojbmpnleaaMg
namespace Go.Proofs.Ytginnojbmpnleaa
open Go.ChangeShapes Go.WideShapes Go.ChangeAt Go.RowKit
namespace Tg
set_option maxRecDepth 100000 in
set_option maxHeartbeats 2000000 in
theorem agree_any {w : World} {a : Option Addr} {cap : Nat} {G : List Pg} (hR : Rg w a cap G) (hok : ∀ q ∈ G, q.Ok) (hup : ∀ i j, i ≤ j → j < G.length → (at0 G i).ix ≤ (at0 G j).ix) (h0 : 0 < G.length) (hl : G.length ≤ 100000) :
    Calls Try.prog 30 #[.slice a G.length cap] w (Bl (∀ i, i + 1 < G.length → Step (at0 G i) (at0 G (i + 1))) w) := by
  have hlc := hR.1
  have hlc2 := hR.2.1
  obtain ⟨n, hn⟩ : ∃ n : Nat, n = G.length := ⟨_, rfl⟩
  rw [← hn] at hlc h0 hl ⊢
  have hnn : Hid (n = G.length) := hn
  clear hn
  go_enter Try.func30, Try.ntmps30
  go_wp2_with fail
  go_loopw [3] (fun v wx => ∃ i : Nat, 1 ≤ i ∧ i ≤ n ∧ v = .int .i64 (i : Int) ∧ Hid (∀ j, j + 1 < i → Step (at0 G j) (at0 G (j + 1))) ∧ Keep (fun _ => False) w wx) (fun v _ => n - (intOf v).toNat)
  case atStart => exact ⟨1, by omega, by omega, rfl, (fun j hj => by omega), Keep.refl _ _⟩
  case round =>
    obtain ⟨i, hi1, hi, rfl, hst, KK⟩ := hrel
    by_cases hlt : i < n
    · obtain ⟨k, hk⟩ : ∃ k, i = k + 1 := ⟨i - 1, by omega⟩
      obtain ⟨p, hp⟩ : ∃ p, p = at0 G k := ⟨_, rfl⟩
      obtain ⟨q, hq⟩ : ∃ q, q = at0 G i := ⟨_, rfl⟩
      have hgp : G[k]? = some p := by rw [hp]; exact at0_get (by rw [← show n = G.length from hnn]; omega)
      have hgq : G[i]? = some q := by rw [hq]; exact at0_get (by rw [← show n = G.length from hnn]; omega)
      obtain ⟨g, o, rfl, -⟩ := hR.at hgp
      have hlp : ∀ w', Keep (fun b => wr.heap.size ≤ b) wr w' → (Instr.loadAt 33 (.pointer (some ⟨g, o + k * 39, none⟩))).run Try.prog w' = .ok (.agg (pgA p)) w' := fun w' k' => by
        obtain ⟨g', o', e, hc'⟩ := (hR.more (KK.trans (keep_new k'))).at hgp
        injection e with e
        injection e with e1 e2
        subst e1 e2
        exact pg_load hc'
      have hlq : ∀ w', Keep (fun b => wr.heap.size ≤ b) wr w' → (Instr.loadAt 33 (.pointer (some ⟨g, o + i * 39, none⟩))).run Try.prog w' = .ok (.agg (pgA q)) w' := fun w' k' => by
        obtain ⟨g', o', e, hc'⟩ := (hR.more (KK.trans (keep_new k'))).at hgq
        injection e with e
        injection e with e1 e2
        subst e1 e2
        exact pg_load hc'
      have hix : p.ix ≤ q.ix := by rw [hp, hq]; exact hup k i (by omega) (by rw [← show n = G.length from hnn]; omega)
      have hop : p.Ok := hok p (List.mem_of_getElem? hgp)
      have hoq : q.Ok := hok q (List.mem_of_getElem? hgq)
      have hp1 := hop.ix
      have hq1 := hoq.ix
      have hpl := hop.len
      have hql := hoq.len
      have hgoal : Hid ((∀ j, j + 1 < n → Step (at0 G j) (at0 G (j + 1))) → Step p q) := fun h => by rw [hp, hq, hk]; exact h k (by omega)
      have hnext : Hid (Step p q → ∀ j, j + 1 < i + 1 → Step (at0 G j) (at0 G (j + 1))) := fun h j hj => by
        by_cases e : j + 1 = i
        · rw [show j = k by omega, ← hk, ← hp, ← hq]; exact h
        · exact (show ∀ j, j + 1 < i → Step (at0 G j) (at0 G (j + 1)) from hst) j (by omega)
      have dk : IntKind.i64.wrap ((i : Int) - 1) = (k : Int) := by rw [IntKind.wrap_i64]; omega
      have di : (i : Int) < (n : Int) := by omega
      have dw := wrapI (x := (i : Int) + 1) (by omega) (by omega)
      have hkn : k < n := by omega
      have dkn : (k : Int) < (n : Int) := by omega
      have e1 : (wr.drew.alloc (.cells (pgA pg0) 33)).heap.size = wr.drew.heap.size + 1 := by simp
      change _ = wr.heap.size + 1 at e1
      have hlt' : Hid (i < n) := hlt
      have hkk : Hid (i = k + 1) := hk
      clear hgp hgq hp hq hst hop hoq hlt hk
      go_upto_region 4 with fail
      go_cut [4, 5] from 7 to 55 (fun v4 v5 wx => ∃ x y, v4 = .pointer (some ⟨x, 0, none⟩) ∧ v5 = .pointer (some ⟨y, 0, none⟩) ∧ Pv wx x p ∧ Pv wx y q ∧ Keep (fun _ => False) wr wx)
      case first =>
        refine wp_region_noPanic ?_
        refine wp_region_held_drew (S := fun w' => Keep (fun b => wr.heap.size ≤ b) wr w') (by kernel_rfl) ((Keep.refl (fun b => wr.heap.size ≤ b) wr).drew) (fun hH0 => ?_)
        refine' wpAnyH_take (i := 0) (oi := { dst := some 13, op := Op.move (Operand.tmp 0), type := 23, pos := "leaf.go:107", after := #[], guard := none }) (v := _) rfl (by kernel_rfl) (by kernel_rfl) (by kernel_rfl) (fun _ _ _ h => h) (Or.inl ⟨by rfl, ?hya0⟩) hH0 ?ra0
        case hya0 => (intro w' hSw; clear hSw; go_simp; try with_reducible rfl)
        simp only [Act.put, List.setIfInBounds_toArray, List.set_cons_zero, List.set_cons_succ]
        refine' wpAnyH_take (i := 1) (oi := { dst := some 14, op := Op.move (Operand.tmp 3), type := 3, pos := "leaf.go:107", after := #[], guard := none }) (v := _) rfl (by kernel_rfl) (by kernel_rfl) (by kernel_rfl) (fun _ _ _ h => h) (Or.inl ⟨by rfl, ?hya1⟩) hH0 ?ra1
        case hya1 => (intro w' hSw; clear hSw; go_simp; try with_reducible rfl)
        simp only [Act.put, List.setIfInBounds_toArray, List.set_cons_zero, List.set_cons_succ]
        refine' wpAnyH_take (i := 2) (oi := { dst := some 15, op := Op.binOp BinOp.sub 3 (Operand.tmp 14) (Operand.const (Value.int IntKind.i64 1)) 3, type := 3, pos := "leaf.go:107", after := #[{ on := 1, ground := Ground.data }], guard := none }) (v := _) rfl (by kernel_rfl) (by kernel_rfl) (by kernel_rfl) (fun _ _ _ h => h) (Or.inl ⟨by rfl, ?hya2⟩) hH0 ?ra2
        case hya2 => (intro w' hSw; clear hSw; go_simp; try with_reducible rfl)
        simp only [Act.put, List.setIfInBounds_toArray, List.set_cons_zero, List.set_cons_succ]
        refine' wpAnyH_take (i := 3) (oi := { dst := some 16, op := Op.indexAddr 23 (Operand.tmp 13) (Operand.tmp 15), type := 0, pos := "leaf.go:107", after := #[{ on := 0, ground := Ground.data }, { on := 2, ground := Ground.data }], guard := none }) (v := _) rfl (by kernel_rfl) (by kernel_rfl) (by kernel_rfl) (fun _ _ _ h => h) (Or.inl ⟨by rfl, ?hya3⟩) hH0 ?ra3
        case hya3 => (intro w' hSw; clear hSw; go_simp; try with_reducible rfl)
        simp only [Act.put, List.setIfInBounds_toArray, List.set_cons_zero, List.set_cons_succ]
        refine' wpAnyH_take (i := 4) (oi := { dst := some 17, op := Op.load 33 (Operand.tmp 16), type := 33, pos := "leaf.go:107", after := #[{ on := 3, ground := Ground.data }], guard := none }) (v := .agg (pgA p)) rfl (by kernel_rfl) (by kernel_rfl) (by kernel_rfl) (fun _ _ _ h => h) (yields_load (by rfl) 33 (.tmp 16) rfl (by rfl) hlp) hH0 ?ra4
        simp only [Act.put, List.setIfInBounds_toArray, List.set_cons_zero, List.set_cons_succ]
        refine' wpAnyH_take (i := 5) (oi := { dst := some 18, op := Op.move (Operand.tmp 0), type := 23, pos := "leaf.go:107", after := #[{ on := 11, ground := Ground.gcOnly Departure.lateStores }], guard := none }) (v := _) rfl (by kernel_rfl) (by kernel_rfl) (by kernel_rfl) (fun _ _ _ h => h) (Or.inl ⟨by rfl, ?hya5⟩) hH0 ?ra5
        case hya5 => (intro w' hSw; clear hSw; go_simp; try with_reducible rfl)
        simp only [Act.put, List.setIfInBounds_toArray, List.set_cons_zero, List.set_cons_succ]
        refine' wpAnyH_take (i := 6) (oi := { dst := some 19, op := Op.move (Operand.tmp 3), type := 3, pos := "leaf.go:107", after := #[{ on := 11, ground := Ground.gcOnly Departure.lateStores }], guard := none }) (v := _) rfl (by kernel_rfl) (by kernel_rfl) (by kernel_rfl) (fun _ _ _ h => h) (Or.inl ⟨by rfl, ?hya6⟩) hH0 ?ra6
        case hya6 => (intro w' hSw; clear hSw; go_simp; try with_reducible rfl)
        simp only [Act.put, List.setIfInBounds_toArray, List.set_cons_zero, List.set_cons_succ]
        refine' wpAnyH_take (i := 7) (oi := { dst := some 20, op := Op.indexAddr 23 (Operand.tmp 18) (Operand.tmp 19), type := 0, pos := "leaf.go:107", after := #[{ on := 5, ground := Ground.data }, { on := 6, ground := Ground.data }, { on := 11, ground := Ground.gcOnly Departure.lateStores }], guard := none }) (v := _) rfl (by kernel_rfl) (by kernel_rfl) (by kernel_rfl) (fun _ _ _ h => h) (Or.inl ⟨by rfl, ?hya7⟩) hH0 ?ra7
        case hya7 => (intro w' hSw; clear hSw; go_simp; try with_reducible rfl)
        simp only [Act.put, List.setIfInBounds_toArray, List.set_cons_zero, List.set_cons_succ]
        refine' wpAnyH_take (i := 8) (oi := { dst := some 21, op := Op.load 33 (Operand.tmp 20), type := 33, pos := "leaf.go:107", after := #[{ on := 7, ground := Ground.data }, { on := 11, ground := Ground.gcOnly Departure.lateStores }], guard := none }) (v := .agg (pgA q)) rfl (by kernel_rfl) (by kernel_rfl) (by kernel_rfl) (fun _ _ _ h => h) (yields_load (by rfl) 33 (.tmp 20) rfl (by rfl) hlq) hH0 ?ra8
        simp only [Act.put, List.setIfInBounds_toArray, List.set_cons_zero, List.set_cons_succ]
        refine wpAnyH_ready (rs := [9, 10]) (by kernel_rfl) (by simp) ?_
        refine AllReadyH.cons (o := { dst := some 4, op := Op.alloc 33, type := 0, pos := "leaf.go:107", after := #[], guard := none }) rfl (fun K hK => ?_) (AllReadyH.cons (o := { dst := some 5, op := Op.alloc 33, type := 0, pos := "leaf.go:107", after := #[], guard := none }) rfl (fun K hK => ?_) AllReadyH.nil)
        · refine step_alloc_run (by rfl) 33 rfl (alloc33 _) ?_
          refine hK.out _ _ (((Keep.refl (fun b => wr.heap.size ≤ b) wr).drew).alloc _) (fun hH1 => ?_)
          clear hK K hH0
          simp only [Act.put, List.setIfInBounds_toArray, List.set_cons_zero, List.set_cons_succ]
          refine wpAnyH_ready (rs := [10]) (by kernel_rfl) (by simp) ?_
          refine AllReadyH.cons (o := { dst := some 5, op := Op.alloc 33, type := 0, pos := "leaf.go:107", after := #[], guard := none }) rfl (fun K hK => ?_) AllReadyH.nil
          refine step_alloc_run (by rfl) 33 rfl (alloc33 _) ?_
          refine hK.out _ _ ((((Keep.refl (fun b => wr.heap.size ≤ b) wr).drew).alloc _).alloc _) (fun hH2 => ?_)
          clear hK K hH1
          simp only [Act.put, List.setIfInBounds_toArray, List.set_cons_zero, List.set_cons_succ]
          obtain ⟨wa, wb, hs1, hs2, P1, P2, KA, KB⟩ := two_pages wr p q
          rw [e1]
          refine wpAnyH_ready (rs := [11]) (by kernel_rfl) (by simp) ?_
          refine AllReadyH.cons (o := { dst := none, op := Op.store 33 (Operand.tmp 4) (Operand.tmp 17), type := 0, pos := "leaf.go:107", after := #[{ on := 9, ground := Ground.data }, { on := 4, ground := Ground.data }, { on := 0, ground := Ground.phase }, { on := 1, ground := Ground.phase }, { on := 2, ground := Ground.phase }, { on := 3, ground := Ground.phase }, { on := 4, ground := Ground.phase }, { on := 5, ground := Ground.textOnly Departure.lateStores }, { on := 6, ground := Ground.textOnly Departure.lateStores }, { on := 7, ground := Ground.textOnly Departure.lateStores }, { on := 8, ground := Ground.textOnly Departure.lateStores }, { on := 9, ground := Ground.phase }, { on := 10, ground := Ground.phase }], guard := none }) rfl (fun K hK => ?_) AllReadyH.nil
          refine step_store_run (by rfl) 33 (.tmp 4) (.tmp 17) rfl (by rfl) (by rfl) hs1 ?_
          refine hK.out _ _ KA (fun hH3 => ?_)
          clear hK K hH2
          simp only [Act.put]
          refine wpAnyH_ready (rs := [12]) (by kernel_rfl) (by simp) ?_
          refine AllReadyH.cons (o := { dst := none, op := Op.store 33 (Operand.tmp 5) (Operand.tmp 21), type := 0, pos := "leaf.go:107", after := #[{ on := 10, ground := Ground.data }, { on := 8, ground := Ground.data }, { on := 11, ground := Ground.chain }, { on := 0, ground := Ground.phase }, { on := 1, ground := Ground.phase }, { on := 2, ground := Ground.phase }, { on := 3, ground := Ground.phase }, { on := 4, ground := Ground.phase }, { on := 5, ground := Ground.phase }, { on := 6, ground := Ground.phase }, { on := 7, ground := Ground.phase }, { on := 8, ground := Ground.phase }, { on := 9, ground := Ground.phase }, { on := 10, ground := Ground.phase }, { on := 11, ground := Ground.phase }], guard := none }) rfl (fun K hK => ?_) AllReadyH.nil
          refine step_store_run (by rfl) 33 (.tmp 5) (.tmp 21) rfl (by rfl) (by rfl) hs2 ?_
          refine hK.out _ _ KB (fun hH4 => ?_)
          clear hK K hH3
          simp only [Act.put]
          refine wpAnyH_done (by kernel_rfl) ?_ _
          refine NoPanic.normal ?_
          go_wp2_with fail
          go_meet
          exact ⟨_, _, rfl, rfl, P1, P2, keep_new KB⟩
        · refine step_alloc_run (by rfl) 33 rfl (alloc33 _) ?_
          refine hK.out _ _ (((Keep.refl (fun b => wr.heap.size ≤ b) wr).drew).alloc _) (fun hH1 => ?_)
          clear hK K hH0
          simp only [Act.put, List.setIfInBounds_toArray, List.set_cons_zero, List.set_cons_succ]
          refine wpAnyH_ready (rs := [9]) (by kernel_rfl) (by simp) ?_
          refine AllReadyH.cons (o := { dst := some 4, op := Op.alloc 33, type := 0, pos := "leaf.go:107", after := #[], guard := none }) rfl (fun K hK => ?_) AllReadyH.nil
          refine step_alloc_run (by rfl) 33 rfl (alloc33 _) ?_
          refine hK.out _ _ ((((Keep.refl (fun b => wr.heap.size ≤ b) wr).drew).alloc _).alloc _) (fun hH2 => ?_)
          clear hK K hH1
          simp only [Act.put, List.setIfInBounds_toArray, List.set_cons_zero, List.set_cons_succ]
          obtain ⟨wa, wb, hs1, hs2, P1, P2, KA, KB⟩ := two_pages' wr p q
          rw [e1]
          refine wpAnyH_ready (rs := [11]) (by kernel_rfl) (by simp) ?_
          refine AllReadyH.cons (o := { dst := none, op := Op.store 33 (Operand.tmp 4) (Operand.tmp 17), type := 0, pos := "leaf.go:107", after := #[{ on := 9, ground := Ground.data }, { on := 4, ground := Ground.data }, { on := 0, ground := Ground.phase }, { on := 1, ground := Ground.phase }, { on := 2, ground := Ground.phase }, { on := 3, ground := Ground.phase }, { on := 4, ground := Ground.phase }, { on := 5, ground := Ground.textOnly Departure.lateStores }, { on := 6, ground := Ground.textOnly Departure.lateStores }, { on := 7, ground := Ground.textOnly Departure.lateStores }, { on := 8, ground := Ground.textOnly Departure.lateStores }, { on := 9, ground := Ground.phase }, { on := 10, ground := Ground.phase }], guard := none }) rfl (fun K hK => ?_) AllReadyH.nil
          refine step_store_run (by rfl) 33 (.tmp 4) (.tmp 17) rfl (by rfl) (by rfl) hs1 ?_
          refine hK.out _ _ KA (fun hH3 => ?_)
          clear hK K hH2
          simp only [Act.put]
          refine wpAnyH_ready (rs := [12]) (by kernel_rfl) (by simp) ?_
          refine AllReadyH.cons (o := { dst := none, op := Op.store 33 (Operand.tmp 5) (Operand.tmp 21), type := 0, pos := "leaf.go:107", after := #[{ on := 10, ground := Ground.data }, { on := 8, ground := Ground.data }, { on := 11, ground := Ground.chain }, { on := 0, ground := Ground.phase }, { on := 1, ground := Ground.phase }, { on := 2, ground := Ground.phase }, { on := 3, ground := Ground.phase }, { on := 4, ground := Ground.phase }, { on := 5, ground := Ground.phase }, { on := 6, ground := Ground.phase }, { on := 7, ground := Ground.phase }, { on := 8, ground := Ground.phase }, { on := 9, ground := Ground.phase }, { on := 10, ground := Ground.phase }, { on := 11, ground := Ground.phase }], guard := none }) rfl (fun K hK => ?_) AllReadyH.nil
          refine step_store_run (by rfl) 33 (.tmp 5) (.tmp 21) rfl (by rfl) (by rfl) hs2 ?_
          refine hK.out _ _ KB (fun hH4 => ?_)
          clear hK K hH3
          simp only [Act.put]
          refine wpAnyH_done (by kernel_rfl) ?_ _
          refine NoPanic.normal ?_
          go_wp2_with fail
          go_meet
          exact ⟨_, _, rfl, rfl, P1, P2, keep_new KB⟩
      case rest =>
        obtain ⟨x, y, rfl, rfl, P1, P2, Kc⟩ := hcut
        have x1 := P1.lba
        have x5 := P1.ix
        have x6 := P1.tot
        have y1 := P2.lba
        have y5 := P2.ix
        have y6 := P2.tot
        have hl1 := pay_load P1
        have hl2 := pay_load P2
        have K9 := KK.trans Kc
        clear hlp hlq e1 P1 P2 dk dkn
        by_cases hA : p.lba = q.lba
        · have g1 : (p.lba != q.lba) = false := by rw [bne_eq_false_iff_eq]; exact hA
          by_cases hB : p.tot = q.tot
          · have g2 : (p.tot != q.tot) = false := by rw [bne_eq_false_iff_eq]; exact hB
            have hAB : Hid (p.lba = q.lba ∧ p.tot = q.tot) := ⟨hA, hB⟩
            have f1 : Hid (p.ix < 4294967295 → IntKind.u32.wrap (p.ix + 1) = p.ix + 1) := fun h => by rw [IntKind.wrap_u32]; omega
            obtain ⟨z, hz⟩ : ∃ z, z = IntKind.u32.wrap (p.ix + 1) := ⟨_, rfl⟩
            have hzz : z = q.ix ↔ q.ix = p.ix + 1 := by rw [hz, IntKind.wrap_u32]; omega
            have hz' : IntKind.u32.wrap (p.ix + 1) = z := hz.symm
            clear hA hB hz
            by_cases hC : p.ix = q.ix
            · cases hs : smP p q with
              | true =>
                have hn2 := (show Step p q → _ from hnext) ⟨hAB.1, hAB.2, Or.inl ⟨hC, (smP_iff hpl hql).1 hs⟩⟩
                have hn3 : Hid (∀ j, j + 1 < i + 1 → Step (at0 G j) (at0 G (j + 1))) := hn2
                have g3 : (p.ix == q.ix) = true := by rw [beq_iff_eq]; exact hC
                have g4 : decide (p.ix = q.ix) = true := decide_eq_true hC
                clear hn2 hC hzz
                go_wp2_with (first | (guard_target =~ wpList _ _ _ (Oper.mk _ (Op.load 31 _) _ _ _ _ :: _) _ _; first | refine wpList_load_run (by rfl) 31 (.tmp 40) rfl (by rfl) hl1 ?_ | refine wpList_load_run (by rfl) 31 (.tmp 42) rfl (by rfl) hl2 ?_) | (guard_target =~ wpList _ _ _ (Oper.mk _ (Op.binOp .eql 31 _ _ 31) _ _ _ _ :: _) _ _; refine wpList_eql31 (by rfl) (.tmp 41) (.tmp 43) rfl (by rfl) (by rfl) ?_; rw [hs]))
                go_roundw
                case rel => exact ⟨i + 1, by omega, hlt', by go_num, hn3, K9⟩
                case measure => have : i < n := hlt'; simp [intOf]; omega
              | false =>
                have hno : Hid (¬ ∀ j, j + 1 < n → Step (at0 G j) (at0 G (j + 1))) := fun h => by
                  obtain ⟨-, -, h3⟩ := (show _ → Step p q from hgoal) h
                  rcases h3 with ⟨-, h4⟩ | h4
                  · have := (smP_iff hpl hql).2 h4
                    rw [hs] at this
                    cases this
                  · omega
                have g3 : (p.ix == q.ix) = true := by rw [beq_iff_eq]; exact hC
                have g4 : decide (p.ix = q.ix) = true := decide_eq_true hC
                have g5 : (q.ix != z) = true := by rw [bne_iff_ne]; intro e; have := hzz.1 e.symm; omega
                clear hC hzz
                go_wp2_with (first | (guard_target =~ wpList _ _ _ (Oper.mk _ (Op.load 31 _) _ _ _ _ :: _) _ _; first | refine wpList_load_run (by rfl) 31 (.tmp 40) rfl (by rfl) hl1 ?_ | refine wpList_load_run (by rfl) 31 (.tmp 42) rfl (by rfl) hl2 ?_) | (guard_target =~ wpList _ _ _ (Oper.mk _ (Op.binOp .eql 31 _ _ 31) _ _ _ _ :: _) _ _; refine wpList_eql31 (by rfl) (.tmp 41) (.tmp 43) rfl (by rfl) (by rfl) ?_; rw [hs]))
                go_ret
                exact Bl.no rfl hno K9
            · have g3 : (p.ix == q.ix) = false := by rw [beq_eq_false_iff_ne]; exact hC
              have g4 : decide (p.ix = q.ix) = false := decide_eq_false hC
              by_cases hD : q.ix = p.ix + 1
              · have hn2 := (show Step p q → _ from hnext) ⟨hAB.1, hAB.2, Or.inr hD⟩
                have hn3 : Hid (∀ j, j + 1 < i + 1 → Step (at0 G j) (at0 G (j + 1))) := hn2
                have g5 : (q.ix != z) = false := by rw [bne_eq_false_iff_eq]; exact (hzz.2 hD).symm
                clear hn2 hC hD hzz
                go_wp2_with fail
                go_roundw
                case rel => exact ⟨i + 1, by omega, hlt', by go_num, hn3, K9⟩
                case measure => have : i < n := hlt'; simp [intOf]; omega
              · have hno : Hid (¬ ∀ j, j + 1 < n → Step (at0 G j) (at0 G (j + 1))) := fun h => by
                  obtain ⟨-, -, h3⟩ := (show _ → Step p q from hgoal) h
                  rcases h3 with ⟨h4, -⟩ | h4
                  · exact hC h4
                  · exact hD h4
                have g5 : (q.ix != z) = true := by rw [bne_iff_ne]; intro e; exact hD (hzz.1 e.symm)
                clear hC hD hzz
                go_wp2_with fail
                go_ret
                exact Bl.no rfl hno K9
          · have g2 : (p.tot != q.tot) = true := by rw [bne_iff_ne]; exact hB
            have hno : Hid (¬ ∀ j, j + 1 < n → Step (at0 G j) (at0 G (j + 1))) := fun h => hB ((show _ → Step p q from hgoal) h).2.1
            clear hA hB
            go_wp2_with fail
            go_ret
            exact Bl.no rfl hno K9
        · have g1 : (p.lba != q.lba) = true := by rw [bne_iff_ne]; exact hA
          have hno : Hid (¬ ∀ j, j + 1 < n → Step (at0 G j) (at0 G (j + 1))) := fun h => hA ((show _ → Step p q from hgoal) h).1
          clear hA
          go_wp2_with fail
          go_ret
          exact Bl.no rfl hno K9
    · obtain rfl : i = n := by omega
      have di : ¬ (i : Int) < (i : Int) := by omega
      have hall : Hid (∀ j, j + 1 < i → Step (at0 G j) (at0 G (j + 1))) := hst
      clear hst hlt
      go_wp2_with fail
      go_ret
      exact Bl.yes rfl hall KK
end Tg
end Go.Proofs.Ytginnojbmpnleaa
