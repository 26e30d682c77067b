/-
  The program's whole, walked.
-/
import Derived.Test.YtginnojbmpnleaaMh
namespace Go.Proofs.Ytginnojbmpnleaa
open Go.ChangeShapes Go.WideShapes Go.ChangeAt Go.RowKit
namespace Tg
theorem call10 (args : Array Value) (w : World) : (callFunc 10 args).run Try.prog w = .ok (.enter 10 args) w := enters Try.func10 (by kernel_rfl) (by kernel_rfl) args w
theorem call30 (args : Array Value) (w : World) : (callFunc 30 args).run Try.prog w = .ok (.enter 30 args) w := enters Try.func30 (by kernel_rfl) (by kernel_rfl) args w
theorem call31 (args : Array Value) (w : World) : (callFunc 31 args).run Try.prog w = .ok (.enter 31 args) w := enters Try.func31 (by kernel_rfl) (by kernel_rfl) args w
theorem Bl.pos {f : FuncId} {vs : Array Value} {A : Prop} {w : World} (h : Calls Try.prog f vs w (Bl A w)) (hA : A) : Calls Try.prog f vs w fun e w' => e = .returned (.bool true) ∧ Keep (fun _ => False) w w' :=
  h.mono (by rintro e w' ⟨b, rfl, hb, k⟩; rw [hb.2 hA]; exact ⟨rfl, k⟩)
theorem Bl.neg {f : FuncId} {vs : Array Value} {A : Prop} {w : World} (h : Calls Try.prog f vs w (Bl A w)) (hA : ¬ A) : Calls Try.prog f vs w fun e w' => e = .returned (.bool false) ∧ Keep (fun _ => False) w w' :=
  h.mono (by
    rintro e w' ⟨b, rfl, hb, k⟩
    cases b with
    | true => exact absurd (hb.1 rfl) hA
    | false => exact ⟨rfl, k⟩)
set_option maxRecDepth 100000 in
set_option maxHeartbeats 4000000 in
theorem whole_any {w : World} {a : Option Addr} {cap : Nat} {G : List Pg} (hR : Rg w a cap G) (hok : ∀ q ∈ G, q.Ok) (hup : ∀ i j, i ≤ j → j < G.length → (at0 G i).ix ≤ (at0 G j).ix) (h0 : 0 < G.length) (hl : G.length ≤ 100000) :
    Calls Try.prog 21 #[.slice a G.length cap] w (Bl (Says1 G) w) := by
  have hlc := hR.1
  have hlc2 := hR.2.1
  have hagr : ∀ w', Keep (fun _ => False) w w' → Calls Try.prog 30 #[.slice a G.length cap] w' (Bl (∀ i, i + 1 < G.length → Step (at0 G i) (at0 G (i + 1))) w') := fun w' k => agree_any (hR.more k) hok hup h0 hl
  obtain ⟨f, hf⟩ : ∃ f, f = at0 G 0 := ⟨_, rfl⟩
  obtain ⟨z, hz⟩ : ∃ z, z = at0 G (G.length - 1) := ⟨_, rfl⟩
  have hgf : G[0]? = some f := by rw [hf]; exact at0_get h0
  have hgz : G[G.length - 1]? = some z := by rw [hz]; exact at0_get (by omega)
  obtain ⟨g, o, rfl, -⟩ := hR.at hgf
  have hlf : ∀ w', Keep (fun b => w.heap.size ≤ b) w w' → (Instr.loadAt 33 (.pointer (some ⟨g, o, none⟩))).run Try.prog w' = .ok (.agg (pgA f)) w' := fun w' k' => by
    obtain ⟨g', o', e, hc'⟩ := (hR.more (keep_new k')).at hgf
    injection e with e
    injection e with e1 e2
    subst e1 e2
    exact pg_load (fun j hj => by have := hc' j hj; rwa [Nat.zero_mul, Nat.add_zero] at this)
  have hlz : ∀ w', Keep (fun b => w.heap.size ≤ b) w w' → (Instr.loadAt 33 (.pointer (some ⟨g, o + (G.length - 1) * 39, none⟩))).run Try.prog w' = .ok (.agg (pgA z)) w' := fun w' k' => by
    obtain ⟨g', o', e, hc'⟩ := (hR.more (keep_new k')).at hgz
    injection e with e
    injection e with e1 e2
    subst e1 e2
    exact pg_load hc'
  have hof : f.Ok := hok f (List.mem_of_getElem? hgf)
  have hoz : z.Ok := hok z (List.mem_of_getElem? hgz)
  have hsay : Says1 G ↔ (f.lba ≤ 65536 ∧ f.tot = (npg f.lba.toNat : Int) ∧ (∀ i, i + 1 < G.length → Step (at0 G i) (at0 G (i + 1))) ∧ f.ix = 0 ∧ z.ix = f.tot - 1 ∧ Filled z) := by
    rw [hf, hz]
    exact ⟨fun h => ⟨h.lba, h.tot, h.step, h.first, h.last, h.fill⟩, fun ⟨a, b, c, d, e, f⟩ => ⟨a, b, c, d, e, f⟩⟩
  have hzl : (∀ i, i + 1 < G.length → Step (at0 G i) (at0 G (i + 1))) → z.lba = f.lba := fun h => by rw [hz, hf]; exact (chain_same h (G.length - 1) (by omega)).1
  have hsay' : Hid (Says1 G ↔ (f.lba ≤ 65536 ∧ f.tot = (npg f.lba.toNat : Int) ∧ (∀ i, i + 1 < G.length → Step (at0 G i) (at0 G (i + 1))) ∧ f.ix = 0 ∧ z.ix = f.tot - 1 ∧ Filled z)) := hsay
  clear hsay hgf hgz hf hz
  obtain ⟨AG, hAG⟩ : ∃ AG, AG = ∀ i, i + 1 < G.length → Step (at0 G i) (at0 G (i + 1)) := ⟨_, rfl⟩
  rw [← hAG] at hagr hsay' hzl
  obtain ⟨SG, hSG⟩ : ∃ SG, SG = Says1 G := ⟨_, rfl⟩
  rw [← hSG] at hsay' ⊢
  clear hAG hSG hok hup hR
  obtain ⟨m, hm⟩ : ∃ m, m = G.length - 1 := ⟨_, rfl⟩
  rw [← hm] at hlz
  obtain ⟨n, hn⟩ : ∃ n, n = G.length := ⟨_, rfl⟩
  rw [← hn] at hm hagr hlc hl h0 ⊢
  clear hn
  have dm : IntKind.i64.wrap ((n : Int) - 1) = (m : Int) := by rw [IntKind.wrap_i64]; omega
  have hmn : m < n := by omega
  have dmn : (m : Int) < (n : Int) := by omega
  have dn0 : (0 : Int) < (n : Int) := by omega
  have e1 : (w.drew.alloc (.cells (pgA pg0) 33)).heap.size = w.drew.heap.size + 1 := by simp
  change _ = w.heap.size + 1 at e1
  clear hm
  go_enter Try.func21, Try.ntmps21
  go_upto_region 1 with fail
  go_cut [3, 4] from 5 to 47 (fun v3 v4 wx => ∃ x y, v3 = .pointer (some ⟨x, 0, none⟩) ∧ v4 = .pointer (some ⟨y, 0, none⟩) ∧ Pv wx x f ∧ Pv wx y z ∧ Keep (fun _ => False) w wx)
  case first =>
    clear hagr hsay' hzl hof hoz
    refine wp_region_noPanic ?_
    refine wp_region_held_drew (S := fun w' => Keep (fun b => w.heap.size ≤ b) w w') (by kernel_rfl) ((Keep.refl (fun b => w.heap.size ≤ b) w).drew) (fun hH0 => ?_)
    refine' wpAnyH_take (i := 0) (oi := { dst := some 5, op := Op.move (Operand.tmp 0), type := 23, pos := "leaf.go:99", after := #[], guard := none }) (v := _) rfl (by kernel_rfl) (by kernel_rfl) (by kernel_rfl) (fun _ _ _ h => h) (Or.inl ⟨by rfl, ?hya0⟩) hH0 ?ra0
    case hya0 => (intro w' hSw; clear hSw; go_simp; try with_reducible rfl)
    simp only [Act.put, List.setIfInBounds_toArray, List.set_cons_zero, List.set_cons_succ]
    refine' wpAnyH_take (i := 1) (oi := { dst := some 6, op := Op.indexAddr 23 (Operand.tmp 5) (Operand.const (Value.int IntKind.i64 0)), type := 0, pos := "leaf.go:99", after := #[{ on := 0, ground := Ground.data }], guard := none }) (v := _) rfl (by kernel_rfl) (by kernel_rfl) (by kernel_rfl) (fun _ _ _ h => h) (Or.inl ⟨by rfl, ?hya1⟩) hH0 ?ra1
    case hya1 => (intro w' hSw; clear hSw; go_simp; try with_reducible rfl)
    simp only [Act.put, List.setIfInBounds_toArray, List.set_cons_zero, List.set_cons_succ]
    refine' wpAnyH_take (i := 2) (oi := { dst := some 7, op := Op.load 33 (Operand.tmp 6), type := 33, pos := "leaf.go:99", after := #[{ on := 1, ground := Ground.data }], guard := none }) (v := .agg (pgA f)) rfl (by kernel_rfl) (by kernel_rfl) (by kernel_rfl) (fun _ _ _ h => h) (yields_load (by rfl) 33 (.tmp 6) rfl (by rfl) hlf) hH0 ?ra2
    simp only [Act.put, List.setIfInBounds_toArray, List.set_cons_zero, List.set_cons_succ]
    refine' wpAnyH_take (i := 3) (oi := { dst := some 8, op := Op.move (Operand.tmp 0), type := 23, pos := "leaf.go:99", after := #[{ on := 11, ground := Ground.gcOnly Departure.lateStores }], guard := none }) (v := _) rfl (by kernel_rfl) (by kernel_rfl) (by kernel_rfl) (fun _ _ _ h => h) (Or.inl ⟨by rfl, ?hya3⟩) hH0 ?ra3
    case hya3 => (intro w' hSw; clear hSw; go_simp; try with_reducible rfl)
    simp only [Act.put, List.setIfInBounds_toArray, List.set_cons_zero, List.set_cons_succ]
    refine' wpAnyH_take (i := 4) (oi := { dst := some 9, op := Op.move (Operand.tmp 0), type := 23, pos := "leaf.go:99", after := #[], guard := none }) (v := _) rfl (by kernel_rfl) (by kernel_rfl) (by kernel_rfl) (fun _ _ _ h => h) (Or.inl ⟨by rfl, ?hya4⟩) hH0 ?ra4
    case hya4 => (intro w' hSw; clear hSw; go_simp; try with_reducible rfl)
    simp only [Act.put, List.setIfInBounds_toArray, List.set_cons_zero, List.set_cons_succ]
    refine' wpAnyH_take (i := 5) (oi := { dst := some 10, op := Op.call { callee := Callee.builtin Builtin.len, args := #[Operand.tmp 9], argTypes := #[23] }, type := 3, pos := "leaf.go:99", after := #[{ on := 4, ground := Ground.data }], guard := none }) (v := _) rfl (by kernel_rfl) (by kernel_rfl) (by kernel_rfl) (fun _ _ _ h => h) (Or.inl ⟨by rfl, ?hya5⟩) hH0 ?ra5
    case hya5 => (intro w' hSw; clear hSw; go_simp; try with_reducible rfl)
    simp only [Act.put, List.setIfInBounds_toArray, List.set_cons_zero, List.set_cons_succ]
    refine' wpAnyH_take (i := 6) (oi := { dst := some 11, op := Op.binOp BinOp.sub 3 (Operand.tmp 10) (Operand.const (Value.int IntKind.i64 1)) 3, type := 3, pos := "leaf.go:99", after := #[{ on := 5, ground := Ground.data }, { on := 11, ground := Ground.gcOnly Departure.lateStores }], guard := none }) (v := _) rfl (by kernel_rfl) (by kernel_rfl) (by kernel_rfl) (fun _ _ _ h => h) (Or.inl ⟨by rfl, ?hya6⟩) hH0 ?ra6
    case hya6 => (intro w' hSw; clear hSw; go_simp; try with_reducible rfl)
    simp only [Act.put, List.setIfInBounds_toArray, List.set_cons_zero, List.set_cons_succ]
    refine' wpAnyH_take (i := 7) (oi := { dst := some 12, op := Op.indexAddr 23 (Operand.tmp 8) (Operand.tmp 11), type := 0, pos := "leaf.go:99", after := #[{ on := 3, ground := Ground.data }, { on := 6, ground := Ground.data }, { on := 11, ground := Ground.gcOnly Departure.lateStores }], guard := none }) (v := _) rfl (by kernel_rfl) (by kernel_rfl) (by kernel_rfl) (fun _ _ _ h => h) (Or.inl ⟨by rfl, ?hya7⟩) hH0 ?ra7
    case hya7 => (intro w' hSw; clear hSw; go_simp; try with_reducible rfl)
    simp only [Act.put, List.setIfInBounds_toArray, List.set_cons_zero, List.set_cons_succ]
    refine' wpAnyH_take (i := 8) (oi := { dst := some 13, op := Op.load 33 (Operand.tmp 12), type := 33, pos := "leaf.go:99", after := #[{ on := 7, ground := Ground.data }, { on := 11, ground := Ground.gcOnly Departure.lateStores }], guard := none }) (v := .agg (pgA z)) rfl (by kernel_rfl) (by kernel_rfl) (by kernel_rfl) (fun _ _ _ h => h) (yields_load (by rfl) 33 (.tmp 12) rfl (by rfl) hlz) hH0 ?ra8
    simp only [Act.put, List.setIfInBounds_toArray, List.set_cons_zero, List.set_cons_succ]
    refine wpAnyH_ready (rs := [9, 10]) (by kernel_rfl) (by simp) ?_
    refine AllReadyH.cons (o := { dst := some 3, op := Op.alloc 33, type := 0, pos := "leaf.go:99", after := #[], guard := none }) rfl (fun K hK => ?_) (AllReadyH.cons (o := { dst := some 4, op := Op.alloc 33, type := 0, pos := "leaf.go:99", after := #[], guard := none }) rfl (fun K hK => ?_) AllReadyH.nil)
    · refine step_alloc_run (by rfl) 33 rfl (alloc33 _) ?_
      refine hK.out _ _ (((Keep.refl (fun b => w.heap.size ≤ b) w).drew).alloc _) (fun hH1 => ?_)
      clear hK K hH0
      simp only [Act.put, List.setIfInBounds_toArray, List.set_cons_zero, List.set_cons_succ]
      refine wpAnyH_ready (rs := [10]) (by kernel_rfl) (by simp) ?_
      refine AllReadyH.cons (o := { dst := some 4, op := Op.alloc 33, type := 0, pos := "leaf.go:99", after := #[], guard := none }) rfl (fun K hK => ?_) AllReadyH.nil
      refine step_alloc_run (by rfl) 33 rfl (alloc33 _) ?_
      refine hK.out _ _ ((((Keep.refl (fun b => w.heap.size ≤ b) w).drew).alloc _).alloc _) (fun hH2 => ?_)
      clear hK K hH1
      simp only [Act.put, List.setIfInBounds_toArray, List.set_cons_zero, List.set_cons_succ]
      obtain ⟨wa, wb, hs1, hs2, P1, P2, KA, KB⟩ := two_pages w f z
      rw [e1]
      refine wpAnyH_ready (rs := [11]) (by kernel_rfl) (by simp) ?_
      refine AllReadyH.cons (o := { dst := none, op := Op.store 33 (Operand.tmp 3) (Operand.tmp 7), type := 0, pos := "leaf.go:99", after := #[{ on := 9, ground := Ground.data }, { on := 2, ground := Ground.data }, { on := 0, ground := Ground.phase }, { on := 1, ground := Ground.phase }, { on := 2, ground := Ground.phase }, { on := 3, ground := Ground.textOnly Departure.lateStores }, { on := 4, ground := Ground.textOnly Departure.lateStores }, { on := 5, ground := Ground.textOnly Departure.lateStoresUnsure }, { on := 6, ground := Ground.textOnly Departure.lateStores }, { on := 7, ground := Ground.textOnly Departure.lateStores }, { on := 8, ground := Ground.textOnly Departure.lateStores }, { on := 9, ground := Ground.phase }, { on := 10, ground := Ground.phase }], guard := none }) rfl (fun K hK => ?_) AllReadyH.nil
      refine step_store_run (by rfl) 33 (.tmp 3) (.tmp 7) rfl (by rfl) (by rfl) hs1 ?_
      refine hK.out _ _ KA (fun hH3 => ?_)
      clear hK K hH2
      simp only [Act.put]
      refine wpAnyH_ready (rs := [12]) (by kernel_rfl) (by simp) ?_
      refine AllReadyH.cons (o := { dst := none, op := Op.store 33 (Operand.tmp 4) (Operand.tmp 13), type := 0, pos := "leaf.go:99", after := #[{ on := 10, ground := Ground.data }, { on := 8, ground := Ground.data }, { on := 11, ground := Ground.chain }, { on := 0, ground := Ground.phase }, { on := 1, ground := Ground.phase }, { on := 2, ground := Ground.phase }, { on := 3, ground := Ground.phase }, { on := 4, ground := Ground.phase }, { on := 5, ground := Ground.phase }, { on := 6, ground := Ground.phase }, { on := 7, ground := Ground.phase }, { on := 8, ground := Ground.phase }, { on := 9, ground := Ground.phase }, { on := 10, ground := Ground.phase }, { on := 11, ground := Ground.phase }], guard := none }) rfl (fun K hK => ?_) AllReadyH.nil
      refine step_store_run (by rfl) 33 (.tmp 4) (.tmp 13) rfl (by rfl) (by rfl) hs2 ?_
      refine hK.out _ _ KB (fun hH4 => ?_)
      clear hK K hH3
      simp only [Act.put]
      refine wpAnyH_done (by kernel_rfl) ?_ _
      refine NoPanic.normal ?_
      go_wp2_with fail
      go_meet
      exact ⟨_, _, rfl, rfl, P1, P2, keep_new KB⟩
    · refine step_alloc_run (by rfl) 33 rfl (alloc33 _) ?_
      refine hK.out _ _ (((Keep.refl (fun b => w.heap.size ≤ b) w).drew).alloc _) (fun hH1 => ?_)
      clear hK K hH0
      simp only [Act.put, List.setIfInBounds_toArray, List.set_cons_zero, List.set_cons_succ]
      refine wpAnyH_ready (rs := [9]) (by kernel_rfl) (by simp) ?_
      refine AllReadyH.cons (o := { dst := some 3, op := Op.alloc 33, type := 0, pos := "leaf.go:99", after := #[], guard := none }) rfl (fun K hK => ?_) AllReadyH.nil
      refine step_alloc_run (by rfl) 33 rfl (alloc33 _) ?_
      refine hK.out _ _ ((((Keep.refl (fun b => w.heap.size ≤ b) w).drew).alloc _).alloc _) (fun hH2 => ?_)
      clear hK K hH1
      simp only [Act.put, List.setIfInBounds_toArray, List.set_cons_zero, List.set_cons_succ]
      obtain ⟨wa, wb, hs1, hs2, P1, P2, KA, KB⟩ := two_pages' w f z
      rw [e1]
      refine wpAnyH_ready (rs := [11]) (by kernel_rfl) (by simp) ?_
      refine AllReadyH.cons (o := { dst := none, op := Op.store 33 (Operand.tmp 3) (Operand.tmp 7), type := 0, pos := "leaf.go:99", after := #[{ on := 9, ground := Ground.data }, { on := 2, ground := Ground.data }, { on := 0, ground := Ground.phase }, { on := 1, ground := Ground.phase }, { on := 2, ground := Ground.phase }, { on := 3, ground := Ground.textOnly Departure.lateStores }, { on := 4, ground := Ground.textOnly Departure.lateStores }, { on := 5, ground := Ground.textOnly Departure.lateStoresUnsure }, { on := 6, ground := Ground.textOnly Departure.lateStores }, { on := 7, ground := Ground.textOnly Departure.lateStores }, { on := 8, ground := Ground.textOnly Departure.lateStores }, { on := 9, ground := Ground.phase }, { on := 10, ground := Ground.phase }], guard := none }) rfl (fun K hK => ?_) AllReadyH.nil
      refine step_store_run (by rfl) 33 (.tmp 3) (.tmp 7) rfl (by rfl) (by rfl) hs1 ?_
      refine hK.out _ _ KA (fun hH3 => ?_)
      clear hK K hH2
      simp only [Act.put]
      refine wpAnyH_ready (rs := [12]) (by kernel_rfl) (by simp) ?_
      refine AllReadyH.cons (o := { dst := none, op := Op.store 33 (Operand.tmp 4) (Operand.tmp 13), type := 0, pos := "leaf.go:99", after := #[{ on := 10, ground := Ground.data }, { on := 8, ground := Ground.data }, { on := 11, ground := Ground.chain }, { on := 0, ground := Ground.phase }, { on := 1, ground := Ground.phase }, { on := 2, ground := Ground.phase }, { on := 3, ground := Ground.phase }, { on := 4, ground := Ground.phase }, { on := 5, ground := Ground.phase }, { on := 6, ground := Ground.phase }, { on := 7, ground := Ground.phase }, { on := 8, ground := Ground.phase }, { on := 9, ground := Ground.phase }, { on := 10, ground := Ground.phase }, { on := 11, ground := Ground.phase }], guard := none }) rfl (fun K hK => ?_) AllReadyH.nil
      refine step_store_run (by rfl) 33 (.tmp 4) (.tmp 13) rfl (by rfl) (by rfl) hs2 ?_
      refine hK.out _ _ KB (fun hH4 => ?_)
      clear hK K hH3
      simp only [Act.put]
      refine wpAnyH_done (by kernel_rfl) ?_ _
      refine NoPanic.normal ?_
      go_wp2_with fail
      go_meet
      exact ⟨_, _, rfl, rfl, P1, P2, keep_new KB⟩
  case rest =>
    obtain ⟨x, y, rfl, rfl, P1, P2, K9⟩ := hcut
    have hx1 := P1.lba
    have hx5 := P1.ix
    have hx6 := P1.tot
    have hy5 := P2.ix
    clear hlf hlz e1 dm dmn hmn
    have hlz : ∀ w', Keep (fun _ => False) wc w' → (Instr.loadAt 33 (.pointer (some ⟨y, 0, none⟩))).run Try.prog w' = .ok (.agg (pgA z)) w' := fun w' k => (P2.more k).load
    clear P1 P2
    have hb1 := hof.lba
    have hb5 := hof.ix
    have hb6 := hof.tot
    have hz5 := hoz.ix
    have hz1 := hoz.lba
    have hagr2 : ∀ w', Keep (fun _ => False) wc w' → Calls Try.prog 30 #[.slice (some ⟨g, o, none⟩) n cap] w' (Bl AG w') := fun w' k => hagr w' (K9.trans k)
    clear hagr hof hoz
    go_upto_region 2 with fail
    by_cases h1 : f.lba ≤ 65536
    · have g1 : decide (f.lba ≤ 65536) = true := decide_eq_true h1
      obtain ⟨T, hT⟩ : ∃ T : Int, T = (npg f.lba.toNat : Int) := ⟨_, rfl⟩
      have hpg := fun w' => pages_any f.lba w'
      have hnpe : npI f.lba = T := by unfold npI; rw [if_neg (by omega), hT]
      rw [hnpe] at hpg
      have hT1 : 1 ≤ T := by rw [hT]; have := npg_pos f.lba.toNat; omega
      have hT2 : T ≤ 2048 := by rw [hT]; have := npg_max (n := f.lba.toNat) (by omega); omega
      have hT3 : f.lba ≤ 32 * T ∧ 32 * (T - 1) ≤ f.lba := by
        rw [hT]
        unfold npg
        split <;> omega
      have c1 : IntKind.i64.wrap f.lba = f.lba := by rw [IntKind.wrap_i64]; omega
      have c2 : IntKind.u32.wrap T = T := by rw [IntKind.wrap_u32]; omega
      have hsayT : Hid (SG ↔ (f.lba ≤ 65536 ∧ f.tot = T ∧ AG ∧ f.ix = 0 ∧ z.ix = f.tot - 1 ∧ Filled z)) := by rw [hT]; exact hsay'
      clear hsay' hnpe hT
      by_cases h2 : f.tot = T
      · have g2 : decide (f.tot = T) = true := decide_eq_true h2
        have g2' : (f.tot == T) = true := by rw [beq_iff_eq]; exact h2
        by_cases h3 : AG
        · have hag : ∀ w', Keep (fun _ => False) wc w' → Calls Try.prog 30 #[.slice (some ⟨g, o, none⟩) n cap] w' fun e w2 => e = .returned (.bool true) ∧ Keep (fun _ => False) w' w2 := fun w' k => Bl.pos (hagr2 w' k) h3
          clear hagr2
          by_cases h4 : f.ix = 0
          · have g4 : decide (f.ix = 0) = true := decide_eq_true h4
            have g4' : (f.ix == 0) = true := by rw [beq_iff_eq]; exact h4
            have c3 : IntKind.u32.wrap (f.tot - 1) = f.tot - 1 := by rw [IntKind.wrap_u32]; omega
            by_cases h5 : z.ix = f.tot - 1
            · have g5 : decide (z.ix = f.tot - 1) = true := decide_eq_true h5
              have g5' : (z.ix == f.tot - 1) = true := by rw [beq_iff_eq]; exact h5
              obtain ⟨t, ht⟩ : ∃ t : Nat, (t : Int) = f.lba - 32 * (T - 1) := ⟨(f.lba - 32 * (T - 1)).toNat, by omega⟩
              have hzlb := hzl h3
              have hfa := filled_any (p := z) t (by omega) (by omega) (by omega) (by omega)
              have hfe : Filled z ↔ ∀ k, t ≤ k → k < 32 → z.pay.getD k 0 = 0 := by
                unfold Filled
                constructor
                · intro h k h1 h2
                  exact h k (by omega) h2
                · intro h k h1 h2
                  exact h k (by omega) h2
              by_cases h6 : ∀ k, t ≤ k → k < 32 → z.pay.getD k 0 = 0
              · have hfl := fun w' => Bl.pos (hfa w') h6
                have hres : Hid SG := (show SG ↔ _ from hsayT).2 ⟨h1, h2, h3, h4, h5, hfe.2 h6⟩
                clear hfa h6 hfe hzlb ht h1 h2 h4 h5 hT3 hsayT hzl
                refine wp_region_noPanic ?_
                refine wp_region_held_drew (S := fun w' => Keep (fun _ => False) wc w') (by kernel_rfl) ((Keep.refl (fun _ => False) wc).drew) (fun hH0 => ?_)
                refine' wpAnyH_take (i := 0) (oi := { dst := some 14, op := Op.fieldAddr 33 (Operand.tmp 3) 1, type := 0, pos := "leaf.go:100", after := #[], guard := none }) (v := _) rfl (by kernel_rfl) (by kernel_rfl) (by kernel_rfl) (fun _ _ _ h => h) (Or.inl ⟨by rfl, ?hyb0⟩) hH0 ?rb0
                case hyb0 => (intro w' hSw; have x1 := hSw.cell hx1; have x5 := hSw.cell hx5; have x6 := hSw.cell hx6; have y5 := hSw.cell hy5; clear hSw; go_simp; try with_reducible rfl)
                simp only [Act.put, List.setIfInBounds_toArray, List.set_cons_zero, List.set_cons_succ]
                refine' wpAnyH_take (i := 1) (oi := { dst := some 15, op := Op.load 27 (Operand.tmp 14), type := 27, pos := "leaf.go:100", after := #[{ on := 0, ground := Ground.data }], guard := none }) (v := _) rfl (by kernel_rfl) (by kernel_rfl) (by kernel_rfl) (fun _ _ _ h => h) (Or.inl ⟨by rfl, ?hyb1⟩) hH0 ?rb1
                case hyb1 => (intro w' hSw; have x1 := hSw.cell hx1; have x5 := hSw.cell hx5; have x6 := hSw.cell hx6; have y5 := hSw.cell hy5; clear hSw; go_simp; try with_reducible rfl)
                simp only [Act.put, List.setIfInBounds_toArray, List.set_cons_zero, List.set_cons_succ]
                refine' wpAnyH_take (i := 2) (oi := { dst := some 16, op := Op.binOp BinOp.leq 27 (Operand.tmp 15) (Operand.const (Value.int IntKind.u32 65536)) 27, type := 4, pos := "leaf.go:100", after := #[{ on := 1, ground := Ground.data }], guard := none }) (v := _) rfl (by kernel_rfl) (by kernel_rfl) (by kernel_rfl) (fun _ _ _ h => h) (Or.inl ⟨by rfl, ?hyb2⟩) hH0 ?rb2
                case hyb2 => (intro w' hSw; have x1 := hSw.cell hx1; have x5 := hSw.cell hx5; have x6 := hSw.cell hx6; have y5 := hSw.cell hy5; clear hSw; go_simp; try with_reducible rfl)
                simp only [Act.put, List.setIfInBounds_toArray, List.set_cons_zero, List.set_cons_succ]
                refine' wpAnyH_take (i := 3) (oi := { dst := some 17, op := Op.move (Operand.tmp 16), type := 4, pos := "leaf.go:100", after := #[{ on := 2, ground := Ground.data }], guard := none }) (v := _) rfl (by kernel_rfl) (by kernel_rfl) (by kernel_rfl) (fun _ _ _ h => h) (Or.inl ⟨by rfl, ?hyb3⟩) hH0 ?rb3
                case hyb3 => (intro w' hSw; have x1 := hSw.cell hx1; have x5 := hSw.cell hx5; have x6 := hSw.cell hx6; have y5 := hSw.cell hy5; clear hSw; go_simp; try with_reducible rfl)
                simp only [Act.put, List.setIfInBounds_toArray, List.set_cons_zero, List.set_cons_succ]
                refine' wpAnyH_take (i := 4) (oi := { dst := some 18, op := Op.fieldAddr 33 (Operand.tmp 3) 6, type := 0, pos := "leaf.go:100", after := #[{ on := 3, ground := Ground.guard }], guard := some (3, true) }) (v := _) rfl (by kernel_rfl) (by kernel_rfl) (by kernel_rfl) (fun _ _ _ h => h) (Or.inl ⟨by rfl, ?hyb4⟩) hH0 ?rb4
                case hyb4 => (intro w' hSw; have x1 := hSw.cell hx1; have x5 := hSw.cell hx5; have x6 := hSw.cell hx6; have y5 := hSw.cell hy5; clear hSw; go_simp; try with_reducible rfl)
                simp only [Act.put, List.setIfInBounds_toArray, List.set_cons_zero, List.set_cons_succ]
                refine' wpAnyH_take (i := 5) (oi := { dst := some 19, op := Op.load 27 (Operand.tmp 18), type := 27, pos := "leaf.go:100", after := #[{ on := 4, ground := Ground.data }, { on := 3, ground := Ground.guard }], guard := some (3, true) }) (v := _) rfl (by kernel_rfl) (by kernel_rfl) (by kernel_rfl) (fun _ _ _ h => h) (Or.inl ⟨by rfl, ?hyb5⟩) hH0 ?rb5
                case hyb5 => (intro w' hSw; have x1 := hSw.cell hx1; have x5 := hSw.cell hx5; have x6 := hSw.cell hx6; have y5 := hSw.cell hy5; clear hSw; go_simp; try with_reducible rfl)
                simp only [Act.put, List.setIfInBounds_toArray, List.set_cons_zero, List.set_cons_succ]
                refine' wpAnyH_take (i := 6) (oi := { dst := some 20, op := Op.fieldAddr 33 (Operand.tmp 3) 1, type := 0, pos := "leaf.go:100", after := #[{ on := 3, ground := Ground.guard }], guard := some (3, true) }) (v := _) rfl (by kernel_rfl) (by kernel_rfl) (by kernel_rfl) (fun _ _ _ h => h) (Or.inl ⟨by rfl, ?hyb6⟩) hH0 ?rb6
                case hyb6 => (intro w' hSw; have x1 := hSw.cell hx1; have x5 := hSw.cell hx5; have x6 := hSw.cell hx6; have y5 := hSw.cell hy5; clear hSw; go_simp; try with_reducible rfl)
                simp only [Act.put, List.setIfInBounds_toArray, List.set_cons_zero, List.set_cons_succ]
                refine' wpAnyH_take (i := 7) (oi := { dst := some 21, op := Op.load 27 (Operand.tmp 20), type := 27, pos := "leaf.go:100", after := #[{ on := 6, ground := Ground.data }, { on := 3, ground := Ground.guard }], guard := some (3, true) }) (v := _) rfl (by kernel_rfl) (by kernel_rfl) (by kernel_rfl) (fun _ _ _ h => h) (Or.inl ⟨by rfl, ?hyb7⟩) hH0 ?rb7
                case hyb7 => (intro w' hSw; have x1 := hSw.cell hx1; have x5 := hSw.cell hx5; have x6 := hSw.cell hx6; have y5 := hSw.cell hy5; clear hSw; go_simp; try with_reducible rfl)
                simp only [Act.put, List.setIfInBounds_toArray, List.set_cons_zero, List.set_cons_succ]
                refine' wpAnyH_take (i := 8) (oi := { dst := some 22, op := Op.convert 27 3 (Operand.tmp 21), type := 3, pos := "leaf.go:100", after := #[{ on := 7, ground := Ground.data }, { on := 3, ground := Ground.guard }], guard := some (3, true) }) (v := _) rfl (by kernel_rfl) (by kernel_rfl) (by kernel_rfl) (fun _ _ _ h => h) (Or.inl ⟨by rfl, ?hyb8⟩) hH0 ?rb8
                case hyb8 => (intro w' hSw; have x1 := hSw.cell hx1; have x5 := hSw.cell hx5; have x6 := hSw.cell hx6; have y5 := hSw.cell hy5; clear hSw; go_simp; try with_reducible rfl)
                simp only [Act.put, List.setIfInBounds_toArray, List.set_cons_zero, List.set_cons_succ]
                refine wpAnyH_ready (rs := [9]) (by kernel_rfl) (by simp) ?_
                refine AllReadyH.cons (o := { dst := some 23, op := Op.call { callee := Callee.value (Operand.func 10), args := #[Operand.tmp 22], argTypes := #[3] }, type := 3, pos := "leaf.go:100", after := #[{ on := 8, ground := Ground.data }, { on := 3, ground := Ground.chain }, { on := 3, ground := Ground.guard }], guard := some (3, true) }) rfl (fun K hK => ?_) AllReadyH.nil
                refine step_call_want (vs := #[.int .i64 f.lba]) (R := fun v w' => v = .int .i64 T ∧ w' = wc.drew) (by rfl) 10 #[Operand.tmp 22] #[3] rfl (by simp [Act.eval]) call10 (post_w (hpg wc.drew)) ?_
                rintro _ _ ⟨rfl, rfl⟩
                refine hK.out _ _ ((Keep.refl (fun _ => False) wc).drew) (fun hH1 => ?_)
                clear hK K hH0
                simp only [Act.put, List.setIfInBounds_toArray, List.set_cons_zero, List.set_cons_succ]
                refine' wpAnyH_take (i := 10) (oi := { dst := some 24, op := Op.convert 3 27 (Operand.tmp 23), type := 27, pos := "leaf.go:100", after := #[{ on := 9, ground := Ground.data }, { on := 3, ground := Ground.guard }], guard := some (3, true) }) (v := _) rfl (by kernel_rfl) (by kernel_rfl) (by kernel_rfl) (fun _ _ _ h => h) (Or.inl ⟨by rfl, ?hyb10⟩) hH1 ?rb10
                case hyb10 => (intro w' hSw; have x1 := hSw.cell hx1; have x5 := hSw.cell hx5; have x6 := hSw.cell hx6; have y5 := hSw.cell hy5; clear hSw; go_simp; try with_reducible rfl)
                simp only [Act.put, List.setIfInBounds_toArray, List.set_cons_zero, List.set_cons_succ]
                refine' wpAnyH_take (i := 11) (oi := { dst := some 25, op := Op.binOp BinOp.eql 27 (Operand.tmp 19) (Operand.tmp 24) 27, type := 4, pos := "leaf.go:100", after := #[{ on := 5, ground := Ground.data }, { on := 10, ground := Ground.data }, { on := 3, ground := Ground.guard }], guard := some (3, true) }) (v := _) rfl (by kernel_rfl) (by kernel_rfl) (by kernel_rfl) (fun _ _ _ h => h) (Or.inl ⟨by rfl, ?hyb11⟩) hH1 ?rb11
                case hyb11 => (intro w' hSw; have x1 := hSw.cell hx1; have x5 := hSw.cell hx5; have x6 := hSw.cell hx6; have y5 := hSw.cell hy5; clear hSw; go_simp; try with_reducible rfl)
                simp only [Act.put, List.setIfInBounds_toArray, List.set_cons_zero, List.set_cons_succ]
                refine' wpAnyH_take (i := 12) (oi := { dst := some 26, op := Op.pick (Operand.tmp 17) (Operand.tmp 25) (Operand.const (Value.bool false)), type := 4, pos := "leaf.go:100", after := #[{ on := 3, ground := Ground.data }, { on := 11, ground := Ground.data }], guard := none }) (v := _) rfl (by kernel_rfl) (by kernel_rfl) (by kernel_rfl) (fun _ _ _ h => h) (Or.inl ⟨by rfl, ?hyb12⟩) hH1 ?rb12
                case hyb12 => (intro w' hSw; clear hSw; go_simp; try with_reducible rfl)
                simp only [Act.put, List.setIfInBounds_toArray, List.set_cons_zero, List.set_cons_succ]
                refine' wpAnyH_take (i := 13) (oi := { dst := some 27, op := Op.move (Operand.tmp 26), type := 4, pos := "leaf.go:100", after := #[{ on := 12, ground := Ground.data }, { on := 9, ground := Ground.chain }], guard := none }) (v := _) rfl (by kernel_rfl) (by kernel_rfl) (by kernel_rfl) (fun _ _ _ h => h) (Or.inl ⟨by rfl, ?hyb13⟩) hH1 ?rb13
                case hyb13 => (intro w' hSw; clear hSw; go_simp; try with_reducible rfl)
                simp only [Act.put, List.setIfInBounds_toArray, List.set_cons_zero, List.set_cons_succ]
                refine' wpAnyH_take (i := 14) (oi := { dst := some 28, op := Op.move (Operand.tmp 0), type := 23, pos := "leaf.go:100", after := #[{ on := 13, ground := Ground.guard }], guard := some (13, true) }) (v := _) rfl (by kernel_rfl) (by kernel_rfl) (by kernel_rfl) (fun _ _ _ h => h) (Or.inl ⟨by rfl, ?hyb14⟩) hH1 ?rb14
                case hyb14 => (intro w' hSw; clear hSw; go_simp; try with_reducible rfl)
                simp only [Act.put, List.setIfInBounds_toArray, List.set_cons_zero, List.set_cons_succ]
                refine wpAnyH_ready (rs := [15]) (by kernel_rfl) (by simp) ?_
                refine AllReadyH.cons (o := { dst := some 29, op := Op.call { callee := Callee.value (Operand.func 30), args := #[Operand.tmp 28], argTypes := #[23] }, type := 4, pos := "leaf.go:101", after := #[{ on := 14, ground := Ground.data }, { on := 13, ground := Ground.chain }, { on := 13, ground := Ground.guard }], guard := some (13, true) }) rfl (fun K hK => ?_) AllReadyH.nil
                refine step_call_want (vs := #[.slice (some ⟨g, o, none⟩) n cap]) (R := fun v w' => v = .bool true ∧ Keep (fun _ => False) wc.drew w') (by rfl) 30 #[Operand.tmp 28] #[23] rfl (by simp [Act.eval]) call30 (post_w (hag wc.drew (Keep.refl _ _).drew)) ?_
                rintro _ w5 ⟨rfl, k5⟩
                refine hK.out _ _ ((Keep.refl (fun _ => False) wc).drew.trans k5) (fun hH2 => ?_)
                clear hK K hH1
                simp only [Act.put, List.setIfInBounds_toArray, List.set_cons_zero, List.set_cons_succ]
                refine' wpAnyH_take (i := 16) (oi := { dst := some 30, op := Op.pick (Operand.tmp 27) (Operand.tmp 29) (Operand.const (Value.bool false)), type := 4, pos := "leaf.go:100", after := #[{ on := 13, ground := Ground.data }, { on := 15, ground := Ground.data }], guard := none }) (v := _) rfl (by kernel_rfl) (by kernel_rfl) (by kernel_rfl) (fun _ _ _ h => h) (Or.inl ⟨by rfl, ?hyb16⟩) hH2 ?rb16
                case hyb16 => (intro w' hSw; clear hSw; go_simp; try with_reducible rfl)
                simp only [Act.put, List.setIfInBounds_toArray, List.set_cons_zero, List.set_cons_succ]
                refine' wpAnyH_take (i := 17) (oi := { dst := some 31, op := Op.move (Operand.tmp 30), type := 4, pos := "leaf.go:100", after := #[{ on := 16, ground := Ground.data }, { on := 15, ground := Ground.chain }], guard := none }) (v := _) rfl (by kernel_rfl) (by kernel_rfl) (by kernel_rfl) (fun _ _ _ h => h) (Or.inl ⟨by rfl, ?hyb17⟩) hH2 ?rb17
                case hyb17 => (intro w' hSw; clear hSw; go_simp; try with_reducible rfl)
                simp only [Act.put, List.setIfInBounds_toArray, List.set_cons_zero, List.set_cons_succ]
                refine' wpAnyH_take (i := 18) (oi := { dst := some 32, op := Op.fieldAddr 33 (Operand.tmp 3) 5, type := 0, pos := "leaf.go:100", after := #[{ on := 17, ground := Ground.guard }], guard := some (17, true) }) (v := _) rfl (by kernel_rfl) (by kernel_rfl) (by kernel_rfl) (fun _ _ _ h => h) (Or.inl ⟨by rfl, ?hyb18⟩) hH2 ?rb18
                case hyb18 => (intro w' hSw; have x1 := hSw.cell hx1; have x5 := hSw.cell hx5; have x6 := hSw.cell hx6; have y5 := hSw.cell hy5; clear hSw; go_simp; try with_reducible rfl)
                simp only [Act.put, List.setIfInBounds_toArray, List.set_cons_zero, List.set_cons_succ]
                refine' wpAnyH_take (i := 19) (oi := { dst := some 33, op := Op.load 27 (Operand.tmp 32), type := 27, pos := "leaf.go:100", after := #[{ on := 18, ground := Ground.data }, { on := 17, ground := Ground.guard }], guard := some (17, true) }) (v := _) rfl (by kernel_rfl) (by kernel_rfl) (by kernel_rfl) (fun _ _ _ h => h) (Or.inl ⟨by rfl, ?hyb19⟩) hH2 ?rb19
                case hyb19 => (intro w' hSw; have x1 := hSw.cell hx1; have x5 := hSw.cell hx5; have x6 := hSw.cell hx6; have y5 := hSw.cell hy5; clear hSw; go_simp; try with_reducible rfl)
                simp only [Act.put, List.setIfInBounds_toArray, List.set_cons_zero, List.set_cons_succ]
                refine' wpAnyH_take (i := 20) (oi := { dst := some 34, op := Op.binOp BinOp.eql 27 (Operand.tmp 33) (Operand.const (Value.int IntKind.u32 0)) 27, type := 4, pos := "leaf.go:100", after := #[{ on := 19, ground := Ground.data }, { on := 17, ground := Ground.guard }], guard := some (17, true) }) (v := _) rfl (by kernel_rfl) (by kernel_rfl) (by kernel_rfl) (fun _ _ _ h => h) (Or.inl ⟨by rfl, ?hyb20⟩) hH2 ?rb20
                case hyb20 => (intro w' hSw; have x1 := hSw.cell hx1; have x5 := hSw.cell hx5; have x6 := hSw.cell hx6; have y5 := hSw.cell hy5; clear hSw; go_simp; try with_reducible rfl)
                simp only [Act.put, List.setIfInBounds_toArray, List.set_cons_zero, List.set_cons_succ]
                refine' wpAnyH_take (i := 21) (oi := { dst := some 35, op := Op.pick (Operand.tmp 31) (Operand.tmp 34) (Operand.const (Value.bool false)), type := 4, pos := "leaf.go:100", after := #[{ on := 17, ground := Ground.data }, { on := 20, ground := Ground.data }], guard := none }) (v := _) rfl (by kernel_rfl) (by kernel_rfl) (by kernel_rfl) (fun _ _ _ h => h) (Or.inl ⟨by rfl, ?hyb21⟩) hH2 ?rb21
                case hyb21 => (intro w' hSw; clear hSw; go_simp; try with_reducible rfl)
                simp only [Act.put, List.setIfInBounds_toArray, List.set_cons_zero, List.set_cons_succ]
                refine' wpAnyH_take (i := 22) (oi := { dst := some 36, op := Op.move (Operand.tmp 35), type := 4, pos := "leaf.go:100", after := #[{ on := 21, ground := Ground.data }, { on := 17, ground := Ground.chain }], guard := none }) (v := _) rfl (by kernel_rfl) (by kernel_rfl) (by kernel_rfl) (fun _ _ _ h => h) (Or.inl ⟨by rfl, ?hyb22⟩) hH2 ?rb22
                case hyb22 => (intro w' hSw; clear hSw; go_simp; try with_reducible rfl)
                simp only [Act.put, List.setIfInBounds_toArray, List.set_cons_zero, List.set_cons_succ]
                refine' wpAnyH_take (i := 23) (oi := { dst := some 37, op := Op.fieldAddr 33 (Operand.tmp 4) 5, type := 0, pos := "leaf.go:100", after := #[{ on := 22, ground := Ground.guard }], guard := some (22, true) }) (v := _) rfl (by kernel_rfl) (by kernel_rfl) (by kernel_rfl) (fun _ _ _ h => h) (Or.inl ⟨by rfl, ?hyb23⟩) hH2 ?rb23
                case hyb23 => (intro w' hSw; have x1 := hSw.cell hx1; have x5 := hSw.cell hx5; have x6 := hSw.cell hx6; have y5 := hSw.cell hy5; clear hSw; go_simp; try with_reducible rfl)
                simp only [Act.put, List.setIfInBounds_toArray, List.set_cons_zero, List.set_cons_succ]
                refine' wpAnyH_take (i := 24) (oi := { dst := some 38, op := Op.load 27 (Operand.tmp 37), type := 27, pos := "leaf.go:100", after := #[{ on := 23, ground := Ground.data }, { on := 22, ground := Ground.guard }], guard := some (22, true) }) (v := _) rfl (by kernel_rfl) (by kernel_rfl) (by kernel_rfl) (fun _ _ _ h => h) (Or.inl ⟨by rfl, ?hyb24⟩) hH2 ?rb24
                case hyb24 => (intro w' hSw; have x1 := hSw.cell hx1; have x5 := hSw.cell hx5; have x6 := hSw.cell hx6; have y5 := hSw.cell hy5; clear hSw; go_simp; try with_reducible rfl)
                simp only [Act.put, List.setIfInBounds_toArray, List.set_cons_zero, List.set_cons_succ]
                refine' wpAnyH_take (i := 25) (oi := { dst := some 39, op := Op.fieldAddr 33 (Operand.tmp 3) 6, type := 0, pos := "leaf.go:100", after := #[{ on := 22, ground := Ground.guard }], guard := some (22, true) }) (v := _) rfl (by kernel_rfl) (by kernel_rfl) (by kernel_rfl) (fun _ _ _ h => h) (Or.inl ⟨by rfl, ?hyb25⟩) hH2 ?rb25
                case hyb25 => (intro w' hSw; have x1 := hSw.cell hx1; have x5 := hSw.cell hx5; have x6 := hSw.cell hx6; have y5 := hSw.cell hy5; clear hSw; go_simp; try with_reducible rfl)
                simp only [Act.put, List.setIfInBounds_toArray, List.set_cons_zero, List.set_cons_succ]
                refine' wpAnyH_take (i := 26) (oi := { dst := some 40, op := Op.load 27 (Operand.tmp 39), type := 27, pos := "leaf.go:100", after := #[{ on := 25, ground := Ground.data }, { on := 22, ground := Ground.guard }], guard := some (22, true) }) (v := _) rfl (by kernel_rfl) (by kernel_rfl) (by kernel_rfl) (fun _ _ _ h => h) (Or.inl ⟨by rfl, ?hyb26⟩) hH2 ?rb26
                case hyb26 => (intro w' hSw; have x1 := hSw.cell hx1; have x5 := hSw.cell hx5; have x6 := hSw.cell hx6; have y5 := hSw.cell hy5; clear hSw; go_simp; try with_reducible rfl)
                simp only [Act.put, List.setIfInBounds_toArray, List.set_cons_zero, List.set_cons_succ]
                refine' wpAnyH_take (i := 27) (oi := { dst := some 41, op := Op.binOp BinOp.sub 27 (Operand.tmp 40) (Operand.const (Value.int IntKind.u32 1)) 27, type := 27, pos := "leaf.go:100", after := #[{ on := 26, ground := Ground.data }, { on := 22, ground := Ground.guard }], guard := some (22, true) }) (v := _) rfl (by kernel_rfl) (by kernel_rfl) (by kernel_rfl) (fun _ _ _ h => h) (Or.inl ⟨by rfl, ?hyb27⟩) hH2 ?rb27
                case hyb27 => (intro w' hSw; have x1 := hSw.cell hx1; have x5 := hSw.cell hx5; have x6 := hSw.cell hx6; have y5 := hSw.cell hy5; clear hSw; go_simp; try with_reducible rfl)
                simp only [Act.put, List.setIfInBounds_toArray, List.set_cons_zero, List.set_cons_succ]
                refine' wpAnyH_take (i := 28) (oi := { dst := some 42, op := Op.binOp BinOp.eql 27 (Operand.tmp 38) (Operand.tmp 41) 27, type := 4, pos := "leaf.go:100", after := #[{ on := 24, ground := Ground.data }, { on := 27, ground := Ground.data }, { on := 22, ground := Ground.guard }], guard := some (22, true) }) (v := _) rfl (by kernel_rfl) (by kernel_rfl) (by kernel_rfl) (fun _ _ _ h => h) (Or.inl ⟨by rfl, ?hyb28⟩) hH2 ?rb28
                case hyb28 => (intro w' hSw; have x1 := hSw.cell hx1; have x5 := hSw.cell hx5; have x6 := hSw.cell hx6; have y5 := hSw.cell hy5; clear hSw; go_simp; try with_reducible rfl)
                simp only [Act.put, List.setIfInBounds_toArray, List.set_cons_zero, List.set_cons_succ]
                refine' wpAnyH_take (i := 29) (oi := { dst := some 43, op := Op.pick (Operand.tmp 36) (Operand.tmp 42) (Operand.const (Value.bool false)), type := 4, pos := "leaf.go:100", after := #[{ on := 22, ground := Ground.data }, { on := 28, ground := Ground.data }], guard := none }) (v := _) rfl (by kernel_rfl) (by kernel_rfl) (by kernel_rfl) (fun _ _ _ h => h) (Or.inl ⟨by rfl, ?hyb29⟩) hH2 ?rb29
                case hyb29 => (intro w' hSw; clear hSw; go_simp; try with_reducible rfl)
                simp only [Act.put, List.setIfInBounds_toArray, List.set_cons_zero, List.set_cons_succ]
                refine' wpAnyH_take (i := 30) (oi := { dst := some 44, op := Op.move (Operand.tmp 43), type := 4, pos := "leaf.go:100", after := #[{ on := 29, ground := Ground.data }, { on := 22, ground := Ground.chain }], guard := none }) (v := _) rfl (by kernel_rfl) (by kernel_rfl) (by kernel_rfl) (fun _ _ _ h => h) (Or.inl ⟨by rfl, ?hyb30⟩) hH2 ?rb30
                case hyb30 => (intro w' hSw; clear hSw; go_simp; try with_reducible rfl)
                simp only [Act.put, List.setIfInBounds_toArray, List.set_cons_zero, List.set_cons_succ]
                refine' wpAnyH_take (i := 31) (oi := { dst := some 45, op := Op.load 33 (Operand.tmp 4), type := 33, pos := "leaf.go:100", after := #[{ on := 30, ground := Ground.guard }], guard := some (30, true) }) (v := .agg (pgA z)) rfl (by kernel_rfl) (by kernel_rfl) (by kernel_rfl) (fun _ _ _ h => h) (yields_load (by rfl) 33 (.tmp 4) rfl (by rfl) hlz) hH2 ?rb31
                simp only [Act.put, List.setIfInBounds_toArray, List.set_cons_zero, List.set_cons_succ]
                refine wpAnyH_ready (rs := [32]) (by kernel_rfl) (by simp) ?_
                refine AllReadyH.cons (o := { dst := some 46, op := Op.call { callee := Callee.value (Operand.func 31), args := #[Operand.tmp 45], argTypes := #[33] }, type := 4, pos := "leaf.go:101", after := #[{ on := 31, ground := Ground.data }, { on := 30, ground := Ground.chain }, { on := 30, ground := Ground.guard }], guard := some (30, true) }) rfl (fun K hK => ?_) AllReadyH.nil
                refine step_call_want (vs := #[.agg (pgA z)]) (R := fun v w' => v = .bool true ∧ Keep (fun _ => False) w5 w') (by rfl) 31 #[Operand.tmp 45] #[33] rfl (by simp [Act.eval]) call31 (post_w (hfl w5)) ?_
                rintro _ w6 ⟨rfl, k6⟩
                refine hK.out _ _ (((Keep.refl (fun _ => False) wc).drew.trans k5).trans k6) (fun hH3 => ?_)
                clear hK K hH2
                simp only [Act.put, List.setIfInBounds_toArray, List.set_cons_zero, List.set_cons_succ]
                refine' wpAnyH_take (i := 33) (oi := { dst := some 47, op := Op.pick (Operand.tmp 44) (Operand.tmp 46) (Operand.const (Value.bool false)), type := 4, pos := "leaf.go:100", after := #[{ on := 30, ground := Ground.data }, { on := 32, ground := Ground.data }], guard := none }) (v := _) rfl (by kernel_rfl) (by kernel_rfl) (by kernel_rfl) (fun _ _ _ h => h) (Or.inl ⟨by rfl, ?hyb33⟩) hH3 ?rb33
                case hyb33 => (intro w' hSw; clear hSw; go_simp; try with_reducible rfl)
                simp only [Act.put, List.setIfInBounds_toArray, List.set_cons_zero, List.set_cons_succ]
                refine' wpAnyH_take (i := 34) (oi := { dst := some 2, op := Op.assign (Operand.tmp 47), type := 4, pos := "leaf.go:100", after := #[{ on := 33, ground := Ground.data }, { on := 32, ground := Ground.chain }, { on := 0, ground := Ground.phase }, { on := 1, ground := Ground.phase }, { on := 2, ground := Ground.phase }, { on := 3, ground := Ground.phase }, { on := 4, ground := Ground.phase }, { on := 5, ground := Ground.phase }, { on := 6, ground := Ground.phase }, { on := 7, ground := Ground.phase }, { on := 8, ground := Ground.phase }, { on := 9, ground := Ground.phase }, { on := 10, ground := Ground.phase }, { on := 11, ground := Ground.phase }, { on := 12, ground := Ground.phase }, { on := 13, ground := Ground.phase }, { on := 14, ground := Ground.phase }, { on := 15, ground := Ground.phase }, { on := 16, ground := Ground.phase }, { on := 17, ground := Ground.phase }, { on := 18, ground := Ground.phase }, { on := 19, ground := Ground.phase }, { on := 20, ground := Ground.phase }, { on := 21, ground := Ground.phase }, { on := 22, ground := Ground.phase }, { on := 23, ground := Ground.phase }, { on := 24, ground := Ground.phase }, { on := 25, ground := Ground.phase }, { on := 26, ground := Ground.phase }, { on := 27, ground := Ground.phase }, { on := 28, ground := Ground.phase }, { on := 29, ground := Ground.phase }, { on := 30, ground := Ground.phase }, { on := 31, ground := Ground.phase }, { on := 32, ground := Ground.phase }, { on := 33, ground := Ground.phase }], guard := none }) (v := _) rfl (by kernel_rfl) (by kernel_rfl) (by kernel_rfl) (fun _ _ _ h => h) (Or.inl ⟨by rfl, ?hyb34⟩) hH3 ?rb34
                case hyb34 => (intro w' hSw; clear hSw; go_simp; try with_reducible rfl)
                simp only [Act.put, List.setIfInBounds_toArray, List.set_cons_zero, List.set_cons_succ]
                refine wpAnyH_done (by kernel_rfl) ?_ _
                refine NoPanic.normal ?_
                go_wp2_with fail
                go_ret
                exact Bl.yes rfl hres (K9.trans (((Keep.refl (fun _ => False) wc).drew.trans k5).trans k6))
              · have hfl := fun w' => Bl.neg (hfa w') h6
                have hres : Hid (¬ SG) := fun hs => h6 (hfe.1 ((show SG ↔ _ from hsayT).1 hs).2.2.2.2.2)
                clear hfa h6 hfe hzlb ht h1 h2 h4 h5 hT3 hsayT hzl
                refine wp_region_noPanic ?_
                refine wp_region_held_drew (S := fun w' => Keep (fun _ => False) wc w') (by kernel_rfl) ((Keep.refl (fun _ => False) wc).drew) (fun hH0 => ?_)
                refine' wpAnyH_take (i := 0) (oi := { dst := some 14, op := Op.fieldAddr 33 (Operand.tmp 3) 1, type := 0, pos := "leaf.go:100", after := #[], guard := none }) (v := _) rfl (by kernel_rfl) (by kernel_rfl) (by kernel_rfl) (fun _ _ _ h => h) (Or.inl ⟨by rfl, ?hyc0⟩) hH0 ?rc0
                case hyc0 => (intro w' hSw; have x1 := hSw.cell hx1; have x5 := hSw.cell hx5; have x6 := hSw.cell hx6; have y5 := hSw.cell hy5; clear hSw; go_simp; try with_reducible rfl)
                simp only [Act.put, List.setIfInBounds_toArray, List.set_cons_zero, List.set_cons_succ]
                refine' wpAnyH_take (i := 1) (oi := { dst := some 15, op := Op.load 27 (Operand.tmp 14), type := 27, pos := "leaf.go:100", after := #[{ on := 0, ground := Ground.data }], guard := none }) (v := _) rfl (by kernel_rfl) (by kernel_rfl) (by kernel_rfl) (fun _ _ _ h => h) (Or.inl ⟨by rfl, ?hyc1⟩) hH0 ?rc1
                case hyc1 => (intro w' hSw; have x1 := hSw.cell hx1; have x5 := hSw.cell hx5; have x6 := hSw.cell hx6; have y5 := hSw.cell hy5; clear hSw; go_simp; try with_reducible rfl)
                simp only [Act.put, List.setIfInBounds_toArray, List.set_cons_zero, List.set_cons_succ]
                refine' wpAnyH_take (i := 2) (oi := { dst := some 16, op := Op.binOp BinOp.leq 27 (Operand.tmp 15) (Operand.const (Value.int IntKind.u32 65536)) 27, type := 4, pos := "leaf.go:100", after := #[{ on := 1, ground := Ground.data }], guard := none }) (v := _) rfl (by kernel_rfl) (by kernel_rfl) (by kernel_rfl) (fun _ _ _ h => h) (Or.inl ⟨by rfl, ?hyc2⟩) hH0 ?rc2
                case hyc2 => (intro w' hSw; have x1 := hSw.cell hx1; have x5 := hSw.cell hx5; have x6 := hSw.cell hx6; have y5 := hSw.cell hy5; clear hSw; go_simp; try with_reducible rfl)
                simp only [Act.put, List.setIfInBounds_toArray, List.set_cons_zero, List.set_cons_succ]
                refine' wpAnyH_take (i := 3) (oi := { dst := some 17, op := Op.move (Operand.tmp 16), type := 4, pos := "leaf.go:100", after := #[{ on := 2, ground := Ground.data }], guard := none }) (v := _) rfl (by kernel_rfl) (by kernel_rfl) (by kernel_rfl) (fun _ _ _ h => h) (Or.inl ⟨by rfl, ?hyc3⟩) hH0 ?rc3
                case hyc3 => (intro w' hSw; have x1 := hSw.cell hx1; have x5 := hSw.cell hx5; have x6 := hSw.cell hx6; have y5 := hSw.cell hy5; clear hSw; go_simp; try with_reducible rfl)
                simp only [Act.put, List.setIfInBounds_toArray, List.set_cons_zero, List.set_cons_succ]
                refine' wpAnyH_take (i := 4) (oi := { dst := some 18, op := Op.fieldAddr 33 (Operand.tmp 3) 6, type := 0, pos := "leaf.go:100", after := #[{ on := 3, ground := Ground.guard }], guard := some (3, true) }) (v := _) rfl (by kernel_rfl) (by kernel_rfl) (by kernel_rfl) (fun _ _ _ h => h) (Or.inl ⟨by rfl, ?hyc4⟩) hH0 ?rc4
                case hyc4 => (intro w' hSw; have x1 := hSw.cell hx1; have x5 := hSw.cell hx5; have x6 := hSw.cell hx6; have y5 := hSw.cell hy5; clear hSw; go_simp; try with_reducible rfl)
                simp only [Act.put, List.setIfInBounds_toArray, List.set_cons_zero, List.set_cons_succ]
                refine' wpAnyH_take (i := 5) (oi := { dst := some 19, op := Op.load 27 (Operand.tmp 18), type := 27, pos := "leaf.go:100", after := #[{ on := 4, ground := Ground.data }, { on := 3, ground := Ground.guard }], guard := some (3, true) }) (v := _) rfl (by kernel_rfl) (by kernel_rfl) (by kernel_rfl) (fun _ _ _ h => h) (Or.inl ⟨by rfl, ?hyc5⟩) hH0 ?rc5
                case hyc5 => (intro w' hSw; have x1 := hSw.cell hx1; have x5 := hSw.cell hx5; have x6 := hSw.cell hx6; have y5 := hSw.cell hy5; clear hSw; go_simp; try with_reducible rfl)
                simp only [Act.put, List.setIfInBounds_toArray, List.set_cons_zero, List.set_cons_succ]
                refine' wpAnyH_take (i := 6) (oi := { dst := some 20, op := Op.fieldAddr 33 (Operand.tmp 3) 1, type := 0, pos := "leaf.go:100", after := #[{ on := 3, ground := Ground.guard }], guard := some (3, true) }) (v := _) rfl (by kernel_rfl) (by kernel_rfl) (by kernel_rfl) (fun _ _ _ h => h) (Or.inl ⟨by rfl, ?hyc6⟩) hH0 ?rc6
                case hyc6 => (intro w' hSw; have x1 := hSw.cell hx1; have x5 := hSw.cell hx5; have x6 := hSw.cell hx6; have y5 := hSw.cell hy5; clear hSw; go_simp; try with_reducible rfl)
                simp only [Act.put, List.setIfInBounds_toArray, List.set_cons_zero, List.set_cons_succ]
                refine' wpAnyH_take (i := 7) (oi := { dst := some 21, op := Op.load 27 (Operand.tmp 20), type := 27, pos := "leaf.go:100", after := #[{ on := 6, ground := Ground.data }, { on := 3, ground := Ground.guard }], guard := some (3, true) }) (v := _) rfl (by kernel_rfl) (by kernel_rfl) (by kernel_rfl) (fun _ _ _ h => h) (Or.inl ⟨by rfl, ?hyc7⟩) hH0 ?rc7
                case hyc7 => (intro w' hSw; have x1 := hSw.cell hx1; have x5 := hSw.cell hx5; have x6 := hSw.cell hx6; have y5 := hSw.cell hy5; clear hSw; go_simp; try with_reducible rfl)
                simp only [Act.put, List.setIfInBounds_toArray, List.set_cons_zero, List.set_cons_succ]
                refine' wpAnyH_take (i := 8) (oi := { dst := some 22, op := Op.convert 27 3 (Operand.tmp 21), type := 3, pos := "leaf.go:100", after := #[{ on := 7, ground := Ground.data }, { on := 3, ground := Ground.guard }], guard := some (3, true) }) (v := _) rfl (by kernel_rfl) (by kernel_rfl) (by kernel_rfl) (fun _ _ _ h => h) (Or.inl ⟨by rfl, ?hyc8⟩) hH0 ?rc8
                case hyc8 => (intro w' hSw; have x1 := hSw.cell hx1; have x5 := hSw.cell hx5; have x6 := hSw.cell hx6; have y5 := hSw.cell hy5; clear hSw; go_simp; try with_reducible rfl)
                simp only [Act.put, List.setIfInBounds_toArray, List.set_cons_zero, List.set_cons_succ]
                refine wpAnyH_ready (rs := [9]) (by kernel_rfl) (by simp) ?_
                refine AllReadyH.cons (o := { dst := some 23, op := Op.call { callee := Callee.value (Operand.func 10), args := #[Operand.tmp 22], argTypes := #[3] }, type := 3, pos := "leaf.go:100", after := #[{ on := 8, ground := Ground.data }, { on := 3, ground := Ground.chain }, { on := 3, ground := Ground.guard }], guard := some (3, true) }) rfl (fun K hK => ?_) AllReadyH.nil
                refine step_call_want (vs := #[.int .i64 f.lba]) (R := fun v w' => v = .int .i64 T ∧ w' = wc.drew) (by rfl) 10 #[Operand.tmp 22] #[3] rfl (by simp [Act.eval]) call10 (post_w (hpg wc.drew)) ?_
                rintro _ _ ⟨rfl, rfl⟩
                refine hK.out _ _ ((Keep.refl (fun _ => False) wc).drew) (fun hH1 => ?_)
                clear hK K hH0
                simp only [Act.put, List.setIfInBounds_toArray, List.set_cons_zero, List.set_cons_succ]
                refine' wpAnyH_take (i := 10) (oi := { dst := some 24, op := Op.convert 3 27 (Operand.tmp 23), type := 27, pos := "leaf.go:100", after := #[{ on := 9, ground := Ground.data }, { on := 3, ground := Ground.guard }], guard := some (3, true) }) (v := _) rfl (by kernel_rfl) (by kernel_rfl) (by kernel_rfl) (fun _ _ _ h => h) (Or.inl ⟨by rfl, ?hyc10⟩) hH1 ?rc10
                case hyc10 => (intro w' hSw; have x1 := hSw.cell hx1; have x5 := hSw.cell hx5; have x6 := hSw.cell hx6; have y5 := hSw.cell hy5; clear hSw; go_simp; try with_reducible rfl)
                simp only [Act.put, List.setIfInBounds_toArray, List.set_cons_zero, List.set_cons_succ]
                refine' wpAnyH_take (i := 11) (oi := { dst := some 25, op := Op.binOp BinOp.eql 27 (Operand.tmp 19) (Operand.tmp 24) 27, type := 4, pos := "leaf.go:100", after := #[{ on := 5, ground := Ground.data }, { on := 10, ground := Ground.data }, { on := 3, ground := Ground.guard }], guard := some (3, true) }) (v := _) rfl (by kernel_rfl) (by kernel_rfl) (by kernel_rfl) (fun _ _ _ h => h) (Or.inl ⟨by rfl, ?hyc11⟩) hH1 ?rc11
                case hyc11 => (intro w' hSw; have x1 := hSw.cell hx1; have x5 := hSw.cell hx5; have x6 := hSw.cell hx6; have y5 := hSw.cell hy5; clear hSw; go_simp; try with_reducible rfl)
                simp only [Act.put, List.setIfInBounds_toArray, List.set_cons_zero, List.set_cons_succ]
                refine' wpAnyH_take (i := 12) (oi := { dst := some 26, op := Op.pick (Operand.tmp 17) (Operand.tmp 25) (Operand.const (Value.bool false)), type := 4, pos := "leaf.go:100", after := #[{ on := 3, ground := Ground.data }, { on := 11, ground := Ground.data }], guard := none }) (v := _) rfl (by kernel_rfl) (by kernel_rfl) (by kernel_rfl) (fun _ _ _ h => h) (Or.inl ⟨by rfl, ?hyc12⟩) hH1 ?rc12
                case hyc12 => (intro w' hSw; clear hSw; go_simp; try with_reducible rfl)
                simp only [Act.put, List.setIfInBounds_toArray, List.set_cons_zero, List.set_cons_succ]
                refine' wpAnyH_take (i := 13) (oi := { dst := some 27, op := Op.move (Operand.tmp 26), type := 4, pos := "leaf.go:100", after := #[{ on := 12, ground := Ground.data }, { on := 9, ground := Ground.chain }], guard := none }) (v := _) rfl (by kernel_rfl) (by kernel_rfl) (by kernel_rfl) (fun _ _ _ h => h) (Or.inl ⟨by rfl, ?hyc13⟩) hH1 ?rc13
                case hyc13 => (intro w' hSw; clear hSw; go_simp; try with_reducible rfl)
                simp only [Act.put, List.setIfInBounds_toArray, List.set_cons_zero, List.set_cons_succ]
                refine' wpAnyH_take (i := 14) (oi := { dst := some 28, op := Op.move (Operand.tmp 0), type := 23, pos := "leaf.go:100", after := #[{ on := 13, ground := Ground.guard }], guard := some (13, true) }) (v := _) rfl (by kernel_rfl) (by kernel_rfl) (by kernel_rfl) (fun _ _ _ h => h) (Or.inl ⟨by rfl, ?hyc14⟩) hH1 ?rc14
                case hyc14 => (intro w' hSw; clear hSw; go_simp; try with_reducible rfl)
                simp only [Act.put, List.setIfInBounds_toArray, List.set_cons_zero, List.set_cons_succ]
                refine wpAnyH_ready (rs := [15]) (by kernel_rfl) (by simp) ?_
                refine AllReadyH.cons (o := { dst := some 29, op := Op.call { callee := Callee.value (Operand.func 30), args := #[Operand.tmp 28], argTypes := #[23] }, type := 4, pos := "leaf.go:101", after := #[{ on := 14, ground := Ground.data }, { on := 13, ground := Ground.chain }, { on := 13, ground := Ground.guard }], guard := some (13, true) }) rfl (fun K hK => ?_) AllReadyH.nil
                refine step_call_want (vs := #[.slice (some ⟨g, o, none⟩) n cap]) (R := fun v w' => v = .bool true ∧ Keep (fun _ => False) wc.drew w') (by rfl) 30 #[Operand.tmp 28] #[23] rfl (by simp [Act.eval]) call30 (post_w (hag wc.drew (Keep.refl _ _).drew)) ?_
                rintro _ w5 ⟨rfl, k5⟩
                refine hK.out _ _ ((Keep.refl (fun _ => False) wc).drew.trans k5) (fun hH2 => ?_)
                clear hK K hH1
                simp only [Act.put, List.setIfInBounds_toArray, List.set_cons_zero, List.set_cons_succ]
                refine' wpAnyH_take (i := 16) (oi := { dst := some 30, op := Op.pick (Operand.tmp 27) (Operand.tmp 29) (Operand.const (Value.bool false)), type := 4, pos := "leaf.go:100", after := #[{ on := 13, ground := Ground.data }, { on := 15, ground := Ground.data }], guard := none }) (v := _) rfl (by kernel_rfl) (by kernel_rfl) (by kernel_rfl) (fun _ _ _ h => h) (Or.inl ⟨by rfl, ?hyc16⟩) hH2 ?rc16
                case hyc16 => (intro w' hSw; clear hSw; go_simp; try with_reducible rfl)
                simp only [Act.put, List.setIfInBounds_toArray, List.set_cons_zero, List.set_cons_succ]
                refine' wpAnyH_take (i := 17) (oi := { dst := some 31, op := Op.move (Operand.tmp 30), type := 4, pos := "leaf.go:100", after := #[{ on := 16, ground := Ground.data }, { on := 15, ground := Ground.chain }], guard := none }) (v := _) rfl (by kernel_rfl) (by kernel_rfl) (by kernel_rfl) (fun _ _ _ h => h) (Or.inl ⟨by rfl, ?hyc17⟩) hH2 ?rc17
                case hyc17 => (intro w' hSw; clear hSw; go_simp; try with_reducible rfl)
                simp only [Act.put, List.setIfInBounds_toArray, List.set_cons_zero, List.set_cons_succ]
                refine' wpAnyH_take (i := 18) (oi := { dst := some 32, op := Op.fieldAddr 33 (Operand.tmp 3) 5, type := 0, pos := "leaf.go:100", after := #[{ on := 17, ground := Ground.guard }], guard := some (17, true) }) (v := _) rfl (by kernel_rfl) (by kernel_rfl) (by kernel_rfl) (fun _ _ _ h => h) (Or.inl ⟨by rfl, ?hyc18⟩) hH2 ?rc18
                case hyc18 => (intro w' hSw; have x1 := hSw.cell hx1; have x5 := hSw.cell hx5; have x6 := hSw.cell hx6; have y5 := hSw.cell hy5; clear hSw; go_simp; try with_reducible rfl)
                simp only [Act.put, List.setIfInBounds_toArray, List.set_cons_zero, List.set_cons_succ]
                refine' wpAnyH_take (i := 19) (oi := { dst := some 33, op := Op.load 27 (Operand.tmp 32), type := 27, pos := "leaf.go:100", after := #[{ on := 18, ground := Ground.data }, { on := 17, ground := Ground.guard }], guard := some (17, true) }) (v := _) rfl (by kernel_rfl) (by kernel_rfl) (by kernel_rfl) (fun _ _ _ h => h) (Or.inl ⟨by rfl, ?hyc19⟩) hH2 ?rc19
                case hyc19 => (intro w' hSw; have x1 := hSw.cell hx1; have x5 := hSw.cell hx5; have x6 := hSw.cell hx6; have y5 := hSw.cell hy5; clear hSw; go_simp; try with_reducible rfl)
                simp only [Act.put, List.setIfInBounds_toArray, List.set_cons_zero, List.set_cons_succ]
                refine' wpAnyH_take (i := 20) (oi := { dst := some 34, op := Op.binOp BinOp.eql 27 (Operand.tmp 33) (Operand.const (Value.int IntKind.u32 0)) 27, type := 4, pos := "leaf.go:100", after := #[{ on := 19, ground := Ground.data }, { on := 17, ground := Ground.guard }], guard := some (17, true) }) (v := _) rfl (by kernel_rfl) (by kernel_rfl) (by kernel_rfl) (fun _ _ _ h => h) (Or.inl ⟨by rfl, ?hyc20⟩) hH2 ?rc20
                case hyc20 => (intro w' hSw; have x1 := hSw.cell hx1; have x5 := hSw.cell hx5; have x6 := hSw.cell hx6; have y5 := hSw.cell hy5; clear hSw; go_simp; try with_reducible rfl)
                simp only [Act.put, List.setIfInBounds_toArray, List.set_cons_zero, List.set_cons_succ]
                refine' wpAnyH_take (i := 21) (oi := { dst := some 35, op := Op.pick (Operand.tmp 31) (Operand.tmp 34) (Operand.const (Value.bool false)), type := 4, pos := "leaf.go:100", after := #[{ on := 17, ground := Ground.data }, { on := 20, ground := Ground.data }], guard := none }) (v := _) rfl (by kernel_rfl) (by kernel_rfl) (by kernel_rfl) (fun _ _ _ h => h) (Or.inl ⟨by rfl, ?hyc21⟩) hH2 ?rc21
                case hyc21 => (intro w' hSw; clear hSw; go_simp; try with_reducible rfl)
                simp only [Act.put, List.setIfInBounds_toArray, List.set_cons_zero, List.set_cons_succ]
                refine' wpAnyH_take (i := 22) (oi := { dst := some 36, op := Op.move (Operand.tmp 35), type := 4, pos := "leaf.go:100", after := #[{ on := 21, ground := Ground.data }, { on := 17, ground := Ground.chain }], guard := none }) (v := _) rfl (by kernel_rfl) (by kernel_rfl) (by kernel_rfl) (fun _ _ _ h => h) (Or.inl ⟨by rfl, ?hyc22⟩) hH2 ?rc22
                case hyc22 => (intro w' hSw; clear hSw; go_simp; try with_reducible rfl)
                simp only [Act.put, List.setIfInBounds_toArray, List.set_cons_zero, List.set_cons_succ]
                refine' wpAnyH_take (i := 23) (oi := { dst := some 37, op := Op.fieldAddr 33 (Operand.tmp 4) 5, type := 0, pos := "leaf.go:100", after := #[{ on := 22, ground := Ground.guard }], guard := some (22, true) }) (v := _) rfl (by kernel_rfl) (by kernel_rfl) (by kernel_rfl) (fun _ _ _ h => h) (Or.inl ⟨by rfl, ?hyc23⟩) hH2 ?rc23
                case hyc23 => (intro w' hSw; have x1 := hSw.cell hx1; have x5 := hSw.cell hx5; have x6 := hSw.cell hx6; have y5 := hSw.cell hy5; clear hSw; go_simp; try with_reducible rfl)
                simp only [Act.put, List.setIfInBounds_toArray, List.set_cons_zero, List.set_cons_succ]
                refine' wpAnyH_take (i := 24) (oi := { dst := some 38, op := Op.load 27 (Operand.tmp 37), type := 27, pos := "leaf.go:100", after := #[{ on := 23, ground := Ground.data }, { on := 22, ground := Ground.guard }], guard := some (22, true) }) (v := _) rfl (by kernel_rfl) (by kernel_rfl) (by kernel_rfl) (fun _ _ _ h => h) (Or.inl ⟨by rfl, ?hyc24⟩) hH2 ?rc24
                case hyc24 => (intro w' hSw; have x1 := hSw.cell hx1; have x5 := hSw.cell hx5; have x6 := hSw.cell hx6; have y5 := hSw.cell hy5; clear hSw; go_simp; try with_reducible rfl)
                simp only [Act.put, List.setIfInBounds_toArray, List.set_cons_zero, List.set_cons_succ]
                refine' wpAnyH_take (i := 25) (oi := { dst := some 39, op := Op.fieldAddr 33 (Operand.tmp 3) 6, type := 0, pos := "leaf.go:100", after := #[{ on := 22, ground := Ground.guard }], guard := some (22, true) }) (v := _) rfl (by kernel_rfl) (by kernel_rfl) (by kernel_rfl) (fun _ _ _ h => h) (Or.inl ⟨by rfl, ?hyc25⟩) hH2 ?rc25
                case hyc25 => (intro w' hSw; have x1 := hSw.cell hx1; have x5 := hSw.cell hx5; have x6 := hSw.cell hx6; have y5 := hSw.cell hy5; clear hSw; go_simp; try with_reducible rfl)
                simp only [Act.put, List.setIfInBounds_toArray, List.set_cons_zero, List.set_cons_succ]
                refine' wpAnyH_take (i := 26) (oi := { dst := some 40, op := Op.load 27 (Operand.tmp 39), type := 27, pos := "leaf.go:100", after := #[{ on := 25, ground := Ground.data }, { on := 22, ground := Ground.guard }], guard := some (22, true) }) (v := _) rfl (by kernel_rfl) (by kernel_rfl) (by kernel_rfl) (fun _ _ _ h => h) (Or.inl ⟨by rfl, ?hyc26⟩) hH2 ?rc26
                case hyc26 => (intro w' hSw; have x1 := hSw.cell hx1; have x5 := hSw.cell hx5; have x6 := hSw.cell hx6; have y5 := hSw.cell hy5; clear hSw; go_simp; try with_reducible rfl)
                simp only [Act.put, List.setIfInBounds_toArray, List.set_cons_zero, List.set_cons_succ]
                refine' wpAnyH_take (i := 27) (oi := { dst := some 41, op := Op.binOp BinOp.sub 27 (Operand.tmp 40) (Operand.const (Value.int IntKind.u32 1)) 27, type := 27, pos := "leaf.go:100", after := #[{ on := 26, ground := Ground.data }, { on := 22, ground := Ground.guard }], guard := some (22, true) }) (v := _) rfl (by kernel_rfl) (by kernel_rfl) (by kernel_rfl) (fun _ _ _ h => h) (Or.inl ⟨by rfl, ?hyc27⟩) hH2 ?rc27
                case hyc27 => (intro w' hSw; have x1 := hSw.cell hx1; have x5 := hSw.cell hx5; have x6 := hSw.cell hx6; have y5 := hSw.cell hy5; clear hSw; go_simp; try with_reducible rfl)
                simp only [Act.put, List.setIfInBounds_toArray, List.set_cons_zero, List.set_cons_succ]
                refine' wpAnyH_take (i := 28) (oi := { dst := some 42, op := Op.binOp BinOp.eql 27 (Operand.tmp 38) (Operand.tmp 41) 27, type := 4, pos := "leaf.go:100", after := #[{ on := 24, ground := Ground.data }, { on := 27, ground := Ground.data }, { on := 22, ground := Ground.guard }], guard := some (22, true) }) (v := _) rfl (by kernel_rfl) (by kernel_rfl) (by kernel_rfl) (fun _ _ _ h => h) (Or.inl ⟨by rfl, ?hyc28⟩) hH2 ?rc28
                case hyc28 => (intro w' hSw; have x1 := hSw.cell hx1; have x5 := hSw.cell hx5; have x6 := hSw.cell hx6; have y5 := hSw.cell hy5; clear hSw; go_simp; try with_reducible rfl)
                simp only [Act.put, List.setIfInBounds_toArray, List.set_cons_zero, List.set_cons_succ]
                refine' wpAnyH_take (i := 29) (oi := { dst := some 43, op := Op.pick (Operand.tmp 36) (Operand.tmp 42) (Operand.const (Value.bool false)), type := 4, pos := "leaf.go:100", after := #[{ on := 22, ground := Ground.data }, { on := 28, ground := Ground.data }], guard := none }) (v := _) rfl (by kernel_rfl) (by kernel_rfl) (by kernel_rfl) (fun _ _ _ h => h) (Or.inl ⟨by rfl, ?hyc29⟩) hH2 ?rc29
                case hyc29 => (intro w' hSw; clear hSw; go_simp; try with_reducible rfl)
                simp only [Act.put, List.setIfInBounds_toArray, List.set_cons_zero, List.set_cons_succ]
                refine' wpAnyH_take (i := 30) (oi := { dst := some 44, op := Op.move (Operand.tmp 43), type := 4, pos := "leaf.go:100", after := #[{ on := 29, ground := Ground.data }, { on := 22, ground := Ground.chain }], guard := none }) (v := _) rfl (by kernel_rfl) (by kernel_rfl) (by kernel_rfl) (fun _ _ _ h => h) (Or.inl ⟨by rfl, ?hyc30⟩) hH2 ?rc30
                case hyc30 => (intro w' hSw; clear hSw; go_simp; try with_reducible rfl)
                simp only [Act.put, List.setIfInBounds_toArray, List.set_cons_zero, List.set_cons_succ]
                refine' wpAnyH_take (i := 31) (oi := { dst := some 45, op := Op.load 33 (Operand.tmp 4), type := 33, pos := "leaf.go:100", after := #[{ on := 30, ground := Ground.guard }], guard := some (30, true) }) (v := .agg (pgA z)) rfl (by kernel_rfl) (by kernel_rfl) (by kernel_rfl) (fun _ _ _ h => h) (yields_load (by rfl) 33 (.tmp 4) rfl (by rfl) hlz) hH2 ?rc31
                simp only [Act.put, List.setIfInBounds_toArray, List.set_cons_zero, List.set_cons_succ]
                refine wpAnyH_ready (rs := [32]) (by kernel_rfl) (by simp) ?_
                refine AllReadyH.cons (o := { dst := some 46, op := Op.call { callee := Callee.value (Operand.func 31), args := #[Operand.tmp 45], argTypes := #[33] }, type := 4, pos := "leaf.go:101", after := #[{ on := 31, ground := Ground.data }, { on := 30, ground := Ground.chain }, { on := 30, ground := Ground.guard }], guard := some (30, true) }) rfl (fun K hK => ?_) AllReadyH.nil
                refine step_call_want (vs := #[.agg (pgA z)]) (R := fun v w' => v = .bool false ∧ Keep (fun _ => False) w5 w') (by rfl) 31 #[Operand.tmp 45] #[33] rfl (by simp [Act.eval]) call31 (post_w (hfl w5)) ?_
                rintro _ w6 ⟨rfl, k6⟩
                refine hK.out _ _ (((Keep.refl (fun _ => False) wc).drew.trans k5).trans k6) (fun hH3 => ?_)
                clear hK K hH2
                simp only [Act.put, List.setIfInBounds_toArray, List.set_cons_zero, List.set_cons_succ]
                refine' wpAnyH_take (i := 33) (oi := { dst := some 47, op := Op.pick (Operand.tmp 44) (Operand.tmp 46) (Operand.const (Value.bool false)), type := 4, pos := "leaf.go:100", after := #[{ on := 30, ground := Ground.data }, { on := 32, ground := Ground.data }], guard := none }) (v := _) rfl (by kernel_rfl) (by kernel_rfl) (by kernel_rfl) (fun _ _ _ h => h) (Or.inl ⟨by rfl, ?hyc33⟩) hH3 ?rc33
                case hyc33 => (intro w' hSw; clear hSw; go_simp; try with_reducible rfl)
                simp only [Act.put, List.setIfInBounds_toArray, List.set_cons_zero, List.set_cons_succ]
                refine' wpAnyH_take (i := 34) (oi := { dst := some 2, op := Op.assign (Operand.tmp 47), type := 4, pos := "leaf.go:100", after := #[{ on := 33, ground := Ground.data }, { on := 32, ground := Ground.chain }, { on := 0, ground := Ground.phase }, { on := 1, ground := Ground.phase }, { on := 2, ground := Ground.phase }, { on := 3, ground := Ground.phase }, { on := 4, ground := Ground.phase }, { on := 5, ground := Ground.phase }, { on := 6, ground := Ground.phase }, { on := 7, ground := Ground.phase }, { on := 8, ground := Ground.phase }, { on := 9, ground := Ground.phase }, { on := 10, ground := Ground.phase }, { on := 11, ground := Ground.phase }, { on := 12, ground := Ground.phase }, { on := 13, ground := Ground.phase }, { on := 14, ground := Ground.phase }, { on := 15, ground := Ground.phase }, { on := 16, ground := Ground.phase }, { on := 17, ground := Ground.phase }, { on := 18, ground := Ground.phase }, { on := 19, ground := Ground.phase }, { on := 20, ground := Ground.phase }, { on := 21, ground := Ground.phase }, { on := 22, ground := Ground.phase }, { on := 23, ground := Ground.phase }, { on := 24, ground := Ground.phase }, { on := 25, ground := Ground.phase }, { on := 26, ground := Ground.phase }, { on := 27, ground := Ground.phase }, { on := 28, ground := Ground.phase }, { on := 29, ground := Ground.phase }, { on := 30, ground := Ground.phase }, { on := 31, ground := Ground.phase }, { on := 32, ground := Ground.phase }, { on := 33, ground := Ground.phase }], guard := none }) (v := _) rfl (by kernel_rfl) (by kernel_rfl) (by kernel_rfl) (fun _ _ _ h => h) (Or.inl ⟨by rfl, ?hyc34⟩) hH3 ?rc34
                case hyc34 => (intro w' hSw; clear hSw; go_simp; try with_reducible rfl)
                simp only [Act.put, List.setIfInBounds_toArray, List.set_cons_zero, List.set_cons_succ]
                refine wpAnyH_done (by kernel_rfl) ?_ _
                refine NoPanic.normal ?_
                go_wp2_with fail
                go_ret
                exact Bl.no rfl hres (K9.trans (((Keep.refl (fun _ => False) wc).drew.trans k5).trans k6))
            · have g5 : decide (z.ix = f.tot - 1) = false := decide_eq_false h5
              have g5' : (z.ix == f.tot - 1) = false := by rw [beq_eq_false_iff_ne]; exact h5
              have hres : Hid (¬ SG) := fun hs => h5 ((show SG ↔ _ from hsayT).1 hs).2.2.2.2.1
              clear h1 h2 h4 h5 hT3 hsayT hzl
              refine wp_region_noPanic ?_
              refine wp_region_held_drew (S := fun w' => Keep (fun _ => False) wc w') (by kernel_rfl) ((Keep.refl (fun _ => False) wc).drew) (fun hH0 => ?_)
              refine' wpAnyH_take (i := 0) (oi := { dst := some 14, op := Op.fieldAddr 33 (Operand.tmp 3) 1, type := 0, pos := "leaf.go:100", after := #[], guard := none }) (v := _) rfl (by kernel_rfl) (by kernel_rfl) (by kernel_rfl) (fun _ _ _ h => h) (Or.inl ⟨by rfl, ?hyd0⟩) hH0 ?rd0
              case hyd0 => (intro w' hSw; have x1 := hSw.cell hx1; have x5 := hSw.cell hx5; have x6 := hSw.cell hx6; have y5 := hSw.cell hy5; clear hSw; go_simp; try with_reducible rfl)
              simp only [Act.put, List.setIfInBounds_toArray, List.set_cons_zero, List.set_cons_succ]
              refine' wpAnyH_take (i := 1) (oi := { dst := some 15, op := Op.load 27 (Operand.tmp 14), type := 27, pos := "leaf.go:100", after := #[{ on := 0, ground := Ground.data }], guard := none }) (v := _) rfl (by kernel_rfl) (by kernel_rfl) (by kernel_rfl) (fun _ _ _ h => h) (Or.inl ⟨by rfl, ?hyd1⟩) hH0 ?rd1
              case hyd1 => (intro w' hSw; have x1 := hSw.cell hx1; have x5 := hSw.cell hx5; have x6 := hSw.cell hx6; have y5 := hSw.cell hy5; clear hSw; go_simp; try with_reducible rfl)
              simp only [Act.put, List.setIfInBounds_toArray, List.set_cons_zero, List.set_cons_succ]
              refine' wpAnyH_take (i := 2) (oi := { dst := some 16, op := Op.binOp BinOp.leq 27 (Operand.tmp 15) (Operand.const (Value.int IntKind.u32 65536)) 27, type := 4, pos := "leaf.go:100", after := #[{ on := 1, ground := Ground.data }], guard := none }) (v := _) rfl (by kernel_rfl) (by kernel_rfl) (by kernel_rfl) (fun _ _ _ h => h) (Or.inl ⟨by rfl, ?hyd2⟩) hH0 ?rd2
              case hyd2 => (intro w' hSw; have x1 := hSw.cell hx1; have x5 := hSw.cell hx5; have x6 := hSw.cell hx6; have y5 := hSw.cell hy5; clear hSw; go_simp; try with_reducible rfl)
              simp only [Act.put, List.setIfInBounds_toArray, List.set_cons_zero, List.set_cons_succ]
              refine' wpAnyH_take (i := 3) (oi := { dst := some 17, op := Op.move (Operand.tmp 16), type := 4, pos := "leaf.go:100", after := #[{ on := 2, ground := Ground.data }], guard := none }) (v := _) rfl (by kernel_rfl) (by kernel_rfl) (by kernel_rfl) (fun _ _ _ h => h) (Or.inl ⟨by rfl, ?hyd3⟩) hH0 ?rd3
              case hyd3 => (intro w' hSw; have x1 := hSw.cell hx1; have x5 := hSw.cell hx5; have x6 := hSw.cell hx6; have y5 := hSw.cell hy5; clear hSw; go_simp; try with_reducible rfl)
              simp only [Act.put, List.setIfInBounds_toArray, List.set_cons_zero, List.set_cons_succ]
              refine' wpAnyH_take (i := 4) (oi := { dst := some 18, op := Op.fieldAddr 33 (Operand.tmp 3) 6, type := 0, pos := "leaf.go:100", after := #[{ on := 3, ground := Ground.guard }], guard := some (3, true) }) (v := _) rfl (by kernel_rfl) (by kernel_rfl) (by kernel_rfl) (fun _ _ _ h => h) (Or.inl ⟨by rfl, ?hyd4⟩) hH0 ?rd4
              case hyd4 => (intro w' hSw; have x1 := hSw.cell hx1; have x5 := hSw.cell hx5; have x6 := hSw.cell hx6; have y5 := hSw.cell hy5; clear hSw; go_simp; try with_reducible rfl)
              simp only [Act.put, List.setIfInBounds_toArray, List.set_cons_zero, List.set_cons_succ]
              refine' wpAnyH_take (i := 5) (oi := { dst := some 19, op := Op.load 27 (Operand.tmp 18), type := 27, pos := "leaf.go:100", after := #[{ on := 4, ground := Ground.data }, { on := 3, ground := Ground.guard }], guard := some (3, true) }) (v := _) rfl (by kernel_rfl) (by kernel_rfl) (by kernel_rfl) (fun _ _ _ h => h) (Or.inl ⟨by rfl, ?hyd5⟩) hH0 ?rd5
              case hyd5 => (intro w' hSw; have x1 := hSw.cell hx1; have x5 := hSw.cell hx5; have x6 := hSw.cell hx6; have y5 := hSw.cell hy5; clear hSw; go_simp; try with_reducible rfl)
              simp only [Act.put, List.setIfInBounds_toArray, List.set_cons_zero, List.set_cons_succ]
              refine' wpAnyH_take (i := 6) (oi := { dst := some 20, op := Op.fieldAddr 33 (Operand.tmp 3) 1, type := 0, pos := "leaf.go:100", after := #[{ on := 3, ground := Ground.guard }], guard := some (3, true) }) (v := _) rfl (by kernel_rfl) (by kernel_rfl) (by kernel_rfl) (fun _ _ _ h => h) (Or.inl ⟨by rfl, ?hyd6⟩) hH0 ?rd6
              case hyd6 => (intro w' hSw; have x1 := hSw.cell hx1; have x5 := hSw.cell hx5; have x6 := hSw.cell hx6; have y5 := hSw.cell hy5; clear hSw; go_simp; try with_reducible rfl)
              simp only [Act.put, List.setIfInBounds_toArray, List.set_cons_zero, List.set_cons_succ]
              refine' wpAnyH_take (i := 7) (oi := { dst := some 21, op := Op.load 27 (Operand.tmp 20), type := 27, pos := "leaf.go:100", after := #[{ on := 6, ground := Ground.data }, { on := 3, ground := Ground.guard }], guard := some (3, true) }) (v := _) rfl (by kernel_rfl) (by kernel_rfl) (by kernel_rfl) (fun _ _ _ h => h) (Or.inl ⟨by rfl, ?hyd7⟩) hH0 ?rd7
              case hyd7 => (intro w' hSw; have x1 := hSw.cell hx1; have x5 := hSw.cell hx5; have x6 := hSw.cell hx6; have y5 := hSw.cell hy5; clear hSw; go_simp; try with_reducible rfl)
              simp only [Act.put, List.setIfInBounds_toArray, List.set_cons_zero, List.set_cons_succ]
              refine' wpAnyH_take (i := 8) (oi := { dst := some 22, op := Op.convert 27 3 (Operand.tmp 21), type := 3, pos := "leaf.go:100", after := #[{ on := 7, ground := Ground.data }, { on := 3, ground := Ground.guard }], guard := some (3, true) }) (v := _) rfl (by kernel_rfl) (by kernel_rfl) (by kernel_rfl) (fun _ _ _ h => h) (Or.inl ⟨by rfl, ?hyd8⟩) hH0 ?rd8
              case hyd8 => (intro w' hSw; have x1 := hSw.cell hx1; have x5 := hSw.cell hx5; have x6 := hSw.cell hx6; have y5 := hSw.cell hy5; clear hSw; go_simp; try with_reducible rfl)
              simp only [Act.put, List.setIfInBounds_toArray, List.set_cons_zero, List.set_cons_succ]
              refine wpAnyH_ready (rs := [9]) (by kernel_rfl) (by simp) ?_
              refine AllReadyH.cons (o := { dst := some 23, op := Op.call { callee := Callee.value (Operand.func 10), args := #[Operand.tmp 22], argTypes := #[3] }, type := 3, pos := "leaf.go:100", after := #[{ on := 8, ground := Ground.data }, { on := 3, ground := Ground.chain }, { on := 3, ground := Ground.guard }], guard := some (3, true) }) rfl (fun K hK => ?_) AllReadyH.nil
              refine step_call_want (vs := #[.int .i64 f.lba]) (R := fun v w' => v = .int .i64 T ∧ w' = wc.drew) (by rfl) 10 #[Operand.tmp 22] #[3] rfl (by simp [Act.eval]) call10 (post_w (hpg wc.drew)) ?_
              rintro _ _ ⟨rfl, rfl⟩
              refine hK.out _ _ ((Keep.refl (fun _ => False) wc).drew) (fun hH1 => ?_)
              clear hK K hH0
              simp only [Act.put, List.setIfInBounds_toArray, List.set_cons_zero, List.set_cons_succ]
              refine' wpAnyH_take (i := 10) (oi := { dst := some 24, op := Op.convert 3 27 (Operand.tmp 23), type := 27, pos := "leaf.go:100", after := #[{ on := 9, ground := Ground.data }, { on := 3, ground := Ground.guard }], guard := some (3, true) }) (v := _) rfl (by kernel_rfl) (by kernel_rfl) (by kernel_rfl) (fun _ _ _ h => h) (Or.inl ⟨by rfl, ?hyd10⟩) hH1 ?rd10
              case hyd10 => (intro w' hSw; have x1 := hSw.cell hx1; have x5 := hSw.cell hx5; have x6 := hSw.cell hx6; have y5 := hSw.cell hy5; clear hSw; go_simp; try with_reducible rfl)
              simp only [Act.put, List.setIfInBounds_toArray, List.set_cons_zero, List.set_cons_succ]
              refine' wpAnyH_take (i := 11) (oi := { dst := some 25, op := Op.binOp BinOp.eql 27 (Operand.tmp 19) (Operand.tmp 24) 27, type := 4, pos := "leaf.go:100", after := #[{ on := 5, ground := Ground.data }, { on := 10, ground := Ground.data }, { on := 3, ground := Ground.guard }], guard := some (3, true) }) (v := _) rfl (by kernel_rfl) (by kernel_rfl) (by kernel_rfl) (fun _ _ _ h => h) (Or.inl ⟨by rfl, ?hyd11⟩) hH1 ?rd11
              case hyd11 => (intro w' hSw; have x1 := hSw.cell hx1; have x5 := hSw.cell hx5; have x6 := hSw.cell hx6; have y5 := hSw.cell hy5; clear hSw; go_simp; try with_reducible rfl)
              simp only [Act.put, List.setIfInBounds_toArray, List.set_cons_zero, List.set_cons_succ]
              refine' wpAnyH_take (i := 12) (oi := { dst := some 26, op := Op.pick (Operand.tmp 17) (Operand.tmp 25) (Operand.const (Value.bool false)), type := 4, pos := "leaf.go:100", after := #[{ on := 3, ground := Ground.data }, { on := 11, ground := Ground.data }], guard := none }) (v := _) rfl (by kernel_rfl) (by kernel_rfl) (by kernel_rfl) (fun _ _ _ h => h) (Or.inl ⟨by rfl, ?hyd12⟩) hH1 ?rd12
              case hyd12 => (intro w' hSw; clear hSw; go_simp; try with_reducible rfl)
              simp only [Act.put, List.setIfInBounds_toArray, List.set_cons_zero, List.set_cons_succ]
              refine' wpAnyH_take (i := 13) (oi := { dst := some 27, op := Op.move (Operand.tmp 26), type := 4, pos := "leaf.go:100", after := #[{ on := 12, ground := Ground.data }, { on := 9, ground := Ground.chain }], guard := none }) (v := _) rfl (by kernel_rfl) (by kernel_rfl) (by kernel_rfl) (fun _ _ _ h => h) (Or.inl ⟨by rfl, ?hyd13⟩) hH1 ?rd13
              case hyd13 => (intro w' hSw; clear hSw; go_simp; try with_reducible rfl)
              simp only [Act.put, List.setIfInBounds_toArray, List.set_cons_zero, List.set_cons_succ]
              refine' wpAnyH_take (i := 14) (oi := { dst := some 28, op := Op.move (Operand.tmp 0), type := 23, pos := "leaf.go:100", after := #[{ on := 13, ground := Ground.guard }], guard := some (13, true) }) (v := _) rfl (by kernel_rfl) (by kernel_rfl) (by kernel_rfl) (fun _ _ _ h => h) (Or.inl ⟨by rfl, ?hyd14⟩) hH1 ?rd14
              case hyd14 => (intro w' hSw; clear hSw; go_simp; try with_reducible rfl)
              simp only [Act.put, List.setIfInBounds_toArray, List.set_cons_zero, List.set_cons_succ]
              refine wpAnyH_ready (rs := [15]) (by kernel_rfl) (by simp) ?_
              refine AllReadyH.cons (o := { dst := some 29, op := Op.call { callee := Callee.value (Operand.func 30), args := #[Operand.tmp 28], argTypes := #[23] }, type := 4, pos := "leaf.go:101", after := #[{ on := 14, ground := Ground.data }, { on := 13, ground := Ground.chain }, { on := 13, ground := Ground.guard }], guard := some (13, true) }) rfl (fun K hK => ?_) AllReadyH.nil
              refine step_call_want (vs := #[.slice (some ⟨g, o, none⟩) n cap]) (R := fun v w' => v = .bool true ∧ Keep (fun _ => False) wc.drew w') (by rfl) 30 #[Operand.tmp 28] #[23] rfl (by simp [Act.eval]) call30 (post_w (hag wc.drew (Keep.refl _ _).drew)) ?_
              rintro _ w5 ⟨rfl, k5⟩
              refine hK.out _ _ ((Keep.refl (fun _ => False) wc).drew.trans k5) (fun hH2 => ?_)
              clear hK K hH1
              simp only [Act.put, List.setIfInBounds_toArray, List.set_cons_zero, List.set_cons_succ]
              refine' wpAnyH_take (i := 16) (oi := { dst := some 30, op := Op.pick (Operand.tmp 27) (Operand.tmp 29) (Operand.const (Value.bool false)), type := 4, pos := "leaf.go:100", after := #[{ on := 13, ground := Ground.data }, { on := 15, ground := Ground.data }], guard := none }) (v := _) rfl (by kernel_rfl) (by kernel_rfl) (by kernel_rfl) (fun _ _ _ h => h) (Or.inl ⟨by rfl, ?hyd16⟩) hH2 ?rd16
              case hyd16 => (intro w' hSw; clear hSw; go_simp; try with_reducible rfl)
              simp only [Act.put, List.setIfInBounds_toArray, List.set_cons_zero, List.set_cons_succ]
              refine' wpAnyH_take (i := 17) (oi := { dst := some 31, op := Op.move (Operand.tmp 30), type := 4, pos := "leaf.go:100", after := #[{ on := 16, ground := Ground.data }, { on := 15, ground := Ground.chain }], guard := none }) (v := _) rfl (by kernel_rfl) (by kernel_rfl) (by kernel_rfl) (fun _ _ _ h => h) (Or.inl ⟨by rfl, ?hyd17⟩) hH2 ?rd17
              case hyd17 => (intro w' hSw; clear hSw; go_simp; try with_reducible rfl)
              simp only [Act.put, List.setIfInBounds_toArray, List.set_cons_zero, List.set_cons_succ]
              refine' wpAnyH_take (i := 18) (oi := { dst := some 32, op := Op.fieldAddr 33 (Operand.tmp 3) 5, type := 0, pos := "leaf.go:100", after := #[{ on := 17, ground := Ground.guard }], guard := some (17, true) }) (v := _) rfl (by kernel_rfl) (by kernel_rfl) (by kernel_rfl) (fun _ _ _ h => h) (Or.inl ⟨by rfl, ?hyd18⟩) hH2 ?rd18
              case hyd18 => (intro w' hSw; have x1 := hSw.cell hx1; have x5 := hSw.cell hx5; have x6 := hSw.cell hx6; have y5 := hSw.cell hy5; clear hSw; go_simp; try with_reducible rfl)
              simp only [Act.put, List.setIfInBounds_toArray, List.set_cons_zero, List.set_cons_succ]
              refine' wpAnyH_take (i := 19) (oi := { dst := some 33, op := Op.load 27 (Operand.tmp 32), type := 27, pos := "leaf.go:100", after := #[{ on := 18, ground := Ground.data }, { on := 17, ground := Ground.guard }], guard := some (17, true) }) (v := _) rfl (by kernel_rfl) (by kernel_rfl) (by kernel_rfl) (fun _ _ _ h => h) (Or.inl ⟨by rfl, ?hyd19⟩) hH2 ?rd19
              case hyd19 => (intro w' hSw; have x1 := hSw.cell hx1; have x5 := hSw.cell hx5; have x6 := hSw.cell hx6; have y5 := hSw.cell hy5; clear hSw; go_simp; try with_reducible rfl)
              simp only [Act.put, List.setIfInBounds_toArray, List.set_cons_zero, List.set_cons_succ]
              refine' wpAnyH_take (i := 20) (oi := { dst := some 34, op := Op.binOp BinOp.eql 27 (Operand.tmp 33) (Operand.const (Value.int IntKind.u32 0)) 27, type := 4, pos := "leaf.go:100", after := #[{ on := 19, ground := Ground.data }, { on := 17, ground := Ground.guard }], guard := some (17, true) }) (v := _) rfl (by kernel_rfl) (by kernel_rfl) (by kernel_rfl) (fun _ _ _ h => h) (Or.inl ⟨by rfl, ?hyd20⟩) hH2 ?rd20
              case hyd20 => (intro w' hSw; have x1 := hSw.cell hx1; have x5 := hSw.cell hx5; have x6 := hSw.cell hx6; have y5 := hSw.cell hy5; clear hSw; go_simp; try with_reducible rfl)
              simp only [Act.put, List.setIfInBounds_toArray, List.set_cons_zero, List.set_cons_succ]
              refine' wpAnyH_take (i := 21) (oi := { dst := some 35, op := Op.pick (Operand.tmp 31) (Operand.tmp 34) (Operand.const (Value.bool false)), type := 4, pos := "leaf.go:100", after := #[{ on := 17, ground := Ground.data }, { on := 20, ground := Ground.data }], guard := none }) (v := _) rfl (by kernel_rfl) (by kernel_rfl) (by kernel_rfl) (fun _ _ _ h => h) (Or.inl ⟨by rfl, ?hyd21⟩) hH2 ?rd21
              case hyd21 => (intro w' hSw; clear hSw; go_simp; try with_reducible rfl)
              simp only [Act.put, List.setIfInBounds_toArray, List.set_cons_zero, List.set_cons_succ]
              refine' wpAnyH_take (i := 22) (oi := { dst := some 36, op := Op.move (Operand.tmp 35), type := 4, pos := "leaf.go:100", after := #[{ on := 21, ground := Ground.data }, { on := 17, ground := Ground.chain }], guard := none }) (v := _) rfl (by kernel_rfl) (by kernel_rfl) (by kernel_rfl) (fun _ _ _ h => h) (Or.inl ⟨by rfl, ?hyd22⟩) hH2 ?rd22
              case hyd22 => (intro w' hSw; clear hSw; go_simp; try with_reducible rfl)
              simp only [Act.put, List.setIfInBounds_toArray, List.set_cons_zero, List.set_cons_succ]
              refine' wpAnyH_take (i := 23) (oi := { dst := some 37, op := Op.fieldAddr 33 (Operand.tmp 4) 5, type := 0, pos := "leaf.go:100", after := #[{ on := 22, ground := Ground.guard }], guard := some (22, true) }) (v := _) rfl (by kernel_rfl) (by kernel_rfl) (by kernel_rfl) (fun _ _ _ h => h) (Or.inl ⟨by rfl, ?hyd23⟩) hH2 ?rd23
              case hyd23 => (intro w' hSw; have x1 := hSw.cell hx1; have x5 := hSw.cell hx5; have x6 := hSw.cell hx6; have y5 := hSw.cell hy5; clear hSw; go_simp; try with_reducible rfl)
              simp only [Act.put, List.setIfInBounds_toArray, List.set_cons_zero, List.set_cons_succ]
              refine' wpAnyH_take (i := 24) (oi := { dst := some 38, op := Op.load 27 (Operand.tmp 37), type := 27, pos := "leaf.go:100", after := #[{ on := 23, ground := Ground.data }, { on := 22, ground := Ground.guard }], guard := some (22, true) }) (v := _) rfl (by kernel_rfl) (by kernel_rfl) (by kernel_rfl) (fun _ _ _ h => h) (Or.inl ⟨by rfl, ?hyd24⟩) hH2 ?rd24
              case hyd24 => (intro w' hSw; have x1 := hSw.cell hx1; have x5 := hSw.cell hx5; have x6 := hSw.cell hx6; have y5 := hSw.cell hy5; clear hSw; go_simp; try with_reducible rfl)
              simp only [Act.put, List.setIfInBounds_toArray, List.set_cons_zero, List.set_cons_succ]
              refine' wpAnyH_take (i := 25) (oi := { dst := some 39, op := Op.fieldAddr 33 (Operand.tmp 3) 6, type := 0, pos := "leaf.go:100", after := #[{ on := 22, ground := Ground.guard }], guard := some (22, true) }) (v := _) rfl (by kernel_rfl) (by kernel_rfl) (by kernel_rfl) (fun _ _ _ h => h) (Or.inl ⟨by rfl, ?hyd25⟩) hH2 ?rd25
              case hyd25 => (intro w' hSw; have x1 := hSw.cell hx1; have x5 := hSw.cell hx5; have x6 := hSw.cell hx6; have y5 := hSw.cell hy5; clear hSw; go_simp; try with_reducible rfl)
              simp only [Act.put, List.setIfInBounds_toArray, List.set_cons_zero, List.set_cons_succ]
              refine' wpAnyH_take (i := 26) (oi := { dst := some 40, op := Op.load 27 (Operand.tmp 39), type := 27, pos := "leaf.go:100", after := #[{ on := 25, ground := Ground.data }, { on := 22, ground := Ground.guard }], guard := some (22, true) }) (v := _) rfl (by kernel_rfl) (by kernel_rfl) (by kernel_rfl) (fun _ _ _ h => h) (Or.inl ⟨by rfl, ?hyd26⟩) hH2 ?rd26
              case hyd26 => (intro w' hSw; have x1 := hSw.cell hx1; have x5 := hSw.cell hx5; have x6 := hSw.cell hx6; have y5 := hSw.cell hy5; clear hSw; go_simp; try with_reducible rfl)
              simp only [Act.put, List.setIfInBounds_toArray, List.set_cons_zero, List.set_cons_succ]
              refine' wpAnyH_take (i := 27) (oi := { dst := some 41, op := Op.binOp BinOp.sub 27 (Operand.tmp 40) (Operand.const (Value.int IntKind.u32 1)) 27, type := 27, pos := "leaf.go:100", after := #[{ on := 26, ground := Ground.data }, { on := 22, ground := Ground.guard }], guard := some (22, true) }) (v := _) rfl (by kernel_rfl) (by kernel_rfl) (by kernel_rfl) (fun _ _ _ h => h) (Or.inl ⟨by rfl, ?hyd27⟩) hH2 ?rd27
              case hyd27 => (intro w' hSw; have x1 := hSw.cell hx1; have x5 := hSw.cell hx5; have x6 := hSw.cell hx6; have y5 := hSw.cell hy5; clear hSw; go_simp; try with_reducible rfl)
              simp only [Act.put, List.setIfInBounds_toArray, List.set_cons_zero, List.set_cons_succ]
              refine' wpAnyH_take (i := 28) (oi := { dst := some 42, op := Op.binOp BinOp.eql 27 (Operand.tmp 38) (Operand.tmp 41) 27, type := 4, pos := "leaf.go:100", after := #[{ on := 24, ground := Ground.data }, { on := 27, ground := Ground.data }, { on := 22, ground := Ground.guard }], guard := some (22, true) }) (v := _) rfl (by kernel_rfl) (by kernel_rfl) (by kernel_rfl) (fun _ _ _ h => h) (Or.inl ⟨by rfl, ?hyd28⟩) hH2 ?rd28
              case hyd28 => (intro w' hSw; have x1 := hSw.cell hx1; have x5 := hSw.cell hx5; have x6 := hSw.cell hx6; have y5 := hSw.cell hy5; clear hSw; go_simp; try with_reducible rfl)
              simp only [Act.put, List.setIfInBounds_toArray, List.set_cons_zero, List.set_cons_succ]
              refine' wpAnyH_take (i := 29) (oi := { dst := some 43, op := Op.pick (Operand.tmp 36) (Operand.tmp 42) (Operand.const (Value.bool false)), type := 4, pos := "leaf.go:100", after := #[{ on := 22, ground := Ground.data }, { on := 28, ground := Ground.data }], guard := none }) (v := _) rfl (by kernel_rfl) (by kernel_rfl) (by kernel_rfl) (fun _ _ _ h => h) (Or.inl ⟨by rfl, ?hyd29⟩) hH2 ?rd29
              case hyd29 => (intro w' hSw; clear hSw; go_simp; try with_reducible rfl)
              simp only [Act.put, List.setIfInBounds_toArray, List.set_cons_zero, List.set_cons_succ]
              refine' wpAnyH_take (i := 30) (oi := { dst := some 44, op := Op.move (Operand.tmp 43), type := 4, pos := "leaf.go:100", after := #[{ on := 29, ground := Ground.data }, { on := 22, ground := Ground.chain }], guard := none }) (v := _) rfl (by kernel_rfl) (by kernel_rfl) (by kernel_rfl) (fun _ _ _ h => h) (Or.inl ⟨by rfl, ?hyd30⟩) hH2 ?rd30
              case hyd30 => (intro w' hSw; clear hSw; go_simp; try with_reducible rfl)
              simp only [Act.put, List.setIfInBounds_toArray, List.set_cons_zero, List.set_cons_succ]
              refine' wpAnyH_take (i := 31) (oi := { dst := some 45, op := Op.load 33 (Operand.tmp 4), type := 33, pos := "leaf.go:100", after := #[{ on := 30, ground := Ground.guard }], guard := some (30, true) }) (v := undef) rfl (by kernel_rfl) (by kernel_rfl) (by kernel_rfl) (fun _ _ _ h => h) (Or.inr ⟨by rfl, rfl⟩) hH2 ?rd31
              simp only [Act.put, List.setIfInBounds_toArray, List.set_cons_zero, List.set_cons_succ]
              refine' wpAnyH_take (i := 32) (oi := { dst := some 46, op := Op.call { callee := Callee.value (Operand.func 31), args := #[Operand.tmp 45], argTypes := #[33] }, type := 4, pos := "leaf.go:101", after := #[{ on := 31, ground := Ground.data }, { on := 30, ground := Ground.chain }, { on := 30, ground := Ground.guard }], guard := some (30, true) }) (v := undef) rfl (by kernel_rfl) (by kernel_rfl) (by kernel_rfl) (fun _ _ _ h => h) (Or.inr ⟨by rfl, rfl⟩) hH2 ?rd32
              simp only [Act.put, List.setIfInBounds_toArray, List.set_cons_zero, List.set_cons_succ]
              refine' wpAnyH_take (i := 33) (oi := { dst := some 47, op := Op.pick (Operand.tmp 44) (Operand.tmp 46) (Operand.const (Value.bool false)), type := 4, pos := "leaf.go:100", after := #[{ on := 30, ground := Ground.data }, { on := 32, ground := Ground.data }], guard := none }) (v := _) rfl (by kernel_rfl) (by kernel_rfl) (by kernel_rfl) (fun _ _ _ h => h) (Or.inl ⟨by rfl, ?hyd33⟩) hH2 ?rd33
              case hyd33 => (intro w' hSw; clear hSw; go_simp; try with_reducible rfl)
              simp only [Act.put, List.setIfInBounds_toArray, List.set_cons_zero, List.set_cons_succ]
              refine' wpAnyH_take (i := 34) (oi := { dst := some 2, op := Op.assign (Operand.tmp 47), type := 4, pos := "leaf.go:100", after := #[{ on := 33, ground := Ground.data }, { on := 32, ground := Ground.chain }, { on := 0, ground := Ground.phase }, { on := 1, ground := Ground.phase }, { on := 2, ground := Ground.phase }, { on := 3, ground := Ground.phase }, { on := 4, ground := Ground.phase }, { on := 5, ground := Ground.phase }, { on := 6, ground := Ground.phase }, { on := 7, ground := Ground.phase }, { on := 8, ground := Ground.phase }, { on := 9, ground := Ground.phase }, { on := 10, ground := Ground.phase }, { on := 11, ground := Ground.phase }, { on := 12, ground := Ground.phase }, { on := 13, ground := Ground.phase }, { on := 14, ground := Ground.phase }, { on := 15, ground := Ground.phase }, { on := 16, ground := Ground.phase }, { on := 17, ground := Ground.phase }, { on := 18, ground := Ground.phase }, { on := 19, ground := Ground.phase }, { on := 20, ground := Ground.phase }, { on := 21, ground := Ground.phase }, { on := 22, ground := Ground.phase }, { on := 23, ground := Ground.phase }, { on := 24, ground := Ground.phase }, { on := 25, ground := Ground.phase }, { on := 26, ground := Ground.phase }, { on := 27, ground := Ground.phase }, { on := 28, ground := Ground.phase }, { on := 29, ground := Ground.phase }, { on := 30, ground := Ground.phase }, { on := 31, ground := Ground.phase }, { on := 32, ground := Ground.phase }, { on := 33, ground := Ground.phase }], guard := none }) (v := _) rfl (by kernel_rfl) (by kernel_rfl) (by kernel_rfl) (fun _ _ _ h => h) (Or.inl ⟨by rfl, ?hyd34⟩) hH2 ?rd34
              case hyd34 => (intro w' hSw; clear hSw; go_simp; try with_reducible rfl)
              simp only [Act.put, List.setIfInBounds_toArray, List.set_cons_zero, List.set_cons_succ]
              refine wpAnyH_done (by kernel_rfl) ?_ _
              refine NoPanic.normal ?_
              go_wp2_with fail
              go_ret
              exact Bl.no rfl hres (K9.trans ((Keep.refl (fun _ => False) wc).drew.trans k5))
          · have g4 : decide (f.ix = 0) = false := decide_eq_false h4
            have g4' : (f.ix == 0) = false := by rw [beq_eq_false_iff_ne]; exact h4
            have hres : Hid (¬ SG) := fun hs => h4 ((show SG ↔ _ from hsayT).1 hs).2.2.2.1
            clear h1 h2 h4 hT3 hsayT hzl
            refine wp_region_noPanic ?_
            refine wp_region_held_drew (S := fun w' => Keep (fun _ => False) wc w') (by kernel_rfl) ((Keep.refl (fun _ => False) wc).drew) (fun hH0 => ?_)
            refine' wpAnyH_take (i := 0) (oi := { dst := some 14, op := Op.fieldAddr 33 (Operand.tmp 3) 1, type := 0, pos := "leaf.go:100", after := #[], guard := none }) (v := _) rfl (by kernel_rfl) (by kernel_rfl) (by kernel_rfl) (fun _ _ _ h => h) (Or.inl ⟨by rfl, ?hye0⟩) hH0 ?re0
            case hye0 => (intro w' hSw; have x1 := hSw.cell hx1; have x5 := hSw.cell hx5; have x6 := hSw.cell hx6; have y5 := hSw.cell hy5; clear hSw; go_simp; try with_reducible rfl)
            simp only [Act.put, List.setIfInBounds_toArray, List.set_cons_zero, List.set_cons_succ]
            refine' wpAnyH_take (i := 1) (oi := { dst := some 15, op := Op.load 27 (Operand.tmp 14), type := 27, pos := "leaf.go:100", after := #[{ on := 0, ground := Ground.data }], guard := none }) (v := _) rfl (by kernel_rfl) (by kernel_rfl) (by kernel_rfl) (fun _ _ _ h => h) (Or.inl ⟨by rfl, ?hye1⟩) hH0 ?re1
            case hye1 => (intro w' hSw; have x1 := hSw.cell hx1; have x5 := hSw.cell hx5; have x6 := hSw.cell hx6; have y5 := hSw.cell hy5; clear hSw; go_simp; try with_reducible rfl)
            simp only [Act.put, List.setIfInBounds_toArray, List.set_cons_zero, List.set_cons_succ]
            refine' wpAnyH_take (i := 2) (oi := { dst := some 16, op := Op.binOp BinOp.leq 27 (Operand.tmp 15) (Operand.const (Value.int IntKind.u32 65536)) 27, type := 4, pos := "leaf.go:100", after := #[{ on := 1, ground := Ground.data }], guard := none }) (v := _) rfl (by kernel_rfl) (by kernel_rfl) (by kernel_rfl) (fun _ _ _ h => h) (Or.inl ⟨by rfl, ?hye2⟩) hH0 ?re2
            case hye2 => (intro w' hSw; have x1 := hSw.cell hx1; have x5 := hSw.cell hx5; have x6 := hSw.cell hx6; have y5 := hSw.cell hy5; clear hSw; go_simp; try with_reducible rfl)
            simp only [Act.put, List.setIfInBounds_toArray, List.set_cons_zero, List.set_cons_succ]
            refine' wpAnyH_take (i := 3) (oi := { dst := some 17, op := Op.move (Operand.tmp 16), type := 4, pos := "leaf.go:100", after := #[{ on := 2, ground := Ground.data }], guard := none }) (v := _) rfl (by kernel_rfl) (by kernel_rfl) (by kernel_rfl) (fun _ _ _ h => h) (Or.inl ⟨by rfl, ?hye3⟩) hH0 ?re3
            case hye3 => (intro w' hSw; have x1 := hSw.cell hx1; have x5 := hSw.cell hx5; have x6 := hSw.cell hx6; have y5 := hSw.cell hy5; clear hSw; go_simp; try with_reducible rfl)
            simp only [Act.put, List.setIfInBounds_toArray, List.set_cons_zero, List.set_cons_succ]
            refine' wpAnyH_take (i := 4) (oi := { dst := some 18, op := Op.fieldAddr 33 (Operand.tmp 3) 6, type := 0, pos := "leaf.go:100", after := #[{ on := 3, ground := Ground.guard }], guard := some (3, true) }) (v := _) rfl (by kernel_rfl) (by kernel_rfl) (by kernel_rfl) (fun _ _ _ h => h) (Or.inl ⟨by rfl, ?hye4⟩) hH0 ?re4
            case hye4 => (intro w' hSw; have x1 := hSw.cell hx1; have x5 := hSw.cell hx5; have x6 := hSw.cell hx6; have y5 := hSw.cell hy5; clear hSw; go_simp; try with_reducible rfl)
            simp only [Act.put, List.setIfInBounds_toArray, List.set_cons_zero, List.set_cons_succ]
            refine' wpAnyH_take (i := 5) (oi := { dst := some 19, op := Op.load 27 (Operand.tmp 18), type := 27, pos := "leaf.go:100", after := #[{ on := 4, ground := Ground.data }, { on := 3, ground := Ground.guard }], guard := some (3, true) }) (v := _) rfl (by kernel_rfl) (by kernel_rfl) (by kernel_rfl) (fun _ _ _ h => h) (Or.inl ⟨by rfl, ?hye5⟩) hH0 ?re5
            case hye5 => (intro w' hSw; have x1 := hSw.cell hx1; have x5 := hSw.cell hx5; have x6 := hSw.cell hx6; have y5 := hSw.cell hy5; clear hSw; go_simp; try with_reducible rfl)
            simp only [Act.put, List.setIfInBounds_toArray, List.set_cons_zero, List.set_cons_succ]
            refine' wpAnyH_take (i := 6) (oi := { dst := some 20, op := Op.fieldAddr 33 (Operand.tmp 3) 1, type := 0, pos := "leaf.go:100", after := #[{ on := 3, ground := Ground.guard }], guard := some (3, true) }) (v := _) rfl (by kernel_rfl) (by kernel_rfl) (by kernel_rfl) (fun _ _ _ h => h) (Or.inl ⟨by rfl, ?hye6⟩) hH0 ?re6
            case hye6 => (intro w' hSw; have x1 := hSw.cell hx1; have x5 := hSw.cell hx5; have x6 := hSw.cell hx6; have y5 := hSw.cell hy5; clear hSw; go_simp; try with_reducible rfl)
            simp only [Act.put, List.setIfInBounds_toArray, List.set_cons_zero, List.set_cons_succ]
            refine' wpAnyH_take (i := 7) (oi := { dst := some 21, op := Op.load 27 (Operand.tmp 20), type := 27, pos := "leaf.go:100", after := #[{ on := 6, ground := Ground.data }, { on := 3, ground := Ground.guard }], guard := some (3, true) }) (v := _) rfl (by kernel_rfl) (by kernel_rfl) (by kernel_rfl) (fun _ _ _ h => h) (Or.inl ⟨by rfl, ?hye7⟩) hH0 ?re7
            case hye7 => (intro w' hSw; have x1 := hSw.cell hx1; have x5 := hSw.cell hx5; have x6 := hSw.cell hx6; have y5 := hSw.cell hy5; clear hSw; go_simp; try with_reducible rfl)
            simp only [Act.put, List.setIfInBounds_toArray, List.set_cons_zero, List.set_cons_succ]
            refine' wpAnyH_take (i := 8) (oi := { dst := some 22, op := Op.convert 27 3 (Operand.tmp 21), type := 3, pos := "leaf.go:100", after := #[{ on := 7, ground := Ground.data }, { on := 3, ground := Ground.guard }], guard := some (3, true) }) (v := _) rfl (by kernel_rfl) (by kernel_rfl) (by kernel_rfl) (fun _ _ _ h => h) (Or.inl ⟨by rfl, ?hye8⟩) hH0 ?re8
            case hye8 => (intro w' hSw; have x1 := hSw.cell hx1; have x5 := hSw.cell hx5; have x6 := hSw.cell hx6; have y5 := hSw.cell hy5; clear hSw; go_simp; try with_reducible rfl)
            simp only [Act.put, List.setIfInBounds_toArray, List.set_cons_zero, List.set_cons_succ]
            refine wpAnyH_ready (rs := [9]) (by kernel_rfl) (by simp) ?_
            refine AllReadyH.cons (o := { dst := some 23, op := Op.call { callee := Callee.value (Operand.func 10), args := #[Operand.tmp 22], argTypes := #[3] }, type := 3, pos := "leaf.go:100", after := #[{ on := 8, ground := Ground.data }, { on := 3, ground := Ground.chain }, { on := 3, ground := Ground.guard }], guard := some (3, true) }) rfl (fun K hK => ?_) AllReadyH.nil
            refine step_call_want (vs := #[.int .i64 f.lba]) (R := fun v w' => v = .int .i64 T ∧ w' = wc.drew) (by rfl) 10 #[Operand.tmp 22] #[3] rfl (by simp [Act.eval]) call10 (post_w (hpg wc.drew)) ?_
            rintro _ _ ⟨rfl, rfl⟩
            refine hK.out _ _ ((Keep.refl (fun _ => False) wc).drew) (fun hH1 => ?_)
            clear hK K hH0
            simp only [Act.put, List.setIfInBounds_toArray, List.set_cons_zero, List.set_cons_succ]
            refine' wpAnyH_take (i := 10) (oi := { dst := some 24, op := Op.convert 3 27 (Operand.tmp 23), type := 27, pos := "leaf.go:100", after := #[{ on := 9, ground := Ground.data }, { on := 3, ground := Ground.guard }], guard := some (3, true) }) (v := _) rfl (by kernel_rfl) (by kernel_rfl) (by kernel_rfl) (fun _ _ _ h => h) (Or.inl ⟨by rfl, ?hye10⟩) hH1 ?re10
            case hye10 => (intro w' hSw; have x1 := hSw.cell hx1; have x5 := hSw.cell hx5; have x6 := hSw.cell hx6; have y5 := hSw.cell hy5; clear hSw; go_simp; try with_reducible rfl)
            simp only [Act.put, List.setIfInBounds_toArray, List.set_cons_zero, List.set_cons_succ]
            refine' wpAnyH_take (i := 11) (oi := { dst := some 25, op := Op.binOp BinOp.eql 27 (Operand.tmp 19) (Operand.tmp 24) 27, type := 4, pos := "leaf.go:100", after := #[{ on := 5, ground := Ground.data }, { on := 10, ground := Ground.data }, { on := 3, ground := Ground.guard }], guard := some (3, true) }) (v := _) rfl (by kernel_rfl) (by kernel_rfl) (by kernel_rfl) (fun _ _ _ h => h) (Or.inl ⟨by rfl, ?hye11⟩) hH1 ?re11
            case hye11 => (intro w' hSw; have x1 := hSw.cell hx1; have x5 := hSw.cell hx5; have x6 := hSw.cell hx6; have y5 := hSw.cell hy5; clear hSw; go_simp; try with_reducible rfl)
            simp only [Act.put, List.setIfInBounds_toArray, List.set_cons_zero, List.set_cons_succ]
            refine' wpAnyH_take (i := 12) (oi := { dst := some 26, op := Op.pick (Operand.tmp 17) (Operand.tmp 25) (Operand.const (Value.bool false)), type := 4, pos := "leaf.go:100", after := #[{ on := 3, ground := Ground.data }, { on := 11, ground := Ground.data }], guard := none }) (v := _) rfl (by kernel_rfl) (by kernel_rfl) (by kernel_rfl) (fun _ _ _ h => h) (Or.inl ⟨by rfl, ?hye12⟩) hH1 ?re12
            case hye12 => (intro w' hSw; clear hSw; go_simp; try with_reducible rfl)
            simp only [Act.put, List.setIfInBounds_toArray, List.set_cons_zero, List.set_cons_succ]
            refine' wpAnyH_take (i := 13) (oi := { dst := some 27, op := Op.move (Operand.tmp 26), type := 4, pos := "leaf.go:100", after := #[{ on := 12, ground := Ground.data }, { on := 9, ground := Ground.chain }], guard := none }) (v := _) rfl (by kernel_rfl) (by kernel_rfl) (by kernel_rfl) (fun _ _ _ h => h) (Or.inl ⟨by rfl, ?hye13⟩) hH1 ?re13
            case hye13 => (intro w' hSw; clear hSw; go_simp; try with_reducible rfl)
            simp only [Act.put, List.setIfInBounds_toArray, List.set_cons_zero, List.set_cons_succ]
            refine' wpAnyH_take (i := 14) (oi := { dst := some 28, op := Op.move (Operand.tmp 0), type := 23, pos := "leaf.go:100", after := #[{ on := 13, ground := Ground.guard }], guard := some (13, true) }) (v := _) rfl (by kernel_rfl) (by kernel_rfl) (by kernel_rfl) (fun _ _ _ h => h) (Or.inl ⟨by rfl, ?hye14⟩) hH1 ?re14
            case hye14 => (intro w' hSw; clear hSw; go_simp; try with_reducible rfl)
            simp only [Act.put, List.setIfInBounds_toArray, List.set_cons_zero, List.set_cons_succ]
            refine wpAnyH_ready (rs := [15]) (by kernel_rfl) (by simp) ?_
            refine AllReadyH.cons (o := { dst := some 29, op := Op.call { callee := Callee.value (Operand.func 30), args := #[Operand.tmp 28], argTypes := #[23] }, type := 4, pos := "leaf.go:101", after := #[{ on := 14, ground := Ground.data }, { on := 13, ground := Ground.chain }, { on := 13, ground := Ground.guard }], guard := some (13, true) }) rfl (fun K hK => ?_) AllReadyH.nil
            refine step_call_want (vs := #[.slice (some ⟨g, o, none⟩) n cap]) (R := fun v w' => v = .bool true ∧ Keep (fun _ => False) wc.drew w') (by rfl) 30 #[Operand.tmp 28] #[23] rfl (by simp [Act.eval]) call30 (post_w (hag wc.drew (Keep.refl _ _).drew)) ?_
            rintro _ w5 ⟨rfl, k5⟩
            refine hK.out _ _ ((Keep.refl (fun _ => False) wc).drew.trans k5) (fun hH2 => ?_)
            clear hK K hH1
            simp only [Act.put, List.setIfInBounds_toArray, List.set_cons_zero, List.set_cons_succ]
            refine' wpAnyH_take (i := 16) (oi := { dst := some 30, op := Op.pick (Operand.tmp 27) (Operand.tmp 29) (Operand.const (Value.bool false)), type := 4, pos := "leaf.go:100", after := #[{ on := 13, ground := Ground.data }, { on := 15, ground := Ground.data }], guard := none }) (v := _) rfl (by kernel_rfl) (by kernel_rfl) (by kernel_rfl) (fun _ _ _ h => h) (Or.inl ⟨by rfl, ?hye16⟩) hH2 ?re16
            case hye16 => (intro w' hSw; clear hSw; go_simp; try with_reducible rfl)
            simp only [Act.put, List.setIfInBounds_toArray, List.set_cons_zero, List.set_cons_succ]
            refine' wpAnyH_take (i := 17) (oi := { dst := some 31, op := Op.move (Operand.tmp 30), type := 4, pos := "leaf.go:100", after := #[{ on := 16, ground := Ground.data }, { on := 15, ground := Ground.chain }], guard := none }) (v := _) rfl (by kernel_rfl) (by kernel_rfl) (by kernel_rfl) (fun _ _ _ h => h) (Or.inl ⟨by rfl, ?hye17⟩) hH2 ?re17
            case hye17 => (intro w' hSw; clear hSw; go_simp; try with_reducible rfl)
            simp only [Act.put, List.setIfInBounds_toArray, List.set_cons_zero, List.set_cons_succ]
            refine' wpAnyH_take (i := 18) (oi := { dst := some 32, op := Op.fieldAddr 33 (Operand.tmp 3) 5, type := 0, pos := "leaf.go:100", after := #[{ on := 17, ground := Ground.guard }], guard := some (17, true) }) (v := _) rfl (by kernel_rfl) (by kernel_rfl) (by kernel_rfl) (fun _ _ _ h => h) (Or.inl ⟨by rfl, ?hye18⟩) hH2 ?re18
            case hye18 => (intro w' hSw; have x1 := hSw.cell hx1; have x5 := hSw.cell hx5; have x6 := hSw.cell hx6; have y5 := hSw.cell hy5; clear hSw; go_simp; try with_reducible rfl)
            simp only [Act.put, List.setIfInBounds_toArray, List.set_cons_zero, List.set_cons_succ]
            refine' wpAnyH_take (i := 19) (oi := { dst := some 33, op := Op.load 27 (Operand.tmp 32), type := 27, pos := "leaf.go:100", after := #[{ on := 18, ground := Ground.data }, { on := 17, ground := Ground.guard }], guard := some (17, true) }) (v := _) rfl (by kernel_rfl) (by kernel_rfl) (by kernel_rfl) (fun _ _ _ h => h) (Or.inl ⟨by rfl, ?hye19⟩) hH2 ?re19
            case hye19 => (intro w' hSw; have x1 := hSw.cell hx1; have x5 := hSw.cell hx5; have x6 := hSw.cell hx6; have y5 := hSw.cell hy5; clear hSw; go_simp; try with_reducible rfl)
            simp only [Act.put, List.setIfInBounds_toArray, List.set_cons_zero, List.set_cons_succ]
            refine' wpAnyH_take (i := 20) (oi := { dst := some 34, op := Op.binOp BinOp.eql 27 (Operand.tmp 33) (Operand.const (Value.int IntKind.u32 0)) 27, type := 4, pos := "leaf.go:100", after := #[{ on := 19, ground := Ground.data }, { on := 17, ground := Ground.guard }], guard := some (17, true) }) (v := _) rfl (by kernel_rfl) (by kernel_rfl) (by kernel_rfl) (fun _ _ _ h => h) (Or.inl ⟨by rfl, ?hye20⟩) hH2 ?re20
            case hye20 => (intro w' hSw; have x1 := hSw.cell hx1; have x5 := hSw.cell hx5; have x6 := hSw.cell hx6; have y5 := hSw.cell hy5; clear hSw; go_simp; try with_reducible rfl)
            simp only [Act.put, List.setIfInBounds_toArray, List.set_cons_zero, List.set_cons_succ]
            refine' wpAnyH_take (i := 21) (oi := { dst := some 35, op := Op.pick (Operand.tmp 31) (Operand.tmp 34) (Operand.const (Value.bool false)), type := 4, pos := "leaf.go:100", after := #[{ on := 17, ground := Ground.data }, { on := 20, ground := Ground.data }], guard := none }) (v := _) rfl (by kernel_rfl) (by kernel_rfl) (by kernel_rfl) (fun _ _ _ h => h) (Or.inl ⟨by rfl, ?hye21⟩) hH2 ?re21
            case hye21 => (intro w' hSw; clear hSw; go_simp; try with_reducible rfl)
            simp only [Act.put, List.setIfInBounds_toArray, List.set_cons_zero, List.set_cons_succ]
            refine' wpAnyH_take (i := 22) (oi := { dst := some 36, op := Op.move (Operand.tmp 35), type := 4, pos := "leaf.go:100", after := #[{ on := 21, ground := Ground.data }, { on := 17, ground := Ground.chain }], guard := none }) (v := _) rfl (by kernel_rfl) (by kernel_rfl) (by kernel_rfl) (fun _ _ _ h => h) (Or.inl ⟨by rfl, ?hye22⟩) hH2 ?re22
            case hye22 => (intro w' hSw; clear hSw; go_simp; try with_reducible rfl)
            simp only [Act.put, List.setIfInBounds_toArray, List.set_cons_zero, List.set_cons_succ]
            refine' wpAnyH_take (i := 23) (oi := { dst := some 37, op := Op.fieldAddr 33 (Operand.tmp 4) 5, type := 0, pos := "leaf.go:100", after := #[{ on := 22, ground := Ground.guard }], guard := some (22, true) }) (v := undef) rfl (by kernel_rfl) (by kernel_rfl) (by kernel_rfl) (fun _ _ _ h => h) (Or.inr ⟨by rfl, rfl⟩) hH2 ?re23
            simp only [Act.put, List.setIfInBounds_toArray, List.set_cons_zero, List.set_cons_succ]
            refine' wpAnyH_take (i := 24) (oi := { dst := some 38, op := Op.load 27 (Operand.tmp 37), type := 27, pos := "leaf.go:100", after := #[{ on := 23, ground := Ground.data }, { on := 22, ground := Ground.guard }], guard := some (22, true) }) (v := undef) rfl (by kernel_rfl) (by kernel_rfl) (by kernel_rfl) (fun _ _ _ h => h) (Or.inr ⟨by rfl, rfl⟩) hH2 ?re24
            simp only [Act.put, List.setIfInBounds_toArray, List.set_cons_zero, List.set_cons_succ]
            refine' wpAnyH_take (i := 25) (oi := { dst := some 39, op := Op.fieldAddr 33 (Operand.tmp 3) 6, type := 0, pos := "leaf.go:100", after := #[{ on := 22, ground := Ground.guard }], guard := some (22, true) }) (v := undef) rfl (by kernel_rfl) (by kernel_rfl) (by kernel_rfl) (fun _ _ _ h => h) (Or.inr ⟨by rfl, rfl⟩) hH2 ?re25
            simp only [Act.put, List.setIfInBounds_toArray, List.set_cons_zero, List.set_cons_succ]
            refine' wpAnyH_take (i := 26) (oi := { dst := some 40, op := Op.load 27 (Operand.tmp 39), type := 27, pos := "leaf.go:100", after := #[{ on := 25, ground := Ground.data }, { on := 22, ground := Ground.guard }], guard := some (22, true) }) (v := undef) rfl (by kernel_rfl) (by kernel_rfl) (by kernel_rfl) (fun _ _ _ h => h) (Or.inr ⟨by rfl, rfl⟩) hH2 ?re26
            simp only [Act.put, List.setIfInBounds_toArray, List.set_cons_zero, List.set_cons_succ]
            refine' wpAnyH_take (i := 27) (oi := { dst := some 41, op := Op.binOp BinOp.sub 27 (Operand.tmp 40) (Operand.const (Value.int IntKind.u32 1)) 27, type := 27, pos := "leaf.go:100", after := #[{ on := 26, ground := Ground.data }, { on := 22, ground := Ground.guard }], guard := some (22, true) }) (v := undef) rfl (by kernel_rfl) (by kernel_rfl) (by kernel_rfl) (fun _ _ _ h => h) (Or.inr ⟨by rfl, rfl⟩) hH2 ?re27
            simp only [Act.put, List.setIfInBounds_toArray, List.set_cons_zero, List.set_cons_succ]
            refine' wpAnyH_take (i := 28) (oi := { dst := some 42, op := Op.binOp BinOp.eql 27 (Operand.tmp 38) (Operand.tmp 41) 27, type := 4, pos := "leaf.go:100", after := #[{ on := 24, ground := Ground.data }, { on := 27, ground := Ground.data }, { on := 22, ground := Ground.guard }], guard := some (22, true) }) (v := undef) rfl (by kernel_rfl) (by kernel_rfl) (by kernel_rfl) (fun _ _ _ h => h) (Or.inr ⟨by rfl, rfl⟩) hH2 ?re28
            simp only [Act.put, List.setIfInBounds_toArray, List.set_cons_zero, List.set_cons_succ]
            refine' wpAnyH_take (i := 29) (oi := { dst := some 43, op := Op.pick (Operand.tmp 36) (Operand.tmp 42) (Operand.const (Value.bool false)), type := 4, pos := "leaf.go:100", after := #[{ on := 22, ground := Ground.data }, { on := 28, ground := Ground.data }], guard := none }) (v := _) rfl (by kernel_rfl) (by kernel_rfl) (by kernel_rfl) (fun _ _ _ h => h) (Or.inl ⟨by rfl, ?hye29⟩) hH2 ?re29
            case hye29 => (intro w' hSw; clear hSw; go_simp; try with_reducible rfl)
            simp only [Act.put, List.setIfInBounds_toArray, List.set_cons_zero, List.set_cons_succ]
            refine' wpAnyH_take (i := 30) (oi := { dst := some 44, op := Op.move (Operand.tmp 43), type := 4, pos := "leaf.go:100", after := #[{ on := 29, ground := Ground.data }, { on := 22, ground := Ground.chain }], guard := none }) (v := _) rfl (by kernel_rfl) (by kernel_rfl) (by kernel_rfl) (fun _ _ _ h => h) (Or.inl ⟨by rfl, ?hye30⟩) hH2 ?re30
            case hye30 => (intro w' hSw; clear hSw; go_simp; try with_reducible rfl)
            simp only [Act.put, List.setIfInBounds_toArray, List.set_cons_zero, List.set_cons_succ]
            refine' wpAnyH_take (i := 31) (oi := { dst := some 45, op := Op.load 33 (Operand.tmp 4), type := 33, pos := "leaf.go:100", after := #[{ on := 30, ground := Ground.guard }], guard := some (30, true) }) (v := undef) rfl (by kernel_rfl) (by kernel_rfl) (by kernel_rfl) (fun _ _ _ h => h) (Or.inr ⟨by rfl, rfl⟩) hH2 ?re31
            simp only [Act.put, List.setIfInBounds_toArray, List.set_cons_zero, List.set_cons_succ]
            refine' wpAnyH_take (i := 32) (oi := { dst := some 46, op := Op.call { callee := Callee.value (Operand.func 31), args := #[Operand.tmp 45], argTypes := #[33] }, type := 4, pos := "leaf.go:101", after := #[{ on := 31, ground := Ground.data }, { on := 30, ground := Ground.chain }, { on := 30, ground := Ground.guard }], guard := some (30, true) }) (v := undef) rfl (by kernel_rfl) (by kernel_rfl) (by kernel_rfl) (fun _ _ _ h => h) (Or.inr ⟨by rfl, rfl⟩) hH2 ?re32
            simp only [Act.put, List.setIfInBounds_toArray, List.set_cons_zero, List.set_cons_succ]
            refine' wpAnyH_take (i := 33) (oi := { dst := some 47, op := Op.pick (Operand.tmp 44) (Operand.tmp 46) (Operand.const (Value.bool false)), type := 4, pos := "leaf.go:100", after := #[{ on := 30, ground := Ground.data }, { on := 32, ground := Ground.data }], guard := none }) (v := _) rfl (by kernel_rfl) (by kernel_rfl) (by kernel_rfl) (fun _ _ _ h => h) (Or.inl ⟨by rfl, ?hye33⟩) hH2 ?re33
            case hye33 => (intro w' hSw; clear hSw; go_simp; try with_reducible rfl)
            simp only [Act.put, List.setIfInBounds_toArray, List.set_cons_zero, List.set_cons_succ]
            refine' wpAnyH_take (i := 34) (oi := { dst := some 2, op := Op.assign (Operand.tmp 47), type := 4, pos := "leaf.go:100", after := #[{ on := 33, ground := Ground.data }, { on := 32, ground := Ground.chain }, { on := 0, ground := Ground.phase }, { on := 1, ground := Ground.phase }, { on := 2, ground := Ground.phase }, { on := 3, ground := Ground.phase }, { on := 4, ground := Ground.phase }, { on := 5, ground := Ground.phase }, { on := 6, ground := Ground.phase }, { on := 7, ground := Ground.phase }, { on := 8, ground := Ground.phase }, { on := 9, ground := Ground.phase }, { on := 10, ground := Ground.phase }, { on := 11, ground := Ground.phase }, { on := 12, ground := Ground.phase }, { on := 13, ground := Ground.phase }, { on := 14, ground := Ground.phase }, { on := 15, ground := Ground.phase }, { on := 16, ground := Ground.phase }, { on := 17, ground := Ground.phase }, { on := 18, ground := Ground.phase }, { on := 19, ground := Ground.phase }, { on := 20, ground := Ground.phase }, { on := 21, ground := Ground.phase }, { on := 22, ground := Ground.phase }, { on := 23, ground := Ground.phase }, { on := 24, ground := Ground.phase }, { on := 25, ground := Ground.phase }, { on := 26, ground := Ground.phase }, { on := 27, ground := Ground.phase }, { on := 28, ground := Ground.phase }, { on := 29, ground := Ground.phase }, { on := 30, ground := Ground.phase }, { on := 31, ground := Ground.phase }, { on := 32, ground := Ground.phase }, { on := 33, ground := Ground.phase }], guard := none }) (v := _) rfl (by kernel_rfl) (by kernel_rfl) (by kernel_rfl) (fun _ _ _ h => h) (Or.inl ⟨by rfl, ?hye34⟩) hH2 ?re34
            case hye34 => (intro w' hSw; clear hSw; go_simp; try with_reducible rfl)
            simp only [Act.put, List.setIfInBounds_toArray, List.set_cons_zero, List.set_cons_succ]
            refine wpAnyH_done (by kernel_rfl) ?_ _
            refine NoPanic.normal ?_
            go_wp2_with fail
            go_ret
            exact Bl.no rfl hres (K9.trans ((Keep.refl (fun _ => False) wc).drew.trans k5))
        · have hag : ∀ w', Keep (fun _ => False) wc w' → Calls Try.prog 30 #[.slice (some ⟨g, o, none⟩) n cap] w' fun e w2 => e = .returned (.bool false) ∧ Keep (fun _ => False) w' w2 := fun w' k => Bl.neg (hagr2 w' k) h3
          have hres : Hid (¬ SG) := fun hs => h3 ((show SG ↔ _ from hsayT).1 hs).2.2.1
          clear h1 h2 hT3 hsayT hzl hagr2
          refine wp_region_noPanic ?_
          refine wp_region_held_drew (S := fun w' => Keep (fun _ => False) wc w') (by kernel_rfl) ((Keep.refl (fun _ => False) wc).drew) (fun hH0 => ?_)
          refine' wpAnyH_take (i := 0) (oi := { dst := some 14, op := Op.fieldAddr 33 (Operand.tmp 3) 1, type := 0, pos := "leaf.go:100", after := #[], guard := none }) (v := _) rfl (by kernel_rfl) (by kernel_rfl) (by kernel_rfl) (fun _ _ _ h => h) (Or.inl ⟨by rfl, ?hyf0⟩) hH0 ?rf0
          case hyf0 => (intro w' hSw; have x1 := hSw.cell hx1; have x5 := hSw.cell hx5; have x6 := hSw.cell hx6; have y5 := hSw.cell hy5; clear hSw; go_simp; try with_reducible rfl)
          simp only [Act.put, List.setIfInBounds_toArray, List.set_cons_zero, List.set_cons_succ]
          refine' wpAnyH_take (i := 1) (oi := { dst := some 15, op := Op.load 27 (Operand.tmp 14), type := 27, pos := "leaf.go:100", after := #[{ on := 0, ground := Ground.data }], guard := none }) (v := _) rfl (by kernel_rfl) (by kernel_rfl) (by kernel_rfl) (fun _ _ _ h => h) (Or.inl ⟨by rfl, ?hyf1⟩) hH0 ?rf1
          case hyf1 => (intro w' hSw; have x1 := hSw.cell hx1; have x5 := hSw.cell hx5; have x6 := hSw.cell hx6; have y5 := hSw.cell hy5; clear hSw; go_simp; try with_reducible rfl)
          simp only [Act.put, List.setIfInBounds_toArray, List.set_cons_zero, List.set_cons_succ]
          refine' wpAnyH_take (i := 2) (oi := { dst := some 16, op := Op.binOp BinOp.leq 27 (Operand.tmp 15) (Operand.const (Value.int IntKind.u32 65536)) 27, type := 4, pos := "leaf.go:100", after := #[{ on := 1, ground := Ground.data }], guard := none }) (v := _) rfl (by kernel_rfl) (by kernel_rfl) (by kernel_rfl) (fun _ _ _ h => h) (Or.inl ⟨by rfl, ?hyf2⟩) hH0 ?rf2
          case hyf2 => (intro w' hSw; have x1 := hSw.cell hx1; have x5 := hSw.cell hx5; have x6 := hSw.cell hx6; have y5 := hSw.cell hy5; clear hSw; go_simp; try with_reducible rfl)
          simp only [Act.put, List.setIfInBounds_toArray, List.set_cons_zero, List.set_cons_succ]
          refine' wpAnyH_take (i := 3) (oi := { dst := some 17, op := Op.move (Operand.tmp 16), type := 4, pos := "leaf.go:100", after := #[{ on := 2, ground := Ground.data }], guard := none }) (v := _) rfl (by kernel_rfl) (by kernel_rfl) (by kernel_rfl) (fun _ _ _ h => h) (Or.inl ⟨by rfl, ?hyf3⟩) hH0 ?rf3
          case hyf3 => (intro w' hSw; have x1 := hSw.cell hx1; have x5 := hSw.cell hx5; have x6 := hSw.cell hx6; have y5 := hSw.cell hy5; clear hSw; go_simp; try with_reducible rfl)
          simp only [Act.put, List.setIfInBounds_toArray, List.set_cons_zero, List.set_cons_succ]
          refine' wpAnyH_take (i := 4) (oi := { dst := some 18, op := Op.fieldAddr 33 (Operand.tmp 3) 6, type := 0, pos := "leaf.go:100", after := #[{ on := 3, ground := Ground.guard }], guard := some (3, true) }) (v := _) rfl (by kernel_rfl) (by kernel_rfl) (by kernel_rfl) (fun _ _ _ h => h) (Or.inl ⟨by rfl, ?hyf4⟩) hH0 ?rf4
          case hyf4 => (intro w' hSw; have x1 := hSw.cell hx1; have x5 := hSw.cell hx5; have x6 := hSw.cell hx6; have y5 := hSw.cell hy5; clear hSw; go_simp; try with_reducible rfl)
          simp only [Act.put, List.setIfInBounds_toArray, List.set_cons_zero, List.set_cons_succ]
          refine' wpAnyH_take (i := 5) (oi := { dst := some 19, op := Op.load 27 (Operand.tmp 18), type := 27, pos := "leaf.go:100", after := #[{ on := 4, ground := Ground.data }, { on := 3, ground := Ground.guard }], guard := some (3, true) }) (v := _) rfl (by kernel_rfl) (by kernel_rfl) (by kernel_rfl) (fun _ _ _ h => h) (Or.inl ⟨by rfl, ?hyf5⟩) hH0 ?rf5
          case hyf5 => (intro w' hSw; have x1 := hSw.cell hx1; have x5 := hSw.cell hx5; have x6 := hSw.cell hx6; have y5 := hSw.cell hy5; clear hSw; go_simp; try with_reducible rfl)
          simp only [Act.put, List.setIfInBounds_toArray, List.set_cons_zero, List.set_cons_succ]
          refine' wpAnyH_take (i := 6) (oi := { dst := some 20, op := Op.fieldAddr 33 (Operand.tmp 3) 1, type := 0, pos := "leaf.go:100", after := #[{ on := 3, ground := Ground.guard }], guard := some (3, true) }) (v := _) rfl (by kernel_rfl) (by kernel_rfl) (by kernel_rfl) (fun _ _ _ h => h) (Or.inl ⟨by rfl, ?hyf6⟩) hH0 ?rf6
          case hyf6 => (intro w' hSw; have x1 := hSw.cell hx1; have x5 := hSw.cell hx5; have x6 := hSw.cell hx6; have y5 := hSw.cell hy5; clear hSw; go_simp; try with_reducible rfl)
          simp only [Act.put, List.setIfInBounds_toArray, List.set_cons_zero, List.set_cons_succ]
          refine' wpAnyH_take (i := 7) (oi := { dst := some 21, op := Op.load 27 (Operand.tmp 20), type := 27, pos := "leaf.go:100", after := #[{ on := 6, ground := Ground.data }, { on := 3, ground := Ground.guard }], guard := some (3, true) }) (v := _) rfl (by kernel_rfl) (by kernel_rfl) (by kernel_rfl) (fun _ _ _ h => h) (Or.inl ⟨by rfl, ?hyf7⟩) hH0 ?rf7
          case hyf7 => (intro w' hSw; have x1 := hSw.cell hx1; have x5 := hSw.cell hx5; have x6 := hSw.cell hx6; have y5 := hSw.cell hy5; clear hSw; go_simp; try with_reducible rfl)
          simp only [Act.put, List.setIfInBounds_toArray, List.set_cons_zero, List.set_cons_succ]
          refine' wpAnyH_take (i := 8) (oi := { dst := some 22, op := Op.convert 27 3 (Operand.tmp 21), type := 3, pos := "leaf.go:100", after := #[{ on := 7, ground := Ground.data }, { on := 3, ground := Ground.guard }], guard := some (3, true) }) (v := _) rfl (by kernel_rfl) (by kernel_rfl) (by kernel_rfl) (fun _ _ _ h => h) (Or.inl ⟨by rfl, ?hyf8⟩) hH0 ?rf8
          case hyf8 => (intro w' hSw; have x1 := hSw.cell hx1; have x5 := hSw.cell hx5; have x6 := hSw.cell hx6; have y5 := hSw.cell hy5; clear hSw; go_simp; try with_reducible rfl)
          simp only [Act.put, List.setIfInBounds_toArray, List.set_cons_zero, List.set_cons_succ]
          refine wpAnyH_ready (rs := [9]) (by kernel_rfl) (by simp) ?_
          refine AllReadyH.cons (o := { dst := some 23, op := Op.call { callee := Callee.value (Operand.func 10), args := #[Operand.tmp 22], argTypes := #[3] }, type := 3, pos := "leaf.go:100", after := #[{ on := 8, ground := Ground.data }, { on := 3, ground := Ground.chain }, { on := 3, ground := Ground.guard }], guard := some (3, true) }) rfl (fun K hK => ?_) AllReadyH.nil
          refine step_call_want (vs := #[.int .i64 f.lba]) (R := fun v w' => v = .int .i64 T ∧ w' = wc.drew) (by rfl) 10 #[Operand.tmp 22] #[3] rfl (by simp [Act.eval]) call10 (post_w (hpg wc.drew)) ?_
          rintro _ _ ⟨rfl, rfl⟩
          refine hK.out _ _ ((Keep.refl (fun _ => False) wc).drew) (fun hH1 => ?_)
          clear hK K hH0
          simp only [Act.put, List.setIfInBounds_toArray, List.set_cons_zero, List.set_cons_succ]
          refine' wpAnyH_take (i := 10) (oi := { dst := some 24, op := Op.convert 3 27 (Operand.tmp 23), type := 27, pos := "leaf.go:100", after := #[{ on := 9, ground := Ground.data }, { on := 3, ground := Ground.guard }], guard := some (3, true) }) (v := _) rfl (by kernel_rfl) (by kernel_rfl) (by kernel_rfl) (fun _ _ _ h => h) (Or.inl ⟨by rfl, ?hyf10⟩) hH1 ?rf10
          case hyf10 => (intro w' hSw; have x1 := hSw.cell hx1; have x5 := hSw.cell hx5; have x6 := hSw.cell hx6; have y5 := hSw.cell hy5; clear hSw; go_simp; try with_reducible rfl)
          simp only [Act.put, List.setIfInBounds_toArray, List.set_cons_zero, List.set_cons_succ]
          refine' wpAnyH_take (i := 11) (oi := { dst := some 25, op := Op.binOp BinOp.eql 27 (Operand.tmp 19) (Operand.tmp 24) 27, type := 4, pos := "leaf.go:100", after := #[{ on := 5, ground := Ground.data }, { on := 10, ground := Ground.data }, { on := 3, ground := Ground.guard }], guard := some (3, true) }) (v := _) rfl (by kernel_rfl) (by kernel_rfl) (by kernel_rfl) (fun _ _ _ h => h) (Or.inl ⟨by rfl, ?hyf11⟩) hH1 ?rf11
          case hyf11 => (intro w' hSw; have x1 := hSw.cell hx1; have x5 := hSw.cell hx5; have x6 := hSw.cell hx6; have y5 := hSw.cell hy5; clear hSw; go_simp; try with_reducible rfl)
          simp only [Act.put, List.setIfInBounds_toArray, List.set_cons_zero, List.set_cons_succ]
          refine' wpAnyH_take (i := 12) (oi := { dst := some 26, op := Op.pick (Operand.tmp 17) (Operand.tmp 25) (Operand.const (Value.bool false)), type := 4, pos := "leaf.go:100", after := #[{ on := 3, ground := Ground.data }, { on := 11, ground := Ground.data }], guard := none }) (v := _) rfl (by kernel_rfl) (by kernel_rfl) (by kernel_rfl) (fun _ _ _ h => h) (Or.inl ⟨by rfl, ?hyf12⟩) hH1 ?rf12
          case hyf12 => (intro w' hSw; clear hSw; go_simp; try with_reducible rfl)
          simp only [Act.put, List.setIfInBounds_toArray, List.set_cons_zero, List.set_cons_succ]
          refine' wpAnyH_take (i := 13) (oi := { dst := some 27, op := Op.move (Operand.tmp 26), type := 4, pos := "leaf.go:100", after := #[{ on := 12, ground := Ground.data }, { on := 9, ground := Ground.chain }], guard := none }) (v := _) rfl (by kernel_rfl) (by kernel_rfl) (by kernel_rfl) (fun _ _ _ h => h) (Or.inl ⟨by rfl, ?hyf13⟩) hH1 ?rf13
          case hyf13 => (intro w' hSw; clear hSw; go_simp; try with_reducible rfl)
          simp only [Act.put, List.setIfInBounds_toArray, List.set_cons_zero, List.set_cons_succ]
          refine' wpAnyH_take (i := 14) (oi := { dst := some 28, op := Op.move (Operand.tmp 0), type := 23, pos := "leaf.go:100", after := #[{ on := 13, ground := Ground.guard }], guard := some (13, true) }) (v := _) rfl (by kernel_rfl) (by kernel_rfl) (by kernel_rfl) (fun _ _ _ h => h) (Or.inl ⟨by rfl, ?hyf14⟩) hH1 ?rf14
          case hyf14 => (intro w' hSw; clear hSw; go_simp; try with_reducible rfl)
          simp only [Act.put, List.setIfInBounds_toArray, List.set_cons_zero, List.set_cons_succ]
          refine wpAnyH_ready (rs := [15]) (by kernel_rfl) (by simp) ?_
          refine AllReadyH.cons (o := { dst := some 29, op := Op.call { callee := Callee.value (Operand.func 30), args := #[Operand.tmp 28], argTypes := #[23] }, type := 4, pos := "leaf.go:101", after := #[{ on := 14, ground := Ground.data }, { on := 13, ground := Ground.chain }, { on := 13, ground := Ground.guard }], guard := some (13, true) }) rfl (fun K hK => ?_) AllReadyH.nil
          refine step_call_want (vs := #[.slice (some ⟨g, o, none⟩) n cap]) (R := fun v w' => v = .bool false ∧ Keep (fun _ => False) wc.drew w') (by rfl) 30 #[Operand.tmp 28] #[23] rfl (by simp [Act.eval]) call30 (post_w (hag wc.drew (Keep.refl _ _).drew)) ?_
          rintro _ w5 ⟨rfl, k5⟩
          refine hK.out _ _ ((Keep.refl (fun _ => False) wc).drew.trans k5) (fun hH2 => ?_)
          clear hK K hH1
          simp only [Act.put, List.setIfInBounds_toArray, List.set_cons_zero, List.set_cons_succ]
          refine' wpAnyH_take (i := 16) (oi := { dst := some 30, op := Op.pick (Operand.tmp 27) (Operand.tmp 29) (Operand.const (Value.bool false)), type := 4, pos := "leaf.go:100", after := #[{ on := 13, ground := Ground.data }, { on := 15, ground := Ground.data }], guard := none }) (v := _) rfl (by kernel_rfl) (by kernel_rfl) (by kernel_rfl) (fun _ _ _ h => h) (Or.inl ⟨by rfl, ?hyf16⟩) hH2 ?rf16
          case hyf16 => (intro w' hSw; clear hSw; go_simp; try with_reducible rfl)
          simp only [Act.put, List.setIfInBounds_toArray, List.set_cons_zero, List.set_cons_succ]
          refine' wpAnyH_take (i := 17) (oi := { dst := some 31, op := Op.move (Operand.tmp 30), type := 4, pos := "leaf.go:100", after := #[{ on := 16, ground := Ground.data }, { on := 15, ground := Ground.chain }], guard := none }) (v := _) rfl (by kernel_rfl) (by kernel_rfl) (by kernel_rfl) (fun _ _ _ h => h) (Or.inl ⟨by rfl, ?hyf17⟩) hH2 ?rf17
          case hyf17 => (intro w' hSw; clear hSw; go_simp; try with_reducible rfl)
          simp only [Act.put, List.setIfInBounds_toArray, List.set_cons_zero, List.set_cons_succ]
          refine' wpAnyH_take (i := 18) (oi := { dst := some 32, op := Op.fieldAddr 33 (Operand.tmp 3) 5, type := 0, pos := "leaf.go:100", after := #[{ on := 17, ground := Ground.guard }], guard := some (17, true) }) (v := undef) rfl (by kernel_rfl) (by kernel_rfl) (by kernel_rfl) (fun _ _ _ h => h) (Or.inr ⟨by rfl, rfl⟩) hH2 ?rf18
          simp only [Act.put, List.setIfInBounds_toArray, List.set_cons_zero, List.set_cons_succ]
          refine' wpAnyH_take (i := 19) (oi := { dst := some 33, op := Op.load 27 (Operand.tmp 32), type := 27, pos := "leaf.go:100", after := #[{ on := 18, ground := Ground.data }, { on := 17, ground := Ground.guard }], guard := some (17, true) }) (v := undef) rfl (by kernel_rfl) (by kernel_rfl) (by kernel_rfl) (fun _ _ _ h => h) (Or.inr ⟨by rfl, rfl⟩) hH2 ?rf19
          simp only [Act.put, List.setIfInBounds_toArray, List.set_cons_zero, List.set_cons_succ]
          refine' wpAnyH_take (i := 20) (oi := { dst := some 34, op := Op.binOp BinOp.eql 27 (Operand.tmp 33) (Operand.const (Value.int IntKind.u32 0)) 27, type := 4, pos := "leaf.go:100", after := #[{ on := 19, ground := Ground.data }, { on := 17, ground := Ground.guard }], guard := some (17, true) }) (v := undef) rfl (by kernel_rfl) (by kernel_rfl) (by kernel_rfl) (fun _ _ _ h => h) (Or.inr ⟨by rfl, rfl⟩) hH2 ?rf20
          simp only [Act.put, List.setIfInBounds_toArray, List.set_cons_zero, List.set_cons_succ]
          refine' wpAnyH_take (i := 21) (oi := { dst := some 35, op := Op.pick (Operand.tmp 31) (Operand.tmp 34) (Operand.const (Value.bool false)), type := 4, pos := "leaf.go:100", after := #[{ on := 17, ground := Ground.data }, { on := 20, ground := Ground.data }], guard := none }) (v := _) rfl (by kernel_rfl) (by kernel_rfl) (by kernel_rfl) (fun _ _ _ h => h) (Or.inl ⟨by rfl, ?hyf21⟩) hH2 ?rf21
          case hyf21 => (intro w' hSw; clear hSw; go_simp; try with_reducible rfl)
          simp only [Act.put, List.setIfInBounds_toArray, List.set_cons_zero, List.set_cons_succ]
          refine' wpAnyH_take (i := 22) (oi := { dst := some 36, op := Op.move (Operand.tmp 35), type := 4, pos := "leaf.go:100", after := #[{ on := 21, ground := Ground.data }, { on := 17, ground := Ground.chain }], guard := none }) (v := _) rfl (by kernel_rfl) (by kernel_rfl) (by kernel_rfl) (fun _ _ _ h => h) (Or.inl ⟨by rfl, ?hyf22⟩) hH2 ?rf22
          case hyf22 => (intro w' hSw; clear hSw; go_simp; try with_reducible rfl)
          simp only [Act.put, List.setIfInBounds_toArray, List.set_cons_zero, List.set_cons_succ]
          refine' wpAnyH_take (i := 23) (oi := { dst := some 37, op := Op.fieldAddr 33 (Operand.tmp 4) 5, type := 0, pos := "leaf.go:100", after := #[{ on := 22, ground := Ground.guard }], guard := some (22, true) }) (v := undef) rfl (by kernel_rfl) (by kernel_rfl) (by kernel_rfl) (fun _ _ _ h => h) (Or.inr ⟨by rfl, rfl⟩) hH2 ?rf23
          simp only [Act.put, List.setIfInBounds_toArray, List.set_cons_zero, List.set_cons_succ]
          refine' wpAnyH_take (i := 24) (oi := { dst := some 38, op := Op.load 27 (Operand.tmp 37), type := 27, pos := "leaf.go:100", after := #[{ on := 23, ground := Ground.data }, { on := 22, ground := Ground.guard }], guard := some (22, true) }) (v := undef) rfl (by kernel_rfl) (by kernel_rfl) (by kernel_rfl) (fun _ _ _ h => h) (Or.inr ⟨by rfl, rfl⟩) hH2 ?rf24
          simp only [Act.put, List.setIfInBounds_toArray, List.set_cons_zero, List.set_cons_succ]
          refine' wpAnyH_take (i := 25) (oi := { dst := some 39, op := Op.fieldAddr 33 (Operand.tmp 3) 6, type := 0, pos := "leaf.go:100", after := #[{ on := 22, ground := Ground.guard }], guard := some (22, true) }) (v := undef) rfl (by kernel_rfl) (by kernel_rfl) (by kernel_rfl) (fun _ _ _ h => h) (Or.inr ⟨by rfl, rfl⟩) hH2 ?rf25
          simp only [Act.put, List.setIfInBounds_toArray, List.set_cons_zero, List.set_cons_succ]
          refine' wpAnyH_take (i := 26) (oi := { dst := some 40, op := Op.load 27 (Operand.tmp 39), type := 27, pos := "leaf.go:100", after := #[{ on := 25, ground := Ground.data }, { on := 22, ground := Ground.guard }], guard := some (22, true) }) (v := undef) rfl (by kernel_rfl) (by kernel_rfl) (by kernel_rfl) (fun _ _ _ h => h) (Or.inr ⟨by rfl, rfl⟩) hH2 ?rf26
          simp only [Act.put, List.setIfInBounds_toArray, List.set_cons_zero, List.set_cons_succ]
          refine' wpAnyH_take (i := 27) (oi := { dst := some 41, op := Op.binOp BinOp.sub 27 (Operand.tmp 40) (Operand.const (Value.int IntKind.u32 1)) 27, type := 27, pos := "leaf.go:100", after := #[{ on := 26, ground := Ground.data }, { on := 22, ground := Ground.guard }], guard := some (22, true) }) (v := undef) rfl (by kernel_rfl) (by kernel_rfl) (by kernel_rfl) (fun _ _ _ h => h) (Or.inr ⟨by rfl, rfl⟩) hH2 ?rf27
          simp only [Act.put, List.setIfInBounds_toArray, List.set_cons_zero, List.set_cons_succ]
          refine' wpAnyH_take (i := 28) (oi := { dst := some 42, op := Op.binOp BinOp.eql 27 (Operand.tmp 38) (Operand.tmp 41) 27, type := 4, pos := "leaf.go:100", after := #[{ on := 24, ground := Ground.data }, { on := 27, ground := Ground.data }, { on := 22, ground := Ground.guard }], guard := some (22, true) }) (v := undef) rfl (by kernel_rfl) (by kernel_rfl) (by kernel_rfl) (fun _ _ _ h => h) (Or.inr ⟨by rfl, rfl⟩) hH2 ?rf28
          simp only [Act.put, List.setIfInBounds_toArray, List.set_cons_zero, List.set_cons_succ]
          refine' wpAnyH_take (i := 29) (oi := { dst := some 43, op := Op.pick (Operand.tmp 36) (Operand.tmp 42) (Operand.const (Value.bool false)), type := 4, pos := "leaf.go:100", after := #[{ on := 22, ground := Ground.data }, { on := 28, ground := Ground.data }], guard := none }) (v := _) rfl (by kernel_rfl) (by kernel_rfl) (by kernel_rfl) (fun _ _ _ h => h) (Or.inl ⟨by rfl, ?hyf29⟩) hH2 ?rf29
          case hyf29 => (intro w' hSw; clear hSw; go_simp; try with_reducible rfl)
          simp only [Act.put, List.setIfInBounds_toArray, List.set_cons_zero, List.set_cons_succ]
          refine' wpAnyH_take (i := 30) (oi := { dst := some 44, op := Op.move (Operand.tmp 43), type := 4, pos := "leaf.go:100", after := #[{ on := 29, ground := Ground.data }, { on := 22, ground := Ground.chain }], guard := none }) (v := _) rfl (by kernel_rfl) (by kernel_rfl) (by kernel_rfl) (fun _ _ _ h => h) (Or.inl ⟨by rfl, ?hyf30⟩) hH2 ?rf30
          case hyf30 => (intro w' hSw; clear hSw; go_simp; try with_reducible rfl)
          simp only [Act.put, List.setIfInBounds_toArray, List.set_cons_zero, List.set_cons_succ]
          refine' wpAnyH_take (i := 31) (oi := { dst := some 45, op := Op.load 33 (Operand.tmp 4), type := 33, pos := "leaf.go:100", after := #[{ on := 30, ground := Ground.guard }], guard := some (30, true) }) (v := undef) rfl (by kernel_rfl) (by kernel_rfl) (by kernel_rfl) (fun _ _ _ h => h) (Or.inr ⟨by rfl, rfl⟩) hH2 ?rf31
          simp only [Act.put, List.setIfInBounds_toArray, List.set_cons_zero, List.set_cons_succ]
          refine' wpAnyH_take (i := 32) (oi := { dst := some 46, op := Op.call { callee := Callee.value (Operand.func 31), args := #[Operand.tmp 45], argTypes := #[33] }, type := 4, pos := "leaf.go:101", after := #[{ on := 31, ground := Ground.data }, { on := 30, ground := Ground.chain }, { on := 30, ground := Ground.guard }], guard := some (30, true) }) (v := undef) rfl (by kernel_rfl) (by kernel_rfl) (by kernel_rfl) (fun _ _ _ h => h) (Or.inr ⟨by rfl, rfl⟩) hH2 ?rf32
          simp only [Act.put, List.setIfInBounds_toArray, List.set_cons_zero, List.set_cons_succ]
          refine' wpAnyH_take (i := 33) (oi := { dst := some 47, op := Op.pick (Operand.tmp 44) (Operand.tmp 46) (Operand.const (Value.bool false)), type := 4, pos := "leaf.go:100", after := #[{ on := 30, ground := Ground.data }, { on := 32, ground := Ground.data }], guard := none }) (v := _) rfl (by kernel_rfl) (by kernel_rfl) (by kernel_rfl) (fun _ _ _ h => h) (Or.inl ⟨by rfl, ?hyf33⟩) hH2 ?rf33
          case hyf33 => (intro w' hSw; clear hSw; go_simp; try with_reducible rfl)
          simp only [Act.put, List.setIfInBounds_toArray, List.set_cons_zero, List.set_cons_succ]
          refine' wpAnyH_take (i := 34) (oi := { dst := some 2, op := Op.assign (Operand.tmp 47), type := 4, pos := "leaf.go:100", after := #[{ on := 33, ground := Ground.data }, { on := 32, ground := Ground.chain }, { on := 0, ground := Ground.phase }, { on := 1, ground := Ground.phase }, { on := 2, ground := Ground.phase }, { on := 3, ground := Ground.phase }, { on := 4, ground := Ground.phase }, { on := 5, ground := Ground.phase }, { on := 6, ground := Ground.phase }, { on := 7, ground := Ground.phase }, { on := 8, ground := Ground.phase }, { on := 9, ground := Ground.phase }, { on := 10, ground := Ground.phase }, { on := 11, ground := Ground.phase }, { on := 12, ground := Ground.phase }, { on := 13, ground := Ground.phase }, { on := 14, ground := Ground.phase }, { on := 15, ground := Ground.phase }, { on := 16, ground := Ground.phase }, { on := 17, ground := Ground.phase }, { on := 18, ground := Ground.phase }, { on := 19, ground := Ground.phase }, { on := 20, ground := Ground.phase }, { on := 21, ground := Ground.phase }, { on := 22, ground := Ground.phase }, { on := 23, ground := Ground.phase }, { on := 24, ground := Ground.phase }, { on := 25, ground := Ground.phase }, { on := 26, ground := Ground.phase }, { on := 27, ground := Ground.phase }, { on := 28, ground := Ground.phase }, { on := 29, ground := Ground.phase }, { on := 30, ground := Ground.phase }, { on := 31, ground := Ground.phase }, { on := 32, ground := Ground.phase }, { on := 33, ground := Ground.phase }], guard := none }) (v := _) rfl (by kernel_rfl) (by kernel_rfl) (by kernel_rfl) (fun _ _ _ h => h) (Or.inl ⟨by rfl, ?hyf34⟩) hH2 ?rf34
          case hyf34 => (intro w' hSw; clear hSw; go_simp; try with_reducible rfl)
          simp only [Act.put, List.setIfInBounds_toArray, List.set_cons_zero, List.set_cons_succ]
          refine wpAnyH_done (by kernel_rfl) ?_ _
          refine NoPanic.normal ?_
          go_wp2_with fail
          go_ret
          exact Bl.no rfl hres (K9.trans ((Keep.refl (fun _ => False) wc).drew.trans k5))
      · have g2 : decide (f.tot = T) = false := decide_eq_false h2
        have g2' : (f.tot == T) = false := by rw [beq_eq_false_iff_ne]; exact h2
        have hres : Hid (¬ SG) := fun hs => h2 ((show SG ↔ _ from hsayT).1 hs).2.1
        clear h1 h2 hT3 hsayT hzl hagr2
        refine wp_region_noPanic ?_
        refine wp_region_held_drew (S := fun w' => Keep (fun _ => False) wc w') (by kernel_rfl) ((Keep.refl (fun _ => False) wc).drew) (fun hH0 => ?_)
        refine' wpAnyH_take (i := 0) (oi := { dst := some 14, op := Op.fieldAddr 33 (Operand.tmp 3) 1, type := 0, pos := "leaf.go:100", after := #[], guard := none }) (v := _) rfl (by kernel_rfl) (by kernel_rfl) (by kernel_rfl) (fun _ _ _ h => h) (Or.inl ⟨by rfl, ?hyg0⟩) hH0 ?rg0
        case hyg0 => (intro w' hSw; have x1 := hSw.cell hx1; have x5 := hSw.cell hx5; have x6 := hSw.cell hx6; have y5 := hSw.cell hy5; clear hSw; go_simp; try with_reducible rfl)
        simp only [Act.put, List.setIfInBounds_toArray, List.set_cons_zero, List.set_cons_succ]
        refine' wpAnyH_take (i := 1) (oi := { dst := some 15, op := Op.load 27 (Operand.tmp 14), type := 27, pos := "leaf.go:100", after := #[{ on := 0, ground := Ground.data }], guard := none }) (v := _) rfl (by kernel_rfl) (by kernel_rfl) (by kernel_rfl) (fun _ _ _ h => h) (Or.inl ⟨by rfl, ?hyg1⟩) hH0 ?rg1
        case hyg1 => (intro w' hSw; have x1 := hSw.cell hx1; have x5 := hSw.cell hx5; have x6 := hSw.cell hx6; have y5 := hSw.cell hy5; clear hSw; go_simp; try with_reducible rfl)
        simp only [Act.put, List.setIfInBounds_toArray, List.set_cons_zero, List.set_cons_succ]
        refine' wpAnyH_take (i := 2) (oi := { dst := some 16, op := Op.binOp BinOp.leq 27 (Operand.tmp 15) (Operand.const (Value.int IntKind.u32 65536)) 27, type := 4, pos := "leaf.go:100", after := #[{ on := 1, ground := Ground.data }], guard := none }) (v := _) rfl (by kernel_rfl) (by kernel_rfl) (by kernel_rfl) (fun _ _ _ h => h) (Or.inl ⟨by rfl, ?hyg2⟩) hH0 ?rg2
        case hyg2 => (intro w' hSw; have x1 := hSw.cell hx1; have x5 := hSw.cell hx5; have x6 := hSw.cell hx6; have y5 := hSw.cell hy5; clear hSw; go_simp; try with_reducible rfl)
        simp only [Act.put, List.setIfInBounds_toArray, List.set_cons_zero, List.set_cons_succ]
        refine' wpAnyH_take (i := 3) (oi := { dst := some 17, op := Op.move (Operand.tmp 16), type := 4, pos := "leaf.go:100", after := #[{ on := 2, ground := Ground.data }], guard := none }) (v := _) rfl (by kernel_rfl) (by kernel_rfl) (by kernel_rfl) (fun _ _ _ h => h) (Or.inl ⟨by rfl, ?hyg3⟩) hH0 ?rg3
        case hyg3 => (intro w' hSw; have x1 := hSw.cell hx1; have x5 := hSw.cell hx5; have x6 := hSw.cell hx6; have y5 := hSw.cell hy5; clear hSw; go_simp; try with_reducible rfl)
        simp only [Act.put, List.setIfInBounds_toArray, List.set_cons_zero, List.set_cons_succ]
        refine' wpAnyH_take (i := 4) (oi := { dst := some 18, op := Op.fieldAddr 33 (Operand.tmp 3) 6, type := 0, pos := "leaf.go:100", after := #[{ on := 3, ground := Ground.guard }], guard := some (3, true) }) (v := _) rfl (by kernel_rfl) (by kernel_rfl) (by kernel_rfl) (fun _ _ _ h => h) (Or.inl ⟨by rfl, ?hyg4⟩) hH0 ?rg4
        case hyg4 => (intro w' hSw; have x1 := hSw.cell hx1; have x5 := hSw.cell hx5; have x6 := hSw.cell hx6; have y5 := hSw.cell hy5; clear hSw; go_simp; try with_reducible rfl)
        simp only [Act.put, List.setIfInBounds_toArray, List.set_cons_zero, List.set_cons_succ]
        refine' wpAnyH_take (i := 5) (oi := { dst := some 19, op := Op.load 27 (Operand.tmp 18), type := 27, pos := "leaf.go:100", after := #[{ on := 4, ground := Ground.data }, { on := 3, ground := Ground.guard }], guard := some (3, true) }) (v := _) rfl (by kernel_rfl) (by kernel_rfl) (by kernel_rfl) (fun _ _ _ h => h) (Or.inl ⟨by rfl, ?hyg5⟩) hH0 ?rg5
        case hyg5 => (intro w' hSw; have x1 := hSw.cell hx1; have x5 := hSw.cell hx5; have x6 := hSw.cell hx6; have y5 := hSw.cell hy5; clear hSw; go_simp; try with_reducible rfl)
        simp only [Act.put, List.setIfInBounds_toArray, List.set_cons_zero, List.set_cons_succ]
        refine' wpAnyH_take (i := 6) (oi := { dst := some 20, op := Op.fieldAddr 33 (Operand.tmp 3) 1, type := 0, pos := "leaf.go:100", after := #[{ on := 3, ground := Ground.guard }], guard := some (3, true) }) (v := _) rfl (by kernel_rfl) (by kernel_rfl) (by kernel_rfl) (fun _ _ _ h => h) (Or.inl ⟨by rfl, ?hyg6⟩) hH0 ?rg6
        case hyg6 => (intro w' hSw; have x1 := hSw.cell hx1; have x5 := hSw.cell hx5; have x6 := hSw.cell hx6; have y5 := hSw.cell hy5; clear hSw; go_simp; try with_reducible rfl)
        simp only [Act.put, List.setIfInBounds_toArray, List.set_cons_zero, List.set_cons_succ]
        refine' wpAnyH_take (i := 7) (oi := { dst := some 21, op := Op.load 27 (Operand.tmp 20), type := 27, pos := "leaf.go:100", after := #[{ on := 6, ground := Ground.data }, { on := 3, ground := Ground.guard }], guard := some (3, true) }) (v := _) rfl (by kernel_rfl) (by kernel_rfl) (by kernel_rfl) (fun _ _ _ h => h) (Or.inl ⟨by rfl, ?hyg7⟩) hH0 ?rg7
        case hyg7 => (intro w' hSw; have x1 := hSw.cell hx1; have x5 := hSw.cell hx5; have x6 := hSw.cell hx6; have y5 := hSw.cell hy5; clear hSw; go_simp; try with_reducible rfl)
        simp only [Act.put, List.setIfInBounds_toArray, List.set_cons_zero, List.set_cons_succ]
        refine' wpAnyH_take (i := 8) (oi := { dst := some 22, op := Op.convert 27 3 (Operand.tmp 21), type := 3, pos := "leaf.go:100", after := #[{ on := 7, ground := Ground.data }, { on := 3, ground := Ground.guard }], guard := some (3, true) }) (v := _) rfl (by kernel_rfl) (by kernel_rfl) (by kernel_rfl) (fun _ _ _ h => h) (Or.inl ⟨by rfl, ?hyg8⟩) hH0 ?rg8
        case hyg8 => (intro w' hSw; have x1 := hSw.cell hx1; have x5 := hSw.cell hx5; have x6 := hSw.cell hx6; have y5 := hSw.cell hy5; clear hSw; go_simp; try with_reducible rfl)
        simp only [Act.put, List.setIfInBounds_toArray, List.set_cons_zero, List.set_cons_succ]
        refine wpAnyH_ready (rs := [9]) (by kernel_rfl) (by simp) ?_
        refine AllReadyH.cons (o := { dst := some 23, op := Op.call { callee := Callee.value (Operand.func 10), args := #[Operand.tmp 22], argTypes := #[3] }, type := 3, pos := "leaf.go:100", after := #[{ on := 8, ground := Ground.data }, { on := 3, ground := Ground.chain }, { on := 3, ground := Ground.guard }], guard := some (3, true) }) rfl (fun K hK => ?_) AllReadyH.nil
        refine step_call_want (vs := #[.int .i64 f.lba]) (R := fun v w' => v = .int .i64 T ∧ w' = wc.drew) (by rfl) 10 #[Operand.tmp 22] #[3] rfl (by simp [Act.eval]) call10 (post_w (hpg wc.drew)) ?_
        rintro _ _ ⟨rfl, rfl⟩
        refine hK.out _ _ ((Keep.refl (fun _ => False) wc).drew) (fun hH1 => ?_)
        clear hK K hH0
        simp only [Act.put, List.setIfInBounds_toArray, List.set_cons_zero, List.set_cons_succ]
        refine' wpAnyH_take (i := 10) (oi := { dst := some 24, op := Op.convert 3 27 (Operand.tmp 23), type := 27, pos := "leaf.go:100", after := #[{ on := 9, ground := Ground.data }, { on := 3, ground := Ground.guard }], guard := some (3, true) }) (v := _) rfl (by kernel_rfl) (by kernel_rfl) (by kernel_rfl) (fun _ _ _ h => h) (Or.inl ⟨by rfl, ?hyg10⟩) hH1 ?rg10
        case hyg10 => (intro w' hSw; have x1 := hSw.cell hx1; have x5 := hSw.cell hx5; have x6 := hSw.cell hx6; have y5 := hSw.cell hy5; clear hSw; go_simp; try with_reducible rfl)
        simp only [Act.put, List.setIfInBounds_toArray, List.set_cons_zero, List.set_cons_succ]
        refine' wpAnyH_take (i := 11) (oi := { dst := some 25, op := Op.binOp BinOp.eql 27 (Operand.tmp 19) (Operand.tmp 24) 27, type := 4, pos := "leaf.go:100", after := #[{ on := 5, ground := Ground.data }, { on := 10, ground := Ground.data }, { on := 3, ground := Ground.guard }], guard := some (3, true) }) (v := _) rfl (by kernel_rfl) (by kernel_rfl) (by kernel_rfl) (fun _ _ _ h => h) (Or.inl ⟨by rfl, ?hyg11⟩) hH1 ?rg11
        case hyg11 => (intro w' hSw; have x1 := hSw.cell hx1; have x5 := hSw.cell hx5; have x6 := hSw.cell hx6; have y5 := hSw.cell hy5; clear hSw; go_simp; try with_reducible rfl)
        simp only [Act.put, List.setIfInBounds_toArray, List.set_cons_zero, List.set_cons_succ]
        refine' wpAnyH_take (i := 12) (oi := { dst := some 26, op := Op.pick (Operand.tmp 17) (Operand.tmp 25) (Operand.const (Value.bool false)), type := 4, pos := "leaf.go:100", after := #[{ on := 3, ground := Ground.data }, { on := 11, ground := Ground.data }], guard := none }) (v := _) rfl (by kernel_rfl) (by kernel_rfl) (by kernel_rfl) (fun _ _ _ h => h) (Or.inl ⟨by rfl, ?hyg12⟩) hH1 ?rg12
        case hyg12 => (intro w' hSw; clear hSw; go_simp; try with_reducible rfl)
        simp only [Act.put, List.setIfInBounds_toArray, List.set_cons_zero, List.set_cons_succ]
        refine' wpAnyH_take (i := 13) (oi := { dst := some 27, op := Op.move (Operand.tmp 26), type := 4, pos := "leaf.go:100", after := #[{ on := 12, ground := Ground.data }, { on := 9, ground := Ground.chain }], guard := none }) (v := _) rfl (by kernel_rfl) (by kernel_rfl) (by kernel_rfl) (fun _ _ _ h => h) (Or.inl ⟨by rfl, ?hyg13⟩) hH1 ?rg13
        case hyg13 => (intro w' hSw; clear hSw; go_simp; try with_reducible rfl)
        simp only [Act.put, List.setIfInBounds_toArray, List.set_cons_zero, List.set_cons_succ]
        refine' wpAnyH_take (i := 14) (oi := { dst := some 28, op := Op.move (Operand.tmp 0), type := 23, pos := "leaf.go:100", after := #[{ on := 13, ground := Ground.guard }], guard := some (13, true) }) (v := undef) rfl (by kernel_rfl) (by kernel_rfl) (by kernel_rfl) (fun _ _ _ h => h) (Or.inr ⟨by rfl, rfl⟩) hH1 ?rg14
        simp only [Act.put, List.setIfInBounds_toArray, List.set_cons_zero, List.set_cons_succ]
        refine' wpAnyH_take (i := 15) (oi := { dst := some 29, op := Op.call { callee := Callee.value (Operand.func 30), args := #[Operand.tmp 28], argTypes := #[23] }, type := 4, pos := "leaf.go:101", after := #[{ on := 14, ground := Ground.data }, { on := 13, ground := Ground.chain }, { on := 13, ground := Ground.guard }], guard := some (13, true) }) (v := undef) rfl (by kernel_rfl) (by kernel_rfl) (by kernel_rfl) (fun _ _ _ h => h) (Or.inr ⟨by rfl, rfl⟩) hH1 ?rg15
        simp only [Act.put, List.setIfInBounds_toArray, List.set_cons_zero, List.set_cons_succ]
        refine' wpAnyH_take (i := 16) (oi := { dst := some 30, op := Op.pick (Operand.tmp 27) (Operand.tmp 29) (Operand.const (Value.bool false)), type := 4, pos := "leaf.go:100", after := #[{ on := 13, ground := Ground.data }, { on := 15, ground := Ground.data }], guard := none }) (v := _) rfl (by kernel_rfl) (by kernel_rfl) (by kernel_rfl) (fun _ _ _ h => h) (Or.inl ⟨by rfl, ?hyg16⟩) hH1 ?rg16
        case hyg16 => (intro w' hSw; clear hSw; go_simp; try with_reducible rfl)
        simp only [Act.put, List.setIfInBounds_toArray, List.set_cons_zero, List.set_cons_succ]
        refine' wpAnyH_take (i := 17) (oi := { dst := some 31, op := Op.move (Operand.tmp 30), type := 4, pos := "leaf.go:100", after := #[{ on := 16, ground := Ground.data }, { on := 15, ground := Ground.chain }], guard := none }) (v := _) rfl (by kernel_rfl) (by kernel_rfl) (by kernel_rfl) (fun _ _ _ h => h) (Or.inl ⟨by rfl, ?hyg17⟩) hH1 ?rg17
        case hyg17 => (intro w' hSw; clear hSw; go_simp; try with_reducible rfl)
        simp only [Act.put, List.setIfInBounds_toArray, List.set_cons_zero, List.set_cons_succ]
        refine' wpAnyH_take (i := 18) (oi := { dst := some 32, op := Op.fieldAddr 33 (Operand.tmp 3) 5, type := 0, pos := "leaf.go:100", after := #[{ on := 17, ground := Ground.guard }], guard := some (17, true) }) (v := undef) rfl (by kernel_rfl) (by kernel_rfl) (by kernel_rfl) (fun _ _ _ h => h) (Or.inr ⟨by rfl, rfl⟩) hH1 ?rg18
        simp only [Act.put, List.setIfInBounds_toArray, List.set_cons_zero, List.set_cons_succ]
        refine' wpAnyH_take (i := 19) (oi := { dst := some 33, op := Op.load 27 (Operand.tmp 32), type := 27, pos := "leaf.go:100", after := #[{ on := 18, ground := Ground.data }, { on := 17, ground := Ground.guard }], guard := some (17, true) }) (v := undef) rfl (by kernel_rfl) (by kernel_rfl) (by kernel_rfl) (fun _ _ _ h => h) (Or.inr ⟨by rfl, rfl⟩) hH1 ?rg19
        simp only [Act.put, List.setIfInBounds_toArray, List.set_cons_zero, List.set_cons_succ]
        refine' wpAnyH_take (i := 20) (oi := { dst := some 34, op := Op.binOp BinOp.eql 27 (Operand.tmp 33) (Operand.const (Value.int IntKind.u32 0)) 27, type := 4, pos := "leaf.go:100", after := #[{ on := 19, ground := Ground.data }, { on := 17, ground := Ground.guard }], guard := some (17, true) }) (v := undef) rfl (by kernel_rfl) (by kernel_rfl) (by kernel_rfl) (fun _ _ _ h => h) (Or.inr ⟨by rfl, rfl⟩) hH1 ?rg20
        simp only [Act.put, List.setIfInBounds_toArray, List.set_cons_zero, List.set_cons_succ]
        refine' wpAnyH_take (i := 21) (oi := { dst := some 35, op := Op.pick (Operand.tmp 31) (Operand.tmp 34) (Operand.const (Value.bool false)), type := 4, pos := "leaf.go:100", after := #[{ on := 17, ground := Ground.data }, { on := 20, ground := Ground.data }], guard := none }) (v := _) rfl (by kernel_rfl) (by kernel_rfl) (by kernel_rfl) (fun _ _ _ h => h) (Or.inl ⟨by rfl, ?hyg21⟩) hH1 ?rg21
        case hyg21 => (intro w' hSw; clear hSw; go_simp; try with_reducible rfl)
        simp only [Act.put, List.setIfInBounds_toArray, List.set_cons_zero, List.set_cons_succ]
        refine' wpAnyH_take (i := 22) (oi := { dst := some 36, op := Op.move (Operand.tmp 35), type := 4, pos := "leaf.go:100", after := #[{ on := 21, ground := Ground.data }, { on := 17, ground := Ground.chain }], guard := none }) (v := _) rfl (by kernel_rfl) (by kernel_rfl) (by kernel_rfl) (fun _ _ _ h => h) (Or.inl ⟨by rfl, ?hyg22⟩) hH1 ?rg22
        case hyg22 => (intro w' hSw; clear hSw; go_simp; try with_reducible rfl)
        simp only [Act.put, List.setIfInBounds_toArray, List.set_cons_zero, List.set_cons_succ]
        refine' wpAnyH_take (i := 23) (oi := { dst := some 37, op := Op.fieldAddr 33 (Operand.tmp 4) 5, type := 0, pos := "leaf.go:100", after := #[{ on := 22, ground := Ground.guard }], guard := some (22, true) }) (v := undef) rfl (by kernel_rfl) (by kernel_rfl) (by kernel_rfl) (fun _ _ _ h => h) (Or.inr ⟨by rfl, rfl⟩) hH1 ?rg23
        simp only [Act.put, List.setIfInBounds_toArray, List.set_cons_zero, List.set_cons_succ]
        refine' wpAnyH_take (i := 24) (oi := { dst := some 38, op := Op.load 27 (Operand.tmp 37), type := 27, pos := "leaf.go:100", after := #[{ on := 23, ground := Ground.data }, { on := 22, ground := Ground.guard }], guard := some (22, true) }) (v := undef) rfl (by kernel_rfl) (by kernel_rfl) (by kernel_rfl) (fun _ _ _ h => h) (Or.inr ⟨by rfl, rfl⟩) hH1 ?rg24
        simp only [Act.put, List.setIfInBounds_toArray, List.set_cons_zero, List.set_cons_succ]
        refine' wpAnyH_take (i := 25) (oi := { dst := some 39, op := Op.fieldAddr 33 (Operand.tmp 3) 6, type := 0, pos := "leaf.go:100", after := #[{ on := 22, ground := Ground.guard }], guard := some (22, true) }) (v := undef) rfl (by kernel_rfl) (by kernel_rfl) (by kernel_rfl) (fun _ _ _ h => h) (Or.inr ⟨by rfl, rfl⟩) hH1 ?rg25
        simp only [Act.put, List.setIfInBounds_toArray, List.set_cons_zero, List.set_cons_succ]
        refine' wpAnyH_take (i := 26) (oi := { dst := some 40, op := Op.load 27 (Operand.tmp 39), type := 27, pos := "leaf.go:100", after := #[{ on := 25, ground := Ground.data }, { on := 22, ground := Ground.guard }], guard := some (22, true) }) (v := undef) rfl (by kernel_rfl) (by kernel_rfl) (by kernel_rfl) (fun _ _ _ h => h) (Or.inr ⟨by rfl, rfl⟩) hH1 ?rg26
        simp only [Act.put, List.setIfInBounds_toArray, List.set_cons_zero, List.set_cons_succ]
        refine' wpAnyH_take (i := 27) (oi := { dst := some 41, op := Op.binOp BinOp.sub 27 (Operand.tmp 40) (Operand.const (Value.int IntKind.u32 1)) 27, type := 27, pos := "leaf.go:100", after := #[{ on := 26, ground := Ground.data }, { on := 22, ground := Ground.guard }], guard := some (22, true) }) (v := undef) rfl (by kernel_rfl) (by kernel_rfl) (by kernel_rfl) (fun _ _ _ h => h) (Or.inr ⟨by rfl, rfl⟩) hH1 ?rg27
        simp only [Act.put, List.setIfInBounds_toArray, List.set_cons_zero, List.set_cons_succ]
        refine' wpAnyH_take (i := 28) (oi := { dst := some 42, op := Op.binOp BinOp.eql 27 (Operand.tmp 38) (Operand.tmp 41) 27, type := 4, pos := "leaf.go:100", after := #[{ on := 24, ground := Ground.data }, { on := 27, ground := Ground.data }, { on := 22, ground := Ground.guard }], guard := some (22, true) }) (v := undef) rfl (by kernel_rfl) (by kernel_rfl) (by kernel_rfl) (fun _ _ _ h => h) (Or.inr ⟨by rfl, rfl⟩) hH1 ?rg28
        simp only [Act.put, List.setIfInBounds_toArray, List.set_cons_zero, List.set_cons_succ]
        refine' wpAnyH_take (i := 29) (oi := { dst := some 43, op := Op.pick (Operand.tmp 36) (Operand.tmp 42) (Operand.const (Value.bool false)), type := 4, pos := "leaf.go:100", after := #[{ on := 22, ground := Ground.data }, { on := 28, ground := Ground.data }], guard := none }) (v := _) rfl (by kernel_rfl) (by kernel_rfl) (by kernel_rfl) (fun _ _ _ h => h) (Or.inl ⟨by rfl, ?hyg29⟩) hH1 ?rg29
        case hyg29 => (intro w' hSw; clear hSw; go_simp; try with_reducible rfl)
        simp only [Act.put, List.setIfInBounds_toArray, List.set_cons_zero, List.set_cons_succ]
        refine' wpAnyH_take (i := 30) (oi := { dst := some 44, op := Op.move (Operand.tmp 43), type := 4, pos := "leaf.go:100", after := #[{ on := 29, ground := Ground.data }, { on := 22, ground := Ground.chain }], guard := none }) (v := _) rfl (by kernel_rfl) (by kernel_rfl) (by kernel_rfl) (fun _ _ _ h => h) (Or.inl ⟨by rfl, ?hyg30⟩) hH1 ?rg30
        case hyg30 => (intro w' hSw; clear hSw; go_simp; try with_reducible rfl)
        simp only [Act.put, List.setIfInBounds_toArray, List.set_cons_zero, List.set_cons_succ]
        refine' wpAnyH_take (i := 31) (oi := { dst := some 45, op := Op.load 33 (Operand.tmp 4), type := 33, pos := "leaf.go:100", after := #[{ on := 30, ground := Ground.guard }], guard := some (30, true) }) (v := undef) rfl (by kernel_rfl) (by kernel_rfl) (by kernel_rfl) (fun _ _ _ h => h) (Or.inr ⟨by rfl, rfl⟩) hH1 ?rg31
        simp only [Act.put, List.setIfInBounds_toArray, List.set_cons_zero, List.set_cons_succ]
        refine' wpAnyH_take (i := 32) (oi := { dst := some 46, op := Op.call { callee := Callee.value (Operand.func 31), args := #[Operand.tmp 45], argTypes := #[33] }, type := 4, pos := "leaf.go:101", after := #[{ on := 31, ground := Ground.data }, { on := 30, ground := Ground.chain }, { on := 30, ground := Ground.guard }], guard := some (30, true) }) (v := undef) rfl (by kernel_rfl) (by kernel_rfl) (by kernel_rfl) (fun _ _ _ h => h) (Or.inr ⟨by rfl, rfl⟩) hH1 ?rg32
        simp only [Act.put, List.setIfInBounds_toArray, List.set_cons_zero, List.set_cons_succ]
        refine' wpAnyH_take (i := 33) (oi := { dst := some 47, op := Op.pick (Operand.tmp 44) (Operand.tmp 46) (Operand.const (Value.bool false)), type := 4, pos := "leaf.go:100", after := #[{ on := 30, ground := Ground.data }, { on := 32, ground := Ground.data }], guard := none }) (v := _) rfl (by kernel_rfl) (by kernel_rfl) (by kernel_rfl) (fun _ _ _ h => h) (Or.inl ⟨by rfl, ?hyg33⟩) hH1 ?rg33
        case hyg33 => (intro w' hSw; clear hSw; go_simp; try with_reducible rfl)
        simp only [Act.put, List.setIfInBounds_toArray, List.set_cons_zero, List.set_cons_succ]
        refine' wpAnyH_take (i := 34) (oi := { dst := some 2, op := Op.assign (Operand.tmp 47), type := 4, pos := "leaf.go:100", after := #[{ on := 33, ground := Ground.data }, { on := 32, ground := Ground.chain }, { on := 0, ground := Ground.phase }, { on := 1, ground := Ground.phase }, { on := 2, ground := Ground.phase }, { on := 3, ground := Ground.phase }, { on := 4, ground := Ground.phase }, { on := 5, ground := Ground.phase }, { on := 6, ground := Ground.phase }, { on := 7, ground := Ground.phase }, { on := 8, ground := Ground.phase }, { on := 9, ground := Ground.phase }, { on := 10, ground := Ground.phase }, { on := 11, ground := Ground.phase }, { on := 12, ground := Ground.phase }, { on := 13, ground := Ground.phase }, { on := 14, ground := Ground.phase }, { on := 15, ground := Ground.phase }, { on := 16, ground := Ground.phase }, { on := 17, ground := Ground.phase }, { on := 18, ground := Ground.phase }, { on := 19, ground := Ground.phase }, { on := 20, ground := Ground.phase }, { on := 21, ground := Ground.phase }, { on := 22, ground := Ground.phase }, { on := 23, ground := Ground.phase }, { on := 24, ground := Ground.phase }, { on := 25, ground := Ground.phase }, { on := 26, ground := Ground.phase }, { on := 27, ground := Ground.phase }, { on := 28, ground := Ground.phase }, { on := 29, ground := Ground.phase }, { on := 30, ground := Ground.phase }, { on := 31, ground := Ground.phase }, { on := 32, ground := Ground.phase }, { on := 33, ground := Ground.phase }], guard := none }) (v := _) rfl (by kernel_rfl) (by kernel_rfl) (by kernel_rfl) (fun _ _ _ h => h) (Or.inl ⟨by rfl, ?hyg34⟩) hH1 ?rg34
        case hyg34 => (intro w' hSw; clear hSw; go_simp; try with_reducible rfl)
        simp only [Act.put, List.setIfInBounds_toArray, List.set_cons_zero, List.set_cons_succ]
        refine wpAnyH_done (by kernel_rfl) ?_ _
        refine NoPanic.normal ?_
        go_wp2_with fail
        go_ret
        exact Bl.no rfl hres (K9.trans ((Keep.refl (fun _ => False) wc).drew))
    · have g1 : decide (f.lba ≤ 65536) = false := decide_eq_false h1
      have hres : Hid (¬ SG) := fun hs => h1 ((show SG ↔ _ from hsay').1 hs).1
      clear h1 hsay' hzl hagr2
      refine wp_region_noPanic ?_
      refine wp_region_held_drew (S := fun w' => Keep (fun _ => False) wc w') (by kernel_rfl) ((Keep.refl (fun _ => False) wc).drew) (fun hH0 => ?_)
      refine' wpAnyH_take (i := 0) (oi := { dst := some 14, op := Op.fieldAddr 33 (Operand.tmp 3) 1, type := 0, pos := "leaf.go:100", after := #[], guard := none }) (v := _) rfl (by kernel_rfl) (by kernel_rfl) (by kernel_rfl) (fun _ _ _ h => h) (Or.inl ⟨by rfl, ?hyh0⟩) hH0 ?rh0
      case hyh0 => (intro w' hSw; have x1 := hSw.cell hx1; have x5 := hSw.cell hx5; have x6 := hSw.cell hx6; have y5 := hSw.cell hy5; clear hSw; go_simp; try with_reducible rfl)
      simp only [Act.put, List.setIfInBounds_toArray, List.set_cons_zero, List.set_cons_succ]
      refine' wpAnyH_take (i := 1) (oi := { dst := some 15, op := Op.load 27 (Operand.tmp 14), type := 27, pos := "leaf.go:100", after := #[{ on := 0, ground := Ground.data }], guard := none }) (v := _) rfl (by kernel_rfl) (by kernel_rfl) (by kernel_rfl) (fun _ _ _ h => h) (Or.inl ⟨by rfl, ?hyh1⟩) hH0 ?rh1
      case hyh1 => (intro w' hSw; have x1 := hSw.cell hx1; have x5 := hSw.cell hx5; have x6 := hSw.cell hx6; have y5 := hSw.cell hy5; clear hSw; go_simp; try with_reducible rfl)
      simp only [Act.put, List.setIfInBounds_toArray, List.set_cons_zero, List.set_cons_succ]
      refine' wpAnyH_take (i := 2) (oi := { dst := some 16, op := Op.binOp BinOp.leq 27 (Operand.tmp 15) (Operand.const (Value.int IntKind.u32 65536)) 27, type := 4, pos := "leaf.go:100", after := #[{ on := 1, ground := Ground.data }], guard := none }) (v := _) rfl (by kernel_rfl) (by kernel_rfl) (by kernel_rfl) (fun _ _ _ h => h) (Or.inl ⟨by rfl, ?hyh2⟩) hH0 ?rh2
      case hyh2 => (intro w' hSw; have x1 := hSw.cell hx1; have x5 := hSw.cell hx5; have x6 := hSw.cell hx6; have y5 := hSw.cell hy5; clear hSw; go_simp; try with_reducible rfl)
      simp only [Act.put, List.setIfInBounds_toArray, List.set_cons_zero, List.set_cons_succ]
      refine' wpAnyH_take (i := 3) (oi := { dst := some 17, op := Op.move (Operand.tmp 16), type := 4, pos := "leaf.go:100", after := #[{ on := 2, ground := Ground.data }], guard := none }) (v := _) rfl (by kernel_rfl) (by kernel_rfl) (by kernel_rfl) (fun _ _ _ h => h) (Or.inl ⟨by rfl, ?hyh3⟩) hH0 ?rh3
      case hyh3 => (intro w' hSw; have x1 := hSw.cell hx1; have x5 := hSw.cell hx5; have x6 := hSw.cell hx6; have y5 := hSw.cell hy5; clear hSw; go_simp; try with_reducible rfl)
      simp only [Act.put, List.setIfInBounds_toArray, List.set_cons_zero, List.set_cons_succ]
      refine' wpAnyH_take (i := 4) (oi := { dst := some 18, op := Op.fieldAddr 33 (Operand.tmp 3) 6, type := 0, pos := "leaf.go:100", after := #[{ on := 3, ground := Ground.guard }], guard := some (3, true) }) (v := undef) rfl (by kernel_rfl) (by kernel_rfl) (by kernel_rfl) (fun _ _ _ h => h) (Or.inr ⟨by rfl, rfl⟩) hH0 ?rh4
      simp only [Act.put, List.setIfInBounds_toArray, List.set_cons_zero, List.set_cons_succ]
      refine' wpAnyH_take (i := 5) (oi := { dst := some 19, op := Op.load 27 (Operand.tmp 18), type := 27, pos := "leaf.go:100", after := #[{ on := 4, ground := Ground.data }, { on := 3, ground := Ground.guard }], guard := some (3, true) }) (v := undef) rfl (by kernel_rfl) (by kernel_rfl) (by kernel_rfl) (fun _ _ _ h => h) (Or.inr ⟨by rfl, rfl⟩) hH0 ?rh5
      simp only [Act.put, List.setIfInBounds_toArray, List.set_cons_zero, List.set_cons_succ]
      refine' wpAnyH_take (i := 6) (oi := { dst := some 20, op := Op.fieldAddr 33 (Operand.tmp 3) 1, type := 0, pos := "leaf.go:100", after := #[{ on := 3, ground := Ground.guard }], guard := some (3, true) }) (v := undef) rfl (by kernel_rfl) (by kernel_rfl) (by kernel_rfl) (fun _ _ _ h => h) (Or.inr ⟨by rfl, rfl⟩) hH0 ?rh6
      simp only [Act.put, List.setIfInBounds_toArray, List.set_cons_zero, List.set_cons_succ]
      refine' wpAnyH_take (i := 7) (oi := { dst := some 21, op := Op.load 27 (Operand.tmp 20), type := 27, pos := "leaf.go:100", after := #[{ on := 6, ground := Ground.data }, { on := 3, ground := Ground.guard }], guard := some (3, true) }) (v := undef) rfl (by kernel_rfl) (by kernel_rfl) (by kernel_rfl) (fun _ _ _ h => h) (Or.inr ⟨by rfl, rfl⟩) hH0 ?rh7
      simp only [Act.put, List.setIfInBounds_toArray, List.set_cons_zero, List.set_cons_succ]
      refine' wpAnyH_take (i := 8) (oi := { dst := some 22, op := Op.convert 27 3 (Operand.tmp 21), type := 3, pos := "leaf.go:100", after := #[{ on := 7, ground := Ground.data }, { on := 3, ground := Ground.guard }], guard := some (3, true) }) (v := undef) rfl (by kernel_rfl) (by kernel_rfl) (by kernel_rfl) (fun _ _ _ h => h) (Or.inr ⟨by rfl, rfl⟩) hH0 ?rh8
      simp only [Act.put, List.setIfInBounds_toArray, List.set_cons_zero, List.set_cons_succ]
      refine' wpAnyH_take (i := 9) (oi := { dst := some 23, op := Op.call { callee := Callee.value (Operand.func 10), args := #[Operand.tmp 22], argTypes := #[3] }, type := 3, pos := "leaf.go:100", after := #[{ on := 8, ground := Ground.data }, { on := 3, ground := Ground.chain }, { on := 3, ground := Ground.guard }], guard := some (3, true) }) (v := undef) rfl (by kernel_rfl) (by kernel_rfl) (by kernel_rfl) (fun _ _ _ h => h) (Or.inr ⟨by rfl, rfl⟩) hH0 ?rh9
      simp only [Act.put, List.setIfInBounds_toArray, List.set_cons_zero, List.set_cons_succ]
      refine' wpAnyH_take (i := 10) (oi := { dst := some 24, op := Op.convert 3 27 (Operand.tmp 23), type := 27, pos := "leaf.go:100", after := #[{ on := 9, ground := Ground.data }, { on := 3, ground := Ground.guard }], guard := some (3, true) }) (v := undef) rfl (by kernel_rfl) (by kernel_rfl) (by kernel_rfl) (fun _ _ _ h => h) (Or.inr ⟨by rfl, rfl⟩) hH0 ?rh10
      simp only [Act.put, List.setIfInBounds_toArray, List.set_cons_zero, List.set_cons_succ]
      refine' wpAnyH_take (i := 11) (oi := { dst := some 25, op := Op.binOp BinOp.eql 27 (Operand.tmp 19) (Operand.tmp 24) 27, type := 4, pos := "leaf.go:100", after := #[{ on := 5, ground := Ground.data }, { on := 10, ground := Ground.data }, { on := 3, ground := Ground.guard }], guard := some (3, true) }) (v := undef) rfl (by kernel_rfl) (by kernel_rfl) (by kernel_rfl) (fun _ _ _ h => h) (Or.inr ⟨by rfl, rfl⟩) hH0 ?rh11
      simp only [Act.put, List.setIfInBounds_toArray, List.set_cons_zero, List.set_cons_succ]
      refine' wpAnyH_take (i := 12) (oi := { dst := some 26, op := Op.pick (Operand.tmp 17) (Operand.tmp 25) (Operand.const (Value.bool false)), type := 4, pos := "leaf.go:100", after := #[{ on := 3, ground := Ground.data }, { on := 11, ground := Ground.data }], guard := none }) (v := _) rfl (by kernel_rfl) (by kernel_rfl) (by kernel_rfl) (fun _ _ _ h => h) (Or.inl ⟨by rfl, ?hyh12⟩) hH0 ?rh12
      case hyh12 => (intro w' hSw; clear hSw; go_simp; try with_reducible rfl)
      simp only [Act.put, List.setIfInBounds_toArray, List.set_cons_zero, List.set_cons_succ]
      refine' wpAnyH_take (i := 13) (oi := { dst := some 27, op := Op.move (Operand.tmp 26), type := 4, pos := "leaf.go:100", after := #[{ on := 12, ground := Ground.data }, { on := 9, ground := Ground.chain }], guard := none }) (v := _) rfl (by kernel_rfl) (by kernel_rfl) (by kernel_rfl) (fun _ _ _ h => h) (Or.inl ⟨by rfl, ?hyh13⟩) hH0 ?rh13
      case hyh13 => (intro w' hSw; clear hSw; go_simp; try with_reducible rfl)
      simp only [Act.put, List.setIfInBounds_toArray, List.set_cons_zero, List.set_cons_succ]
      refine' wpAnyH_take (i := 14) (oi := { dst := some 28, op := Op.move (Operand.tmp 0), type := 23, pos := "leaf.go:100", after := #[{ on := 13, ground := Ground.guard }], guard := some (13, true) }) (v := undef) rfl (by kernel_rfl) (by kernel_rfl) (by kernel_rfl) (fun _ _ _ h => h) (Or.inr ⟨by rfl, rfl⟩) hH0 ?rh14
      simp only [Act.put, List.setIfInBounds_toArray, List.set_cons_zero, List.set_cons_succ]
      refine' wpAnyH_take (i := 15) (oi := { dst := some 29, op := Op.call { callee := Callee.value (Operand.func 30), args := #[Operand.tmp 28], argTypes := #[23] }, type := 4, pos := "leaf.go:101", after := #[{ on := 14, ground := Ground.data }, { on := 13, ground := Ground.chain }, { on := 13, ground := Ground.guard }], guard := some (13, true) }) (v := undef) rfl (by kernel_rfl) (by kernel_rfl) (by kernel_rfl) (fun _ _ _ h => h) (Or.inr ⟨by rfl, rfl⟩) hH0 ?rh15
      simp only [Act.put, List.setIfInBounds_toArray, List.set_cons_zero, List.set_cons_succ]
      refine' wpAnyH_take (i := 16) (oi := { dst := some 30, op := Op.pick (Operand.tmp 27) (Operand.tmp 29) (Operand.const (Value.bool false)), type := 4, pos := "leaf.go:100", after := #[{ on := 13, ground := Ground.data }, { on := 15, ground := Ground.data }], guard := none }) (v := _) rfl (by kernel_rfl) (by kernel_rfl) (by kernel_rfl) (fun _ _ _ h => h) (Or.inl ⟨by rfl, ?hyh16⟩) hH0 ?rh16
      case hyh16 => (intro w' hSw; clear hSw; go_simp; try with_reducible rfl)
      simp only [Act.put, List.setIfInBounds_toArray, List.set_cons_zero, List.set_cons_succ]
      refine' wpAnyH_take (i := 17) (oi := { dst := some 31, op := Op.move (Operand.tmp 30), type := 4, pos := "leaf.go:100", after := #[{ on := 16, ground := Ground.data }, { on := 15, ground := Ground.chain }], guard := none }) (v := _) rfl (by kernel_rfl) (by kernel_rfl) (by kernel_rfl) (fun _ _ _ h => h) (Or.inl ⟨by rfl, ?hyh17⟩) hH0 ?rh17
      case hyh17 => (intro w' hSw; clear hSw; go_simp; try with_reducible rfl)
      simp only [Act.put, List.setIfInBounds_toArray, List.set_cons_zero, List.set_cons_succ]
      refine' wpAnyH_take (i := 18) (oi := { dst := some 32, op := Op.fieldAddr 33 (Operand.tmp 3) 5, type := 0, pos := "leaf.go:100", after := #[{ on := 17, ground := Ground.guard }], guard := some (17, true) }) (v := undef) rfl (by kernel_rfl) (by kernel_rfl) (by kernel_rfl) (fun _ _ _ h => h) (Or.inr ⟨by rfl, rfl⟩) hH0 ?rh18
      simp only [Act.put, List.setIfInBounds_toArray, List.set_cons_zero, List.set_cons_succ]
      refine' wpAnyH_take (i := 19) (oi := { dst := some 33, op := Op.load 27 (Operand.tmp 32), type := 27, pos := "leaf.go:100", after := #[{ on := 18, ground := Ground.data }, { on := 17, ground := Ground.guard }], guard := some (17, true) }) (v := undef) rfl (by kernel_rfl) (by kernel_rfl) (by kernel_rfl) (fun _ _ _ h => h) (Or.inr ⟨by rfl, rfl⟩) hH0 ?rh19
      simp only [Act.put, List.setIfInBounds_toArray, List.set_cons_zero, List.set_cons_succ]
      refine' wpAnyH_take (i := 20) (oi := { dst := some 34, op := Op.binOp BinOp.eql 27 (Operand.tmp 33) (Operand.const (Value.int IntKind.u32 0)) 27, type := 4, pos := "leaf.go:100", after := #[{ on := 19, ground := Ground.data }, { on := 17, ground := Ground.guard }], guard := some (17, true) }) (v := undef) rfl (by kernel_rfl) (by kernel_rfl) (by kernel_rfl) (fun _ _ _ h => h) (Or.inr ⟨by rfl, rfl⟩) hH0 ?rh20
      simp only [Act.put, List.setIfInBounds_toArray, List.set_cons_zero, List.set_cons_succ]
      refine' wpAnyH_take (i := 21) (oi := { dst := some 35, op := Op.pick (Operand.tmp 31) (Operand.tmp 34) (Operand.const (Value.bool false)), type := 4, pos := "leaf.go:100", after := #[{ on := 17, ground := Ground.data }, { on := 20, ground := Ground.data }], guard := none }) (v := _) rfl (by kernel_rfl) (by kernel_rfl) (by kernel_rfl) (fun _ _ _ h => h) (Or.inl ⟨by rfl, ?hyh21⟩) hH0 ?rh21
      case hyh21 => (intro w' hSw; clear hSw; go_simp; try with_reducible rfl)
      simp only [Act.put, List.setIfInBounds_toArray, List.set_cons_zero, List.set_cons_succ]
      refine' wpAnyH_take (i := 22) (oi := { dst := some 36, op := Op.move (Operand.tmp 35), type := 4, pos := "leaf.go:100", after := #[{ on := 21, ground := Ground.data }, { on := 17, ground := Ground.chain }], guard := none }) (v := _) rfl (by kernel_rfl) (by kernel_rfl) (by kernel_rfl) (fun _ _ _ h => h) (Or.inl ⟨by rfl, ?hyh22⟩) hH0 ?rh22
      case hyh22 => (intro w' hSw; clear hSw; go_simp; try with_reducible rfl)
      simp only [Act.put, List.setIfInBounds_toArray, List.set_cons_zero, List.set_cons_succ]
      refine' wpAnyH_take (i := 23) (oi := { dst := some 37, op := Op.fieldAddr 33 (Operand.tmp 4) 5, type := 0, pos := "leaf.go:100", after := #[{ on := 22, ground := Ground.guard }], guard := some (22, true) }) (v := undef) rfl (by kernel_rfl) (by kernel_rfl) (by kernel_rfl) (fun _ _ _ h => h) (Or.inr ⟨by rfl, rfl⟩) hH0 ?rh23
      simp only [Act.put, List.setIfInBounds_toArray, List.set_cons_zero, List.set_cons_succ]
      refine' wpAnyH_take (i := 24) (oi := { dst := some 38, op := Op.load 27 (Operand.tmp 37), type := 27, pos := "leaf.go:100", after := #[{ on := 23, ground := Ground.data }, { on := 22, ground := Ground.guard }], guard := some (22, true) }) (v := undef) rfl (by kernel_rfl) (by kernel_rfl) (by kernel_rfl) (fun _ _ _ h => h) (Or.inr ⟨by rfl, rfl⟩) hH0 ?rh24
      simp only [Act.put, List.setIfInBounds_toArray, List.set_cons_zero, List.set_cons_succ]
      refine' wpAnyH_take (i := 25) (oi := { dst := some 39, op := Op.fieldAddr 33 (Operand.tmp 3) 6, type := 0, pos := "leaf.go:100", after := #[{ on := 22, ground := Ground.guard }], guard := some (22, true) }) (v := undef) rfl (by kernel_rfl) (by kernel_rfl) (by kernel_rfl) (fun _ _ _ h => h) (Or.inr ⟨by rfl, rfl⟩) hH0 ?rh25
      simp only [Act.put, List.setIfInBounds_toArray, List.set_cons_zero, List.set_cons_succ]
      refine' wpAnyH_take (i := 26) (oi := { dst := some 40, op := Op.load 27 (Operand.tmp 39), type := 27, pos := "leaf.go:100", after := #[{ on := 25, ground := Ground.data }, { on := 22, ground := Ground.guard }], guard := some (22, true) }) (v := undef) rfl (by kernel_rfl) (by kernel_rfl) (by kernel_rfl) (fun _ _ _ h => h) (Or.inr ⟨by rfl, rfl⟩) hH0 ?rh26
      simp only [Act.put, List.setIfInBounds_toArray, List.set_cons_zero, List.set_cons_succ]
      refine' wpAnyH_take (i := 27) (oi := { dst := some 41, op := Op.binOp BinOp.sub 27 (Operand.tmp 40) (Operand.const (Value.int IntKind.u32 1)) 27, type := 27, pos := "leaf.go:100", after := #[{ on := 26, ground := Ground.data }, { on := 22, ground := Ground.guard }], guard := some (22, true) }) (v := undef) rfl (by kernel_rfl) (by kernel_rfl) (by kernel_rfl) (fun _ _ _ h => h) (Or.inr ⟨by rfl, rfl⟩) hH0 ?rh27
      simp only [Act.put, List.setIfInBounds_toArray, List.set_cons_zero, List.set_cons_succ]
      refine' wpAnyH_take (i := 28) (oi := { dst := some 42, op := Op.binOp BinOp.eql 27 (Operand.tmp 38) (Operand.tmp 41) 27, type := 4, pos := "leaf.go:100", after := #[{ on := 24, ground := Ground.data }, { on := 27, ground := Ground.data }, { on := 22, ground := Ground.guard }], guard := some (22, true) }) (v := undef) rfl (by kernel_rfl) (by kernel_rfl) (by kernel_rfl) (fun _ _ _ h => h) (Or.inr ⟨by rfl, rfl⟩) hH0 ?rh28
      simp only [Act.put, List.setIfInBounds_toArray, List.set_cons_zero, List.set_cons_succ]
      refine' wpAnyH_take (i := 29) (oi := { dst := some 43, op := Op.pick (Operand.tmp 36) (Operand.tmp 42) (Operand.const (Value.bool false)), type := 4, pos := "leaf.go:100", after := #[{ on := 22, ground := Ground.data }, { on := 28, ground := Ground.data }], guard := none }) (v := _) rfl (by kernel_rfl) (by kernel_rfl) (by kernel_rfl) (fun _ _ _ h => h) (Or.inl ⟨by rfl, ?hyh29⟩) hH0 ?rh29
      case hyh29 => (intro w' hSw; clear hSw; go_simp; try with_reducible rfl)
      simp only [Act.put, List.setIfInBounds_toArray, List.set_cons_zero, List.set_cons_succ]
      refine' wpAnyH_take (i := 30) (oi := { dst := some 44, op := Op.move (Operand.tmp 43), type := 4, pos := "leaf.go:100", after := #[{ on := 29, ground := Ground.data }, { on := 22, ground := Ground.chain }], guard := none }) (v := _) rfl (by kernel_rfl) (by kernel_rfl) (by kernel_rfl) (fun _ _ _ h => h) (Or.inl ⟨by rfl, ?hyh30⟩) hH0 ?rh30
      case hyh30 => (intro w' hSw; clear hSw; go_simp; try with_reducible rfl)
      simp only [Act.put, List.setIfInBounds_toArray, List.set_cons_zero, List.set_cons_succ]
      refine' wpAnyH_take (i := 31) (oi := { dst := some 45, op := Op.load 33 (Operand.tmp 4), type := 33, pos := "leaf.go:100", after := #[{ on := 30, ground := Ground.guard }], guard := some (30, true) }) (v := undef) rfl (by kernel_rfl) (by kernel_rfl) (by kernel_rfl) (fun _ _ _ h => h) (Or.inr ⟨by rfl, rfl⟩) hH0 ?rh31
      simp only [Act.put, List.setIfInBounds_toArray, List.set_cons_zero, List.set_cons_succ]
      refine' wpAnyH_take (i := 32) (oi := { dst := some 46, op := Op.call { callee := Callee.value (Operand.func 31), args := #[Operand.tmp 45], argTypes := #[33] }, type := 4, pos := "leaf.go:101", after := #[{ on := 31, ground := Ground.data }, { on := 30, ground := Ground.chain }, { on := 30, ground := Ground.guard }], guard := some (30, true) }) (v := undef) rfl (by kernel_rfl) (by kernel_rfl) (by kernel_rfl) (fun _ _ _ h => h) (Or.inr ⟨by rfl, rfl⟩) hH0 ?rh32
      simp only [Act.put, List.setIfInBounds_toArray, List.set_cons_zero, List.set_cons_succ]
      refine' wpAnyH_take (i := 33) (oi := { dst := some 47, op := Op.pick (Operand.tmp 44) (Operand.tmp 46) (Operand.const (Value.bool false)), type := 4, pos := "leaf.go:100", after := #[{ on := 30, ground := Ground.data }, { on := 32, ground := Ground.data }], guard := none }) (v := _) rfl (by kernel_rfl) (by kernel_rfl) (by kernel_rfl) (fun _ _ _ h => h) (Or.inl ⟨by rfl, ?hyh33⟩) hH0 ?rh33
      case hyh33 => (intro w' hSw; clear hSw; go_simp; try with_reducible rfl)
      simp only [Act.put, List.setIfInBounds_toArray, List.set_cons_zero, List.set_cons_succ]
      refine' wpAnyH_take (i := 34) (oi := { dst := some 2, op := Op.assign (Operand.tmp 47), type := 4, pos := "leaf.go:100", after := #[{ on := 33, ground := Ground.data }, { on := 32, ground := Ground.chain }, { on := 0, ground := Ground.phase }, { on := 1, ground := Ground.phase }, { on := 2, ground := Ground.phase }, { on := 3, ground := Ground.phase }, { on := 4, ground := Ground.phase }, { on := 5, ground := Ground.phase }, { on := 6, ground := Ground.phase }, { on := 7, ground := Ground.phase }, { on := 8, ground := Ground.phase }, { on := 9, ground := Ground.phase }, { on := 10, ground := Ground.phase }, { on := 11, ground := Ground.phase }, { on := 12, ground := Ground.phase }, { on := 13, ground := Ground.phase }, { on := 14, ground := Ground.phase }, { on := 15, ground := Ground.phase }, { on := 16, ground := Ground.phase }, { on := 17, ground := Ground.phase }, { on := 18, ground := Ground.phase }, { on := 19, ground := Ground.phase }, { on := 20, ground := Ground.phase }, { on := 21, ground := Ground.phase }, { on := 22, ground := Ground.phase }, { on := 23, ground := Ground.phase }, { on := 24, ground := Ground.phase }, { on := 25, ground := Ground.phase }, { on := 26, ground := Ground.phase }, { on := 27, ground := Ground.phase }, { on := 28, ground := Ground.phase }, { on := 29, ground := Ground.phase }, { on := 30, ground := Ground.phase }, { on := 31, ground := Ground.phase }, { on := 32, ground := Ground.phase }, { on := 33, ground := Ground.phase }], guard := none }) (v := _) rfl (by kernel_rfl) (by kernel_rfl) (by kernel_rfl) (fun _ _ _ h => h) (Or.inl ⟨by rfl, ?hyh34⟩) hH0 ?rh34
      case hyh34 => (intro w' hSw; clear hSw; go_simp; try with_reducible rfl)
      simp only [Act.put, List.setIfInBounds_toArray, List.set_cons_zero, List.set_cons_succ]
      refine wpAnyH_done (by kernel_rfl) ?_ _
      refine NoPanic.normal ?_
      go_wp2_with fail
      go_ret
      exact Bl.no rfl hres (K9.trans ((Keep.refl (fun _ => False) wc).drew))
end Tg
end Go.Proofs.Ytginnojbmpnleaa
