/-
  LeafJoins' body, given what the program's own calls answer.
-/
import Derived.Test.YtginnojbmpnleaaLy
import Derived.Test.YtginnojbmpnleaaLz
namespace Go.Proofs.Ytginnojbmpnleaa
open Go.ChangeShapes Go.WideShapes Go.ChangeAt Go.RowKit
namespace Tg
theorem call12 (args : Array Value) (w : World) : (callFunc 12 args).run Try.prog w = .ok (.enter 12 args) w := enters Try.func12 (by kernel_rfl) (by kernel_rfl) args w
theorem post_rcut {w : World} {s : St} {a : Option Addr} {len cap : Nat} (hr : Row w a len cap s.bytes) (hlen : len ≤ 65536) : Calls Try.prog 12 #[.agg #[.int .i64 s.kind, .int .u32 s.ep, .int .u32 s.gr, .slice a len cap]] w fun e w2 => ∃ u, e = .returned u ∧ (fun (u : Value) wz => ∃ a' c', u = .slice a' (cutL s).length c' ∧ Ro w wz a' c' (cutL s)) u w2 :=
  (rcut_any hr hlen).mono (fun _ _ ⟨a', c', h, h2⟩ => ⟨_, h, a', c', rfl, h2⟩)
set_option maxRecDepth 100000 in
set_option maxHeartbeats 2000000 in
theorem joins_walk (HA : AwOk) (HJ : JoinOk) {w : World} {a pa : Option Addr} {nl cl np pc : Nat} {rs : List Raw} {L : List St} (hS0 : ArgS w a nl cl rs L) (hP0 : Rpk w pa np pc) :
    Calls Try.prog 5 #[.slice a nl cl, .slice pa np pc] w fun e w' => e = .returned (.bool true) ∧ Keep (fun _ => False) w w' := by
  go_enter Try.func5, Try.ntmps5
  go_wp2_with fail
  refine (HA w).mono ?_
  rintro e w0 ⟨rfl, k0⟩
  clear HA
  have hS := hS0.more k0
  have hP := hP0.more k0
  clear hS0 hP0
  have hcl := hS.1.1
  rw [hS.2.1] at hcl
  have hcl2 := hS.1.2.1
  have hpc := hP.1
  have hpc2 := hP.2.1
  by_cases x1 : nl ≤ 8
  · have d1 : ¬ (8 : Int) < (nl : Int) := by omega
    by_cases x2 : np ≤ 60
    · have d2 : ¬ (60 : Int) < (np : Int) := by omega
      go_wp2_with fail
      go_loopw [5, 6] (fun rv v wx => ∃ (i c : Nat) (aa : Option Addr) (m : List Sl), i ≤ nl ∧ v = .int .i64 (i : Int) ∧ rv = .slice aa i c ∧ RoS w0 wx aa c m ∧ Hid (m.length = i) ∧ Hid (AllP wx m) ∧ Hid (Sep aa m)) (fun _ v _ => nl - (intOf v).toNat)
      case atStart => exact ⟨0, 0, none, [], by omega, rfl, rfl, RoS.nil _, rfl, (fun r hr => by cases hr), (fun r hr => by cases hr)⟩
      case round =>
        obtain ⟨i, c, aa, m, hi, rfl, rfl, Rm, hli, hal, hsep⟩ := hrel
        by_cases hlt : i < nl
        · obtain ⟨gs, os, es, r, s, -, -, e1, e2, e3, b1, b2, hst⟩ := hS.at hlt
          subst es
          have hcel := hst wr Rm.keep
          have cB0 : wr.cell? ⟨gs, os + i * 4, none⟩ = some (.int .i64 r.k) := hcel.2 0 (by omega)
          have cB3 : wr.cell? ⟨gs, os + i * 4 + 3, none⟩ = some (.slice r.a r.len r.cap) := hcel.2 3 (by omega)
          have hrow := hcel.1
          have hna : ¬ aa = some ⟨gs, 0, none⟩ := fun e => by
            have h1 := (Rm.block e).1
            have h2 := World.block_lt_of_cell? w0 _ ((hst w0 (Keep.refl _ _)).2 0 (by omega))
            simp at h2
            omega
          have hA : ∀ w', Keep (fun b => aa = some ⟨b, 0, none⟩) wr w' → w'.cell? ⟨gs, os + i * 4, none⟩ = some (.int .i64 r.k) ∧ w'.cell? ⟨gs, os + i * 4 + 1, none⟩ = some (.int .u32 r.e) ∧ w'.cell? ⟨gs, os + i * 4 + 2, none⟩ = some (.int .u32 r.g) ∧ w'.cell? ⟨gs, os + i * 4 + 3, none⟩ = some (.slice r.a r.len r.cap) := fun w' k =>
            ⟨keep_cell k (hcel.2 0 (by omega)) hna, keep_cell k (hcel.2 1 (by omega)) hna, keep_cell k (hcel.2 2 (by omega)) hna, keep_cell k (hcel.2 3 (by omega)) hna⟩
          have di : (i : Int) < (nl : Int) := by omega
          have dw := wrapI (x := (i : Int) + 1) (by omega) (by omega)
          clear hcel
          have hA' : Hid (∀ w', Keep (fun b => aa = some ⟨b, 0, none⟩) wr w' → w'.cell? ⟨gs, os + i * 4, none⟩ = some (.int .i64 r.k) ∧ w'.cell? ⟨gs, os + i * 4 + 1, none⟩ = some (.int .u32 r.e) ∧ w'.cell? ⟨gs, os + i * 4 + 2, none⟩ = some (.int .u32 r.g) ∧ w'.cell? ⟨gs, os + i * 4 + 3, none⟩ = some (.slice r.a r.len r.cap)) := hA
          clear hA
          go_upto_region 9 with fail
          by_cases hgo : (r.k = 2 ∨ r.k = 3) ∧ r.len ≤ 300
          · obtain ⟨hk23, hl3⟩ := hgo
            have d3 : ¬ (300 : Int) < (r.len : Int) := by omega
            go_cut [53] from 25 to 78 (fun v wx => v = .bool false ∧ wx = wr)
            case first =>
              clear hrow b1 b2 e1 e2 e3
              rcases hk23 with h | h
              · have g1 : (r.k != 2) = false := by simp [h]
                clear h
                go_wp2_with fail
                go_meet
                exact ⟨rfl, rfl⟩
              · have g1 : (r.k != 2) = true := by simp [h]
                have g2 : (r.k != 3) = false := by simp [h]
                clear h
                go_wp2_with fail
                go_meet
                exact ⟨rfl, rfl⟩
            case rest =>
              obtain ⟨rfl, ew⟩ := hcut
              subst wc
              obtain ⟨st, hst0⟩ : ∃ st : St, st = ⟨r.k, r.e, r.g, s.bytes⟩ := ⟨_, rfl⟩
              have hsto : st.Ok := by subst hst0; exact ⟨hk23, by show s.bytes.length ≤ 65536; rw [hrow.1]; omega, hrow.2.2.2.1, by show 0 ≤ r.e ∧ r.e ≤ 4294967295; rw [e2]; exact b1, by show 0 ≤ r.g ∧ r.g ≤ 4294967295; rw [e3]; exact b2⟩
              have hrowd := hrow.moreV ((Keep.refl (fun _ => False) wr).drew)
              have hA := (show ∀ w', Keep (fun b => aa = some ⟨b, 0, none⟩) wr w' → w'.cell? ⟨gs, os + i * 4, none⟩ = some (.int .i64 r.k) ∧ w'.cell? ⟨gs, os + i * 4 + 1, none⟩ = some (.int .u32 r.e) ∧ w'.cell? ⟨gs, os + i * 4 + 2, none⟩ = some (.int .u32 r.g) ∧ w'.cell? ⟨gs, os + i * 4 + 3, none⟩ = some (.slice r.a r.len r.cap) from hA')
              have hlt' : Hid (i < nl) := hlt
              clear hk23 b1 b2 e1 e2 e3 cB0 cB3 hlt hA'
              go_upto_region 11 with fail
              refine wp_region_noPanic ?_
              refine wp_region_held_drew (S := fun w' => Keep (fun b => aa = some ⟨b, 0, none⟩) wr w') (by kernel_rfl) ((Keep.refl _ wr).drew) (fun hH0 => ?_)
              refine' wpAnyH_take (i := 0) (oi := { dst := some 54, op := Op.move (Operand.tmp 5), type := 42, pos := "law.go:83", after := #[], guard := none }) (v := _) rfl (by kernel_rfl) (by kernel_rfl) (by kernel_rfl) (fun _ _ _ h => h) (Or.inl ⟨by rfl, ?hya0⟩) hH0 ?ra0
              case hya0 => (intro w' hSw; clear hSw; go_simp; try with_reducible rfl)
              simp only [Act.put, List.setIfInBounds_toArray, List.set_cons_zero, List.set_cons_succ]
              refine' wpAnyH_take (i := 1) (oi := { dst := some 55, op := Op.move (Operand.tmp 0), type := 37, pos := "law.go:83", after := #[], guard := none }) (v := _) rfl (by kernel_rfl) (by kernel_rfl) (by kernel_rfl) (fun _ _ _ h => h) (Or.inl ⟨by rfl, ?hya1⟩) hH0 ?ra1
              case hya1 => (intro w' hSw; clear hSw; go_simp; try with_reducible rfl)
              simp only [Act.put, List.setIfInBounds_toArray, List.set_cons_zero, List.set_cons_succ]
              refine' wpAnyH_take (i := 2) (oi := { dst := some 56, op := Op.move (Operand.tmp 6), type := 3, pos := "law.go:83", after := #[], guard := none }) (v := _) rfl (by kernel_rfl) (by kernel_rfl) (by kernel_rfl) (fun _ _ _ h => h) (Or.inl ⟨by rfl, ?hya2⟩) hH0 ?ra2
              case hya2 => (intro w' hSw; clear hSw; go_simp; try with_reducible rfl)
              simp only [Act.put, List.setIfInBounds_toArray, List.set_cons_zero, List.set_cons_succ]
              refine' wpAnyH_take (i := 3) (oi := { dst := some 57, op := Op.indexAddr 37 (Operand.tmp 55) (Operand.tmp 56), type := 0, pos := "law.go:83", after := #[{ on := 1, ground := Ground.data }, { on := 2, ground := Ground.data }], guard := none }) (v := _) rfl (by kernel_rfl) (by kernel_rfl) (by kernel_rfl) (fun _ _ _ h => h) (Or.inl ⟨by rfl, ?hya3⟩) hH0 ?ra3
              case hya3 => (intro w' hSw; clear hSw; go_simp; try with_reducible rfl)
              simp only [Act.put, List.setIfInBounds_toArray, List.set_cons_zero, List.set_cons_succ]
              refine' wpAnyH_take (i := 4) (oi := { dst := some 58, op := Op.fieldAddr 30 (Operand.tmp 57) 0, type := 0, pos := "law.go:83", after := #[{ on := 3, ground := Ground.data }], guard := none }) (v := _) rfl (by kernel_rfl) (by kernel_rfl) (by kernel_rfl) (fun _ _ _ h => h) (Or.inl ⟨by rfl, ?hya4⟩) hH0 ?ra4
              case hya4 => (intro w' hSw; clear hSw; go_simp; try with_reducible rfl)
              simp only [Act.put, List.setIfInBounds_toArray, List.set_cons_zero, List.set_cons_succ]
              refine' wpAnyH_take (i := 5) (oi := { dst := some 59, op := Op.load 3 (Operand.tmp 58), type := 3, pos := "law.go:83", after := #[{ on := 4, ground := Ground.data }], guard := none }) (v := .int .i64 r.k) rfl (by kernel_rfl) (by kernel_rfl) (by kernel_rfl) (fun _ _ _ h => h) (yields_load (by rfl) 3 (.tmp 58) rfl (by rfl) (fun w' k => load3 (hA w' k).1)) hH0 ?ra5
              simp only [Act.put, List.setIfInBounds_toArray, List.set_cons_zero, List.set_cons_succ]
              refine' wpAnyH_take (i := 6) (oi := { dst := some 60, op := Op.move (Operand.tmp 0), type := 37, pos := "law.go:83", after := #[], guard := none }) (v := _) rfl (by kernel_rfl) (by kernel_rfl) (by kernel_rfl) (fun _ _ _ h => h) (Or.inl ⟨by rfl, ?hya6⟩) hH0 ?ra6
              case hya6 => (intro w' hSw; clear hSw; go_simp; try with_reducible rfl)
              simp only [Act.put, List.setIfInBounds_toArray, List.set_cons_zero, List.set_cons_succ]
              refine' wpAnyH_take (i := 7) (oi := { dst := some 61, op := Op.move (Operand.tmp 6), type := 3, pos := "law.go:83", after := #[], guard := none }) (v := _) rfl (by kernel_rfl) (by kernel_rfl) (by kernel_rfl) (fun _ _ _ h => h) (Or.inl ⟨by rfl, ?hya7⟩) hH0 ?ra7
              case hya7 => (intro w' hSw; clear hSw; go_simp; try with_reducible rfl)
              simp only [Act.put, List.setIfInBounds_toArray, List.set_cons_zero, List.set_cons_succ]
              refine' wpAnyH_take (i := 8) (oi := { dst := some 62, op := Op.indexAddr 37 (Operand.tmp 60) (Operand.tmp 61), type := 0, pos := "law.go:83", after := #[{ on := 6, ground := Ground.data }, { on := 7, ground := Ground.data }], guard := none }) (v := _) rfl (by kernel_rfl) (by kernel_rfl) (by kernel_rfl) (fun _ _ _ h => h) (Or.inl ⟨by rfl, ?hya8⟩) hH0 ?ra8
              case hya8 => (intro w' hSw; clear hSw; go_simp; try with_reducible rfl)
              simp only [Act.put, List.setIfInBounds_toArray, List.set_cons_zero, List.set_cons_succ]
              refine' wpAnyH_take (i := 9) (oi := { dst := some 63, op := Op.fieldAddr 30 (Operand.tmp 62) 1, type := 0, pos := "law.go:83", after := #[{ on := 8, ground := Ground.data }], guard := none }) (v := _) rfl (by kernel_rfl) (by kernel_rfl) (by kernel_rfl) (fun _ _ _ h => h) (Or.inl ⟨by rfl, ?hya9⟩) hH0 ?ra9
              case hya9 => (intro w' hSw; clear hSw; go_simp; try with_reducible rfl)
              simp only [Act.put, List.setIfInBounds_toArray, List.set_cons_zero, List.set_cons_succ]
              refine' wpAnyH_take (i := 10) (oi := { dst := some 64, op := Op.load 27 (Operand.tmp 63), type := 27, pos := "law.go:83", after := #[{ on := 9, ground := Ground.data }], guard := none }) (v := .int .u32 r.e) rfl (by kernel_rfl) (by kernel_rfl) (by kernel_rfl) (fun _ _ _ h => h) (yields_load (by rfl) 27 (.tmp 63) rfl (by rfl) (fun w' k => load27 (hA w' k).2.1)) hH0 ?ra10
              simp only [Act.put, List.setIfInBounds_toArray, List.set_cons_zero, List.set_cons_succ]
              refine' wpAnyH_take (i := 11) (oi := { dst := some 65, op := Op.move (Operand.tmp 0), type := 37, pos := "law.go:83", after := #[], guard := none }) (v := _) rfl (by kernel_rfl) (by kernel_rfl) (by kernel_rfl) (fun _ _ _ h => h) (Or.inl ⟨by rfl, ?hya11⟩) hH0 ?ra11
              case hya11 => (intro w' hSw; clear hSw; go_simp; try with_reducible rfl)
              simp only [Act.put, List.setIfInBounds_toArray, List.set_cons_zero, List.set_cons_succ]
              refine' wpAnyH_take (i := 12) (oi := { dst := some 66, op := Op.move (Operand.tmp 6), type := 3, pos := "law.go:83", after := #[], guard := none }) (v := _) rfl (by kernel_rfl) (by kernel_rfl) (by kernel_rfl) (fun _ _ _ h => h) (Or.inl ⟨by rfl, ?hya12⟩) hH0 ?ra12
              case hya12 => (intro w' hSw; clear hSw; go_simp; try with_reducible rfl)
              simp only [Act.put, List.setIfInBounds_toArray, List.set_cons_zero, List.set_cons_succ]
              refine' wpAnyH_take (i := 13) (oi := { dst := some 67, op := Op.indexAddr 37 (Operand.tmp 65) (Operand.tmp 66), type := 0, pos := "law.go:83", after := #[{ on := 11, ground := Ground.data }, { on := 12, ground := Ground.data }], guard := none }) (v := _) rfl (by kernel_rfl) (by kernel_rfl) (by kernel_rfl) (fun _ _ _ h => h) (Or.inl ⟨by rfl, ?hya13⟩) hH0 ?ra13
              case hya13 => (intro w' hSw; clear hSw; go_simp; try with_reducible rfl)
              simp only [Act.put, List.setIfInBounds_toArray, List.set_cons_zero, List.set_cons_succ]
              refine' wpAnyH_take (i := 14) (oi := { dst := some 68, op := Op.fieldAddr 30 (Operand.tmp 67) 2, type := 0, pos := "law.go:83", after := #[{ on := 13, ground := Ground.data }], guard := none }) (v := _) rfl (by kernel_rfl) (by kernel_rfl) (by kernel_rfl) (fun _ _ _ h => h) (Or.inl ⟨by rfl, ?hya14⟩) hH0 ?ra14
              case hya14 => (intro w' hSw; clear hSw; go_simp; try with_reducible rfl)
              simp only [Act.put, List.setIfInBounds_toArray, List.set_cons_zero, List.set_cons_succ]
              refine' wpAnyH_take (i := 15) (oi := { dst := some 69, op := Op.load 27 (Operand.tmp 68), type := 27, pos := "law.go:83", after := #[{ on := 14, ground := Ground.data }], guard := none }) (v := .int .u32 r.g) rfl (by kernel_rfl) (by kernel_rfl) (by kernel_rfl) (fun _ _ _ h => h) (yields_load (by rfl) 27 (.tmp 68) rfl (by rfl) (fun w' k => load27 (hA w' k).2.2.1)) hH0 ?ra15
              simp only [Act.put, List.setIfInBounds_toArray, List.set_cons_zero, List.set_cons_succ]
              refine' wpAnyH_take (i := 16) (oi := { dst := some 70, op := Op.move (Operand.tmp 0), type := 37, pos := "law.go:83", after := #[], guard := none }) (v := _) rfl (by kernel_rfl) (by kernel_rfl) (by kernel_rfl) (fun _ _ _ h => h) (Or.inl ⟨by rfl, ?hya16⟩) hH0 ?ra16
              case hya16 => (intro w' hSw; clear hSw; go_simp; try with_reducible rfl)
              simp only [Act.put, List.setIfInBounds_toArray, List.set_cons_zero, List.set_cons_succ]
              refine' wpAnyH_take (i := 17) (oi := { dst := some 71, op := Op.move (Operand.tmp 6), type := 3, pos := "law.go:83", after := #[], guard := none }) (v := _) rfl (by kernel_rfl) (by kernel_rfl) (by kernel_rfl) (fun _ _ _ h => h) (Or.inl ⟨by rfl, ?hya17⟩) hH0 ?ra17
              case hya17 => (intro w' hSw; clear hSw; go_simp; try with_reducible rfl)
              simp only [Act.put, List.setIfInBounds_toArray, List.set_cons_zero, List.set_cons_succ]
              refine' wpAnyH_take (i := 18) (oi := { dst := some 72, op := Op.indexAddr 37 (Operand.tmp 70) (Operand.tmp 71), type := 0, pos := "law.go:83", after := #[{ on := 16, ground := Ground.data }, { on := 17, ground := Ground.data }], guard := none }) (v := _) rfl (by kernel_rfl) (by kernel_rfl) (by kernel_rfl) (fun _ _ _ h => h) (Or.inl ⟨by rfl, ?hya18⟩) hH0 ?ra18
              case hya18 => (intro w' hSw; clear hSw; go_simp; try with_reducible rfl)
              simp only [Act.put, List.setIfInBounds_toArray, List.set_cons_zero, List.set_cons_succ]
              refine' wpAnyH_take (i := 19) (oi := { dst := some 73, op := Op.fieldAddr 30 (Operand.tmp 72) 3, type := 0, pos := "law.go:83", after := #[{ on := 18, ground := Ground.data }], guard := none }) (v := _) rfl (by kernel_rfl) (by kernel_rfl) (by kernel_rfl) (fun _ _ _ h => h) (Or.inl ⟨by rfl, ?hya19⟩) hH0 ?ra19
              case hya19 => (intro w' hSw; clear hSw; go_simp; try with_reducible rfl)
              simp only [Act.put, List.setIfInBounds_toArray, List.set_cons_zero, List.set_cons_succ]
              refine' wpAnyH_take (i := 20) (oi := { dst := some 74, op := Op.load 28 (Operand.tmp 73), type := 28, pos := "law.go:83", after := #[{ on := 19, ground := Ground.data }], guard := none }) (v := .slice r.a r.len r.cap) rfl (by kernel_rfl) (by kernel_rfl) (by kernel_rfl) (fun _ _ _ h => h) (yields_load (by rfl) 28 (.tmp 73) rfl (by rfl) (fun w' k => load28 (hA w' k).2.2.2)) hH0 ?ra20
              simp only [Act.put, List.setIfInBounds_toArray, List.set_cons_zero, List.set_cons_succ]
              refine' wpAnyH_take (i := 21) (oi := { dst := some 75, op := Op.build 36 #[(0, Operand.tmp 59), (1, Operand.tmp 64), (2, Operand.tmp 69), (3, Operand.tmp 74)], type := 36, pos := "law.go:83", after := #[{ on := 5, ground := Ground.data }, { on := 10, ground := Ground.data }, { on := 15, ground := Ground.data }, { on := 20, ground := Ground.data }], guard := none }) (v := _) rfl (by kernel_rfl) (by kernel_rfl) (by kernel_rfl) (fun _ _ _ h => h) (Or.inl ⟨by rfl, ?hya21⟩) hH0 ?ra21
              case hya21 => (intro w' hSw; clear hSw; go_simp; try with_reducible rfl)
              simp only [Act.put, List.setIfInBounds_toArray, List.set_cons_zero, List.set_cons_succ]
              refine wpAnyH_ready (rs := [22]) (by kernel_rfl) (by simp) ?_
              refine AllReadyH.cons (o := { dst := some 76, op := Op.call { callee := Callee.value (Operand.func 12), args := #[Operand.tmp 75], argTypes := #[36] }, type := 23, pos := "law.go:83", after := #[{ on := 21, ground := Ground.data }], guard := none }) rfl (fun K hK => ?_) AllReadyH.nil
              refine step_call_want (vs := #[.agg #[.int .i64 r.k, .int .u32 r.e, .int .u32 r.g, .slice r.a r.len r.cap]]) (R := fun u wz => ∃ a' c', u = .slice a' (cutL st).length c' ∧ Ro wr.drew wz a' c' (cutL st)) (by rfl) 12 #[Operand.tmp 75] #[36] rfl (by simp [Act.eval]) call12 (by rw [hst0]; exact post_rcut (s := ⟨r.k, r.e, r.g, s.bytes⟩) hrowd (by omega)) ?_
              rintro _ w6 ⟨a6, c6, rfl, R6⟩
              refine hK.out _ _ (((Keep.refl (fun b => aa = some ⟨b, 0, none⟩) wr).drew).trans (R6.keep.mono (fun _ _ e => e.elim))) (fun hH1 => ?_)
              clear hK K hH0
              simp only [Act.put, List.setIfInBounds_toArray, List.set_cons_zero, List.set_cons_succ]
              refine wpAnyH_ready (rs := [23]) (by kernel_rfl) (by simp) ?_
              refine AllReadyH.cons (o := { dst := some 77, op := Op.buildSlice 42 1 #[(0, Operand.tmp 76)], type := 42, pos := "law.go:83", after := #[{ on := 22, ground := Ground.data }], guard := none }) rfl (fun K hK => ?_) AllReadyH.nil
              refine step_build_run (by rfl) 42 1 (.tmp 76) rfl (by rfl) (build_sl a6 (cutL st).length c6 _) ?_
              refine hK.out _ _ ((((Keep.refl (fun b => aa = some ⟨b, 0, none⟩) wr).drew).trans (R6.keep.mono (fun _ _ e => e.elim))).alloc _) (fun hH2 => ?_)
              clear hK K hH1
              simp only [Act.put, List.setIfInBounds_toArray, List.set_cons_zero, List.set_cons_succ]
              obtain ⟨a9, c9, w9, hr9, R9, k9, h9⟩ := (Rm.more (((Keep.refl _ wr).drew).trans R6.keep)).app1 (by rw [show m.length = i from hli]; omega) ⟨a6, (cutL st).length, c6⟩
              rw [show m.length = i from hli] at hr9
              refine wpAnyH_ready (rs := [24]) (by kernel_rfl) (by simp) ?_
              refine AllReadyH.cons (o := { dst := some 78, op := Op.call { callee := Callee.builtin Builtin.append, args := #[Operand.tmp 54, Operand.tmp 77], argTypes := #[42, 42] }, type := 42, pos := "law.go:83", after := #[{ on := 0, ground := Ground.data }, { on := 23, ground := Ground.data }, { on := 22, ground := Ground.chain }], guard := none }) rfl (fun K hK => ?_) AllReadyH.nil
              refine step_append_run (by rfl) (.tmp 54) (.tmp 77) 42 rfl (by rfl) (by rfl) hr9 ?_
              refine hK.out _ _ ((((Keep.refl (fun b => aa = some ⟨b, 0, none⟩) wr).drew).trans (R6.keep.mono (fun _ _ e => e.elim))).trans k9) (fun hH3 => ?_)
              clear hK K hH2
              simp only [Act.put, List.setIfInBounds_toArray, List.set_cons_zero, List.set_cons_succ]
              refine' wpAnyH_take (i := 25) (oi := { dst := some 5, op := Op.assign (Operand.tmp 78), type := 42, pos := "law.go:83", after := #[{ on := 24, ground := Ground.data }, { on := 24, ground := Ground.chain }, { on := 0, ground := Ground.phase }, { on := 1, ground := Ground.phase }, { on := 2, ground := Ground.phase }, { on := 3, ground := Ground.phase }, { on := 4, ground := Ground.phase }, { on := 5, ground := Ground.phase }, { on := 6, ground := Ground.phase }, { on := 7, ground := Ground.phase }, { on := 8, ground := Ground.phase }, { on := 9, ground := Ground.phase }, { on := 10, ground := Ground.phase }, { on := 11, ground := Ground.phase }, { on := 12, ground := Ground.phase }, { on := 13, ground := Ground.phase }, { on := 14, ground := Ground.phase }, { on := 15, ground := Ground.phase }, { on := 16, ground := Ground.phase }, { on := 17, ground := Ground.phase }, { on := 18, ground := Ground.phase }, { on := 19, ground := Ground.phase }, { on := 20, ground := Ground.phase }, { on := 21, ground := Ground.phase }, { on := 22, ground := Ground.phase }, { on := 23, ground := Ground.phase }, { on := 24, ground := Ground.phase }], guard := none }) (v := _) rfl (by kernel_rfl) (by kernel_rfl) (by kernel_rfl) (fun _ _ _ h => h) (Or.inl ⟨by rfl, ?hya25⟩) hH3 ?ra25
              case hya25 => (intro w' hSw; clear hSw; go_simp; try with_reducible rfl)
              simp only [Act.put, List.setIfInBounds_toArray, List.set_cons_zero, List.set_cons_succ]
              refine wpAnyH_done (by kernel_rfl) ?_ _
              refine NoPanic.normal ?_
              clear hA hr9
              have hk96 : Keep (fun b => aa = some ⟨b, 0, none⟩) w6 w9 := k9
              have hsz6 : wr.heap.size ≤ w6.heap.size := R6.keep.size
              have haa : ∀ g, aa = some ⟨g, 0, none⟩ → g < wr.heap.size := fun g e => (Rm.block e).2
              have ha6 : ∀ x : Addr, a6 = some x → wr.heap.size ≤ x.block ∧ x.block < w6.heap.size := fun x e => by
                subst e
                obtain ⟨xb, xo, xs⟩ := x
                obtain ⟨g, o, e, -⟩ := R6.rg.at (cutL_get st (npg_pos _))
                injection e with e
                injection e with h1 h2 h3
                subst h1 h2 h3
                have := R6.zero
                subst this
                exact R6.block rfl
              have hsep' := Sep.snoc (n := (cutL st).length) (c := c6) hsep hal hsz6 h9 haa ha6
              have hal6 : AllP w6 m := AllP.more hal (((Keep.refl _ wr).drew).trans R6.keep)
              have hal9 : AllP w9 (m ++ [⟨a6, (cutL st).length, c6⟩]) := fun x hx => by
                rcases List.mem_append.1 hx with hx | hx
                · exact AllP.keep hal6 hk96 (fun y hy z hz e => (show Sep aa m from hsep) y hy z hz e) x hx
                · obtain rfl := List.mem_singleton.1 hx
                  refine ⟨cutL st, by rw [cutL_len]; exact npg_pos _, by rw [cutL_len]; exact npg_max hsto.len, rfl, cutL_ok hsto, R6.rg.keep hk96 (fun g o e _ e2 => ?_)⟩
                  have h1 := ha6 _ e
                  have h2 := haa _ e2
                  simp only at h1
                  omega
              go_wp2_with fail
              go_roundw
              case rel => exact ⟨i + 1, c9, a9, m ++ [Sl.mk a6 (cutL st).length c6], hlt', by go_num, rfl, R9, by show _ = _; rw [List.length_append, show m.length = i from hli]; rfl, hal9, hsep'⟩
              case measure => have : i < nl := hlt'; simp [intOf]; omega
          · go_cut [53] from 25 to 78 (fun v wx => v = .bool true ∧ wx = wr)
            case first =>
              clear hrow b1 b2 e1 e2 e3
              by_cases h : r.k = 2 ∨ r.k = 3
              · have d3 : (300 : Int) < (r.len : Int) := by
                  have : ¬ r.len ≤ 300 := fun e => hgo ⟨h, e⟩
                  omega
                clear hgo
                rcases h with h | h
                · have g1 : (r.k != 2) = false := by simp [h]
                  clear h
                  go_wp2_with fail
                  go_meet
                  exact ⟨rfl, rfl⟩
                · have g1 : (r.k != 2) = true := by simp [h]
                  have g2 : (r.k != 3) = false := by simp [h]
                  clear h
                  go_wp2_with fail
                  go_meet
                  exact ⟨rfl, rfl⟩
              · have g1 : (r.k != 2) = true := by simp; omega
                have g2 : (r.k != 3) = true := by simp; omega
                clear h hgo
                go_wp2_with fail
                go_meet
                exact ⟨rfl, rfl⟩
            case rest =>
              obtain ⟨rfl, ew⟩ := hcut
              subst wc
              have KR := k0.trans Rm.keep
              go_wp2_with fail
              go_ret
              exact ⟨rfl, KR⟩
        · obtain rfl : i = nl := by omega
          obtain ⟨W1, eW1⟩ : ∃ W1, W1 = wr := ⟨_, rfl⟩
          have KW1 : Keep (fun _ => False) w0 W1 := by rw [eW1]; exact Rm.keep
          have Rm1 : RoS w0 W1 aa c m := by rw [eW1]; exact Rm
          have hal1 : Hid (AllP W1 m) := by rw [eW1]; exact hal
          have hnlc := Rm1.rs.1
          have hnlc2 := Rm1.rs.2.1
          have hli0 : m.length = i := hli
          rw [hli0] at hnlc
          have hP1 := hP.more KW1
          rw [← eW1]
          clear eW1 Rm hal hS hP hsep hli
          go_wp2_with fail
          go_loopw [7, 8] (fun rv v wx => ∃ (i c : Nat) (pga : Option Addr) (l : List Pg), i ≤ np ∧ v = .int .i64 (i : Int) ∧ rv = .slice pga i c ∧ Ro W1 wx pga c l ∧ Hid (l.length = i) ∧ Hid (∀ q ∈ l, q.Ok)) (fun _ v _ => np - (intOf v).toNat)
          case atStart => exact ⟨0, 0, none, [], by omega, rfl, rfl, Ro.nil _, rfl, (fun q hq => by cases hq)⟩
          case round =>
            obtain ⟨j, pc2, pga, l, hj, rfl, rfl, Ri, hlj, hok⟩ := hrel
            go_upto_region 14 with fail
            by_cases hlt2 : j < np ∧ 0 < i
            · obtain ⟨hlt2, hi0⟩ := hlt2
              have di : (j : Int) < (np : Int) := by omega
              have di0 : (0 : Int) < (i : Int) := by omega
              have dw := wrapI (x := (j : Int) + 1) (by omega) (by omega)
              obtain ⟨gp, op, ep, f0, f1, f2, f3, hpk⟩ := hP1.at hlt2
              subst ep
              have c0 : wr.cell? ⟨gp, op + j * 4, none⟩ = some (.int .i64 f0) := hpk wr Ri.keep 0 (by omega)
              go_wp2_with fail
              refine (wrap_any (n := f0) (s := i) hi0 (by omega) _).mono ?_
              rintro e w3 ⟨k, hk, rfl, ew⟩
              subst w3
              obtain ⟨⟨ra, n6, rc⟩, hr⟩ : ∃ r, m[k]? = some r := ⟨_, List.getElem?_eq_getElem (by omega)⟩
              obtain ⟨lk, z1, z2, hn6s, hlk, Rk⟩ := (show AllP W1 m from hal1) _ (List.mem_of_getElem? hr)
              simp only at hn6s Rk
              obtain ⟨p0, hp0⟩ := get_pg (l := lk) (i := 0) (by omega)
              obtain ⟨g6, o6, e6, hc6⟩ := Rk.at hp0
              subst e6
              have hn6 : Hid (lk.length = n6) := hn6s.symm
              have hn61 : 1 ≤ n6 := by omega
              have hn62 : n6 ≤ 2048 := by omega
              have hc61 : n6 ≤ rc := by have := Rk.1; omega
              have hc62 := Rk.2.1
              obtain ⟨ga, oa, ea, hca⟩ := Rm1.rs.at hr
              subst ea
              obtain rfl := Rm1.zero
              have cA : wr.cell? ⟨ga, k, none⟩ = some (.slice (some ⟨g6, o6, none⟩) n6 rc) := by have := keep_cell Ri.keep (hca 0 (by omega)) (fun e => e); simpa [slc] using this
              have hnp1 : ¬ pga = some ⟨gp, 0, none⟩ := fun e => by
                have h1 := (Ri.block e).1
                have h2 := World.block_lt_of_cell? W1 _ (hpk W1 (Keep.refl _ _) 0 (by omega))
                simp at h2
                omega
              have hnp2 : ¬ pga = some ⟨g6, 0, none⟩ := fun e => by
                have h1 := (Ri.block e).1
                have h2 := World.block_lt_of_cell? W1 _ (hc6 0 (by omega))
                simp at h2
                omega
              have hl79 : ∀ w', Keep (fun b => pga = some ⟨b, 0, none⟩) wr w' → (Instr.loadAt 3 (.pointer (some ⟨gp, op + j * 4 + 1, none⟩))).run Try.prog w' = .ok (.int .i64 f1) w' := fun w' k => load3 (keep_cell k (hpk wr Ri.keep 1 (by omega)) hnp1)
              have hl88 : ∀ w', Keep (fun b => pga = some ⟨b, 0, none⟩) wr w' → (Instr.loadAt 45 (.pointer (some ⟨gp, op + j * 4, none⟩))).run Try.prog w' = .ok (.agg #[.int .i64 f0, .int .i64 f1, .int .i64 f2, .int .i64 f3]) w' := fun w' k => pick_load (fun y hy => keep_cell k (hpk wr Ri.keep y hy) hnp1)
              have hl84' : ∀ k2 x, lk[k2]? = some x → ∀ w', Keep (fun b => pga = some ⟨b, 0, none⟩) wr w' → (Instr.loadAt 33 (.pointer (some ⟨g6, o6 + k2 * 39, none⟩))).run Try.prog w' = .ok (.agg (pgA x)) w' := fun k2 x hx w' k => by
                obtain ⟨g', o', e, hc'⟩ := (Rk.more Ri.keep).at hx
                injection e with e
                injection e with e1 e2
                subst e1 e2
                exact pg_load (fun y hy => keep_cell k (hc' y hy) hnp2)
              have hlt' : Hid (j < np) := hlt2
              clear hlt2 hn6s z1 z2 hca hc6 hp0
              go_upto_region 17 with fail
              refine wp_region_noPanic ?_
              refine wp_region_held_drew (S := fun w' => Keep (fun b => pga = some ⟨b, 0, none⟩) wr w') (by kernel_rfl) ((Keep.refl _ wr).drew) (fun hH0 => ?_)
              refine' wpAnyH_take (i := 0) (oi := { dst := some 101, op := Op.move (Operand.tmp 7), type := 23, pos := "law.go:88", after := #[], guard := none }) (v := _) rfl (by kernel_rfl) (by kernel_rfl) (by kernel_rfl) (fun _ _ _ h => h) (Or.inl ⟨by rfl, ?hyb0⟩) hH0 ?rb0
              case hyb0 => (intro w' hSw; clear hSw; go_simp; try with_reducible rfl)
              simp only [Act.put, List.setIfInBounds_toArray, List.set_cons_zero, List.set_cons_succ]
              refine' wpAnyH_take (i := 1) (oi := { dst := some 102, op := Op.move (Operand.tmp 9), type := 23, pos := "law.go:88", after := #[], guard := none }) (v := _) rfl (by kernel_rfl) (by kernel_rfl) (by kernel_rfl) (fun _ _ _ h => h) (Or.inl ⟨by rfl, ?hyb1⟩) hH0 ?rb1
              case hyb1 => (intro w' hSw; clear hSw; go_simp; try with_reducible rfl)
              simp only [Act.put, List.setIfInBounds_toArray, List.set_cons_zero, List.set_cons_succ]
              refine' wpAnyH_take (i := 2) (oi := { dst := some 103, op := Op.move (Operand.tmp 1), type := 41, pos := "law.go:88", after := #[], guard := none }) (v := _) rfl (by kernel_rfl) (by kernel_rfl) (by kernel_rfl) (fun _ _ _ h => h) (Or.inl ⟨by rfl, ?hyb2⟩) hH0 ?rb2
              case hyb2 => (intro w' hSw; clear hSw; go_simp; try with_reducible rfl)
              simp only [Act.put, List.setIfInBounds_toArray, List.set_cons_zero, List.set_cons_succ]
              refine' wpAnyH_take (i := 3) (oi := { dst := some 104, op := Op.move (Operand.tmp 8), type := 3, pos := "law.go:88", after := #[], guard := none }) (v := _) rfl (by kernel_rfl) (by kernel_rfl) (by kernel_rfl) (fun _ _ _ h => h) (Or.inl ⟨by rfl, ?hyb3⟩) hH0 ?rb3
              case hyb3 => (intro w' hSw; clear hSw; go_simp; try with_reducible rfl)
              simp only [Act.put, List.setIfInBounds_toArray, List.set_cons_zero, List.set_cons_succ]
              refine' wpAnyH_take (i := 4) (oi := { dst := some 105, op := Op.indexAddr 41 (Operand.tmp 103) (Operand.tmp 104), type := 0, pos := "law.go:88", after := #[{ on := 2, ground := Ground.data }, { on := 3, ground := Ground.data }], guard := none }) (v := _) rfl (by kernel_rfl) (by kernel_rfl) (by kernel_rfl) (fun _ _ _ h => h) (Or.inl ⟨by rfl, ?hyb4⟩) hH0 ?rb4
              case hyb4 => (intro w' hSw; clear hSw; go_simp; try with_reducible rfl)
              simp only [Act.put, List.setIfInBounds_toArray, List.set_cons_zero, List.set_cons_succ]
              refine' wpAnyH_take (i := 5) (oi := { dst := some 106, op := Op.fieldAddr 45 (Operand.tmp 105) 1, type := 0, pos := "law.go:88", after := #[{ on := 4, ground := Ground.data }], guard := none }) (v := _) rfl (by kernel_rfl) (by kernel_rfl) (by kernel_rfl) (fun _ _ _ h => h) (Or.inl ⟨by rfl, ?hyb5⟩) hH0 ?rb5
              case hyb5 => (intro w' hSw; clear hSw; go_simp; try with_reducible rfl)
              simp only [Act.put, List.setIfInBounds_toArray, List.set_cons_zero, List.set_cons_succ]
              refine' wpAnyH_take (i := 6) (oi := { dst := some 107, op := Op.load 3 (Operand.tmp 106), type := 3, pos := "law.go:88", after := #[{ on := 5, ground := Ground.data }], guard := none }) (v := .int .i64 f1) rfl (by kernel_rfl) (by kernel_rfl) (by kernel_rfl) (fun _ _ _ h => h) (yields_load (by rfl) 3 (.tmp 106) rfl (by rfl) hl79) hH0 ?rb6
              simp only [Act.put, List.setIfInBounds_toArray, List.set_cons_zero, List.set_cons_succ]
              refine' wpAnyH_take (i := 7) (oi := { dst := some 108, op := Op.move (Operand.tmp 9), type := 23, pos := "law.go:88", after := #[], guard := none }) (v := _) rfl (by kernel_rfl) (by kernel_rfl) (by kernel_rfl) (fun _ _ _ h => h) (Or.inl ⟨by rfl, ?hyb7⟩) hH0 ?rb7
              case hyb7 => (intro w' hSw; clear hSw; go_simp; try with_reducible rfl)
              simp only [Act.put, List.setIfInBounds_toArray, List.set_cons_zero, List.set_cons_succ]
              refine' wpAnyH_take (i := 8) (oi := { dst := some 109, op := Op.call { callee := Callee.builtin Builtin.len, args := #[Operand.tmp 108], argTypes := #[23] }, type := 3, pos := "law.go:88", after := #[{ on := 7, ground := Ground.data }], guard := none }) (v := _) rfl (by kernel_rfl) (by kernel_rfl) (by kernel_rfl) (fun _ _ _ h => h) (Or.inl ⟨by rfl, ?hyb8⟩) hH0 ?rb8
              case hyb8 => (intro w' hSw; clear hSw; go_simp; try with_reducible rfl)
              simp only [Act.put, List.setIfInBounds_toArray, List.set_cons_zero, List.set_cons_succ]
              refine' wpAnyH_take (i := 12) (oi := { dst := some 113, op := Op.move (Operand.tmp 1), type := 41, pos := "law.go:88", after := #[], guard := none }) (v := _) rfl (by kernel_rfl) (by kernel_rfl) (by kernel_rfl) (fun _ _ _ h => h) (Or.inl ⟨by rfl, ?hyb12⟩) hH0 ?rb12
              case hyb12 => (intro w' hSw; clear hSw; go_simp; try with_reducible rfl)
              simp only [Act.put, List.setIfInBounds_toArray, List.set_cons_zero, List.set_cons_succ]
              refine' wpAnyH_take (i := 13) (oi := { dst := some 114, op := Op.move (Operand.tmp 8), type := 3, pos := "law.go:88", after := #[], guard := none }) (v := _) rfl (by kernel_rfl) (by kernel_rfl) (by kernel_rfl) (fun _ _ _ h => h) (Or.inl ⟨by rfl, ?hyb13⟩) hH0 ?rb13
              case hyb13 => (intro w' hSw; clear hSw; go_simp; try with_reducible rfl)
              simp only [Act.put, List.setIfInBounds_toArray, List.set_cons_zero, List.set_cons_succ]
              refine' wpAnyH_take (i := 14) (oi := { dst := some 115, op := Op.indexAddr 41 (Operand.tmp 113) (Operand.tmp 114), type := 0, pos := "law.go:88", after := #[{ on := 12, ground := Ground.data }, { on := 13, ground := Ground.data }], guard := none }) (v := _) rfl (by kernel_rfl) (by kernel_rfl) (by kernel_rfl) (fun _ _ _ h => h) (Or.inl ⟨by rfl, ?hyb14⟩) hH0 ?rb14
              case hyb14 => (intro w' hSw; clear hSw; go_simp; try with_reducible rfl)
              simp only [Act.put, List.setIfInBounds_toArray, List.set_cons_zero, List.set_cons_succ]
              refine' wpAnyH_take (i := 15) (oi := { dst := some 116, op := Op.load 45 (Operand.tmp 115), type := 45, pos := "law.go:88", after := #[{ on := 14, ground := Ground.data }], guard := none }) (v := .agg #[.int .i64 f0, .int .i64 f1, .int .i64 f2, .int .i64 f3]) rfl (by kernel_rfl) (by kernel_rfl) (by kernel_rfl) (fun _ _ _ h => h) (yields_load (by rfl) 45 (.tmp 115) rfl (by rfl) hl88) hH0 ?rb15
              simp only [Act.put, List.setIfInBounds_toArray, List.set_cons_zero, List.set_cons_succ]
              refine wpAnyH_ready (rs := [9]) (by kernel_rfl) (by simp) ?_
              refine AllReadyH.cons (o := { dst := some 110, op := Op.call { callee := Callee.value (Operand.func 15), args := #[Operand.tmp 107, Operand.tmp 109], argTypes := #[3, 3] }, type := 3, pos := "law.go:88", after := #[{ on := 6, ground := Ground.data }, { on := 8, ground := Ground.data }], guard := none }) rfl (fun K hK => ?_) AllReadyH.nil
              refine step_call_want (vs := #[.int .i64 f1, .int .i64 (n6 : Int)]) (R := fun u wz => ∃ k : Nat, k < n6 ∧ u = .int .i64 (k : Int) ∧ wz = wr.drew) (by rfl) 15 #[Operand.tmp 107, Operand.tmp 109] #[3, 3] rfl (by simp [Act.eval]) call15 (post_wrap hn61 (by omega) _) ?_
              rintro _ _ ⟨k2, hk2, rfl, rfl⟩
              refine hK.out _ _ (((Keep.refl (fun b => pga = some ⟨b, 0, none⟩) wr).drew)) (fun hH1 => ?_)
              clear hK K hH0
              simp only [Act.put, List.setIfInBounds_toArray, List.set_cons_zero, List.set_cons_succ]
              obtain ⟨x, hx⟩ := get_pg (l := lk) (i := k2) (by rw [show lk.length = n6 from hn6]; exact hk2)
              have hl84 := hl84' k2 x hx
              refine' wpAnyH_take (i := 10) (oi := { dst := some 111, op := Op.indexAddr 23 (Operand.tmp 102) (Operand.tmp 110), type := 0, pos := "law.go:88", after := #[{ on := 1, ground := Ground.data }, { on := 9, ground := Ground.data }], guard := none }) (v := _) rfl (by kernel_rfl) (by kernel_rfl) (by kernel_rfl) (fun _ _ _ h => h) (Or.inl ⟨by rfl, ?hyb10⟩) hH1 ?rb10
              case hyb10 => (intro w' hSw; clear hSw; go_simp; try with_reducible rfl)
              simp only [Act.put, List.setIfInBounds_toArray, List.set_cons_zero, List.set_cons_succ]
              refine' wpAnyH_take (i := 11) (oi := { dst := some 112, op := Op.load 33 (Operand.tmp 111), type := 33, pos := "law.go:88", after := #[{ on := 10, ground := Ground.data }], guard := none }) (v := .agg (pgA x)) rfl (by kernel_rfl) (by kernel_rfl) (by kernel_rfl) (fun _ _ _ h => h) (yields_load (by rfl) 33 (.tmp 111) rfl (by rfl) hl84) hH1 ?rb11
              simp only [Act.put, List.setIfInBounds_toArray, List.set_cons_zero, List.set_cons_succ]
              refine wpAnyH_ready (rs := [16]) (by kernel_rfl) (by simp) ?_
              refine AllReadyH.cons (o := { dst := some 117, op := Op.call { callee := Callee.value (Operand.func 16), args := #[Operand.tmp 112, Operand.tmp 116], argTypes := #[33, 45] }, type := 33, pos := "law.go:88", after := #[{ on := 11, ground := Ground.data }, { on := 15, ground := Ground.data }, { on := 9, ground := Ground.chain }], guard := none }) rfl (fun K hK => ?_) AllReadyH.nil
              refine step_call_want (vs := #[.agg (pgA x), .agg #[.int .i64 f0, .int .i64 f1, .int .i64 f2, .int .i64 f3]]) (R := fun u wz => ∃ q' : Pg, q'.Ok ∧ u = .agg (pgA q') ∧ Keep (fun _ => False) wr.drew wz) (by rfl) 16 #[Operand.tmp 112, Operand.tmp 116] #[33, 45] rfl (by simp [Act.eval]) call16 (post_changed (hlk x (List.mem_of_getElem? hx)) f0 f1 f2 f3 _) ?_
              rintro _ w8 ⟨q, hq, rfl, k8⟩
              refine hK.out _ _ (((Keep.refl (fun b => pga = some ⟨b, 0, none⟩) wr).drew).trans (k8.mono (fun _ _ e => e.elim))) (fun hH2 => ?_)
              clear hK K hH1
              simp only [Act.put, List.setIfInBounds_toArray, List.set_cons_zero, List.set_cons_succ]
              refine wpAnyH_ready (rs := [17]) (by kernel_rfl) (by simp) ?_
              refine AllReadyH.cons (o := { dst := some 118, op := Op.buildSlice 23 1 #[(0, Operand.tmp 117)], type := 23, pos := "law.go:88", after := #[{ on := 16, ground := Ground.data }], guard := none }) rfl (fun K hK => ?_) AllReadyH.nil
              refine step_build_run (by rfl) 23 1 (.tmp 117) rfl (by rfl) (build_pg q _) ?_
              refine hK.out _ _ ((((Keep.refl (fun b => pga = some ⟨b, 0, none⟩) wr).drew).trans (k8.mono (fun _ _ e => e.elim))).alloc _) (fun hH3 => ?_)
              clear hK K hH2
              simp only [Act.put, List.setIfInBounds_toArray, List.set_cons_zero, List.set_cons_succ]
              obtain ⟨a9, c9, w9, hr9, R9, k9, -⟩ := (Ri.more (((Keep.refl _ wr).drew).trans k8)).app1 (by rw [show l.length = j from hlj]; omega) q
              rw [show l.length = j from hlj] at hr9
              refine wpAnyH_ready (rs := [18]) (by kernel_rfl) (by simp) ?_
              refine AllReadyH.cons (o := { dst := some 119, op := Op.call { callee := Callee.builtin Builtin.append, args := #[Operand.tmp 101, Operand.tmp 118], argTypes := #[23, 23] }, type := 23, pos := "law.go:88", after := #[{ on := 0, ground := Ground.data }, { on := 17, ground := Ground.data }, { on := 16, ground := Ground.chain }], guard := none }) rfl (fun K hK => ?_) AllReadyH.nil
              refine step_append_run (by rfl) (.tmp 101) (.tmp 118) 23 rfl (by rfl) (by rfl) hr9 ?_
              refine hK.out _ _ ((((Keep.refl (fun b => pga = some ⟨b, 0, none⟩) wr).drew).trans (k8.mono (fun _ _ e => e.elim))).trans k9) (fun hH4 => ?_)
              clear hK K hH3
              simp only [Act.put, List.setIfInBounds_toArray, List.set_cons_zero, List.set_cons_succ]
              refine' wpAnyH_take (i := 19) (oi := { dst := some 7, op := Op.assign (Operand.tmp 119), type := 23, pos := "law.go:88", after := #[{ on := 18, ground := Ground.data }, { on := 18, ground := Ground.chain }, { on := 0, ground := Ground.phase }, { on := 1, ground := Ground.phase }, { on := 2, ground := Ground.phase }, { on := 3, ground := Ground.phase }, { on := 4, ground := Ground.phase }, { on := 5, ground := Ground.phase }, { on := 6, ground := Ground.phase }, { on := 7, ground := Ground.phase }, { on := 8, ground := Ground.phase }, { on := 9, ground := Ground.phase }, { on := 10, ground := Ground.phase }, { on := 11, ground := Ground.phase }, { on := 12, ground := Ground.phase }, { on := 13, ground := Ground.phase }, { on := 14, ground := Ground.phase }, { on := 15, ground := Ground.phase }, { on := 16, ground := Ground.phase }, { on := 17, ground := Ground.phase }, { on := 18, ground := Ground.phase }], guard := none }) (v := _) rfl (by kernel_rfl) (by kernel_rfl) (by kernel_rfl) (fun _ _ _ h => h) (Or.inl ⟨by rfl, ?hyb19⟩) hH4 ?rb19
              case hyb19 => (intro w' hSw; clear hSw; go_simp; try with_reducible rfl)
              simp only [Act.put, List.setIfInBounds_toArray, List.set_cons_zero, List.set_cons_succ]
              refine wpAnyH_done (by kernel_rfl) ?_ _
              refine NoPanic.normal ?_
              clear hl79 hl88 hl84' hl84 hr9
              go_wp2_with fail
              go_roundw
              case rel => exact ⟨j + 1, c9, a9, l ++ [q], hlt', by go_num, rfl, R9, by show _ = _; rw [List.length_append, show l.length = j from hlj]; rfl, fun x hx => (List.mem_append.1 hx).elim ((show ∀ q ∈ l, q.Ok from hok) x) (fun h => by rw [List.mem_singleton.1 h]; exact hq)⟩
              case measure => have : j < np := hlt'; simp [intOf]; omega
            · go_cut [87] from 79 to 119 (fun v wx => v = .bool false ∧ wx = wr)
              case first =>
                by_cases hl : j < np
                · have di : (j : Int) < (np : Int) := by omega
                  have h0 : i = 0 := by
                    refine Decidable.byContradiction (fun c => hlt2 ⟨hl, by omega⟩)
                  have h0' : Hid (i = 0) := h0
                  clear h0 hl hlt2
                  go_wp2_with fail
                  go_meet
                  exact ⟨by have h : i = 0 := h0'; simp [h], rfl⟩
                · have di : ¬ (j : Int) < (np : Int) := by omega
                  clear hl hlt2
                  go_wp2_with fail
                  go_meet
                  exact ⟨rfl, rfl⟩
              case rest =>
                obtain ⟨rfl, ew⟩ := hcut
                subst wc
                have hlj' : l.length = j := hlj
                have hok' : ∀ q ∈ l, q.Ok := hok
                have Rp0 := Ri.rg
                have hno : pga = none → l = [] ∧ pc2 = 0 := fun e => by subst e; exact Ri.none_cap
                have hpcc := Rp0.1
                rw [hlj'] at hpcc
                have hpcc2 := Rp0.2.1
                have KW := KW1.trans Ri.keep
                have E1 := ro_made wr
                obtain ⟨b1, q1, v1, hrA, E2, f1⟩ := E1.appY2 (Rp0.more E1.keep) hno (n1 := 0) (n2 := j) (n3 := j) rfl hlj' (by omega) (by omega)
                obtain ⟨b2, q2, v2, hrB, E3, -, -⟩ := E2.app1 (by rw [f1]; omega) pg9
                rw [f1] at hrB
                have hbd := build_pg pg9 v1
                obtain ⟨g2, o2, e2, -⟩ := E3.rg.at (i := j) (p := pg9) (by rw [List.nil_append, List.getElem?_append_right (by omega), hlj', Nat.sub_self]; rfl)
                subst e2
                obtain rfl := E3.zero
                have hq2 : j + 1 ≤ q2 := by have := E3.rg.1; rw [List.length_append, f1] at this; exact this
                have hq22 := E3.rg.2.1
                have Rg1 : Rg v2 (some ⟨g2, 0, none⟩) q2 l := by
                  have := E3.rg.first j
                  rwa [List.nil_append, List.take_append_of_le_length (by omega), List.take_of_length_le (by omega)] at this
                have hj := HJ.post Rg1 hok' hlj' (by omega)
                have KV := E3.keep
                rw [pg9_lit] at hrB hbd
                clear hlj hok hP1 Rm1 hal1
                go_wp2_with (first | (at_builtin; refine wpList_append_run rfl (.tmp 120) (.tmp 121) 23 rfl (by rfl) (by rfl) hrA ?_) | (guard_target =~ wpList _ _ _ (Oper.mk _ (Op.buildSlice 23 1 _) _ _ _ _ :: _) _ _; refine wpList_build_run (by rfl) 23 1 (.tmp 123) rfl (by rfl) hbd ?_) | (at_builtin; refine wpList_append_run rfl (.tmp 122) (.tmp 124) 23 rfl (by rfl) (by rfl) hrB ?_))
                refine hj.mono ?_
                rintro e w13 ⟨_, rfl, a13, c13, m1, rs1, L1, rfl, hm1, Q1, hsy1, hjs1, k13⟩
                have Ra := Rg1.more k13
                have Rp := Rp0.more (KV.trans k13)
                have K13 := KW.trans (KV.trans k13)
                clear hj E1 E2 E3 hrA hrB hbd f1 Ri Rp0 Rg1 KW
                go_wp2_with fail
                go_loopw [12] (fun v wx => ∃ t : Nat, t ≤ j ∧ v = .int .i64 (t : Int) ∧ Keep (fun _ => False) w13 wx) (fun v _ => j - (intOf v).toNat)
                case atStart => exact ⟨0, by omega, rfl, Keep.refl _ _⟩
                case round =>
                  obtain ⟨t, ht, rfl, kr⟩ := hrel
                  by_cases hlt3 : t < j
                  · obtain ⟨x, hx⟩ := get_pg (l := l) (i := t) (by omega)
                    obtain ⟨g7, o7, e7, -⟩ := Rp.at hx
                    subst e7
                    have mk1 : ∀ w', Keep (fun _ => False) wr w' → (Instr.loadAt 33 (.pointer (some ⟨g2, t * 39, none⟩))).run Try.prog w' = .ok (.agg (pgA x)) w' := fun w' k => by
                      obtain ⟨g', o', e, hc'⟩ := (Ra.more (kr.trans k)).at hx
                      injection e with e
                      injection e with e1 e2
                      subst e1 e2
                      rw [show t * 39 = 0 + t * 39 by omega]
                      exact pg_load hc'
                    have mk2 : ∀ w', Keep (fun _ => False) wr w' → (Instr.loadAt 33 (.pointer (some ⟨g7, o7 + t * 39, none⟩))).run Try.prog w' = .ok (.agg (pgA x)) w' := fun w' k => by
                      obtain ⟨g', o', e, hc'⟩ := (Rp.more (kr.trans k)).at hx
                      injection e with e
                      injection e with e1 e2
                      subst e1 e2
                      exact pg_load hc'
                    have di : (t : Int) < (j : Int) := by omega
                    have di1 : (t : Int) < (j : Int) + 1 := by omega
                    have dw := wrapI (x := (t : Int) + 1) (by omega) (by omega)
                    have hlt' : Hid (t < j) := hlt3
                    clear hx hlt3
                    go_upto_region 23 with fail
                    refine wp_region_noPanic ?_
                    refine wp_region_held_drew (S := fun w' => Keep (fun _ => False) wr w') (by kernel_rfl) ((Keep.refl _ wr).drew) (fun hH0 => ?_)
                    refine' wpAnyH_take (i := 0) (oi := { dst := some 137, op := Op.move (Operand.tmp 10), type := 23, pos := "law.go:93", after := #[], guard := none }) (v := _) rfl (by kernel_rfl) (by kernel_rfl) (by kernel_rfl) (fun _ _ _ h => h) (Or.inl ⟨by rfl, ?hyc0⟩) hH0 ?rc0
                    case hyc0 => (intro w' hSw; clear hSw; go_simp; try with_reducible rfl)
                    simp only [Act.put, List.setIfInBounds_toArray, List.set_cons_zero, List.set_cons_succ]
                    refine' wpAnyH_take (i := 1) (oi := { dst := some 138, op := Op.move (Operand.tmp 12), type := 3, pos := "law.go:93", after := #[], guard := none }) (v := _) rfl (by kernel_rfl) (by kernel_rfl) (by kernel_rfl) (fun _ _ _ h => h) (Or.inl ⟨by rfl, ?hyc1⟩) hH0 ?rc1
                    case hyc1 => (intro w' hSw; clear hSw; go_simp; try with_reducible rfl)
                    simp only [Act.put, List.setIfInBounds_toArray, List.set_cons_zero, List.set_cons_succ]
                    refine' wpAnyH_take (i := 2) (oi := { dst := some 139, op := Op.indexAddr 23 (Operand.tmp 137) (Operand.tmp 138), type := 0, pos := "law.go:93", after := #[{ on := 0, ground := Ground.data }, { on := 1, ground := Ground.data }], guard := none }) (v := _) rfl (by kernel_rfl) (by kernel_rfl) (by kernel_rfl) (fun _ _ _ h => h) (Or.inl ⟨by rfl, ?hyc2⟩) hH0 ?rc2
                    case hyc2 => (intro w' hSw; clear hSw; go_simp; try with_reducible rfl)
                    simp only [Act.put, List.setIfInBounds_toArray, List.set_cons_zero, List.set_cons_succ]
                    refine' wpAnyH_take (i := 3) (oi := { dst := some 140, op := Op.load 33 (Operand.tmp 139), type := 33, pos := "law.go:93", after := #[{ on := 2, ground := Ground.data }], guard := none }) (v := .agg (pgA x)) rfl (by kernel_rfl) (by kernel_rfl) (by kernel_rfl) (fun _ _ _ h => h) (yields_load (by rfl) 33 (.tmp 139) rfl (by rfl) mk1) hH0 ?rc3
                    simp only [Act.put, List.setIfInBounds_toArray, List.set_cons_zero, List.set_cons_succ]
                    refine' wpAnyH_take (i := 4) (oi := { dst := some 141, op := Op.move (Operand.tmp 7), type := 23, pos := "law.go:93", after := #[], guard := none }) (v := _) rfl (by kernel_rfl) (by kernel_rfl) (by kernel_rfl) (fun _ _ _ h => h) (Or.inl ⟨by rfl, ?hyc4⟩) hH0 ?rc4
                    case hyc4 => (intro w' hSw; clear hSw; go_simp; try with_reducible rfl)
                    simp only [Act.put, List.setIfInBounds_toArray, List.set_cons_zero, List.set_cons_succ]
                    refine' wpAnyH_take (i := 5) (oi := { dst := some 142, op := Op.move (Operand.tmp 12), type := 3, pos := "law.go:93", after := #[], guard := none }) (v := _) rfl (by kernel_rfl) (by kernel_rfl) (by kernel_rfl) (fun _ _ _ h => h) (Or.inl ⟨by rfl, ?hyc5⟩) hH0 ?rc5
                    case hyc5 => (intro w' hSw; clear hSw; go_simp; try with_reducible rfl)
                    simp only [Act.put, List.setIfInBounds_toArray, List.set_cons_zero, List.set_cons_succ]
                    refine' wpAnyH_take (i := 6) (oi := { dst := some 143, op := Op.indexAddr 23 (Operand.tmp 141) (Operand.tmp 142), type := 0, pos := "law.go:93", after := #[{ on := 4, ground := Ground.data }, { on := 5, ground := Ground.data }], guard := none }) (v := _) rfl (by kernel_rfl) (by kernel_rfl) (by kernel_rfl) (fun _ _ _ h => h) (Or.inl ⟨by rfl, ?hyc6⟩) hH0 ?rc6
                    case hyc6 => (intro w' hSw; clear hSw; go_simp; try with_reducible rfl)
                    simp only [Act.put, List.setIfInBounds_toArray, List.set_cons_zero, List.set_cons_succ]
                    refine' wpAnyH_take (i := 7) (oi := { dst := some 144, op := Op.load 33 (Operand.tmp 143), type := 33, pos := "law.go:93", after := #[{ on := 6, ground := Ground.data }], guard := none }) (v := .agg (pgA x)) rfl (by kernel_rfl) (by kernel_rfl) (by kernel_rfl) (fun _ _ _ h => h) (yields_load (by rfl) 33 (.tmp 143) rfl (by rfl) mk2) hH0 ?rc7
                    simp only [Act.put, List.setIfInBounds_toArray, List.set_cons_zero, List.set_cons_succ]
                    refine' wpAnyH_take (i := 8) (oi := { dst := some 145, op := Op.binOp BinOp.neq 33 (Operand.tmp 140) (Operand.tmp 144) 33, type := 4, pos := "law.go:93", after := #[{ on := 3, ground := Ground.data }, { on := 7, ground := Ground.data }], guard := none }) (v := .bool false) rfl (by kernel_rfl) (by kernel_rfl) (by kernel_rfl) (fun _ _ _ h => h) (yields_neq33 (p := x) (by rfl) (.tmp 140) (.tmp 144) rfl (by rfl) (by rfl)) hH0 ?rc8
                    simp only [Act.put, List.setIfInBounds_toArray, List.set_cons_zero, List.set_cons_succ]
                    refine wpAnyH_done (by kernel_rfl) ?_ _
                    refine NoPanic.normal ?_
                    go_wp2_with fail
                    go_roundw
                    case rel => exact ⟨t + 1, hlt', by go_num, kr.trans (Keep.refl _ wr).drew⟩
                    case measure => have : t < j := hlt'; simp [intOf]; omega
                  · obtain rfl : t = j := by omega
                    have hrj := rjoin_any (Rp.more kr) hok' (by omega)
                    rw [hlj'] at hrj
                    go_wp2_with fail
                    refine hrj.mono ?_
                    rintro e w15 ⟨a15, c15, rs2, L2, rfl, Q2, hsy2, hjs2⟩
                    obtain rfl : L2 = L1 := join_one hjs2 hjs1
                    have hm2 : rs2.length = m1 := by rw [← hm1, hsy2.1, hsy1.1]
                    rw [hm2]
                    have K15 : Keep (fun _ => False) w13 w15 := kr.trans Q2.keep
                    have Q1' := Q1.more K15
                    have S1' := hsy1.more K15
                    have Q2' := Q2.rs
                    have hm1c := Q1'.1
                    have hm1d := Q1'.2.1
                    have hm2c := Q2'.1
                    have hm2d := Q2'.2.1
                    rw [hm1] at hm1c
                    rw [hm2] at hm2c
                    have hmm : ((m1 : Int) != (m1 : Int)) = false := by simp
                    clear hrj hjs1 hjs2 Q1 hsy1 Q2
                    go_wp2_with fail
                    go_loopw [14] (fun v wx => ∃ t : Nat, t ≤ m1 ∧ v = .int .i64 (t : Int) ∧ Keep (fun _ => False) w15 wx) (fun v _ => m1 - (intOf v).toNat)
                    case atStart => exact ⟨0, by omega, rfl, Keep.refl _ _⟩
                    case round =>
                      obtain ⟨y, hy, rfl, kr2⟩ := hrel
                      by_cases hlt4 : y < m1
                      · obtain ⟨r2, h2⟩ : ∃ r, rs1[y]? = some r := ⟨_, List.getElem?_eq_getElem (by omega)⟩
                        obtain ⟨r1, h1⟩ : ∃ r, rs2[y]? = some r := ⟨_, List.getElem?_eq_getElem (by omega)⟩
                        obtain ⟨s, hs⟩ : ∃ s, L2[y]? = some s := ⟨_, List.getElem?_eq_getElem (by have := S1'.1; omega)⟩
                        obtain ⟨gb, ob, eb, hcb⟩ := Q1'.at h2
                        subst eb
                        obtain ⟨gc, oc, ec, hcc⟩ := Q2'.at h1
                        subst ec
                        have hB : ∀ w', Keep (fun _ => False) wr w' → (Instr.loadAt 30 (.pointer (some ⟨gb, ob + y * 4, none⟩))).run Try.prog w' = .ok (.agg (rwA r2)) w' := fun w' k => raw_load30 (fun z hz => keep_cell (kr2.trans k) (hcb z hz) (fun e => e))
                        have hC : ∀ w', Keep (fun _ => False) wr w' → (Instr.loadAt 36 (.pointer (some ⟨gc, oc + y * 4, none⟩))).run Try.prog w' = .ok (.agg (rwA r1)) w' := fun w' k => raw_load36 (fun z hz => keep_cell (kr2.trans k) (hcc z hz) (fun e => e))
                        have hsm2 : ∀ w', Keep (fun _ => False) wr w' → Calls Try.prog 14 #[.agg (rwA r2), .agg (rwA r1)] w' fun e w2 => e = .returned (.bool true) ∧ Keep (fun _ => False) w' w2 := fun w' k => same_raw ((hsy2.more (kr2.trans k)).2 y r1 s h1 hs) ((S1'.more (kr2.trans k)).2 y r2 s h2 hs)
                        have di : (y : Int) < (m1 : Int) := by omega
                        have dw := wrapI (x := (y : Int) + 1) (by omega) (by omega)
                        have hlt' : Hid (y < m1) := hlt4
                        clear hlt4 hs h1 h2 hcb hcc
                        go_upto_region 31 with fail
                        refine wp_region_noPanic ?_
                        refine wp_region_held_drew (S := fun w' => Keep (fun _ => False) wr w') (by kernel_rfl) ((Keep.refl _ wr).drew) (fun hH0 => ?_)
                        refine' wpAnyH_take (i := 0) (oi := { dst := some 159, op := Op.move (Operand.tmp 11), type := 37, pos := "law.go:102", after := #[], guard := none }) (v := _) rfl (by kernel_rfl) (by kernel_rfl) (by kernel_rfl) (fun _ _ _ h => h) (Or.inl ⟨by rfl, ?hyd0⟩) hH0 ?rd0
                        case hyd0 => (intro w' hSw; clear hSw; go_simp; try with_reducible rfl)
                        simp only [Act.put, List.setIfInBounds_toArray, List.set_cons_zero, List.set_cons_succ]
                        refine' wpAnyH_take (i := 1) (oi := { dst := some 160, op := Op.move (Operand.tmp 14), type := 3, pos := "law.go:102", after := #[], guard := none }) (v := _) rfl (by kernel_rfl) (by kernel_rfl) (by kernel_rfl) (fun _ _ _ h => h) (Or.inl ⟨by rfl, ?hyd1⟩) hH0 ?rd1
                        case hyd1 => (intro w' hSw; clear hSw; go_simp; try with_reducible rfl)
                        simp only [Act.put, List.setIfInBounds_toArray, List.set_cons_zero, List.set_cons_succ]
                        refine' wpAnyH_take (i := 2) (oi := { dst := some 161, op := Op.indexAddr 37 (Operand.tmp 159) (Operand.tmp 160), type := 0, pos := "law.go:102", after := #[{ on := 0, ground := Ground.data }, { on := 1, ground := Ground.data }], guard := none }) (v := _) rfl (by kernel_rfl) (by kernel_rfl) (by kernel_rfl) (fun _ _ _ h => h) (Or.inl ⟨by rfl, ?hyd2⟩) hH0 ?rd2
                        case hyd2 => (intro w' hSw; clear hSw; go_simp; try with_reducible rfl)
                        simp only [Act.put, List.setIfInBounds_toArray, List.set_cons_zero, List.set_cons_succ]
                        refine' wpAnyH_take (i := 3) (oi := { dst := some 162, op := Op.load 30 (Operand.tmp 161), type := 30, pos := "law.go:102", after := #[{ on := 2, ground := Ground.data }], guard := none }) (v := .agg (rwA r2)) rfl (by kernel_rfl) (by kernel_rfl) (by kernel_rfl) (fun _ _ _ h => h) (yields_load (by rfl) 30 (.tmp 161) rfl (by rfl) hB) hH0 ?rd3
                        simp only [Act.put, List.setIfInBounds_toArray, List.set_cons_zero, List.set_cons_succ]
                        refine' wpAnyH_take (i := 4) (oi := { dst := some 163, op := Op.move (Operand.tmp 13), type := 47, pos := "law.go:102", after := #[], guard := none }) (v := _) rfl (by kernel_rfl) (by kernel_rfl) (by kernel_rfl) (fun _ _ _ h => h) (Or.inl ⟨by rfl, ?hyd4⟩) hH0 ?rd4
                        case hyd4 => (intro w' hSw; clear hSw; go_simp; try with_reducible rfl)
                        simp only [Act.put, List.setIfInBounds_toArray, List.set_cons_zero, List.set_cons_succ]
                        refine' wpAnyH_take (i := 5) (oi := { dst := some 164, op := Op.move (Operand.tmp 14), type := 3, pos := "law.go:102", after := #[], guard := none }) (v := _) rfl (by kernel_rfl) (by kernel_rfl) (by kernel_rfl) (fun _ _ _ h => h) (Or.inl ⟨by rfl, ?hyd5⟩) hH0 ?rd5
                        case hyd5 => (intro w' hSw; clear hSw; go_simp; try with_reducible rfl)
                        simp only [Act.put, List.setIfInBounds_toArray, List.set_cons_zero, List.set_cons_succ]
                        refine' wpAnyH_take (i := 6) (oi := { dst := some 165, op := Op.indexAddr 47 (Operand.tmp 163) (Operand.tmp 164), type := 0, pos := "law.go:102", after := #[{ on := 4, ground := Ground.data }, { on := 5, ground := Ground.data }], guard := none }) (v := _) rfl (by kernel_rfl) (by kernel_rfl) (by kernel_rfl) (fun _ _ _ h => h) (Or.inl ⟨by rfl, ?hyd6⟩) hH0 ?rd6
                        case hyd6 => (intro w' hSw; clear hSw; go_simp; try with_reducible rfl)
                        simp only [Act.put, List.setIfInBounds_toArray, List.set_cons_zero, List.set_cons_succ]
                        refine' wpAnyH_take (i := 7) (oi := { dst := some 166, op := Op.load 36 (Operand.tmp 165), type := 36, pos := "law.go:102", after := #[{ on := 6, ground := Ground.data }], guard := none }) (v := .agg (rwA r1)) rfl (by kernel_rfl) (by kernel_rfl) (by kernel_rfl) (fun _ _ _ h => h) (yields_load (by rfl) 36 (.tmp 165) rfl (by rfl) hC) hH0 ?rd7
                        simp only [Act.put, List.setIfInBounds_toArray, List.set_cons_zero, List.set_cons_succ]
                        refine wpAnyH_ready (rs := [8]) (by kernel_rfl) (by simp) ?_
                        refine AllReadyH.cons (o := { dst := some 167, op := Op.call { callee := Callee.value (Operand.func 14), args := #[Operand.tmp 162, Operand.tmp 166], argTypes := #[30, 36] }, type := 4, pos := "law.go:102", after := #[{ on := 3, ground := Ground.data }, { on := 7, ground := Ground.data }], guard := none }) rfl (fun K hK => ?_) AllReadyH.nil
                        refine step_call_want (vs := #[.agg (rwA r2), .agg (rwA r1)]) (R := fun u wz => u = .bool true ∧ Keep (fun _ => False) wr.drew wz) (by rfl) 14 #[Operand.tmp 162, Operand.tmp 166] #[30, 36] rfl (by simp [Act.eval]) call14 (post_of (hsm2 _ ((Keep.refl (fun _ => False) wr).drew))) ?_
                        rintro _ v3 ⟨rfl, k3⟩
                        refine hK.out _ _ (((Keep.refl (fun _ => False) wr).drew).trans k3) (fun hH1 => ?_)
                        clear hK K hH0
                        simp only [Act.put, List.setIfInBounds_toArray, List.set_cons_zero, List.set_cons_succ]
                        refine' wpAnyH_take (i := 9) (oi := { dst := some 168, op := Op.unOp UnOp.not 4 (Operand.tmp 167), type := 4, pos := "law.go:102", after := #[{ on := 8, ground := Ground.data }], guard := none }) (v := .bool false) rfl (by kernel_rfl) (by kernel_rfl) (by kernel_rfl) (fun _ _ _ h => h) (Or.inl ⟨by rfl, ?hyd9⟩) hH1 ?rd9
                        case hyd9 => (intro w' hSw; clear hSw; go_simp; try with_reducible rfl)
                        simp only [Act.put, List.setIfInBounds_toArray, List.set_cons_zero, List.set_cons_succ]
                        refine wpAnyH_done (by kernel_rfl) ?_ _
                        refine NoPanic.normal ?_
                        go_wp2_with fail
                        go_roundw
                        case rel => exact ⟨y + 1, hlt', by go_num, kr2.trans (((Keep.refl _ wr).drew).trans k3)⟩
                        case measure => have : y < m1 := hlt'; simp [intOf]; omega
                      · obtain rfl : y = m1 := by omega
                        go_wp2_with fail
                        go_ret
                        exact ⟨rfl, (k0.trans K13).trans (K15.trans kr2)⟩
    · have d2 : (60 : Int) < (np : Int) := by omega
      go_wp2_with fail
      go_ret
      exact ⟨rfl, k0⟩
  · have d1 : (8 : Int) < (nl : Int) := by omega
    go_wp2_with fail
    go_ret
    exact ⟨rfl, k0⟩
end Tg
end Go.Proofs.Ytginnojbmpnleaa
