/-
  BlocksParts, given what the program's own calls answer.
-/
import Derived.Test.YtkddonmddgfpnabBc
namespace Go.Proofs.Ytkddonmddgfpnab
open Go.ChangeShapes Go.WideShapes Go.ChangeAt Go.RowKit
namespace Tg
theorem sumLen_le : ∀ {l : List Rn}, (∀ y ∈ l, 0 ≤ y.len ∧ y.len ≤ 512) → 0 ≤ sumLen l ∧ sumLen l ≤ 512 * (l.length : Int)
  | [], _ => by simp [sumLen]
  | x :: l, h => by
    have h1 := h x (by simp)
    have h2 := sumLen_le (l := l) (fun y hy => h y (by simp [hy]))
    simp only [sumLen, List.length_cons]
    omega
theorem Rc.rz {w0 w : World} {a : Option Addr} {cap : Nat} {m : List Rn} (h : Rc w0 w a cap m) : Rz w a cap m := h.rs.rz
set_option maxRecDepth 100000 in
set_option maxHeartbeats 4000000 in
theorem parts_walk (HA : AwOk) (HV : ValidOk) (HM : MovesOk) {w : World} {a : Option Addr} {cap : Nat} {p : List Rn} (hP : Rz w a cap p) (hfp : Fits p) {pages : Int} (hpb : -9223372036854775808 ≤ pages ∧ pages ≤ 9223372036854775807) :
    Calls Try.prog 6 #[.slice a p.length cap, .int .i64 pages] w fun e w' => e = .returned (.bool true) ∧ Keep (fun _ => False) w w' := by
  have hc1 := hP.1
  have hc2 := hP.2.1
  by_cases hpl : p.length ≤ 100
  · have dl : ¬ (100 : Int) < (p.length : Int) := by omega
    by_cases hp1 : 1 ≤ pages
    · have dp1 : ¬ pages < 1 := by omega
      by_cases hp2 : pages ≤ 32
      · have dp2 : ¬ 32 < pages := by omega
        go_enter Try.func6, Try.ntmps6
        go_wp2_with fail
        refine (HA _).mono ?_
        rintro e w0 ⟨rfl, k0⟩
        have hfo := fold9 (hP.more k0) hfp
        go_wp2_with fail
        refine hfo.mono ?_
        rintro e w1 ⟨aL, cL, rfl, RL⟩
        have hF := fold_fit p
        have hf13 := fold_fit13 p
        have hlf := foldR_fits p
        clear hfo
        generalize foldR p = l at RL hF hf13 hlf
        have ZL := RL.rs.rz
        have hcl := ZL.1
        have hcl2 := ZL.2.1
        have hl5 := hF.len
        obtain ⟨m, hm⟩ : ∃ m, m = l.length := ⟨_, rfl⟩
        have hm' : Hid (m = l.length) := hm
        rw [← hm] at hcl hl5 ⊢
        clear hm
        have dmul : IntKind.i64.wrap (64 * pages) = 64 * pages := wrapI (by omega) (by omega)
        have hin := inside13 ZL hF (P := 64 * pages) (by omega)
        rw [← show m = l.length from hm'] at hin
        go_wp2_with fail
        refine hin.mono ?_
        rintro e w2 ⟨rfl, k2⟩
        have K2 := (k0.trans RL.keep).trans k2
        have ZL2 := ZL.more k2
        clear hin RL k0 ZL hP
        cases hiP : inP (64 * pages) l with
        | false =>
          clear hiP
          go_wp2_with fail
          go_ret
          exact ⟨rfl, K2⟩
        | true =>
          have hvo : vOk l 64 pages = true := by
            unfold vOk
            rw [decide_eq_true ⟨hp1, hp2⟩, hf13, decide_eq_true (by omega), hiP]
            rfl
          have hso : sOk l pages = true := by
            unfold sOk
            rw [decide_eq_true ⟨hp1, hp2⟩, hf13]
            simp only [Bool.true_and, List.all_eq_true, decide_eq_true_iff]
            intro x hx
            have h1 := inP_iff.1 hiP x hx
            have h2 := hF.bd hx
            omega
          have hfa : Hid (foldR (albL pages l 64) = l) := fold_all ⟨hp1, hp2⟩ hF hiP
          have hv := HV 64 pages ZL2 hlf (by omega) hpb
          simp only [hvo, if_true] at hv
          rw [← show m = l.length from hm', show Int.toNat 64 = 64 from rfl] at hv
          go_wp2_with fail
          refine hv.mono ?_
          rintro e w3 ⟨⟨aV, cV, rfl, IV⟩, k3⟩
          have K3 := K2.trans k3
          have ZL3 := ZL2.more k3
          have hcV := IV.1
          rw [valL_len] at hcV
          have hcV2 := IV.2.1
          have hal : Hid (∀ b : Nat, b ≤ 64 → (albL pages l b).length ≤ 32768) := fun b hb => by
            have h1 := albL_len (pages := pages) (l := l) b
            have h2 := splL_512 (pages := pages) hF
            have h3 : b * (splL pages l).length ≤ 64 * 512 := Nat.mul_le_mul hb h2
            omega
          have hpp : 0 < pages := by omega
          have hp0 : ¬ pages = 0 := by omega
          clear hv hvo hiP hf13 K2 k2 k3 ZL2 HA
          go_wp2_with fail
          go_loopw [8, 9] (fun av v wx => ∃ (b ka ca : Nat) (aa : Option Addr), b ≤ 64 ∧ v = .int .i64 (b : Int) ∧ av = .slice aa ka ca ∧ Hid (ka = (albL pages l b).length) ∧ Rc w3 wx aa ca (albL pages l b)) (fun _ v _ => 64 - (intOf v).toNat)
          case atStart => exact ⟨0, 0, 0, none, by omega, rfl, rfl, rfl, Rc.nil w3⟩
          case round =>
            obtain ⟨b, ka, ca, aa, hb, rfl, rfl, hka, RA⟩ := hrel
            by_cases hlt : b < 64
            · have db : (b : Int) < 64 := by omega
              have dwb := wrapI (x := (b : Int) + 1) (by omega) (by omega)
              have hlt' : Hid (b < 64) := hlt
              have hmv := HM (b : Int) pages (ZL3.more RA.keep) hlf (by omega) hpb
              rw [← show m = l.length from hm'] at hmv
              go_upto_region 16 with (go_at_call 11; refine hmv.mono ?_; rintro e w4 ⟨h4, k4⟩; rw [if_pos ⟨hso, by omega, by omega⟩] at h4; obtain ⟨aM, cM, rfl, ZM, hfr⟩ := h4)
              have RA4 := RA.more k4
              have IV4 := IV.more RA4.keep
              obtain ⟨kM, hkM⟩ : ∃ k, k = (movL pages (b : Int) l).length := ⟨_, rfl⟩
              have hkM' : Hid (kM = (movL pages (b : Int) l).length) := hkM
              have hkb : kM ≤ 512 := by rw [hkM]; exact Nat.le_trans movL_len (splL_512 hF)
              rw [← hkM]
              have hcM := ZM.1
              rw [← hkM] at hcM
              have hcM2 := ZM.2.1
              have hsum : Hid (sumLen (movL pages (b : Int) l) = cnt pages (b : Int) l) := mov_sum hpp (b : Int) l
              have hbd : Hid (∀ y ∈ movL pages (b : Int) l, 0 ≤ y.lba ∧ 1 ≤ y.len ∧ y.len ≤ 512 ∧ 0 ≤ y.phys ∧ y.phys ≤ 1073742336 ∧ y.phys / pages = (b : Int) ∧ (y.phys + y.len - 1) / pages = (b : Int)) := fun y hy => by
                obtain ⟨q1, q2⟩ := mov_mem.1 hy
                have q3 := splL_in hF q1
                obtain ⟨x, -, -, -, q4, -⟩ := spl_mem hpp q1
                exact ⟨q3.1, q3.2.1, q3.2.2.1, q3.2.2.2.2.1, q3.2.2.2.2.2, q2, by rw [q4, q2]⟩
              have hst : Hid ((movL pages (b : Int) l).Pairwise (fun x y => x.lba + x.len ≤ y.lba)) := mov_srt hpp hF.form (b : Int)
              have hvb : Hid ((valL pages l 64)[b]? = some (cnt pages (b : Int) l)) := by show _ = _; simp [valL, hlt]
              have hnx2 : Hid (albL pages l (b + 1) = albL pages l b ++ movL pages (b : Int) l) := albL_succ pages l b
              have hfrb : Hid (∀ g o, aM = some ⟨g, o, none⟩ → movL pages (b : Int) l ≠ [] → (∀ g', aa = some ⟨g', 0, none⟩ → g ≠ g') ∧ g < w4.heap.size) := fun g o e hne => by
                have h1 := hfr g o e hne
                refine ⟨fun g' e' => by have := (RA.block e').2; omega, ?_⟩
                subst e
                exact ZM.block hne
              have hkaB : Hid (ka ≤ 32768) := by show _ ≤ _; rw [show ka = _ from hka]; exact (show ∀ b : Nat, b ≤ 64 → (albL pages l b).length ≤ 32768 from hal) b hb
              clear hmv hkM hfr RA hlt
              generalize movL pages (b : Int) l = M at ZM hkM' hsum hbd hst hnx2 hfrb
              have RA0 : Rc w3 w4 aa ca (albL pages l b ++ M.take 0) := by rw [List.take_zero, List.append_nil]; exact RA4
              have hka0 : Hid (ka = (albL pages l b ++ M.take 0).length) := by rw [List.take_zero, List.append_nil]; exact hka
              go_wp2_with fail
              go_loopw [8, 12, 13] (fun av nv v wx => ∃ (i ka ca : Nat) (aa : Option Addr), i ≤ kM ∧ v = .int .i64 (i : Int) ∧ nv = .int .i64 (sumLen (M.take i)) ∧ av = .slice aa ka ca ∧ Hid (ka = (albL pages l b ++ M.take i).length) ∧ Rc w3 wx aa ca (albL pages l b ++ M.take i) ∧ Rz wx aM cM M ∧ Hid (∀ g o, aM = some ⟨g, o, none⟩ → M ≠ [] → (∀ g', aa = some ⟨g', 0, none⟩ → g ≠ g') ∧ g < wx.heap.size)) (fun _ _ v _ => kM - (intOf v).toNat)
              case atStart => exact ⟨0, ka, ca, aa, by omega, rfl, rfl, rfl, hka0, RA0, ZM, hfrb⟩
              case round =>
                clear RA0 hka0 ZM hfrb RA4 hka hkaB k4 IV4
                obtain ⟨i, ka, ca, aa, hi, rfl, rfl, rfl, hka, RA, ZM, hfr⟩ := hrel
                by_cases hlt2 : i < kM
                · obtain ⟨y, hy⟩ := get_rn (m := M) (i := i) (by rw [← show kM = _ from hkM']; exact hlt2)
                  have hyb := (show ∀ y ∈ M, _ from hbd) y (List.mem_of_getElem? hy)
                  obtain ⟨gM, oM, rfl, y0, y1, y2⟩ := ZM.at hy
                  have hM0 : M ≠ [] := fun e => by rw [e] at hy; simp at hy
                  obtain ⟨hne0, hMb⟩ := (show ∀ g o, _ → M ≠ [] → _ from hfr) gM oM rfl hM0
                  have hne : Hid (∀ g, aa = some ⟨g, 0, none⟩ → gM ≠ g) := hne0
                  have hnx : M.take (i + 1) = M.take i ++ [y] := take_next hy
                  have hsm0 : sumLen (M.take (i + 1)) = sumLen (M.take i) + y.len := by rw [hnx, sumLen_snoc]
                  have hsl := sumLen_le (l := M.take i) (fun z hz => by have := (show ∀ y ∈ M, _ from hbd) z (List.mem_of_mem_take hz); omega)
                  have hil : (M.take i).length = i := by rw [List.length_take, ← show kM = _ from hkM']; omega
                  rw [hil] at hsl
                  have hkaB : ka ≤ 40000 := by
                    rw [show ka = _ from hka, List.length_append, hil]
                    have := (show ∀ b : Nat, b ≤ 64 → (albL pages l b).length ≤ 32768 from hal) b hb
                    omega
                  have fs : IntKind.i64.wrap (sumLen (M.take i) + y.len) = sumLen (M.take i) + y.len := wrapI (by omega) (by omega)
                  have hsm : Hid (sumLen (M.take (i + 1)) = sumLen (M.take i) + y.len) := hsm0
                  obtain ⟨yb1, yb2, yb3, yb4, yb5, yb6, yb7⟩ := hyb
                  have di : (i : Int) < (kM : Int) := by omega
                  have dw := wrapI (x := (i : Int) + 1) (by omega) (by omega)
                  have hi' : Hid (i + 1 ≤ kM) := hlt2
                  have hlt' : Hid (i < kM) := hlt2
                  have d1 : decide (y.len < 1) = false := decide_eq_false (by omega)
                  have d1' : ¬ y.len < 1 := by omega
                  have f1 : y.phys.tdiv pages = (b : Int) := by rw [Int.tdiv_eq_ediv_of_nonneg (by omega)]; exact yb6
                  have f2 : IntKind.i64.wrap (b : Int) = (b : Int) := wrapI (by omega) (by omega)
                  have f3 : IntKind.i64.wrap (y.phys + y.len) = y.phys + y.len := wrapI (by omega) (by omega)
                  have f4 : IntKind.i64.wrap (y.phys + y.len - 1) = y.phys + y.len - 1 := wrapI (by omega) (by omega)
                  have f5 : (y.phys + y.len - 1).tdiv pages = (b : Int) := by rw [Int.tdiv_eq_ediv_of_nonneg (by omega)]; exact yb7
                  have f6 : ((b : Int) != (b : Int)) = false := by simp
                  clear hlt2 hM0 hne0 hfr hsm0 hsl hil yb6 yb7
                  generalize sumLen (M.take i) = SM at fs hsm
                  by_cases hz : i = 0
                  · have g1 : decide ((0 : Int) < (i : Int)) = false := decide_eq_false (by omega)
                    have g1' : ¬ (0 : Int) < (i : Int) := by omega
                    have g1'' : decide (0 < i) = false := decide_eq_false (by omega)
                    have hzH : Hid (i = 0) := hz
                    clear hz
                    go_wp2_with fail
                    go_quiet (fail)
                    have k2 := (Keep.refl (fun _ => False) wr).drewN nq
                    have RA2 := RA.more k2
                    have ZM2 := ZM.more k2
                    have cY : ∀ w', Keep (fun x => aa = some ⟨x, 0, none⟩) (wr.drewN nq) w' → w'.cell? ⟨gM, oM + i * 3, none⟩ = some (.int .i64 y.lba) ∧ w'.cell? ⟨gM, oM + i * 3 + 1, none⟩ = some (.int .i64 y.len) ∧ w'.cell? ⟨gM, oM + i * 3 + 2, none⟩ = some (.int .i64 y.phys) := fun w' k => by
                      obtain ⟨g', o', e, q0, q1, q2⟩ := (ZM2.keep k (fun g o e hM e2 => (show ∀ g, aa = some ⟨g, 0, none⟩ → gM ≠ g from hne) g e2 (by injection e with e; injection e with e))).at hy
                      injection e with e
                      injection e with e1 e2
                      subst e1 e2
                      exact ⟨q0, q1, q2⟩
                    have hb2 : gM < (wr.drewN nq).heap.size := Nat.lt_of_lt_of_le hMb k2.size
                    generalize wr.drewN nq = w2 at k2 RA2 ZM2 cY hb2 ⊢
                    obtain ⟨a5, c5, w5, happ, RA5, K5, h5⟩ := (RA2.more ((Keep.refl (fun _ => False) w2).drewB)).appS (by rw [← show ka = _ from hka]; omega) y
                    rw [← show ka = _ from hka] at happ
                    rw [List.append_assoc, ← hnx] at RA5
                    have hka5 : Hid (ka + 1 = (albL pages l b ++ M.take (i + 1)).length) := by show _ = _; rw [hnx, ← List.append_assoc, List.length_append, ← show ka = _ from hka]; rfl
                    have ZM5 : Rz w5 (some ⟨gM, oM, none⟩) cM M := (ZM2.more ((Keep.refl (fun _ => False) w2).drewB)).keep K5 (fun g o e _ e2 => (show ∀ g, aa = some ⟨g, 0, none⟩ → gM ≠ g from hne) g e2 (by injection e with e; injection e with e))
                    have hMb5 : Hid (gM < w5.heap.size) := Nat.lt_of_lt_of_le hb2 K5.size
                    have hne5 : Hid (∀ g, a5 = some ⟨g, 0, none⟩ → gM ≠ g) := fun g e => by
                      rcases h5 with rfl | ⟨g5, rfl, hg5⟩
                      · exact (show ∀ g, a5 = some ⟨g, 0, none⟩ → gM ≠ g from hne) g e
                      · injection e with e
                        injection e with e
                        have : w2.heap.size ≤ g5 := hg5
                        omega
                    have hfr5 : Hid (∀ g o, some (⟨gM, oM, none⟩ : Addr) = some ⟨g, o, none⟩ → M ≠ [] → (∀ g', a5 = some ⟨g', 0, none⟩ → g ≠ g') ∧ g < w5.heap.size) := fun g o e _ => by
                      injection e with e
                      injection e with e1 e2
                      subst e1
                      exact ⟨hne5, hMb5⟩
                    clear hne hMb hb2 hne5 hMb5 RA RA2 ZM ZM2 h5 hka k2 y0 y1 y2
                    go_upto_region 25 with fail
                    refine wp_region_noPanic ?_
                    refine wp_region_held_drew (S := fun w' => Keep (fun x => aa = some ⟨x, 0, none⟩) w2 w' ∧ True) (by kernel_rfl) (⟨(Keep.refl (fun x => aa = some ⟨x, 0, none⟩) w2).drewB, trivial⟩) (fun hH0 => ?_)
                    refine' wpAnyH_take (i := 0) (oi := { dst := some 121, op := Op.move (Operand.tmp 8), type := 36, pos := "law.go:133", after := #[], guard := none }) (v := _) rfl (by kernel_rfl) (by kernel_rfl) (by kernel_rfl) (fun _ _ _ h => h) (Or.inl ⟨by rfl, ?hya0⟩) hH0 ?ra0
                    case hya0 => (intro w' hSw; have z0 := (cY w' hSw.1).1; have z1 := (cY w' hSw.1).2.1; have z2 := (cY w' hSw.1).2.2; clear hSw; go_simp; try with_reducible rfl)
                    simp only [Act.put, List.setIfInBounds_toArray, List.set_cons_zero, List.set_cons_succ]
                    refine' wpAnyH_take (i := 1) (oi := { dst := some 122, op := Op.move (Operand.tmp 10), type := 27, pos := "law.go:133", after := #[], guard := none }) (v := _) rfl (by kernel_rfl) (by kernel_rfl) (by kernel_rfl) (fun _ _ _ h => h) (Or.inl ⟨by rfl, ?hya1⟩) hH0 ?ra1
                    case hya1 => (intro w' hSw; have z0 := (cY w' hSw.1).1; have z1 := (cY w' hSw.1).2.1; have z2 := (cY w' hSw.1).2.2; clear hSw; go_simp; try with_reducible rfl)
                    simp only [Act.put, List.setIfInBounds_toArray, List.set_cons_zero, List.set_cons_succ]
                    refine' wpAnyH_take (i := 2) (oi := { dst := some 123, op := Op.move (Operand.tmp 13), type := 3, pos := "law.go:133", after := #[], guard := none }) (v := _) rfl (by kernel_rfl) (by kernel_rfl) (by kernel_rfl) (fun _ _ _ h => h) (Or.inl ⟨by rfl, ?hya2⟩) hH0 ?ra2
                    case hya2 => (intro w' hSw; have z0 := (cY w' hSw.1).1; have z1 := (cY w' hSw.1).2.1; have z2 := (cY w' hSw.1).2.2; clear hSw; go_simp; try with_reducible rfl)
                    simp only [Act.put, List.setIfInBounds_toArray, List.set_cons_zero, List.set_cons_succ]
                    refine' wpAnyH_take (i := 3) (oi := { dst := some 124, op := Op.indexAddr 27 (Operand.tmp 122) (Operand.tmp 123), type := 0, pos := "law.go:133", after := #[{ on := 1, ground := Ground.data }, { on := 2, ground := Ground.data }], guard := none }) (v := _) rfl (by kernel_rfl) (by kernel_rfl) (by kernel_rfl) (fun _ _ _ h => h) (Or.inl ⟨by rfl, ?hya3⟩) hH0 ?ra3
                    case hya3 => (intro w' hSw; have z0 := (cY w' hSw.1).1; have z1 := (cY w' hSw.1).2.1; have z2 := (cY w' hSw.1).2.2; clear hSw; go_simp; try with_reducible rfl)
                    simp only [Act.put, List.setIfInBounds_toArray, List.set_cons_zero, List.set_cons_succ]
                    refine' wpAnyH_take (i := 4) (oi := { dst := some 125, op := Op.fieldAddr 35 (Operand.tmp 124) 0, type := 0, pos := "law.go:133", after := #[{ on := 3, ground := Ground.data }], guard := none }) (v := _) rfl (by kernel_rfl) (by kernel_rfl) (by kernel_rfl) (fun _ _ _ h => h) (Or.inl ⟨by rfl, ?hya4⟩) hH0 ?ra4
                    case hya4 => (intro w' hSw; have z0 := (cY w' hSw.1).1; have z1 := (cY w' hSw.1).2.1; have z2 := (cY w' hSw.1).2.2; clear hSw; go_simp; try with_reducible rfl)
                    simp only [Act.put, List.setIfInBounds_toArray, List.set_cons_zero, List.set_cons_succ]
                    refine' wpAnyH_take (i := 5) (oi := { dst := some 126, op := Op.load 3 (Operand.tmp 125), type := 3, pos := "law.go:133", after := #[{ on := 4, ground := Ground.data }], guard := none }) (v := _) rfl (by kernel_rfl) (by kernel_rfl) (by kernel_rfl) (fun _ _ _ h => h) (Or.inl ⟨by rfl, ?hya5⟩) hH0 ?ra5
                    case hya5 => (intro w' hSw; have z0 := (cY w' hSw.1).1; have z1 := (cY w' hSw.1).2.1; have z2 := (cY w' hSw.1).2.2; clear hSw; go_simp; try with_reducible rfl)
                    simp only [Act.put, List.setIfInBounds_toArray, List.set_cons_zero, List.set_cons_succ]
                    refine' wpAnyH_take (i := 6) (oi := { dst := some 127, op := Op.move (Operand.tmp 10), type := 27, pos := "law.go:133", after := #[], guard := none }) (v := _) rfl (by kernel_rfl) (by kernel_rfl) (by kernel_rfl) (fun _ _ _ h => h) (Or.inl ⟨by rfl, ?hya6⟩) hH0 ?ra6
                    case hya6 => (intro w' hSw; have z0 := (cY w' hSw.1).1; have z1 := (cY w' hSw.1).2.1; have z2 := (cY w' hSw.1).2.2; clear hSw; go_simp; try with_reducible rfl)
                    simp only [Act.put, List.setIfInBounds_toArray, List.set_cons_zero, List.set_cons_succ]
                    refine' wpAnyH_take (i := 7) (oi := { dst := some 128, op := Op.move (Operand.tmp 13), type := 3, pos := "law.go:133", after := #[], guard := none }) (v := _) rfl (by kernel_rfl) (by kernel_rfl) (by kernel_rfl) (fun _ _ _ h => h) (Or.inl ⟨by rfl, ?hya7⟩) hH0 ?ra7
                    case hya7 => (intro w' hSw; have z0 := (cY w' hSw.1).1; have z1 := (cY w' hSw.1).2.1; have z2 := (cY w' hSw.1).2.2; clear hSw; go_simp; try with_reducible rfl)
                    simp only [Act.put, List.setIfInBounds_toArray, List.set_cons_zero, List.set_cons_succ]
                    refine' wpAnyH_take (i := 8) (oi := { dst := some 129, op := Op.indexAddr 27 (Operand.tmp 127) (Operand.tmp 128), type := 0, pos := "law.go:133", after := #[{ on := 6, ground := Ground.data }, { on := 7, ground := Ground.data }], guard := none }) (v := _) rfl (by kernel_rfl) (by kernel_rfl) (by kernel_rfl) (fun _ _ _ h => h) (Or.inl ⟨by rfl, ?hya8⟩) hH0 ?ra8
                    case hya8 => (intro w' hSw; have z0 := (cY w' hSw.1).1; have z1 := (cY w' hSw.1).2.1; have z2 := (cY w' hSw.1).2.2; clear hSw; go_simp; try with_reducible rfl)
                    simp only [Act.put, List.setIfInBounds_toArray, List.set_cons_zero, List.set_cons_succ]
                    refine' wpAnyH_take (i := 9) (oi := { dst := some 130, op := Op.fieldAddr 35 (Operand.tmp 129) 1, type := 0, pos := "law.go:133", after := #[{ on := 8, ground := Ground.data }], guard := none }) (v := _) rfl (by kernel_rfl) (by kernel_rfl) (by kernel_rfl) (fun _ _ _ h => h) (Or.inl ⟨by rfl, ?hya9⟩) hH0 ?ra9
                    case hya9 => (intro w' hSw; have z0 := (cY w' hSw.1).1; have z1 := (cY w' hSw.1).2.1; have z2 := (cY w' hSw.1).2.2; clear hSw; go_simp; try with_reducible rfl)
                    simp only [Act.put, List.setIfInBounds_toArray, List.set_cons_zero, List.set_cons_succ]
                    refine' wpAnyH_take (i := 10) (oi := { dst := some 131, op := Op.load 3 (Operand.tmp 130), type := 3, pos := "law.go:133", after := #[{ on := 9, ground := Ground.data }], guard := none }) (v := _) rfl (by kernel_rfl) (by kernel_rfl) (by kernel_rfl) (fun _ _ _ h => h) (Or.inl ⟨by rfl, ?hya10⟩) hH0 ?ra10
                    case hya10 => (intro w' hSw; have z0 := (cY w' hSw.1).1; have z1 := (cY w' hSw.1).2.1; have z2 := (cY w' hSw.1).2.2; clear hSw; go_simp; try with_reducible rfl)
                    simp only [Act.put, List.setIfInBounds_toArray, List.set_cons_zero, List.set_cons_succ]
                    refine' wpAnyH_take (i := 11) (oi := { dst := some 132, op := Op.move (Operand.tmp 10), type := 27, pos := "law.go:133", after := #[], guard := none }) (v := _) rfl (by kernel_rfl) (by kernel_rfl) (by kernel_rfl) (fun _ _ _ h => h) (Or.inl ⟨by rfl, ?hya11⟩) hH0 ?ra11
                    case hya11 => (intro w' hSw; have z0 := (cY w' hSw.1).1; have z1 := (cY w' hSw.1).2.1; have z2 := (cY w' hSw.1).2.2; clear hSw; go_simp; try with_reducible rfl)
                    simp only [Act.put, List.setIfInBounds_toArray, List.set_cons_zero, List.set_cons_succ]
                    refine' wpAnyH_take (i := 12) (oi := { dst := some 133, op := Op.move (Operand.tmp 13), type := 3, pos := "law.go:133", after := #[], guard := none }) (v := _) rfl (by kernel_rfl) (by kernel_rfl) (by kernel_rfl) (fun _ _ _ h => h) (Or.inl ⟨by rfl, ?hya12⟩) hH0 ?ra12
                    case hya12 => (intro w' hSw; have z0 := (cY w' hSw.1).1; have z1 := (cY w' hSw.1).2.1; have z2 := (cY w' hSw.1).2.2; clear hSw; go_simp; try with_reducible rfl)
                    simp only [Act.put, List.setIfInBounds_toArray, List.set_cons_zero, List.set_cons_succ]
                    refine' wpAnyH_take (i := 13) (oi := { dst := some 134, op := Op.indexAddr 27 (Operand.tmp 132) (Operand.tmp 133), type := 0, pos := "law.go:133", after := #[{ on := 11, ground := Ground.data }, { on := 12, ground := Ground.data }], guard := none }) (v := _) rfl (by kernel_rfl) (by kernel_rfl) (by kernel_rfl) (fun _ _ _ h => h) (Or.inl ⟨by rfl, ?hya13⟩) hH0 ?ra13
                    case hya13 => (intro w' hSw; have z0 := (cY w' hSw.1).1; have z1 := (cY w' hSw.1).2.1; have z2 := (cY w' hSw.1).2.2; clear hSw; go_simp; try with_reducible rfl)
                    simp only [Act.put, List.setIfInBounds_toArray, List.set_cons_zero, List.set_cons_succ]
                    refine' wpAnyH_take (i := 14) (oi := { dst := some 135, op := Op.fieldAddr 35 (Operand.tmp 134) 2, type := 0, pos := "law.go:133", after := #[{ on := 13, ground := Ground.data }], guard := none }) (v := _) rfl (by kernel_rfl) (by kernel_rfl) (by kernel_rfl) (fun _ _ _ h => h) (Or.inl ⟨by rfl, ?hya14⟩) hH0 ?ra14
                    case hya14 => (intro w' hSw; have z0 := (cY w' hSw.1).1; have z1 := (cY w' hSw.1).2.1; have z2 := (cY w' hSw.1).2.2; clear hSw; go_simp; try with_reducible rfl)
                    simp only [Act.put, List.setIfInBounds_toArray, List.set_cons_zero, List.set_cons_succ]
                    refine' wpAnyH_take (i := 15) (oi := { dst := some 136, op := Op.load 3 (Operand.tmp 135), type := 3, pos := "law.go:133", after := #[{ on := 14, ground := Ground.data }], guard := none }) (v := _) rfl (by kernel_rfl) (by kernel_rfl) (by kernel_rfl) (fun _ _ _ h => h) (Or.inl ⟨by rfl, ?hya15⟩) hH0 ?ra15
                    case hya15 => (intro w' hSw; have z0 := (cY w' hSw.1).1; have z1 := (cY w' hSw.1).2.1; have z2 := (cY w' hSw.1).2.2; clear hSw; go_simp; try with_reducible rfl)
                    simp only [Act.put, List.setIfInBounds_toArray, List.set_cons_zero, List.set_cons_succ]
                    refine' wpAnyH_take (i := 16) (oi := { dst := some 137, op := Op.build 42 #[(0, Operand.tmp 126), (1, Operand.tmp 131), (2, Operand.tmp 136)], type := 42, pos := "law.go:133", after := #[{ on := 5, ground := Ground.data }, { on := 10, ground := Ground.data }, { on := 15, ground := Ground.data }], guard := none }) (v := _) rfl (by kernel_rfl) (by kernel_rfl) (by kernel_rfl) (fun _ _ _ h => h) (Or.inl ⟨by rfl, ?hya16⟩) hH0 ?ra16
                    case hya16 => (intro w' hSw; have z0 := (cY w' hSw.1).1; have z1 := (cY w' hSw.1).2.1; have z2 := (cY w' hSw.1).2.2; clear hSw; go_simp; try with_reducible rfl)
                    simp only [Act.put, List.setIfInBounds_toArray, List.set_cons_zero, List.set_cons_succ]
                    refine wpAnyH_ready (rs := [17]) (by kernel_rfl) (by simp) ?_
                    refine AllReadyH.cons (o := { dst := some 138, op := Op.buildSlice 36 1 #[(0, Operand.tmp 137)], type := 36, pos := "law.go:133", after := #[{ on := 16, ground := Ground.data }], guard := none }) rfl (fun K hK => ?_) AllReadyH.nil
                    refine step_build_run (by rfl) 36 1 (.tmp 137) rfl (by rfl) (build_pc y.lba y.len y.phys _) ?_
                    refine hK.out _ _ (⟨((Keep.refl (fun x => aa = some ⟨x, 0, none⟩) w2).drewB).alloc _, trivial⟩) (fun hH1 => ?_)
                    clear hK K hH0
                    simp only [Act.put, List.setIfInBounds_toArray, List.set_cons_zero, List.set_cons_succ]
                    refine wpAnyH_ready (rs := [18]) (by kernel_rfl) (by simp) ?_
                    refine AllReadyH.cons (o := { dst := some 139, op := Op.call { callee := Callee.builtin Builtin.append, args := #[Operand.tmp 121, Operand.tmp 138], argTypes := #[36, 36] }, type := 36, pos := "law.go:133", after := #[{ on := 0, ground := Ground.data }, { on := 17, ground := Ground.data }], guard := none }) rfl (fun K hK => ?_) AllReadyH.nil
                    refine step_append_run (by rfl) (.tmp 121) (.tmp 138) 36 rfl (by rfl) (by rfl) happ ?_
                    refine hK.out _ _ (⟨((Keep.refl (fun x => aa = some ⟨x, 0, none⟩) w2).drewB).trans K5, trivial⟩) (fun hH2 => ?_)
                    clear hK K hH1
                    simp only [Act.put, List.setIfInBounds_toArray, List.set_cons_zero, List.set_cons_succ]
                    refine' wpAnyH_take (i := 19) (oi := { dst := some 8, op := Op.assign (Operand.tmp 139), type := 36, pos := "law.go:133", after := #[{ on := 18, ground := Ground.data }, { on := 18, ground := Ground.chain }, { on := 0, ground := Ground.phase }, { on := 1, ground := Ground.phase }, { on := 2, ground := Ground.phase }, { on := 3, ground := Ground.phase }, { on := 4, ground := Ground.phase }, { on := 5, ground := Ground.phase }, { on := 6, ground := Ground.phase }, { on := 7, ground := Ground.phase }, { on := 8, ground := Ground.phase }, { on := 9, ground := Ground.phase }, { on := 10, ground := Ground.phase }, { on := 11, ground := Ground.phase }, { on := 12, ground := Ground.phase }, { on := 13, ground := Ground.phase }, { on := 14, ground := Ground.phase }, { on := 15, ground := Ground.phase }, { on := 16, ground := Ground.phase }, { on := 17, ground := Ground.phase }, { on := 18, ground := Ground.phase }], guard := none }) (v := _) rfl (by kernel_rfl) (by kernel_rfl) (by kernel_rfl) (fun _ _ _ h => h) (Or.inl ⟨by rfl, ?hya19⟩) hH2 ?ra19
                    case hya19 => (intro w' hSw; clear hSw; go_simp; try with_reducible rfl)
                    simp only [Act.put, List.setIfInBounds_toArray, List.set_cons_zero, List.set_cons_succ]
                    refine wpAnyH_done (by kernel_rfl) ?_ _
                    refine NoPanic.normal ?_
                    clear cY happ
                    go_wp2_with fail
                    go_roundw
                    case rel => exact ⟨i + 1, ka + 1, c5, a5, hi', by go_num, by rw [show sumLen (M.take (i + 1)) = _ from hsm], rfl, hka5, RA5, ZM5, hfr5⟩
                    case measure => have : i < kM := hlt'; simp [intOf]; omega
                  · obtain ⟨j, hj⟩ : ∃ j, i = j + 1 := ⟨i - 1, by omega⟩
                    obtain ⟨z, hzj⟩ := get_rn (m := M) (i := j) (by rw [← show kM = _ from hkM']; omega)
                    have hlt3 : ¬ y.lba ≤ z.lba := by
                      have hpw := List.pairwise_iff_getElem.1 (show M.Pairwise _ from hst) j i (by have := (List.getElem?_eq_some_iff.1 hzj).1; exact this) (by have := (List.getElem?_eq_some_iff.1 hy).1; exact this) (by omega)
                      rw [(List.getElem?_eq_some_iff.1 hzj).2, (List.getElem?_eq_some_iff.1 hy).2] at hpw
                      have := (show ∀ y ∈ M, _ from hbd) z (List.mem_of_getElem? hzj)
                      omega
                    obtain ⟨g', o', e, z0, -, -⟩ := ZM.at hzj
                    injection e with e
                    injection e with e1 e2
                    subst e1 e2
                    have g1 : decide ((0 : Int) < (i : Int)) = true := decide_eq_true (by omega)
                    have g1' : (0 : Int) < (i : Int) := by omega
                    have g1'' : decide (0 < i) = true := decide_eq_true (by omega)
                    have g2 : decide (y.lba ≤ z.lba) = false := decide_eq_false hlt3
                    have f7 : IntKind.i64.wrap ((i : Int) - 1) = (j : Int) := by rw [wrapI (by omega) (by omega)]; omega
                    have dj : (j : Int) < (kM : Int) := by omega
                    have djn : j < kM := by omega
                    have hjH : Hid (i = j + 1) := hj
                    clear hz hj hzj
                    go_wp2_with fail
                    go_quiet (fail)
                    have k2 := (Keep.refl (fun _ => False) wr).drewN nq
                    have RA2 := RA.more k2
                    have ZM2 := ZM.more k2
                    have cY : ∀ w', Keep (fun x => aa = some ⟨x, 0, none⟩) (wr.drewN nq) w' → w'.cell? ⟨gM, oM + i * 3, none⟩ = some (.int .i64 y.lba) ∧ w'.cell? ⟨gM, oM + i * 3 + 1, none⟩ = some (.int .i64 y.len) ∧ w'.cell? ⟨gM, oM + i * 3 + 2, none⟩ = some (.int .i64 y.phys) := fun w' k => by
                      obtain ⟨g', o', e, q0, q1, q2⟩ := (ZM2.keep k (fun g o e hM e2 => (show ∀ g, aa = some ⟨g, 0, none⟩ → gM ≠ g from hne) g e2 (by injection e with e; injection e with e))).at hy
                      injection e with e
                      injection e with e1 e2
                      subst e1 e2
                      exact ⟨q0, q1, q2⟩
                    have hb2 : gM < (wr.drewN nq).heap.size := Nat.lt_of_lt_of_le hMb k2.size
                    generalize wr.drewN nq = w2 at k2 RA2 ZM2 cY hb2 ⊢
                    obtain ⟨a5, c5, w5, happ, RA5, K5, h5⟩ := (RA2.more ((Keep.refl (fun _ => False) w2).drewB)).appS (by rw [← show ka = _ from hka]; omega) y
                    rw [← show ka = _ from hka] at happ
                    rw [List.append_assoc, ← hnx] at RA5
                    have hka5 : Hid (ka + 1 = (albL pages l b ++ M.take (i + 1)).length) := by show _ = _; rw [hnx, ← List.append_assoc, List.length_append, ← show ka = _ from hka]; rfl
                    have ZM5 : Rz w5 (some ⟨gM, oM, none⟩) cM M := (ZM2.more ((Keep.refl (fun _ => False) w2).drewB)).keep K5 (fun g o e _ e2 => (show ∀ g, aa = some ⟨g, 0, none⟩ → gM ≠ g from hne) g e2 (by injection e with e; injection e with e))
                    have hMb5 : Hid (gM < w5.heap.size) := Nat.lt_of_lt_of_le hb2 K5.size
                    have hne5 : Hid (∀ g, a5 = some ⟨g, 0, none⟩ → gM ≠ g) := fun g e => by
                      rcases h5 with rfl | ⟨g5, rfl, hg5⟩
                      · exact (show ∀ g, a5 = some ⟨g, 0, none⟩ → gM ≠ g from hne) g e
                      · injection e with e
                        injection e with e
                        have : w2.heap.size ≤ g5 := hg5
                        omega
                    have hfr5 : Hid (∀ g o, some (⟨gM, oM, none⟩ : Addr) = some ⟨g, o, none⟩ → M ≠ [] → (∀ g', a5 = some ⟨g', 0, none⟩ → g ≠ g') ∧ g < w5.heap.size) := fun g o e _ => by
                      injection e with e
                      injection e with e1 e2
                      subst e1
                      exact ⟨hne5, hMb5⟩
                    clear hne hMb hb2 hne5 hMb5 RA RA2 ZM ZM2 h5 hka k2 y0 y1 y2
                    go_upto_region 25 with fail
                    refine wp_region_noPanic ?_
                    refine wp_region_held_drew (S := fun w' => Keep (fun x => aa = some ⟨x, 0, none⟩) w2 w' ∧ True) (by kernel_rfl) (⟨(Keep.refl (fun x => aa = some ⟨x, 0, none⟩) w2).drewB, trivial⟩) (fun hH0 => ?_)
                    refine' wpAnyH_take (i := 0) (oi := { dst := some 121, op := Op.move (Operand.tmp 8), type := 36, pos := "law.go:133", after := #[], guard := none }) (v := _) rfl (by kernel_rfl) (by kernel_rfl) (by kernel_rfl) (fun _ _ _ h => h) (Or.inl ⟨by rfl, ?hyb0⟩) hH0 ?rb0
                    case hyb0 => (intro w' hSw; have z0 := (cY w' hSw.1).1; have z1 := (cY w' hSw.1).2.1; have z2 := (cY w' hSw.1).2.2; clear hSw; go_simp; try with_reducible rfl)
                    simp only [Act.put, List.setIfInBounds_toArray, List.set_cons_zero, List.set_cons_succ]
                    refine' wpAnyH_take (i := 1) (oi := { dst := some 122, op := Op.move (Operand.tmp 10), type := 27, pos := "law.go:133", after := #[], guard := none }) (v := _) rfl (by kernel_rfl) (by kernel_rfl) (by kernel_rfl) (fun _ _ _ h => h) (Or.inl ⟨by rfl, ?hyb1⟩) hH0 ?rb1
                    case hyb1 => (intro w' hSw; have z0 := (cY w' hSw.1).1; have z1 := (cY w' hSw.1).2.1; have z2 := (cY w' hSw.1).2.2; clear hSw; go_simp; try with_reducible rfl)
                    simp only [Act.put, List.setIfInBounds_toArray, List.set_cons_zero, List.set_cons_succ]
                    refine' wpAnyH_take (i := 2) (oi := { dst := some 123, op := Op.move (Operand.tmp 13), type := 3, pos := "law.go:133", after := #[], guard := none }) (v := _) rfl (by kernel_rfl) (by kernel_rfl) (by kernel_rfl) (fun _ _ _ h => h) (Or.inl ⟨by rfl, ?hyb2⟩) hH0 ?rb2
                    case hyb2 => (intro w' hSw; have z0 := (cY w' hSw.1).1; have z1 := (cY w' hSw.1).2.1; have z2 := (cY w' hSw.1).2.2; clear hSw; go_simp; try with_reducible rfl)
                    simp only [Act.put, List.setIfInBounds_toArray, List.set_cons_zero, List.set_cons_succ]
                    refine' wpAnyH_take (i := 3) (oi := { dst := some 124, op := Op.indexAddr 27 (Operand.tmp 122) (Operand.tmp 123), type := 0, pos := "law.go:133", after := #[{ on := 1, ground := Ground.data }, { on := 2, ground := Ground.data }], guard := none }) (v := _) rfl (by kernel_rfl) (by kernel_rfl) (by kernel_rfl) (fun _ _ _ h => h) (Or.inl ⟨by rfl, ?hyb3⟩) hH0 ?rb3
                    case hyb3 => (intro w' hSw; have z0 := (cY w' hSw.1).1; have z1 := (cY w' hSw.1).2.1; have z2 := (cY w' hSw.1).2.2; clear hSw; go_simp; try with_reducible rfl)
                    simp only [Act.put, List.setIfInBounds_toArray, List.set_cons_zero, List.set_cons_succ]
                    refine' wpAnyH_take (i := 4) (oi := { dst := some 125, op := Op.fieldAddr 35 (Operand.tmp 124) 0, type := 0, pos := "law.go:133", after := #[{ on := 3, ground := Ground.data }], guard := none }) (v := _) rfl (by kernel_rfl) (by kernel_rfl) (by kernel_rfl) (fun _ _ _ h => h) (Or.inl ⟨by rfl, ?hyb4⟩) hH0 ?rb4
                    case hyb4 => (intro w' hSw; have z0 := (cY w' hSw.1).1; have z1 := (cY w' hSw.1).2.1; have z2 := (cY w' hSw.1).2.2; clear hSw; go_simp; try with_reducible rfl)
                    simp only [Act.put, List.setIfInBounds_toArray, List.set_cons_zero, List.set_cons_succ]
                    refine' wpAnyH_take (i := 5) (oi := { dst := some 126, op := Op.load 3 (Operand.tmp 125), type := 3, pos := "law.go:133", after := #[{ on := 4, ground := Ground.data }], guard := none }) (v := _) rfl (by kernel_rfl) (by kernel_rfl) (by kernel_rfl) (fun _ _ _ h => h) (Or.inl ⟨by rfl, ?hyb5⟩) hH0 ?rb5
                    case hyb5 => (intro w' hSw; have z0 := (cY w' hSw.1).1; have z1 := (cY w' hSw.1).2.1; have z2 := (cY w' hSw.1).2.2; clear hSw; go_simp; try with_reducible rfl)
                    simp only [Act.put, List.setIfInBounds_toArray, List.set_cons_zero, List.set_cons_succ]
                    refine' wpAnyH_take (i := 6) (oi := { dst := some 127, op := Op.move (Operand.tmp 10), type := 27, pos := "law.go:133", after := #[], guard := none }) (v := _) rfl (by kernel_rfl) (by kernel_rfl) (by kernel_rfl) (fun _ _ _ h => h) (Or.inl ⟨by rfl, ?hyb6⟩) hH0 ?rb6
                    case hyb6 => (intro w' hSw; have z0 := (cY w' hSw.1).1; have z1 := (cY w' hSw.1).2.1; have z2 := (cY w' hSw.1).2.2; clear hSw; go_simp; try with_reducible rfl)
                    simp only [Act.put, List.setIfInBounds_toArray, List.set_cons_zero, List.set_cons_succ]
                    refine' wpAnyH_take (i := 7) (oi := { dst := some 128, op := Op.move (Operand.tmp 13), type := 3, pos := "law.go:133", after := #[], guard := none }) (v := _) rfl (by kernel_rfl) (by kernel_rfl) (by kernel_rfl) (fun _ _ _ h => h) (Or.inl ⟨by rfl, ?hyb7⟩) hH0 ?rb7
                    case hyb7 => (intro w' hSw; have z0 := (cY w' hSw.1).1; have z1 := (cY w' hSw.1).2.1; have z2 := (cY w' hSw.1).2.2; clear hSw; go_simp; try with_reducible rfl)
                    simp only [Act.put, List.setIfInBounds_toArray, List.set_cons_zero, List.set_cons_succ]
                    refine' wpAnyH_take (i := 8) (oi := { dst := some 129, op := Op.indexAddr 27 (Operand.tmp 127) (Operand.tmp 128), type := 0, pos := "law.go:133", after := #[{ on := 6, ground := Ground.data }, { on := 7, ground := Ground.data }], guard := none }) (v := _) rfl (by kernel_rfl) (by kernel_rfl) (by kernel_rfl) (fun _ _ _ h => h) (Or.inl ⟨by rfl, ?hyb8⟩) hH0 ?rb8
                    case hyb8 => (intro w' hSw; have z0 := (cY w' hSw.1).1; have z1 := (cY w' hSw.1).2.1; have z2 := (cY w' hSw.1).2.2; clear hSw; go_simp; try with_reducible rfl)
                    simp only [Act.put, List.setIfInBounds_toArray, List.set_cons_zero, List.set_cons_succ]
                    refine' wpAnyH_take (i := 9) (oi := { dst := some 130, op := Op.fieldAddr 35 (Operand.tmp 129) 1, type := 0, pos := "law.go:133", after := #[{ on := 8, ground := Ground.data }], guard := none }) (v := _) rfl (by kernel_rfl) (by kernel_rfl) (by kernel_rfl) (fun _ _ _ h => h) (Or.inl ⟨by rfl, ?hyb9⟩) hH0 ?rb9
                    case hyb9 => (intro w' hSw; have z0 := (cY w' hSw.1).1; have z1 := (cY w' hSw.1).2.1; have z2 := (cY w' hSw.1).2.2; clear hSw; go_simp; try with_reducible rfl)
                    simp only [Act.put, List.setIfInBounds_toArray, List.set_cons_zero, List.set_cons_succ]
                    refine' wpAnyH_take (i := 10) (oi := { dst := some 131, op := Op.load 3 (Operand.tmp 130), type := 3, pos := "law.go:133", after := #[{ on := 9, ground := Ground.data }], guard := none }) (v := _) rfl (by kernel_rfl) (by kernel_rfl) (by kernel_rfl) (fun _ _ _ h => h) (Or.inl ⟨by rfl, ?hyb10⟩) hH0 ?rb10
                    case hyb10 => (intro w' hSw; have z0 := (cY w' hSw.1).1; have z1 := (cY w' hSw.1).2.1; have z2 := (cY w' hSw.1).2.2; clear hSw; go_simp; try with_reducible rfl)
                    simp only [Act.put, List.setIfInBounds_toArray, List.set_cons_zero, List.set_cons_succ]
                    refine' wpAnyH_take (i := 11) (oi := { dst := some 132, op := Op.move (Operand.tmp 10), type := 27, pos := "law.go:133", after := #[], guard := none }) (v := _) rfl (by kernel_rfl) (by kernel_rfl) (by kernel_rfl) (fun _ _ _ h => h) (Or.inl ⟨by rfl, ?hyb11⟩) hH0 ?rb11
                    case hyb11 => (intro w' hSw; have z0 := (cY w' hSw.1).1; have z1 := (cY w' hSw.1).2.1; have z2 := (cY w' hSw.1).2.2; clear hSw; go_simp; try with_reducible rfl)
                    simp only [Act.put, List.setIfInBounds_toArray, List.set_cons_zero, List.set_cons_succ]
                    refine' wpAnyH_take (i := 12) (oi := { dst := some 133, op := Op.move (Operand.tmp 13), type := 3, pos := "law.go:133", after := #[], guard := none }) (v := _) rfl (by kernel_rfl) (by kernel_rfl) (by kernel_rfl) (fun _ _ _ h => h) (Or.inl ⟨by rfl, ?hyb12⟩) hH0 ?rb12
                    case hyb12 => (intro w' hSw; have z0 := (cY w' hSw.1).1; have z1 := (cY w' hSw.1).2.1; have z2 := (cY w' hSw.1).2.2; clear hSw; go_simp; try with_reducible rfl)
                    simp only [Act.put, List.setIfInBounds_toArray, List.set_cons_zero, List.set_cons_succ]
                    refine' wpAnyH_take (i := 13) (oi := { dst := some 134, op := Op.indexAddr 27 (Operand.tmp 132) (Operand.tmp 133), type := 0, pos := "law.go:133", after := #[{ on := 11, ground := Ground.data }, { on := 12, ground := Ground.data }], guard := none }) (v := _) rfl (by kernel_rfl) (by kernel_rfl) (by kernel_rfl) (fun _ _ _ h => h) (Or.inl ⟨by rfl, ?hyb13⟩) hH0 ?rb13
                    case hyb13 => (intro w' hSw; have z0 := (cY w' hSw.1).1; have z1 := (cY w' hSw.1).2.1; have z2 := (cY w' hSw.1).2.2; clear hSw; go_simp; try with_reducible rfl)
                    simp only [Act.put, List.setIfInBounds_toArray, List.set_cons_zero, List.set_cons_succ]
                    refine' wpAnyH_take (i := 14) (oi := { dst := some 135, op := Op.fieldAddr 35 (Operand.tmp 134) 2, type := 0, pos := "law.go:133", after := #[{ on := 13, ground := Ground.data }], guard := none }) (v := _) rfl (by kernel_rfl) (by kernel_rfl) (by kernel_rfl) (fun _ _ _ h => h) (Or.inl ⟨by rfl, ?hyb14⟩) hH0 ?rb14
                    case hyb14 => (intro w' hSw; have z0 := (cY w' hSw.1).1; have z1 := (cY w' hSw.1).2.1; have z2 := (cY w' hSw.1).2.2; clear hSw; go_simp; try with_reducible rfl)
                    simp only [Act.put, List.setIfInBounds_toArray, List.set_cons_zero, List.set_cons_succ]
                    refine' wpAnyH_take (i := 15) (oi := { dst := some 136, op := Op.load 3 (Operand.tmp 135), type := 3, pos := "law.go:133", after := #[{ on := 14, ground := Ground.data }], guard := none }) (v := _) rfl (by kernel_rfl) (by kernel_rfl) (by kernel_rfl) (fun _ _ _ h => h) (Or.inl ⟨by rfl, ?hyb15⟩) hH0 ?rb15
                    case hyb15 => (intro w' hSw; have z0 := (cY w' hSw.1).1; have z1 := (cY w' hSw.1).2.1; have z2 := (cY w' hSw.1).2.2; clear hSw; go_simp; try with_reducible rfl)
                    simp only [Act.put, List.setIfInBounds_toArray, List.set_cons_zero, List.set_cons_succ]
                    refine' wpAnyH_take (i := 16) (oi := { dst := some 137, op := Op.build 42 #[(0, Operand.tmp 126), (1, Operand.tmp 131), (2, Operand.tmp 136)], type := 42, pos := "law.go:133", after := #[{ on := 5, ground := Ground.data }, { on := 10, ground := Ground.data }, { on := 15, ground := Ground.data }], guard := none }) (v := _) rfl (by kernel_rfl) (by kernel_rfl) (by kernel_rfl) (fun _ _ _ h => h) (Or.inl ⟨by rfl, ?hyb16⟩) hH0 ?rb16
                    case hyb16 => (intro w' hSw; have z0 := (cY w' hSw.1).1; have z1 := (cY w' hSw.1).2.1; have z2 := (cY w' hSw.1).2.2; clear hSw; go_simp; try with_reducible rfl)
                    simp only [Act.put, List.setIfInBounds_toArray, List.set_cons_zero, List.set_cons_succ]
                    refine wpAnyH_ready (rs := [17]) (by kernel_rfl) (by simp) ?_
                    refine AllReadyH.cons (o := { dst := some 138, op := Op.buildSlice 36 1 #[(0, Operand.tmp 137)], type := 36, pos := "law.go:133", after := #[{ on := 16, ground := Ground.data }], guard := none }) rfl (fun K hK => ?_) AllReadyH.nil
                    refine step_build_run (by rfl) 36 1 (.tmp 137) rfl (by rfl) (build_pc y.lba y.len y.phys _) ?_
                    refine hK.out _ _ (⟨((Keep.refl (fun x => aa = some ⟨x, 0, none⟩) w2).drewB).alloc _, trivial⟩) (fun hH1 => ?_)
                    clear hK K hH0
                    simp only [Act.put, List.setIfInBounds_toArray, List.set_cons_zero, List.set_cons_succ]
                    refine wpAnyH_ready (rs := [18]) (by kernel_rfl) (by simp) ?_
                    refine AllReadyH.cons (o := { dst := some 139, op := Op.call { callee := Callee.builtin Builtin.append, args := #[Operand.tmp 121, Operand.tmp 138], argTypes := #[36, 36] }, type := 36, pos := "law.go:133", after := #[{ on := 0, ground := Ground.data }, { on := 17, ground := Ground.data }], guard := none }) rfl (fun K hK => ?_) AllReadyH.nil
                    refine step_append_run (by rfl) (.tmp 121) (.tmp 138) 36 rfl (by rfl) (by rfl) happ ?_
                    refine hK.out _ _ (⟨((Keep.refl (fun x => aa = some ⟨x, 0, none⟩) w2).drewB).trans K5, trivial⟩) (fun hH2 => ?_)
                    clear hK K hH1
                    simp only [Act.put, List.setIfInBounds_toArray, List.set_cons_zero, List.set_cons_succ]
                    refine' wpAnyH_take (i := 19) (oi := { dst := some 8, op := Op.assign (Operand.tmp 139), type := 36, pos := "law.go:133", after := #[{ on := 18, ground := Ground.data }, { on := 18, ground := Ground.chain }, { on := 0, ground := Ground.phase }, { on := 1, ground := Ground.phase }, { on := 2, ground := Ground.phase }, { on := 3, ground := Ground.phase }, { on := 4, ground := Ground.phase }, { on := 5, ground := Ground.phase }, { on := 6, ground := Ground.phase }, { on := 7, ground := Ground.phase }, { on := 8, ground := Ground.phase }, { on := 9, ground := Ground.phase }, { on := 10, ground := Ground.phase }, { on := 11, ground := Ground.phase }, { on := 12, ground := Ground.phase }, { on := 13, ground := Ground.phase }, { on := 14, ground := Ground.phase }, { on := 15, ground := Ground.phase }, { on := 16, ground := Ground.phase }, { on := 17, ground := Ground.phase }, { on := 18, ground := Ground.phase }], guard := none }) (v := _) rfl (by kernel_rfl) (by kernel_rfl) (by kernel_rfl) (fun _ _ _ h => h) (Or.inl ⟨by rfl, ?hyb19⟩) hH2 ?rb19
                    case hyb19 => (intro w' hSw; clear hSw; go_simp; try with_reducible rfl)
                    simp only [Act.put, List.setIfInBounds_toArray, List.set_cons_zero, List.set_cons_succ]
                    refine wpAnyH_done (by kernel_rfl) ?_ _
                    refine NoPanic.normal ?_
                    clear cY happ
                    go_wp2_with fail
                    go_roundw
                    case rel => exact ⟨i + 1, ka + 1, c5, a5, hi', by go_num, by rw [show sumLen (M.take (i + 1)) = _ from hsm], rfl, hka5, RA5, ZM5, hfr5⟩
                    case measure => have : i < kM := hlt'; simp [intOf]; omega
                · have hsm : sumLen (M.take i) = cnt pages (b : Int) l := by
                    rw [List.take_of_length_le (by rw [← show kM = _ from hkM']; omega)]
                    exact hsum
                  have hall : albL pages l b ++ M.take i = albL pages l (b + 1) := by
                    rw [List.take_of_length_le (by rw [← show kM = _ from hkM']; omega)]
                    exact (show albL pages l (b + 1) = _ from hnx2).symm
                  rw [hall] at RA hka
                  rw [hsm]
                  obtain ⟨gV, oV, rfl, cv⟩ := (IV.more RA.keep).at (show (valL pages l 64)[b]? = some _ from hvb)
                  have di : ¬ (i : Int) < (kM : Int) := by omega
                  clear hlt2 hsm hall ZM hfr
                  generalize cnt pages (b : Int) l = CB at cv
                  go_wp2_with fail
                  go_roundw
                  case rel => exact ⟨b + 1, ka, ca, aa, hlt', by go_num, rfl, hka, RA⟩
                  case measure => have : b < 64 := hlt'; simp [intOf]; omega
            · obtain rfl : b = 64 := by omega
              have hfA : Fits (albL pages l 64) := fun y hy => by
                have := splL_in hF (albL_mem.1 hy).1
                omega
              have hfo := fold9 RA.rz hfA
              rw [show foldR (albL pages l 64) = l from hfa, ← show ka = _ from hka, ← show m = l.length from hm'] at hfo
              have ZLx := ZL3.more RA.keep
              have hsame : ∀ {w8 : World} {a8 : Option Addr} {c8 : Nat}, Keep (fun _ => False) wr w8 → Rs w8 a8 c8 l → Calls Try.prog 16 #[.slice a8 m c8, .slice aL m cL] w8 fun e w' => e = .returned (.bool true) ∧ Keep (fun _ => False) w8 w' := fun {w8 a8 c8} k h => by
                have := sameZ h.rz (ZLx.more k) (by have := hF.len; omega)
                rw [sameL_refl, ← show m = l.length from hm'] at this
                exact this
              have hKf := K3.trans RA.keep
              clear hlt hfA RA hka
              go_wp2_with (first | (go_at_call 14; refine hfo.mono ?_; rintro e w8 ⟨a8, c8, rfl, R8⟩; have hs8 := hsame R8.keep R8.rs) | (go_at_call 16; refine hs8.mono ?_; rintro e w9 ⟨rfl, K9⟩))
              go_ret
              exact ⟨rfl, hKf.trans (R8.keep.trans K9)⟩
      · have dp2 : 32 < pages := by omega
        go_enter Try.func6, Try.ntmps6
        go_wp2_with fail
        refine (HA _).mono ?_
        rintro e w0 ⟨rfl, k0⟩
        go_wp2_with fail
        go_ret
        exact ⟨rfl, k0⟩
    · have dp1 : pages < 1 := by omega
      go_enter Try.func6, Try.ntmps6
      go_wp2_with fail
      refine (HA _).mono ?_
      rintro e w0 ⟨rfl, k0⟩
      go_wp2_with fail
      go_ret
      exact ⟨rfl, k0⟩
  · have dl : (100 : Int) < (p.length : Int) := by omega
    go_enter Try.func6, Try.ntmps6
    go_wp2_with fail
    refine (HA _).mono ?_
    rintro e w0 ⟨rfl, k0⟩
    go_wp2_with fail
    go_ret
    exact ⟨rfl, k0⟩
end Tg
end Go.Proofs.Ytkddonmddgfpnab
