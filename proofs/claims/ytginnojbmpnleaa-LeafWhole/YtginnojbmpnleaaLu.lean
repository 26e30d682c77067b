/-
  LeafCuts' body, given what the program's own calls answer.
-/
import Derived.Test.YtginnojbmpnleaaLe
namespace Go.Proofs.Ytginnojbmpnleaa
open Go.ChangeShapes Go.WideShapes Go.ChangeAt Go.RowKit
namespace Tg
/-- The statements' awakening answers. -/
def AwOk : Prop := ∀ w : World, Calls Try.prog 8 #[] w fun e w' => e = .returned (.bool true) ∧ Keep (fun _ => False) w w'
/-- The program's Pages answers as it should. -/
def PagesOk : Prop := ∀ (n : Int) (w : World), Calls Try.prog 10 #[.int .i64 n] w fun e w' => e = .returned (.int .i64 (npI n)) ∧ Keep (fun _ => False) w w'
/-- The error of a stream that cannot be cut. -/
def cutE (s : St) : Int := if s.kind = 2 ∨ s.kind = 3 then (if s.bytes.length ≤ 65536 then 0 else 2) else 1
/-- The program's Cut answers as it should. -/
def CutOk : Prop := ∀ {w : World} {s : St} {a : Option Addr} {len cap : Nat}, Row w a len cap s.bytes → (0 ≤ s.ep ∧ s.ep ≤ 4294967295) → (0 ≤ s.gr ∧ s.gr ≤ 4294967295) → Calls Try.prog 9 #[.agg #[.int .i64 s.kind, .int .u32 s.ep, .int .u32 s.gr, .slice a len cap]] w fun e w' => (if cutE s = 0 then ∃ a' c', e = .returned (.tuple #[.slice a' (cutL s).length c', .int .i64 0]) ∧ Rg w' a' c' (cutL s) else ∃ a' c', e = .returned (.tuple #[.slice a' 0 c', .int .i64 (cutE s)])) ∧ Keep (fun _ => False) w w'
/-- The program's Join answers as it should. -/
def JoinOk : Prop := ∀ {w : World} {a : Option Addr} {cap : Nat} {l : List Pg}, Rg w a cap l → (∀ q ∈ l, q.Ok) → l.length ≤ 100000 → Calls Try.prog 13 #[.slice a l.length cap] w fun e w' => ∃ a' c' rs L, e = .returned (.slice a' rs.length c') ∧ Rws w' a' c' rs ∧ Says w' rs L ∧ JoinS l L ∧ Keep (fun _ => False) w w'
theorem yields_neq33 {ops : Array Oper} {S : World → Prop} {o : Oper} {a : Act} {p : Pg} (hw : Region.wanted o (yielded ops a.tmps) = true) (x y : Operand) (hop : o.op = Op.binOp .neq 33 x y 33) (hx : a.eval x = .agg (pgA p)) (hy : a.eval y = .agg (pgA p)) : YieldsIf Try.prog ops S o (.bool false) a := by
  refine Or.inl ⟨hw, fun w hS => ?_⟩
  have h1 := run_eqGuard_agg (P := Try.prog) w .neq 33 x y (pgA p) (pgA p) guard33
  have h2 := run_neq_struct (P := Try.prog) w 33 (pgA p) (pgA p)
  rw [eq33] at h2
  simp only [Result.andThen_ok] at h2
  simp only [execOp, hop, hx, hy]
  simp only [Sem.run_bind, h1, h2, Result.andThen_ok, Sem.run_pure]
  rfl
theorem cutL_ok {s : St} (h : s.Ok) : ∀ q ∈ cutL s, q.Ok := fun q hq => by
  obtain ⟨i, hi, rfl⟩ := mem_cutL.1 hq
  exact pgS_ok h hi
set_option maxRecDepth 100000 in
set_option maxHeartbeats 2000000 in
theorem cuts_walk (HA : AwOk) (HP : PagesOk) (HC : CutOk) (HJ : JoinOk) {w : World} {a : Option Addr} {len cap : Nat} {s : St} (hr : Row w a len cap s.bytes) (hlen : len ≤ 140737488355000) (hep : 0 ≤ s.ep ∧ s.ep ≤ 4294967295) (hgr : 0 ≤ s.gr ∧ s.gr ≤ 4294967295) (n : Int) :
    Calls Try.prog 4 #[.int .i64 s.kind, .int .u32 s.ep, .int .u32 s.gr, .slice a len cap, .int .i64 n] w fun e w' => e = .returned (.bool true) ∧ Keep (fun _ => False) w w' := by
  have hb : Bys s.bytes := hr.2.2.2.1
  have hl1 := hr.1
  have hlc := hr.2.1
  have hlc2 := hr.2.2.1
  go_enter Try.func4, Try.ntmps4
  go_wp2_with fail
  refine (HA w).mono ?_
  rintro e w0 ⟨rfl, k0⟩
  have hr0 := hr.moreV k0
  have t1 := hr0.text
  obtain ⟨cp, w1, hc1, G1⟩ := text_gr w0 s.bytes hb (by omega)
  rw [hl1] at hc1
  obtain ⟨g2, cap2, w2, hrun, G2⟩ := G1.one (x := 9) hl1 (by omega) (by omega)
  have hR2 : Row w2 (some ⟨g2, 0, none⟩) len cap2 s.bytes := by
    have h := (G2.at (n := len + 1) (by simp [hl1])).first (n := len) (by omega)
    rwa [List.take_append_of_le_length (by omega), List.take_of_length_le (by omega)] at h
  have hlc3 : len + 1 ≤ cap2 := by
    have := (G2.at (n := len + 1) (by simp [hl1])).2.1
    omega
  have K2 := G2.keep
  have hno : ¬ 9223372036854775807 < (strOfNums s.bytes).size + 1 := by rw [strOfNums_size]; omega
  have hcut := HC hR2 hep hgr
  go_wp2_with (at_builtin; refine wpList_append_run rfl (.tmp 21) (.tmp 22) 28 rfl (by rfl) (by rfl) hrun ?_)
  refine hcut.mono ?_
  rintro e w3 ⟨h3, k3⟩
  have K3 := K2.trans k3
  have tt1 := (hr0.moreV K3).text
  have tt2 := ((G2.at (n := len + 1) (by simp [hl1])).moreV k3).text
  rw [str_nine] at tt2
  have e5 : ((strOfNums s.bytes ++ { data := #[9] }).toList != (strOfNums s.bytes ++ { data := #[9] }).toList) = false := by simp
  have hp4 := HP n
  have hp5 := fun w' => rpages_any (n := n) w'
  have e6 : (npI n != npI n) = false := by simp
  clear t1 hc1 hrun hcut HA HP G1 G2 hR2 hr
  unfold cutE at h3
  by_cases hk : s.kind = 2 ∨ s.kind = 3
  · simp only [if_pos hk] at h3
    by_cases hl : s.bytes.length ≤ 65536
    · simp only [if_pos hl, ↓reduceIte] at h3
      obtain ⟨a', c', rfl, R3⟩ := h3
      have hso : s.Ok := ⟨hk, hl, hb, hep, hgr⟩
      have dl : ¬ (65536 : Int) < (len : Int) := by omega
      have hls : (cutL s).length = npg len := by rw [cutL_len, hl1]
      have hnp := npg_max (show len ≤ 65536 by omega)
      have hnp1 := npg_pos len
      have hcap := R3.1
      have hcap2 := R3.2.1
      have hcs : Hid (∀ i, i < npg len → (cutL s)[i]? = some (pgS s i)) := fun i hi => cutL_get s (by rw [hl1]; exact hi)
      rw [hls] at hcap
      rw [hls]
      have hls' : Hid ((cutL s).length = npg len) := hls
      clear hls
      generalize hN : npg len = N at hcap hls' hcs hnp hnp1
      go_wp2_with fail
      refine (hp4 _).mono ?_
      rintro e w4 ⟨rfl, k4⟩
      go_wp2_with fail
      refine (hp5 _).mono ?_
      rintro e w5 ⟨rfl, e7⟩
      subst e7
      go_upto_region 7 with fail
      go_cut [54] from 17 to 117 (fun v wx => v = .bool false ∧ wx = w5)
      case first =>
        rcases hk with h | h
        · have g1 : (s.kind != 2) = false := by simp [h]
          clear h
          go_wp2_with fail
          go_meet
          exact ⟨rfl, rfl⟩
        · have g1 : (s.kind != 2) = true := by simp [h]
          have g2 : (s.kind != 3) = false := by simp [h]
          clear h
          go_wp2_with fail
          go_meet
          exact ⟨rfl, rfl⟩
      case rest =>
        obtain ⟨rfl, rfl⟩ := hcut
        have hrc := rcut_any (s := s) (hr0.moreV (K3.trans k4)) (by omega)
        go_wp2_with fail
        refine hrc.mono ?_
        rintro e w6 ⟨a6, c6, rfl, R6⟩
        have hw6 := R6.rg.1
        have hw62 := R6.rg.2.1
        rw [show (cutL s).length = N from hls'] at hw6 ⊢
        have hnn : ((N : Int) != (N : Int)) = false := by simp
        clear hrc hN
        go_wp2_with fail
        go_loopw [15] (fun v wx => ∃ i : Nat, i ≤ N ∧ v = .int .i64 (i : Int) ∧ Keep (fun _ => False) w6 wx) (fun v _ => N - (intOf v).toNat)
        case atStart => exact ⟨0, by omega, rfl, Keep.refl _ _⟩
        case round =>
          obtain ⟨i, hi, rfl, k7⟩ := hrel
          by_cases hlt : i < N
          · have hci := (show ∀ i, i < N → (cutL s)[i]? = some (pgS s i) from hcs) i hlt
            obtain ⟨g3, o3, ha3, -⟩ := R3.at hci
            subst ha3
            obtain ⟨g6, o6, ha6, -⟩ := R6.rg.at hci
            subst ha6
            have mk3 : ∀ w', Keep (fun _ => False) wr w' → (Instr.loadAt 33 (.pointer (some ⟨g3, o3 + i * 39, none⟩))).run Try.prog w' = .ok (.agg (pgA (pgS s i))) w' := fun w' k => by
              obtain ⟨g', o', e, hc'⟩ := (R3.more (((k4.trans R6.keep).trans k7).trans k)).at hci
              injection e with e
              injection e with e1 e2
              subst e1 e2
              exact pg_load hc'
            have mk6 : ∀ w', Keep (fun _ => False) wr w' → (Instr.loadAt 33 (.pointer (some ⟨g6, o6 + i * 39, none⟩))).run Try.prog w' = .ok (.agg (pgA (pgS s i))) w' := fun w' k => by
              obtain ⟨g', o', e, hc'⟩ := (R6.rg.more (k7.trans k)).at hci
              injection e with e
              injection e with e1 e2
              subst e1 e2
              exact pg_load hc'
            have di : (i : Int) < (N : Int) := by omega
            have dw := wrapI (x := (i : Int) + 1) (by omega) (by omega)
            have hlt' : Hid (i < N) := hlt
            clear hci hlt
            go_upto_region 17 with fail
            refine wp_region_noPanic ?_
            refine wp_region_held_drew (S := fun w' => Keep (fun _ => False) wr w') (by kernel_rfl) ((Keep.refl _ wr).drew) (fun hH0 => ?_)
            refine' wpAnyH_take (i := 0) (oi := { dst := some 93, op := Op.move (Operand.tmp 12), type := 23, pos := "law.go:59", after := #[], guard := none }) (v := _) rfl (by kernel_rfl) (by kernel_rfl) (by kernel_rfl) (fun _ _ _ h => h) (Or.inl ⟨by rfl, ?hya0⟩) hH0 ?ra0
            case hya0 => (intro w' hSw; clear hSw; go_simp; try with_reducible rfl)
            simp only [Act.put, List.setIfInBounds_toArray, List.set_cons_zero, List.set_cons_succ]
            refine' wpAnyH_take (i := 1) (oi := { dst := some 94, op := Op.move (Operand.tmp 15), type := 3, pos := "law.go:59", after := #[], guard := none }) (v := _) rfl (by kernel_rfl) (by kernel_rfl) (by kernel_rfl) (fun _ _ _ h => h) (Or.inl ⟨by rfl, ?hya1⟩) hH0 ?ra1
            case hya1 => (intro w' hSw; clear hSw; go_simp; try with_reducible rfl)
            simp only [Act.put, List.setIfInBounds_toArray, List.set_cons_zero, List.set_cons_succ]
            refine' wpAnyH_take (i := 2) (oi := { dst := some 95, op := Op.indexAddr 23 (Operand.tmp 93) (Operand.tmp 94), type := 0, pos := "law.go:59", after := #[{ on := 0, ground := Ground.data }, { on := 1, ground := Ground.data }], guard := none }) (v := _) rfl (by kernel_rfl) (by kernel_rfl) (by kernel_rfl) (fun _ _ _ h => h) (Or.inl ⟨by rfl, ?hya2⟩) hH0 ?ra2
            case hya2 => (intro w' hSw; clear hSw; go_simp; try with_reducible rfl)
            simp only [Act.put, List.setIfInBounds_toArray, List.set_cons_zero, List.set_cons_succ]
            refine' wpAnyH_take (i := 3) (oi := { dst := some 96, op := Op.load 33 (Operand.tmp 95), type := 33, pos := "law.go:59", after := #[{ on := 2, ground := Ground.data }], guard := none }) (v := .agg (pgA (pgS s i))) rfl (by kernel_rfl) (by kernel_rfl) (by kernel_rfl) (fun _ _ _ h => h) (yields_load (by rfl) 33 (.tmp 95) rfl (by rfl) mk3) hH0 ?ra3
            simp only [Act.put, List.setIfInBounds_toArray, List.set_cons_zero, List.set_cons_succ]
            refine' wpAnyH_take (i := 4) (oi := { dst := some 97, op := Op.move (Operand.tmp 14), type := 23, pos := "law.go:59", after := #[], guard := none }) (v := _) rfl (by kernel_rfl) (by kernel_rfl) (by kernel_rfl) (fun _ _ _ h => h) (Or.inl ⟨by rfl, ?hya4⟩) hH0 ?ra4
            case hya4 => (intro w' hSw; clear hSw; go_simp; try with_reducible rfl)
            simp only [Act.put, List.setIfInBounds_toArray, List.set_cons_zero, List.set_cons_succ]
            refine' wpAnyH_take (i := 5) (oi := { dst := some 98, op := Op.move (Operand.tmp 15), type := 3, pos := "law.go:59", after := #[], guard := none }) (v := _) rfl (by kernel_rfl) (by kernel_rfl) (by kernel_rfl) (fun _ _ _ h => h) (Or.inl ⟨by rfl, ?hya5⟩) hH0 ?ra5
            case hya5 => (intro w' hSw; clear hSw; go_simp; try with_reducible rfl)
            simp only [Act.put, List.setIfInBounds_toArray, List.set_cons_zero, List.set_cons_succ]
            refine' wpAnyH_take (i := 6) (oi := { dst := some 99, op := Op.indexAddr 23 (Operand.tmp 97) (Operand.tmp 98), type := 0, pos := "law.go:59", after := #[{ on := 4, ground := Ground.data }, { on := 5, ground := Ground.data }], guard := none }) (v := _) rfl (by kernel_rfl) (by kernel_rfl) (by kernel_rfl) (fun _ _ _ h => h) (Or.inl ⟨by rfl, ?hya6⟩) hH0 ?ra6
            case hya6 => (intro w' hSw; clear hSw; go_simp; try with_reducible rfl)
            simp only [Act.put, List.setIfInBounds_toArray, List.set_cons_zero, List.set_cons_succ]
            refine' wpAnyH_take (i := 7) (oi := { dst := some 100, op := Op.load 33 (Operand.tmp 99), type := 33, pos := "law.go:59", after := #[{ on := 6, ground := Ground.data }], guard := none }) (v := .agg (pgA (pgS s i))) rfl (by kernel_rfl) (by kernel_rfl) (by kernel_rfl) (fun _ _ _ h => h) (yields_load (by rfl) 33 (.tmp 99) rfl (by rfl) mk6) hH0 ?ra7
            simp only [Act.put, List.setIfInBounds_toArray, List.set_cons_zero, List.set_cons_succ]
            refine' wpAnyH_take (i := 8) (oi := { dst := some 101, op := Op.binOp BinOp.neq 33 (Operand.tmp 96) (Operand.tmp 100) 33, type := 4, pos := "law.go:59", after := #[{ on := 3, ground := Ground.data }, { on := 7, ground := Ground.data }], guard := none }) (v := .bool false) rfl (by kernel_rfl) (by kernel_rfl) (by kernel_rfl) (fun _ _ _ h => h) (yields_neq33 (p := pgS s i) (by rfl) (.tmp 96) (.tmp 100) rfl (by rfl) (by rfl)) hH0 ?ra8
            simp only [Act.put, List.setIfInBounds_toArray, List.set_cons_zero, List.set_cons_succ]
            refine wpAnyH_done (by kernel_rfl) ?_ _
            refine NoPanic.normal ?_
            go_wp2_with fail
            go_roundw
            case rel => exact ⟨i + 1, hlt', by go_num, k7.trans (Keep.refl _ wr).drew⟩
            case measure => have : i < N := hlt'; simp [intOf]; omega
          · obtain rfl : i = N := by omega
            have hj := HJ (R3.more ((k4.trans R6.keep).trans k7)) (cutL_ok hso) (by rw [show (cutL s).length = i from hls']; omega)
            rw [show (cutL s).length = i from hls'] at hj
            go_wp2_with fail
            refine hj.mono ?_
            rintro e w8 ⟨a8, c8, rs, L, rfl, Q8, hsy, hjs, k8⟩
            obtain rfl : L = [s] := join_one hjs (join_cut hso)
            obtain ⟨r, rfl⟩ : ∃ r, rs = [r] := by
              have := hsy.1
              match rs, this with
              | [r], _ => exact ⟨r, rfl⟩
            obtain ⟨e1, e2, e3, hrw⟩ := hsy.2 0 r s rfl rfl
            obtain ⟨g8, o8, ha8, hc8⟩ := Q8.at (i := 0) (r := r) rfl
            subst ha8
            have c80 : w8.cell? ⟨g8, o8, none⟩ = some (.int .i64 s.kind) := by have := hc8 0 (by omega); rw [← e1]; simpa [rwc] using this
            have c81 : w8.cell? ⟨g8, o8 + 1, none⟩ = some (.int .u32 s.ep) := by have := hc8 1 (by omega); rw [← e2]; simpa [rwc] using this
            have c82 : w8.cell? ⟨g8, o8 + 2, none⟩ = some (.int .u32 s.gr) := by have := hc8 2 (by omega); rw [← e3]; simpa [rwc] using this
            have c83 : w8.cell? ⟨g8, o8 + 3, none⟩ = some (.slice r.a r.len r.cap) := by have := hc8 3 (by omega); simpa [rwc] using this
            have K8 := ((K3.trans k4).trans (R6.keep.trans k7)).trans k8
            have hsm := same_yes (k := s.kind) (e := s.ep) (g := s.gr) hrw (hr0.moreV K8)
            have hc81 : (1 : Nat) ≤ c8 := Q8.1
            have hc82 := Q8.2.1
            clear hj HJ hsy hjs hc8 e1 e2 e3 Q8
            go_wp2_with fail
            refine hsm.mono ?_
            rintro e w9 ⟨rfl, k9⟩
            go_wp2_with fail
            go_ret
            exact ⟨rfl, (k0.trans K8).trans k9⟩
    · simp only [if_neg hl] at h3
      obtain ⟨a', c', rfl⟩ := h3
      have dl : (65536 : Int) < (len : Int) := by omega
      go_wp2_with fail
      refine (hp4 _).mono ?_
      rintro e w4 ⟨rfl, k4⟩
      go_wp2_with fail
      refine (hp5 _).mono ?_
      rintro e w5 ⟨rfl, e7⟩
      subst e7
      go_upto_region 7 with fail
      go_cut [54] from 17 to 117 (fun v wx => v = .bool false ∧ wx = w5)
      case first =>
        rcases hk with h | h
        · have g1 : (s.kind != 2) = false := by simp [h]
          clear h
          go_wp2_with fail
          go_meet
          exact ⟨rfl, rfl⟩
        · have g1 : (s.kind != 2) = true := by simp [h]
          have g2 : (s.kind != 3) = false := by simp [h]
          clear h
          go_wp2_with fail
          go_meet
          exact ⟨rfl, rfl⟩
      case rest =>
        obtain ⟨rfl, rfl⟩ := hcut
        go_wp2_with fail
        go_ret
        exact ⟨rfl, k0.trans (K3.trans k4)⟩
  · simp only [if_neg hk] at h3
    obtain ⟨a', c', rfl⟩ := h3
    have g1 : (s.kind != 2) = true := by simp; omega
    have g2 : (s.kind != 3) = true := by simp; omega
    clear hk
    go_wp2_with fail
    refine (hp4 _).mono ?_
    rintro e w4 ⟨rfl, k4⟩
    go_wp2_with fail
    refine (hp5 _).mono ?_
    rintro e w5 ⟨rfl, e7⟩
    subst e7
    go_wp2_with fail
    go_ret
    exact ⟨rfl, k0.trans (K3.trans k4)⟩
end Tg
end Go.Proofs.Ytginnojbmpnleaa
