/-
  The program's Join, walked.
-/
import Derived.Test.YtginnojbmpnleaaMj
import Derived.Test.YtginnojbmpnleaaMk
import Derived.Test.YtginnojbmpnleaaMl
namespace Go.Proofs.Ytginnojbmpnleaa
open Go.ChangeShapes Go.WideShapes Go.ChangeAt Go.RowKit
namespace Tg
def lenV : Value → Nat
  | .slice _ n _ => n
  | _ => 0
theorem build_st (k e g : Int) (a : Option Addr) (len cap : Nat) (w : World) : (Instr.buildSlice 37 1 #[(0, .agg #[.int .i64 k, .int .u32 e, .int .u32 g, .slice a len cap])]).run Try.prog w = .ok (.slice (some ⟨w.heap.size, 0, none⟩) 1 1) (w.alloc (.cells #[.int .i64 k, .int .u32 e, .int .u32 g, .slice a len cap] 30)) := by kernel_rfl
theorem wpList_first {P : Program} {w : World} {ops : Array Oper} {rest : List Oper} {o : Oper} {a : Act} {Q : Exit → Act → World → Prop}
    (hw : Region.wanted o (yielded ops a.tmps) = true) (t : TypeId) (x y : Operand) (hop : o.op = Op.slice t x none (some y) none) {v1 v2 v' : Value} (hx : a.eval x = v1) (hy : a.eval y = v2) (hrun : (Instr.sliceAt t v1 none (some v2) none).run P w = .ok v' w)
    (hK : wpList P ops Q rest (a.put o.dst v') w) : wpList P ops Q (o :: rest) a w := by
  refine BigFrame.wpList_want hw fun K hK' => ?_
  unfold Oper.wp
  simp [execOp, hop, hx, hy, hrun, Result.andThen]
  exact hK' _ _ hK
theorem wpList_rest {P : Program} {w : World} {ops : Array Oper} {rest : List Oper} {o : Oper} {a : Act} {Q : Exit → Act → World → Prop}
    (hw : Region.wanted o (yielded ops a.tmps) = true) (t : TypeId) (x y : Operand) (hop : o.op = Op.slice t x (some y) none none) {v1 v2 v' : Value} (hx : a.eval x = v1) (hy : a.eval y = v2) (hrun : (Instr.sliceAt t v1 (some v2) none none).run P w = .ok v' w)
    (hK : wpList P ops Q rest (a.put o.dst v') w) : wpList P ops Q (o :: rest) a w := by
  refine BigFrame.wpList_want hw fun K hK' => ?_
  unfold Oper.wp
  simp [execOp, hop, hx, hy, hrun, Result.andThen]
  exact hK' _ _ hK
/-- The streams' bytes lie apart from the row of streams. -/
def ApJ (wx : World) (ao : Option Addr) (rs : List Raw) : Prop := ∀ r ∈ rs, ∀ x : Addr, r.a = some x → x.block < wx.heap.size ∧ ao ≠ some ⟨x.block, 0, none⟩
set_option maxRecDepth 100000 in
set_option maxHeartbeats 2000000 in
theorem join_ok : JoinOk := by
  intro w a cap l hR hok hl
  have hso := sorted_any hR hl
  have hokk : Hid (∀ q ∈ l, q.Ok) := hok
  clear hok
  obtain ⟨m0, hm0⟩ : ∃ m, m = l.length := ⟨_, rfl⟩
  rw [← hm0] at hso hl ⊢
  have hm0' : Hid (m0 = l.length) := hm0
  clear hm0
  go_enter Try.func13, Try.ntmps13
  go_wp2_with fail
  refine hso.mono ?_
  rintro e w1 ⟨a1, c1, D, rfl, hD, hsD, R1, K1⟩
  have hDm : Hid (∀ p, p ∈ D ↔ p ∈ l ∧ (p.kind = 2 ∨ p.kind = 3)) := fun p => by rw [hD.mem_iff, knL_mem]
  have hDl : Hid (D.length ≤ 100000) := by show _ ≤ _; rw [hD.length_eq]; have := knL_len l; rw [← show m0 = l.length from hm0'] at this; omega
  have hDok : Hid (∀ q ∈ D, q.Ok) := fun q hq => (show ∀ q ∈ l, q.Ok from hokk) q (((show ∀ p, p ∈ D ↔ _ from hDm) q).1 hq).1
  have hDk : Hid (∀ q ∈ D, q.kind = 2 ∨ q.kind = 3) := fun q hq => (((show ∀ p, p ∈ D ↔ _ from hDm) q).1 hq).2
  have hsD' : Hid (Srt D) := hsD
  clear hso hD hsD
  obtain ⟨n1, hn1⟩ : ∃ n1, n1 = D.length := ⟨_, rfl⟩
  rw [← hn1]
  have hn1' : Hid (n1 = (D.drop 0).length) := hn1
  have hDN : Hid (n1 = D.length) := hn1
  clear hn1
  go_wp2_with fail
  go_loopw [3, 4] (fun sv rv wx => ∃ (k nr cr cs ns : Nat) (ar az : Option Addr) (rs : List Raw) (L : List St), k ≤ n1 ∧ rv = .slice ar nr cr ∧ sv = .slice az ns cs ∧ Hid (nr = (D.drop k).length) ∧ Hid (ns = rs.length) ∧ ns ≤ k ∧ Rg w1 ar cr (D.drop k) ∧ RwL w1 wx az cs rs ∧ Says wx rs L ∧ Hid (JoinS (D.take k) L) ∧ Hid (Bound D k) ∧ Hid (ApJ wx az rs)) (fun _ rv _ => lenV rv)
  case atStart => exact ⟨0, n1, c1, 0, 0, a1, none, [], [], by omega, rfl, rfl, hn1', rfl, by omega, R1, RwL.nil w1, Says.nil w1, join_zero, (fun i j h => by omega), (fun r hr => by cases hr)⟩
  case round =>
    clear R1 hn1'
    obtain ⟨k, nr, cr, cs, ns, ar, az, rs, L, hk, rfl, rfl, hnr, hns, hnk, R, W, hS, hJ, hB, hA⟩ := hrel
    have hnr' : nr = n1 - k := by rw [show nr = _ from hnr, List.length_drop, show n1 = D.length from hDN]
    have hlD : n1 ≤ 100000 := by rw [show n1 = D.length from hDN]; exact hDl
    by_cases h0 : 0 < nr
    · have Rx := R.more W.keep
      have hlo := lof_any Rx (by rw [← show nr = _ from hnr]; exact h0) (by rw [← show nr = _ from hnr]; omega)
      rw [← show nr = _ from hnr] at hlo
      have d0 : (0 : Int) < (nr : Int) := by omega
      have hcr := R.1
      rw [← show nr = _ from hnr] at hcr
      have hnrH : Hid (nr = n1 - k) := hnr'
      clear hnr'
      go_upto_region 4 with fail
      go_upto_region 5 with (go_at_call 20; refine hlo.mono ?_; rintro e w3 ⟨n, rfl, hn1, hn2, hsm, hdf, K3⟩)
      have hnr' : nr = n1 - k := hnrH
      obtain ⟨hG, hB2, hkp⟩ := grp_next (n := n) (show Srt D from hsD') (by rw [← show n1 = D.length from hDN]; omega) hn1 (by rw [← show nr = _ from hnr]; exact hn2) hsm (by rw [← show nr = _ from hnr]; exact hdf) (show ∀ q ∈ D, q.Ok from hDok) (show ∀ q ∈ D, q.kind = 2 ∨ q.kind = 3 from hDk) hB
      have hGl : ((D.drop k).take n).length = n := by rw [List.length_take, ← show nr = _ from hnr]; omega
      have Rg3 : Rg w3 ar cr ((D.drop k).take n) := (Rx.more K3).first n
      have hwh := whole_any Rg3 hG.ok hG.up (by omega) (by omega)
      rw [hGl] at hwh
      have hsl1 := fun w' => first_run w' ar (len := nr) (cap := cr) (t := n) (by omega)
      have hsl2 := fun w' => rest_run w' ar (len := nr) (cap := cr) (t := n) hn2
      have hnr2 : Hid (nr - n = (D.drop (k + n)).length) := by show _ = _; rw [List.length_drop, ← show n1 = D.length from hDN]; omega
      have R2 : Rg w1 (cutP ar cr n) (cr - n) (D.drop (k + n)) := by
        have := R.cut (t := n) (by rw [← show nr = _ from hnr]; exact hn2)
        rwa [List.drop_drop] at this
      have htk : D.take (k + n) = D.take k ++ (D.drop k).take n := by rw [List.take_add]
      have hjn := join_next (show JoinS (D.take k) L from hJ) hG hkp
      rw [← htk] at hjn
      have W3 := W.more K3
      have S3 := hS.more K3
      have A3 : ApJ w3 az rs := fun r hr x hx => ⟨Nat.lt_of_lt_of_le ((show ApJ wr az rs from hA) r hr x hx).1 K3.size, ((show ApJ wr az rs from hA) r hr x hx).2⟩
      have hkn : Hid (k + n ≤ n1) := by show _ ≤ _; omega
      have hB2' : Hid (Bound D (k + n)) := hB2
      have hm1 : Hid (nr - n < nr) := by show _ < _; omega
      clear hlo Rx hsm hdf hkp hB hnr hB2 htk W hS hA R hnr'
      by_cases hsay : Says1 ((D.drop k).take n)
      · have hwt := Bl.pos hwh hsay
        obtain ⟨s, hWs, -⟩ := says_whole hG hsay
        have hJ2 : Hid (JoinS (D.take (k + n)) (L ++ [s])) := hjn.1 s hWs
        go_upto_region 6 with (first | (guard_target =~ wpList _ _ _ (Oper.mk _ (Op.slice _ _ _ _ _) _ _ _ _ :: _) _ _; refine wpList_first (by rfl) 23 (.tmp 13) (.tmp 14) rfl (by rfl) (by rfl) (hsl1 _) ?_) | (go_at_call 21; refine hwt.mono ?_; rintro e w4 ⟨rfl, K4⟩))
        have hjd := joined_any (Rg3.more K4) hG hWs (by have : nr = n1 - k := hnrH; rw [hGl]; omega)
        rw [hGl] at hjd
        clear hwt hwh hG hjn hJ hGl Rg3 hsay
        go_upto_region 7 with (first | (guard_target =~ wpList _ _ _ (Oper.mk _ (Op.slice _ _ _ _ _) _ _ _ _ :: _) _ _; refine wpList_first (by rfl) 23 (.tmp 18) (.tmp 19) rfl (by rfl) (by rfl) (hsl1 _) ?_) | (go_at_call 22; refine hjd.mono ?_; rintro e w5 ⟨b, rfl, hb1, hb2, hrow, K5⟩; (obtain ⟨a6, c6, w6, hap, W6, K6, h6⟩ := ((W3.more K4).more K5).app1 (by rw [← show ns = rs.length from hns]; omega) ⟨s.kind, s.ep, s.gr, some ⟨b, 0, none⟩, s.bytes.length, s.bytes.length⟩); rw [← show ns = rs.length from hns] at hap; have hbd := build_st s.kind s.ep s.gr (some ⟨b, 0, none⟩) s.bytes.length s.bytes.length w5) | (guard_target =~ wpList _ _ _ (Oper.mk _ (Op.buildSlice _ _ _) _ _ _ _ :: _) _ _; refine wpList_build_run (by rfl) 37 1 (.tmp 21) rfl (by rfl) hbd ?_) | (at_builtin; refine wpList_append_run rfl (.tmp 17) (.tmp 22) 37 rfl (by rfl) (by rfl) hap ?_))
        have W4 := W3.more K4
        have S5 := (S3.more K4).more K5
        have hsz4 := K4.size
        have hsz5 := K5.size
        have hsz6 := K6.size
        have hazb : ∀ g, az = some ⟨g, 0, none⟩ → g < w4.heap.size := fun g e => (W4.block e).2
        have S6 : Says w6 (rs ++ [⟨s.kind, s.ep, s.gr, some ⟨b, 0, none⟩, s.bytes.length, s.bytes.length⟩]) (L ++ [s]) := by
          refine Says.snoc (S5.keep K6 (fun r hr x hx e => (A3 r hr x hx).2 e)) rfl rfl rfl (hrow.keep K6 (fun b' o' e e2 => ?_))
          injection e with e
          injection e with e
          have := hazb _ e2
          omega
        have A6 : Hid (ApJ w6 a6 (rs ++ [⟨s.kind, s.ep, s.gr, some ⟨b, 0, none⟩, s.bytes.length, s.bytes.length⟩])) := by
          intro r hr x hx
          have key : x.block < w5.heap.size ∧ az ≠ some ⟨x.block, 0, none⟩ := by
            rcases List.mem_append.1 hr with h | h
            · exact ⟨by have := (A3 r h x hx).1; omega, (A3 r h x hx).2⟩
            · obtain rfl := List.mem_singleton.1 h
              simp only [Option.some.injEq] at hx
              subst hx
              exact ⟨hb2, fun e => by have := hazb _ e; simp only at this; omega⟩
          refine ⟨by omega, ?_⟩
          rcases h6 with rfl | ⟨g6, rfl, hg6⟩
          · exact key.2
          · intro e
            injection e with e
            injection e with e
            have := key.1
            omega
        have hns2 : Hid (ns + 1 = (rs ++ [(⟨s.kind, s.ep, s.gr, some ⟨b, 0, none⟩, s.bytes.length, s.bytes.length⟩ : Raw)]).length) := by show _ = _; rw [List.length_append, ← show ns = rs.length from hns]; rfl
        have hnk2 : Hid (ns + 1 ≤ k + n) := by show _ ≤ _; omega
        clear hap hbd hjd W3 W4 S3 S5 A3 hns hrow K6 h6 hazb hsz4 hsz5 hsz6 hb1 hb2
        go_wp2_with (guard_target =~ wpList _ _ _ (Oper.mk _ (Op.slice _ _ _ _ _) _ _ _ _ :: _) _ _; refine wpList_rest (by rfl) 23 (.tmp 24) (.tmp 25) rfl (by rfl) (by rfl) (hsl2 _) ?_)
        go_roundw
        case rel => exact ⟨k + n, nr - n, cr - n, c6, ns + 1, cutP ar cr n, a6, _, _, hkn, rfl, rfl, hnr2, hns2, hnk2, R2, W6, S6, hJ2, hB2', A6⟩
        case measure => exact hm1
      · have hwt := Bl.neg hwh hsay
        have hJ2 : Hid (JoinS (D.take (k + n)) L) := hjn.2 hsay
        have hnk2 : Hid (ns ≤ k + n) := by show _ ≤ _; omega
        clear hwh hG hjn hJ hGl Rg3 hsay
        go_wp2_with (first | (guard_target =~ wpList _ _ _ (Oper.mk _ (Op.slice _ _ _ _ _) _ _ _ _ :: _) _ _; first | refine wpList_first (by rfl) 23 (.tmp 13) (.tmp 14) rfl (by rfl) (by rfl) (hsl1 _) ?_ | refine wpList_rest (by rfl) 23 (.tmp 24) (.tmp 25) rfl (by rfl) (by rfl) (hsl2 _) ?_) | (go_at_call 21; refine hwt.mono ?_; rintro e w4 ⟨rfl, K4⟩))
        have A4 : Hid (ApJ w4 az rs) := fun r hr x hx => ⟨Nat.lt_of_lt_of_le (A3 r hr x hx).1 K4.size, (A3 r hr x hx).2⟩
        go_roundw
        case rel => exact ⟨k + n, nr - n, cr - n, cs, ns, cutP ar cr n, az, rs, L, hkn, rfl, rfl, hnr2, hns, hnk2, R2, W3.more K4, S3.more K4, hJ2, hB2', A4⟩
        case measure => exact hm1
    · have hkD : D.take k = D := List.take_of_length_le (by rw [← show n1 = D.length from hDN]; omega)
      rw [hkD] at hJ
      have hJl : Hid (JoinS l L) := join_known (show ∀ p, p ∈ D ↔ _ from hDm) hJ
      have d0 : ¬ (0 : Int) < (nr : Int) := by omega
      clear hnr' hkD
      go_wp2_with fail
      go_ret
      exact ⟨az, cs, rs, by rw [← show ns = rs.length from hns]; rfl, W.rs, L, hS, hJl, K1.trans W.keep⟩
end Tg
end Go.Proofs.Ytginnojbmpnleaa
