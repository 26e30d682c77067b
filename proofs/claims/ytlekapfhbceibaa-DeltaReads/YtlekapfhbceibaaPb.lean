/-
  The program's own Record, walked.
-/
import Derived.Test.YtlekapfhbceibaaPa
import Derived.Test.YtlekapfhbceibaaDl
namespace Go.Proofs.Ytlekapfhbceibaa
open Go.ChangeShapes Go.WideShapes Go.ChangeAt Go.RowKit
namespace Tg
open Vi
theorem wpList_store_run {P : Program} {w : World} {ops : Array Oper} {rest : List Oper} {o : Oper} {a : Act} {Q : Exit → Act → World → Prop}
    (hg : o.guard = none) (t : TypeId) (x y : Operand) (hop : o.op = Op.store t x y) {v1 v2 : Value} {w' : World} (hx : a.eval x = v1) (hy : a.eval y = v2) (hrun : (Instr.storeAt t v1 v2).run P w = .ok () w')
    (hK : wpList P ops Q rest (a.put o.dst undef) w') : wpList P ops Q (o :: rest) a w := by
  refine BigFrame.wpList_want (by simp [Region.wanted, hg]) fun K hK' => ?_
  unfold Oper.wp
  simp [execOp, hop, hx, hy, hrun, Result.andThen]
  exact hK' _ _ hK
theorem Gr.other {S : Nat → Prop} {w0 w w' : World} {g cap : Nat} {l : List Int} (h : Gr w0 w g cap l) (k : Keep S w w') (hs : ¬ S g) (h0 : ∀ x, S x → w0.heap.size ≤ x) : Gr w0 w' g cap l :=
  ⟨h.row.keep k (fun b o e => by injection e with e; injection e with e1; rw [← e1]; exact hs), h.free.keep k hs, h.new, h.keep.next k (fun x hx e => by have := h0 x e; omega)⟩
theorem grow3 {w w' : World} {g g' bt bo : Nat} {x : Rn} {L P : Int} (K : Keep (fun b => b = g) w w') (hg' : g' = g ∨ w.heap.size ≤ g') (E : End w bt L P) (T : Tri w bo x) (n1 : g ≠ bt) (n2 : g ≠ bo) : End w' bt L P ∧ Tri w' bo x ∧ g' ≠ bt ∧ g' ≠ bo := by
  have h1 := E.lt
  have h2 := T.lt
  exact ⟨Blk.keep E K (fun e => n1 e.symm), Blk.keep T K (fun e => n2 e.symm), by omega, by omega⟩
/-- bytes.Equal. -/
theorem equal_any {w : World} {a a2 : Option Addr} {n c n2 c2 : Nat} {l l2 : List Int} (h : Row w a n c l) (h2 : Row w a2 n2 c2 l2) :
    Calls Try.prog 28 #[.slice a n c, .slice a2 n2 c2] w fun e w' => e = .returned (.bool ((strOfNums l).toList == (strOfNums l2).toList)) ∧ w' = w := by
  have t1 := h.text
  have t2 := h2.text
  go_enter Try.func28, Try.ntmps28
  go_wp2_with fail
  go_ret
  exact ⟨rfl, rfl⟩
set_option maxHeartbeats 600000 in
/-- canRecord. -/
theorem canrec_any {w : World} {a : Option Addr} {cap : Nat} {l : List Rn} (hR : Rz w a cap l) :
    Calls Try.prog 22 #[.slice a l.length cap] w fun e w' => e = .returned (.bool (mayB l)) ∧ Keep (fun _ => False) w w' := by
  have K0 := Keep.refl (fun _ => False) w
  have hlc := hR.1
  have hlc2 := hR.2.1
  unfold mayB
  by_cases hl : l.length ≤ 512
  · have hl' : ¬ (512 : Int) < (l.length : Int) := by omega
    rw [decide_eq_true hl, Bool.true_and]
    have hB0 : ∃ B, l.all (fun x => decide (MayX x)) = B := ⟨_, rfl⟩
    obtain ⟨B, hB⟩ := hB0
    rw [hB]
    have hB' : Hid (l.all (fun x => decide (MayX x)) = B) := hB
    clear hB
    go_enter Try.func22, Try.ntmps22
    go_wp2_with fail
    go_loopw [10] (fun v wx => ∃ i : Nat, i ≤ l.length ∧ v = .int .i64 (i : Int) ∧ Hid (B = (l.drop i).all (fun x => decide (MayX x))) ∧ Keep (fun _ => False) w wx) (fun v _ => l.length - (intOf v).toNat)
    case atStart => exact ⟨0, by omega, rfl, (show _ = B from hB').symm, K0⟩
    case round =>
      obtain ⟨i, hi, rfl, hI, k1⟩ := hrel
      by_cases hlt : i < l.length
      · obtain ⟨x, hx⟩ := get_rn hlt
        obtain ⟨g, o, rfl, c0, c1, c2⟩ := (hR.more k1).at hx
        have hstep : Hid (B = (decide (MayX x) && (l.drop (i + 1)).all (fun x => decide (MayX x)))) := by
          show _ = _
          rw [show _ = _ from hI, drop_at hx, List.all_cons]
        have di : (i : Int) < (l.length : Int) := by omega
        have dw := wrapI (x := (i : Int) + 1) (by omega) (by omega)
        have hlt' : Hid (i < l.length) := hlt
        clear hI hlt hx
        have p0 := within_any x.lba 0 512
        have p1 := within_any x.len 0 512
        have p2 := within_any x.phys (-1) 1048576
        cases b0 : wiB x.lba 0 512 with
        | false =>
          obtain rfl : B = false := by
            rw [show _ = _ from hstep, decide_eq_false (fun b => by have := wiB_iff.2 ⟨b.1, b.2.1⟩; rw [b0] at this; cases this), Bool.false_and]
          rw [b0] at p0
          clear hstep p1 p2 b0
          go_wp2_with fail
          refine (p0 _).mono ?_
          rintro e w' ⟨rfl, rfl⟩
          go_wp2_with fail
          go_ret
          exact ⟨rfl, k1.alloc _⟩
        | true =>
          have q0 := wiB_iff.1 b0
          rw [b0] at p0
          clear b0
          cases b1 : wiB x.len 0 512 with
          | false =>
            obtain rfl : B = false := by
              rw [show _ = _ from hstep, decide_eq_false (fun b => by have := wiB_iff.2 ⟨b.2.2.1, b.2.2.2.1⟩; rw [b1] at this; cases this), Bool.false_and]
            rw [b1] at p1
            clear hstep p2 b1
            go_wp2_with fail
            refine (p0 _).mono ?_
            rintro e w' ⟨rfl, rfl⟩
            go_wp2_with fail
            refine (p1 _).mono ?_
            rintro e w' ⟨rfl, rfl⟩
            go_wp2_with fail
            go_ret
            exact ⟨rfl, k1.alloc _⟩
          | true =>
            have q1 := wiB_iff.1 b1
            rw [b1] at p1
            clear b1
            cases b2 : wiB x.phys (-1) 1048576 with
            | false =>
              obtain rfl : B = false := by
                rw [show _ = _ from hstep, decide_eq_false (fun b => by have := wiB_iff.2 b.2.2.2.2; rw [b2] at this; cases this), Bool.false_and]
              rw [b2] at p2
              clear hstep b2 q0 q1
              go_wp2_with fail
              refine (p0 _).mono ?_
              rintro e w' ⟨rfl, rfl⟩
              go_wp2_with fail
              refine (p1 _).mono ?_
              rintro e w' ⟨rfl, rfl⟩
              go_wp2_with fail
              refine (p2 _).mono ?_
              rintro e w' ⟨rfl, rfl⟩
              go_wp2_with fail
              go_ret
              exact ⟨rfl, k1.alloc _⟩
            | true =>
              have q2 := wiB_iff.1 b2
              have hI2 : Hid (B = (l.drop (i + 1)).all (fun x => decide (MayX x))) := by
                show _ = _
                rw [show _ = _ from hstep, decide_eq_true ⟨q0.1, q0.2, q1.1, q1.2, q2.1, q2.2⟩, Bool.true_and]
              rw [b2] at p2
              clear hstep b2 q0 q1 q2
              go_wp2_with fail
              refine (p0 _).mono ?_
              rintro e w' ⟨rfl, rfl⟩
              go_wp2_with fail
              refine (p1 _).mono ?_
              rintro e w' ⟨rfl, rfl⟩
              go_wp2_with fail
              refine (p2 _).mono ?_
              rintro e w' ⟨rfl, rfl⟩
              go_wp2_with fail
              go_roundw
              case rel => exact ⟨i + 1, hlt', by go_num, hI2, k1.alloc _⟩
              case measure => have : i < l.length := hlt'; simp [intOf]; omega
      · obtain rfl : i = l.length := by omega
        have hT : Hid (B = true) := by
          show _ = _
          rw [show _ = _ from hI, List.drop_length]; rfl
        obtain rfl : B = true := hT
        clear hI hlt
        go_wp2_with fail
        go_ret
        exact ⟨rfl, k1⟩
  · have hl' : (512 : Int) < (l.length : Int) := by omega
    rw [decide_eq_false hl, Bool.false_and]
    go_enter Try.func22, Try.ntmps22
    go_wp2_with fail
    go_ret
    exact ⟨rfl, K0⟩
set_option maxHeartbeats 800000 in
/-- Record. -/
theorem record_ok : RecordOk := by
  intro w a cap l hR hfi
  have hlc := hR.1
  have hlc2 := hR.2.1
  have hcan := canrec_any hR
  cases hm : mayB l with
  | false =>
    rw [hm] at hcan
    simp only [Bool.false_eq_true, ↓reduceIte]
    go_enter Try.func9, Try.ntmps9
    go_wp2_with fail
    refine hcan.mono ?_
    rintro e w1 ⟨rfl, k1⟩
    go_wp2_with fail
    go_ret2
    exact ⟨⟨_, _, rfl⟩, k1⟩
  | true =>
    rw [hm] at hcan
    have hmay := mayB_iff.1 hm
    have hl5 := hmay.1
    have hm' : Hid (MayL l) := hmay
    clear hm hmay
    simp only [↓reduceIte]
    have hp0 := fun w' => pput_nil (w := w') (v := (l.length : Int)) (by omega)
    have hd0 : Hid (recL l = vb (l.length : Int) ++ recB 0 0 (l.drop 0)) := rfl
    have hn0 : Hid (1 ≤ (vb (l.length : Int)).length ∧ (vb (l.length : Int)).length ≤ 10 + 30 * 0) := ⟨vb_pos _, vb_ten (by omega)⟩
    go_enter Try.func9, Try.ntmps9
    go_wp2_with fail
    refine hcan.mono ?_
    rintro e w1 ⟨rfl, k1⟩
    go_wp2_with fail
    refine (hp0 w1).mono ?_
    rintro e w2 ⟨g1, cap1, rfl, G1⟩
    have hgl := G1.lt hn0.1
    have G2 : Gr w (w2.alloc (.cells #[.int .i64 0, .int .i64 0] 51)) g1 cap1 (vb (l.length : Int)) := ⟨(G1.more ((Keep.refl (fun _ => False) _).alloc _)).row, (G1.more ((Keep.refl (fun _ => False) _).alloc _)).free, Nat.le_trans k1.size G1.new, (k1.trans G1.keep).alloc _⟩
    have E2 := End.new w2 0 0
    have hbt : Hid (w.heap.size ≤ w2.heap.size) := (k1.trans G1.keep).size
    have hne : g1 ≠ w2.heap.size := Nat.ne_of_lt hgl
    clear G1 hp0 hcan k1
    generalize hbx : w2.heap.size = bt at E2 hne hbt
    go_wp2_with fail
    generalize w2.alloc (.cells #[.int .i64 0, .int .i64 0] 51) = w3 at G2 E2
    clear hgl
    go_loopw [4, 16] (fun b v wx => ∃ (i g c n : Nat) (d : List Int) (L P : Int), i ≤ l.length ∧ v = .int .i64 (i : Int) ∧ b = .slice (some ⟨g, 0, none⟩) n c ∧ Gr w wx g c d ∧ End wx bt L P ∧ g ≠ bt ∧ Hid (d.length = n) ∧ Hid (recL l = d ++ recB L P (l.drop i)) ∧ Hid (0 ≤ L ∧ L ≤ 1024 ∧ 0 ≤ P ∧ P ≤ 1049088) ∧ Hid (1 ≤ n ∧ n ≤ 10 + 30 * i)) (fun _ v _ => l.length - (intOf v).toNat)
    case atStart => exact ⟨0, g1, cap1, _, _, 0, 0, by omega, rfl, rfl, G2, E2, hne, rfl, hd0, ⟨by omega, by omega, by omega, by omega⟩, hn0⟩
    case round =>
      clear hd0 hn0 G2 E2 hne
      obtain ⟨i, g, c, n, d, L, P, hi, rfl, rfl, G, E, hne, hdn, hI, hLP, hn⟩ := hrel
      by_cases hlt : i < l.length
      · obtain ⟨x, hx⟩ := get_rn hlt
        obtain ⟨ga, o, rfl, c0, c1, c2⟩ := (hR.more G.keep).at hx
        have hxm : Hid (MayX x) := (show MayL l from hm').2 x (List.mem_of_getElem? hx)
        obtain ⟨y0, y1, y2, y3, y4, y5⟩ := show MayX x from hxm
        obtain ⟨z0, z1, z2, z3⟩ := show _ ∧ _ ∧ _ ∧ _ from hLP
        have hnl : nxL x = x.lba + x.len := wrapI (by omega) (by omega)
        have hnp : nxP P x = phN P x := by
          unfold nxP phN
          by_cases c : x.phys = -1
          · rw [if_pos c, if_pos (by omega)]
          · rw [if_neg c, if_neg (by omega), wrapI (by omega) (by omega)]
        have hstep : Hid (recL l = ((d ++ vb (fold (x.lba - L))) ++ vb x.len ++ vb (fold (dOf P x))) ++ recB (nxL x) (nxP P x) (l.drop (i + 1))) := by
          show _ = _
          rw [show recL l = _ from hI, drop_at hx, recB, hnl, hnp]
          simp only [List.append_assoc]
        have hbnd : Hid (0 ≤ nxL x ∧ nxL x ≤ 1024 ∧ 0 ≤ nxP P x ∧ nxP P x ≤ 1049088) := by
          show _ ∧ _
          rw [hnl, hnp]
          unfold phN
          split <;> omega
        have hdb : Hid (-9223372036854775808 ≤ dOf P x ∧ dOf P x ≤ 9223372036854775807) := by
          show _ ∧ _
          unfold dOf
          split
          · omega
          · split <;> omega
        have di : (i : Int) < (l.length : Int) := by omega
        have dw := wrapI (x := (i : Int) + 1) (by omega) (by omega)
        have f1 := wrapI (x := x.lba - L) (by omega) (by omega)
        have t1 : (vb (fold (x.lba - L))).length ≤ 10 := vb_ten (fold_bd (by omega)).2
        have t2 : (vb x.len).length ≤ 10 := vb_ten (by omega)
        have t3 : (vb (fold (dOf P x))).length ≤ 10 := vb_ten (fold_bd hdb).2
        have hlt' : Hid (i < l.length) := hlt
        obtain ⟨hn1, hn'⟩ := show 1 ≤ n ∧ n ≤ 10 + 30 * i from hn
        have hdn' : d.length = n := hdn
        have hn4 : n + 40 ≤ 100000 := by omega
        have hgl := G.lt (by rw [hdn']; exact hn1)
        have hbl := E.lt
        have Ka := (Keep.refl (fun _ => False) wr).alloc (.cells #[.int .i64 x.lba, .int .i64 x.len, .int .i64 x.phys] 28)
        have Ga := G.more Ka
        have Ea : End _ bt L P := Blk.keep E Ka (fun e => e)
        have Ta := Tri.new wr x
        have hsz : (wr.alloc (.cells #[.int .i64 x.lba, .int .i64 x.len, .int .i64 x.phys] 28)).heap.size = wr.heap.size + 1 := by simp
        have ne1 : g ≠ wr.heap.size := Nat.ne_of_lt hgl
        have ne2 : bt ≠ wr.heap.size := Nat.ne_of_lt hbl
        have q0 := Ea.c0
        have hcall1 := pint_gr Ga hdn' (by omega) (v := x.lba - L) (by omega) (by omega)
        generalize hbo : wr.heap.size = bo at Ta hsz ne1 ne2
        have q1 := Ta.c0
        clear hI hlt hx hn hdn hLP hxm hnl hnp
        have hn'' : Hid (n ≤ 10 + 30 * i) := hn'
        clear hn'
        go_wp2_with fail
        refine hcall1.mono ?_
        rintro e w4 ⟨g4, c4, rfl, G4, K4, h4⟩
        obtain ⟨E4, T4, nb4, no4⟩ := grow3 K4 h4 Ea Ta hne ne1
        have l4 : (d ++ vb (fold (x.lba - L))).length = n + (vb (fold (x.lba - L))).length := by rw [List.length_append, hdn']
        have hg4 := G4.lt (by rw [l4]; omega)
        clear K4 h4 hcall1 Ea Ta Ga Ka q0 q1 c0 c1 c2 E G hbo hsz
        generalize vb (fold (x.lba - L)) = A at G4 l4 t1 hstep
        have q1 := T4.c1
        have hcall2 := pput_gr G4 l4 hg4 (v := x.len) (by omega) (by omega)
        go_wp2_with fail
        refine hcall2.mono ?_
        rintro e w5 ⟨g5, c5, rfl, G5, K5, h5⟩
        obtain ⟨E5, T5, nb5, no5⟩ := grow3 K5 h5 E4 T4 nb4 no4
        have l5 : (d ++ A ++ vb x.len).length = n + A.length + (vb x.len).length := by rw [List.length_append, l4]
        have hg5 := G5.lt (by rw [l5]; omega)
        clear K5 h5 hcall2 E4 T4 G4 q1 l4 hg4 nb4 no4
        generalize vb x.len = B at G5 l5 t2 hstep
        have q0 := E5.c0
        have q1 := E5.c1
        have q2 := T5.c2
        have hcall3 := step_any (lb := L) (ph := P) (v := x.phys) (by omega) (by omega) (x := x) rfl w5
        go_wp2_with fail
        refine hcall3.mono ?_
        rintro e w6 ⟨rfl, k6⟩
        have G6 := G5.more k6
        have E6 : End w6 bt L P := Blk.keep E5 k6 (fun e => e)
        have T6 : Tri w6 bo x := Blk.keep T5 k6 (fun e => e)
        have hg6 : g5 < w6.heap.size := Nat.lt_of_lt_of_le hg5 k6.size
        have hcall4 := pint_gr G6 l5 hg6 (v := dOf P x) hdb (by omega)
        clear q0 q1 q2 G5 E5 T5 hg5 hcall3 k6
        generalize dOf P x = D at hcall4 t3 hstep hdb
        go_wp2_with fail
        refine hcall4.mono ?_
        rintro e w7 ⟨g7, c7, rfl, G7, K7, h7⟩
        obtain ⟨E7, T7, nb7, no7⟩ := grow3 K7 h7 E6 T6 nb5 no5
        have l7 : (d ++ A ++ B ++ vb (fold D)).length = n + A.length + B.length + (vb (fold D)).length := by rw [List.length_append, l5]
        clear K7 h7 hcall4 E6 T6 G6 l5 hg6 nb5 no5 hdb
        generalize vb (fold D) = C at G7 l7 t3 hstep
        have q0 := E7.c0
        have q1 := E7.c1
        have q2 := T7.c0
        have q3 := T7.c1
        have q4 := T7.c2
        have hcall5 := behind_any (lb := L) (ph := P) x w7
        go_wp2_with fail
        refine hcall5.mono ?_
        rintro e w8 ⟨rfl, k8⟩
        obtain ⟨w9, hst, E9, K9⟩ := End.over (Blk.keep E7 k8 (fun e => e) : End w8 bt L P) (nxL x) (nxP P x)
        have G9 := (G7.more k8).other K9 nb7 (fun y e => by rw [e]; exact hbt)
        clear q0 q1 q2 q3 q4 hcall5 E7 T7 G7 no7 K9 k8
        generalize nxL x = L2 at hst E9 hstep hbnd
        generalize nxP P x = P2 at hst E9 hstep hbnd
        go_wp2_with (guard_target =~ wpList _ _ _ (Oper.mk _ (Op.store 51 _ _) _ _ _ _ :: _) _ _; refine wpList_store_run rfl 51 (.tmp 5) (.tmp 39) rfl (by rfl) (by rfl) hst ?_)
        go_roundw
        case rel => exact ⟨i + 1, g7, c7, _, _, L2, P2, hlt', by go_num, rfl, G9, E9, nb7, l7, hstep, hbnd, (by have : n ≤ 10 + 30 * i := hn''; exact ⟨by omega, by omega⟩)⟩
        case measure => have : i < l.length := hlt'; simp [intOf]; omega
      · obtain rfl : i = l.length := by omega
        have hT : Hid (recL l = d) := by
          show _ = _
          rw [show recL l = _ from hI, List.drop_length, recB, List.append_nil]
        clear hI hlt hLP hn
        go_wp2_with fail
        go_ret2
        have hT' : recL l = d := hT
        have hdn' : d.length = n := hdn
        subst hdn'
        exact ⟨⟨_, _, by rw [hT']; rfl, by rw [hT']; exact G.row⟩, G.keep⟩
end Tg
end Go.Proofs.Ytlekapfhbceibaa
