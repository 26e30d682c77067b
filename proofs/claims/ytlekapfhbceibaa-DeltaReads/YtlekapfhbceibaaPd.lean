/-
  The program's own Snapshot, walked: the bytes.
-/
import Derived.Test.YtlekapfhbceibaaPc
namespace Go.Proofs.Ytlekapfhbceibaa
open Go.ChangeShapes Go.WideShapes Go.ChangeAt Go.RowKit
namespace Tg
open Vi
/-- Runs from a place on lie behind an end. -/
def Sv (L P : Int) (l : List Rn) : Prop := Form l ∧ (∀ x ∈ l, L ≤ x.lba ∧ x.fin ≤ 512 ∧ x.phys ≤ 1048576) ∧ 0 ≤ L ∧ 0 ≤ P ∧ P ≤ 1049088
theorem Sv.start {l : List Rn} (h : FitL l) : Sv 0 0 l := ⟨h.2.1, fun x hx => ⟨by have := h.2.1.1 x hx; unfold Rn.Ok at this; omega, h.2.2 x hx⟩, by omega, by omega, by omega⟩
theorem Sv.step {L P : Int} {x : Rn} {l : List Rn} (h : Sv L P (x :: l)) : (0 ≤ x.lba ∧ L ≤ x.lba ∧ 0 ≤ L ∧ 1 ≤ x.len ∧ x.lba + x.len ≤ 512 ∧ 0 ≤ x.phys ∧ x.phys ≤ 1048576 ∧ 0 ≤ P ∧ P ≤ 1049088) ∧ Sv (x.lba + x.len) (x.phys + x.len) l := by
  obtain ⟨h1, h2, h3, h4, h5⟩ := h
  obtain ⟨a1, a2, a3⟩ := Form.cons.1 h1
  have b := h2 x (by simp)
  unfold Rn.Ok at a1
  unfold Rn.fin at b
  refine ⟨by omega, a3, fun y hy => ⟨?_, (h2 y (by simp [hy])).2⟩, by omega, by omega, by omega⟩
  have := (a2 y hy).1
  unfold Rn.fin at this
  exact this
set_option maxHeartbeats 800000 in
/-- Snapshot. -/
theorem snap_ok : SnapOk := by
  intro w a cap l hR hfi
  have hlc := hR.1
  have hlc2 := hR.2.1
  have hcan := cansn_any hR hfi
  cases hm : fitB l with
  | false =>
    rw [hm] at hcan
    simp only [Bool.false_eq_true, ↓reduceIte]
    go_enter Try.func20, Try.ntmps20
    go_wp2_with fail
    refine hcan.mono ?_
    rintro e w1 ⟨rfl, k1⟩
    go_wp2_with fail
    go_ret2
    exact ⟨⟨_, _, rfl⟩, k1⟩
  | true =>
    rw [hm] at hcan
    have hfit := fitB_iff.1 hm
    have hl5 := hfit.1
    have hS0 : Hid (Sv 0 0 (l.drop 0)) := Sv.start hfit
    clear hm hfit hfi
    simp only [↓reduceIte]
    have hp0 := fun w' => pput_nil (w := w') (v := (l.length : Int)) (by omega)
    have hd0 : Hid (snL l = vb (l.length : Int) ++ snB 0 0 (l.drop 0)) := rfl
    have hn0 : Hid (1 ≤ (vb (l.length : Int)).length ∧ (vb (l.length : Int)).length ≤ 10 + 30 * 0) := ⟨vb_pos _, vb_ten (by omega)⟩
    go_enter Try.func20, Try.ntmps20
    go_wp2_with fail
    refine hcan.mono ?_
    rintro e w1 ⟨rfl, k1⟩
    go_wp2_with fail
    refine (hp0 w1).mono ?_
    rintro e w2 ⟨g1, cap1, rfl, G1⟩
    have hgl := G1.lt hn0.1
    have G2 : Gr w (w2.alloc (.cells #[.int .i64 0, .int .i64 0] 51)) g1 cap1 (vb (l.length : Int)) := ⟨(G1.more ((Keep.refl (fun _ => False) _).alloc _)).row, (G1.more ((Keep.refl (fun _ => False) _).alloc _)).free, Nat.le_trans k1.size G1.new, (k1.trans G1.keep).alloc _⟩
    have E2 := End.new w2 0 0
    have hbt : Hid (w.heap.size ≤ w2.heap.size) := (k1.trans G1.keep).size
    have hne : g1 ≠ w2.heap.size := Nat.ne_of_lt hgl
    clear G1 hp0 hcan k1
    generalize hbx : w2.heap.size = bt at E2 hne hbt
    go_wp2_with fail
    generalize w2.alloc (.cells #[.int .i64 0, .int .i64 0] 51) = w3 at G2 E2
    clear hgl
    go_loopw [4, 16] (fun b v wx => ∃ (i g c n : Nat) (d : List Int) (L P : Int), i ≤ l.length ∧ v = .int .i64 (i : Int) ∧ b = .slice (some ⟨g, 0, none⟩) n c ∧ Gr w wx g c d ∧ End wx bt L P ∧ g ≠ bt ∧ Hid (d.length = n) ∧ Hid (snL l = d ++ snB L P (l.drop i)) ∧ Hid (Sv L P (l.drop i)) ∧ Hid (1 ≤ n ∧ n ≤ 10 + 30 * i)) (fun _ v _ => l.length - (intOf v).toNat)
    case atStart => exact ⟨0, g1, cap1, _, _, 0, 0, by omega, rfl, rfl, G2, E2, hne, rfl, hd0, hS0, hn0⟩
    case round =>
      clear hd0 hn0 G2 E2 hne hS0
      obtain ⟨i, g, c, n, d, L, P, hi, rfl, rfl, G, E, hne, hdn, hI, hSv, hn⟩ := hrel
      by_cases hlt : i < l.length
      · obtain ⟨x, hx⟩ := get_rn hlt
        obtain ⟨ga, o, rfl, c0, c1, c2⟩ := (hR.more G.keep).at hx
        obtain ⟨⟨y0, y1, y2, y3, y4, y5, y6, y7, y8⟩, hsv2⟩ := (drop_at hx ▸ (show Sv L P (l.drop i) from hSv) : Sv L P (x :: l.drop (i + 1))).step
        have hnl : nxL x = x.lba + x.len := wrapI (by omega) (by omega)
        have hnp : nxP P x = x.phys + x.len := by
          unfold nxP
          rw [if_neg (by omega), wrapI (by omega) (by omega)]
        have hstep : Hid (snL l = ((d ++ vb (x.lba - L)) ++ vb (x.len - 1) ++ vb (fold (x.phys - P))) ++ snB (nxL x) (nxP P x) (l.drop (i + 1))) := by
          show _ = _
          rw [show snL l = _ from hI, drop_at hx, snB, hnl, hnp]
          simp only [List.append_assoc]
        have hSv2 : Hid (Sv (nxL x) (nxP P x) (l.drop (i + 1))) := by rw [hnl, hnp]; exact hsv2
        have di : (i : Int) < (l.length : Int) := by omega
        have dw := wrapI (x := (i : Int) + 1) (by omega) (by omega)
        have f1 := wrapI (x := x.lba - L) (by omega) (by omega)
        have f2 := wrapI (x := x.len - 1) (by omega) (by omega)
        have f3 := wrapI (x := x.phys - P) (by omega) (by omega)
        have t1 : (vb (x.lba - L)).length ≤ 10 := vb_ten (by omega)
        have t2 : (vb (x.len - 1)).length ≤ 10 := vb_ten (by omega)
        have t3 : (vb (fold (x.phys - P))).length ≤ 10 := vb_ten (fold_bd (by omega)).2
        have hlt' : Hid (i < l.length) := hlt
        obtain ⟨hn1, hn'⟩ := show 1 ≤ n ∧ n ≤ 10 + 30 * i from hn
        have hdn' : d.length = n := hdn
        have hn4 : n + 40 ≤ 100000 := by omega
        have hgl := G.lt (by rw [hdn']; exact hn1)
        have hbl := E.lt
        have Ka := (Keep.refl (fun _ => False) wr).alloc (.cells #[.int .i64 x.lba, .int .i64 x.len, .int .i64 x.phys] 45)
        have Ga := G.more Ka
        have Ea : End _ bt L P := Blk.keep E Ka (fun e => e)
        have Ta : Tri (wr.alloc (.cells #[.int .i64 x.lba, .int .i64 x.len, .int .i64 x.phys] 45)) wr.heap.size x := blk_alloc wr #[.int .i64 x.lba, .int .i64 x.len, .int .i64 x.phys] 45 3 _ (by intro k hk; rcases (by omega : k = 0 ∨ k = 1 ∨ k = 2) with rfl | rfl | rfl <;> rfl)
        have hsz : (wr.alloc (.cells #[.int .i64 x.lba, .int .i64 x.len, .int .i64 x.phys] 45)).heap.size = wr.heap.size + 1 := by simp
        have ne1 : g ≠ wr.heap.size := Nat.ne_of_lt hgl
        have ne2 : bt ≠ wr.heap.size := Nat.ne_of_lt hbl
        have q0 := Ea.c0
        have hcall1 := pput_gr Ga hdn' (by omega) (v := x.lba - L) (by omega) (by omega)
        generalize hbo : wr.heap.size = bo at Ta hsz ne1 ne2
        have q1 := Ta.c0
        clear hI hlt hx hn hdn hSv hsv2 hnl hnp
        have hn'' : Hid (n ≤ 10 + 30 * i) := hn'
        clear hn'
        go_wp2_with fail
        refine hcall1.mono ?_
        rintro e w4 ⟨g4, c4, rfl, G4, K4, h4⟩
        obtain ⟨E4, T4, nb4, no4⟩ := grow3 K4 h4 Ea Ta hne ne1
        have l4 : (d ++ vb (x.lba - L)).length = n + (vb (x.lba - L)).length := by rw [List.length_append, hdn']
        have hg4 := G4.lt (by rw [l4]; omega)
        clear K4 h4 hcall1 Ea Ta Ga Ka q0 q1 c0 c1 c2 E G hbo hsz
        generalize vb (x.lba - L) = A at G4 l4 t1 hstep
        have q1 := T4.c1
        have hcall2 := pput_gr G4 l4 hg4 (v := x.len - 1) (by omega) (by omega)
        go_wp2_with fail
        refine hcall2.mono ?_
        rintro e w5 ⟨g5, c5, rfl, G5, K5, h5⟩
        obtain ⟨E5, T5, nb5, no5⟩ := grow3 K5 h5 E4 T4 nb4 no4
        have l5 : (d ++ A ++ vb (x.len - 1)).length = n + A.length + (vb (x.len - 1)).length := by rw [List.length_append, l4]
        have hg5 := G5.lt (by rw [l5]; omega)
        clear K5 h5 hcall2 E4 T4 G4 q1 l4 hg4 nb4 no4
        generalize vb (x.len - 1) = B at G5 l5 t2 hstep
        have q1 := E5.c1
        have q2 := T5.c2
        have hcall4 := pint_gr G5 l5 hg5 (v := x.phys - P) (by omega) (by omega)
        go_wp2_with fail
        refine hcall4.mono ?_
        rintro e w7 ⟨g7, c7, rfl, G7, K7, h7⟩
        obtain ⟨E7, T7, nb7, no7⟩ := grow3 K7 h7 E5 T5 nb5 no5
        have l7 : (d ++ A ++ B ++ vb (fold (x.phys - P))).length = n + A.length + B.length + (vb (fold (x.phys - P))).length := by rw [List.length_append, l5]
        clear K7 h7 hcall4 E5 T5 G5 l5 hg5 nb5 no5 q1 q2
        generalize vb (fold (x.phys - P)) = C at G7 l7 t3 hstep
        have q0 := E7.c0
        have q1 := E7.c1
        have q2 := T7.c0
        have q3 := T7.c1
        have q4 := T7.c2
        have hcall5 := behind_any (lb := L) (ph := P) x w7
        go_wp2_with fail
        refine hcall5.mono ?_
        rintro e w8 ⟨rfl, k8⟩
        obtain ⟨w9, hst, E9, K9⟩ := End.over (Blk.keep E7 k8 (fun e => e) : End w8 bt L P) (nxL x) (nxP P x)
        have G9 := (G7.more k8).other K9 nb7 (fun y e => by rw [e]; exact hbt)
        clear q0 q1 q2 q3 q4 hcall5 E7 T7 G7 no7 K9 k8
        generalize nxL x = L2 at hst E9 hstep hSv2
        generalize nxP P x = P2 at hst E9 hstep hSv2
        go_wp2_with (guard_target =~ wpList _ _ _ (Oper.mk _ (Op.store 51 _ _) _ _ _ _ :: _) _ _; refine wpList_store_run rfl 51 (.tmp 5) (.tmp 41) rfl (by rfl) (by rfl) hst ?_)
        go_roundw
        case rel => exact ⟨i + 1, g7, c7, _, _, L2, P2, hlt', by go_num, rfl, G9, E9, nb7, l7, hstep, hSv2, (by have : n ≤ 10 + 30 * i := hn''; exact ⟨by omega, by omega⟩)⟩
        case measure => have : i < l.length := hlt'; simp [intOf]; omega
      · obtain rfl : i = l.length := by omega
        have hT : Hid (snL l = d) := by
          show _ = _
          rw [show snL l = _ from hI, List.drop_length, snB, List.append_nil]
        clear hI hlt hSv hn
        go_wp2_with fail
        go_ret2
        have hT' : snL l = d := hT
        have hdn' : d.length = n := hdn
        subst hdn'
        exact ⟨⟨_, _, by rw [hT']; rfl, by rw [hT']; exact G.row⟩, G.keep⟩
end Tg
end Go.Proofs.Ytlekapfhbceibaa
