/-
  The document's own Snapshot and Fits, walked.
-/
import Derived.Test.YtlekapfhbceibaaDb
namespace Go.Proofs.Ytlekapfhbceibaa
open Go.ChangeShapes Go.WideShapes Go.ChangeAt Go.RowKit
namespace Tg
open Vi
theorem Tri.newR (w : World) (x : Rn) : Tri (w.alloc (.cells #[.int .i64 x.lba, .int .i64 x.len, .int .i64 x.phys] 45)) w.heap.size x :=
  blk_alloc w #[.int .i64 x.lba, .int .i64 x.len, .int .i64 x.phys] 45 3 _ (by intro k hk; rcases (by omega : k = 0 ∨ k = 1 ∨ k = 2) with rfl | rfl | rfl <;> rfl)
set_option maxHeartbeats 600000 in
theorem snapshot_any {w : World} {a : Option Addr} {cap : Nat} {l : List Rn} (hR : Rz w a cap l) (hm : FitL l) :
    Calls Try.prog 18 #[.slice a l.length cap] w fun e w' => ∃ g c, e = .returned (.slice (some ⟨g, 0, none⟩) (snL l).length c) ∧ Gr w w' g c (snL l) := by
  have hlc := hR.1
  have hlc2 := hR.2.1
  have hl5 := hm.1
  have e1 : IntKind.u64.wrap (l.length : Int) = (l.length : Int) := by rw [IntKind.wrap_u64]; omega
  have hm' : Hid (FitL l) := hm
  have hF0 : Hid (Form (l.drop 0) ∧ ∀ y ∈ l.drop 0, 0 ≤ y.lba) := ⟨hm.2.1, fun y hy => (hm.2.1.1 y hy).1⟩
  clear hm
  go_enter Try.func18, Try.ntmps18
  go_wp2_with fail
  refine (rput_any (l.length : Int) _ ⟨by omega, by omega⟩).mono ?_
  rintro e w1 ⟨g1, cap1, rfl, G1⟩
  go_wp2_with fail
  have hd0 : Hid (snL l = vb (l.length : Int) ++ snB 0 0 (l.drop 0)) := rfl
  have hn0 : Hid (1 ≤ (vb (l.length : Int)).length ∧ (vb (l.length : Int)).length ≤ 10 + 30 * 0) := ⟨vb_pos _, vb_ten (by omega)⟩
  go_loopw [3, 4, 5, 6] (fun b lb ph v wx => ∃ (i g c n : Nat) (d : List Int) (L P : Int), i ≤ l.length ∧ v = .int .i64 (i : Int) ∧ b = .slice (some ⟨g, 0, none⟩) n c ∧ lb = .int .i64 L ∧ ph = .int .i64 P ∧ Gr w wx g c d ∧ Hid (d.length = n) ∧ Hid (snL l = d ++ snB L P (l.drop i)) ∧ Hid (0 ≤ L ∧ L ≤ 1024 ∧ 0 ≤ P ∧ P ≤ 1049088) ∧ Hid (1 ≤ n ∧ n ≤ 10 + 30 * i) ∧ Hid (Form (l.drop i) ∧ ∀ y ∈ l.drop i, L ≤ y.lba)) (fun _ _ _ v _ => l.length - (intOf v).toNat)
  case atStart => exact ⟨0, g1, cap1, _, _, 0, 0, by omega, rfl, rfl, rfl, rfl, G1, rfl, hd0, ⟨by omega, by omega, by omega, by omega⟩, hn0, hF0⟩
  case round =>
    clear hd0 hn0 G1 hF0
    obtain ⟨i, g, c, n, d, L, P, hi, rfl, rfl, rfl, rfl, G, hdn, hI, hLP, hn, hF⟩ := hrel
    by_cases hlt : i < l.length
    · obtain ⟨x, hx⟩ := get_rn hlt
      obtain ⟨ga, o, rfl, c0, c1, c2⟩ := (hR.more G.keep).at hx
      obtain ⟨hF1, hF2⟩ := show Form (l.drop i) ∧ ∀ y ∈ l.drop i, L ≤ y.lba from hF
      rw [drop_at hx] at hF1 hF2
      obtain ⟨k1, k2, k3⟩ := Form.cons.1 hF1
      have hF3 : Hid (Form (l.drop (i + 1)) ∧ ∀ y ∈ l.drop (i + 1), x.lba + x.len ≤ y.lba) := ⟨k3, fun y hy => by have := (k2 y hy).1; unfold Rn.fin at this; exact this⟩
      have y6 := hF2 x (by simp)
      obtain ⟨y7, y5⟩ := (show FitL l from hm').2.2 x (List.mem_of_getElem? hx)
      unfold Rn.fin at y7
      unfold Rn.Ok at k1
      obtain ⟨y0, y2, y4⟩ := k1
      obtain ⟨z0, z1, z2, z3⟩ := show _ ∧ _ ∧ _ ∧ _ from hLP
      have hstep : Hid (snL l = (d ++ vb (x.lba - L) ++ vb (x.len - 1) ++ vb (fold (x.phys - P))) ++ snB (x.lba + x.len) (x.phys + x.len) (l.drop (i + 1))) := by
        show _ = _
        rw [show snL l = _ from hI, drop_at hx, snB]
        simp only [List.append_assoc]
      have di : (i : Int) < (l.length : Int) := by omega
      have dw := wrapI (x := (i : Int) + 1) (by omega) (by omega)
      have f1 := wrapI (x := x.lba - L) (by omega) (by omega)
      have f1' : IntKind.u64.wrap (x.lba - L) = x.lba - L := by rw [IntKind.wrap_u64]; omega
      have f2 := wrapI (x := x.len - 1) (by omega) (by omega)
      have f2' : IntKind.u64.wrap (x.len - 1) = x.len - 1 := by rw [IntKind.wrap_u64]; omega
      have f3 := wrapI (x := x.lba + x.len) (by omega) (by omega)
      have f4 := wrapI (x := x.phys - P) (by omega) (by omega)
      have f6 := wrapI (x := x.phys + x.len) (by omega) (by omega)
      have p1 := fun w => rput_any (x.lba - L) w (by omega)
      have p2 := fun w => rput_any (x.len - 1) w (by omega)
      have p3 := fun w => puts_any (v := x.phys - P) (by omega) w
      have t1 : (vb (x.lba - L)).length ≤ 10 := vb_ten (by omega)
      have t2 : (vb (x.len - 1)).length ≤ 10 := vb_ten (by omega)
      have t3 : (vb (fold (x.phys - P))).length ≤ 10 := vb_ten (fold_bd (by omega)).2
      have hlt' : Hid (i < l.length) := hlt
      obtain ⟨hn1, hn'⟩ := show 1 ≤ n ∧ n ≤ 10 + 30 * i from hn
      have hdn' : d.length = n := hdn
      generalize vb (x.lba - L) = A at p1 t1 hstep
      generalize vb (x.len - 1) = B at p2 t2 hstep
      generalize vb (fold (x.phys - P)) = C at p3 t3 hstep
      have Ga := G.more ((Keep.refl (fun _ => False) wr).alloc (.cells #[.int .i64 x.lba, .int .i64 x.len, .int .i64 x.phys] 45))
      have Ta := Tri.newR wr x
      have ga := Nat.ne_of_lt (G.lt (by rw [hdn']; exact hn1))
      have f0 : 0 ≤ x.lba + x.len ∧ x.lba + x.len ≤ 1024 := by omega
      have f7 : 0 ≤ x.phys + x.len ∧ x.phys + x.len ≤ 1049088 := by omega
      clear hI hlt hx hn hdn hLP hF hF1 hF2 k2 k3
      go_wp2_with fail
      refine (p1 _).mono ?_
      rintro e w2 ⟨g2, cap2, rfl, G2⟩
      obtain ⟨g3, cap3, w3, hrun, G3, hd3, T3, ne3⟩ := growT Ga hdn' Ta ga G2 (by omega)
      have q0 := T3.c0
      have q1 := T3.c1
      have q2 := T3.c2
      clear Ga Ta ga G2 p1 c0 c1 c2
      go_wp2_with (at_builtin; refine wpList_append_run rfl (.tmp 22) (.tmp 28) 23 rfl (by rfl) (by rfl) hrun ?_)
      clear hrun
      refine (p2 _).mono ?_
      rintro e w4 ⟨g4, cap4, rfl, G4⟩
      obtain ⟨g5, cap5, w5, hrun, G5, hd5, T5, ne5⟩ := growT G3 hd3 T3 ne3 G4 (by omega)
      have q0 := T5.c0
      have q1 := T5.c1
      have q2 := T5.c2
      clear G3 T3 ne3 G4 p2
      go_wp2_with (at_builtin; refine wpList_append_run rfl (.tmp 30) (.tmp 35) 23 rfl (by rfl) (by rfl) hrun ?_)
      clear hrun
      refine (p3 _).mono ?_
      rintro e w6 ⟨g6, cap6, rfl, G6⟩
      obtain ⟨g7, cap7, w7, hrun, G7, hd7, T7, ne7⟩ := growT G5 hd5 T5 ne5 G6 (by omega)
      have q0 := T7.c0
      have q1 := T7.c1
      have q2 := T7.c2
      clear G5 T5 ne5 G6 p3
      go_wp2_with (at_builtin; refine wpList_append_run rfl (.tmp 37) (.tmp 42) 23 rfl (by rfl) (by rfl) hrun ?_)
      go_roundw
      case rel => exact ⟨i + 1, g7, cap7, _, _, _, _, hlt', by go_num, rfl, rfl, rfl, G7, hd7, hstep, ⟨f0.1, f0.2, f7.1, f7.2⟩, ⟨by omega, by omega⟩, hF3⟩
      case measure => have : i < l.length := hlt'; simp [intOf]; omega
    · obtain rfl : i = l.length := by omega
      have hT : Hid (snL l = d) := by
        show _ = _
        rw [show snL l = _ from hI, List.drop_length, snB, List.append_nil]
      clear hI hlt hLP hn hF
      go_wp2_with fail
      go_ret
      have hT' : snL l = d := hT
      have hdn' : d.length = n := hdn
      subst hdn'
      exact ⟨g, c, by rw [hT']; rfl, by rw [hT']; exact G⟩
end Tg
end Go.Proofs.Ytlekapfhbceibaa
