/-
  The document's own Record, walked.
-/
import Derived.Test.YtlekapfhbceibaaDa
namespace Go.Proofs.Ytlekapfhbceibaa
open Go.ChangeShapes Go.WideShapes Go.ChangeAt Go.RowKit
namespace Tg
open Vi
/-- A triple of one's own. -/
def Tri (w : World) (b : Nat) (x : Rn) : Prop := Blk w b 3 (fun k => if k = 0 then .int .i64 x.lba else if k = 1 then .int .i64 x.len else .int .i64 x.phys)
theorem Tri.c0 {w : World} {b : Nat} {x : Rn} (h : Tri w b x) : w.cell? ⟨b, 0, none⟩ = some (.int .i64 x.lba) := (h 0 (by omega)).1
theorem Tri.c1 {w : World} {b : Nat} {x : Rn} (h : Tri w b x) : w.cell? ⟨b, 1, none⟩ = some (.int .i64 x.len) := (h 1 (by omega)).1
theorem Tri.c2 {w : World} {b : Nat} {x : Rn} (h : Tri w b x) : w.cell? ⟨b, 2, none⟩ = some (.int .i64 x.phys) := (h 2 (by omega)).1
theorem Tri.lt {w : World} {b : Nat} {x : Rn} (h : Tri w b x) : b < w.heap.size := Blk.lt (f := _) h (by omega)
theorem Tri.new (w : World) (x : Rn) : Tri (w.alloc (.cells #[.int .i64 x.lba, .int .i64 x.len, .int .i64 x.phys] 28)) w.heap.size x :=
  blk_alloc w #[.int .i64 x.lba, .int .i64 x.len, .int .i64 x.phys] 28 3 _ (by intro k hk; rcases (by omega : k = 0 ∨ k = 1 ∨ k = 2) with rfl | rfl | rfl <;> rfl)
theorem Gr.lt {w0 w : World} {g cap : Nat} {l : List Int} (h : Gr w0 w g cap l) (hl : 1 ≤ l.length) : g < w.heap.size :=
  World.block_lt_of_cell? w _ (h.row.cellAt (i := 0) (by omega))
/-- A row grows by what a call told; a triple stays. -/
theorem growT {w0 w w2 : World} {g c n bx g2 cap2 : Nat} {d A : List Int} {x : Rn} (G : Gr w0 w g c d) (hd : d.length = n) (T : Tri w bx x) (hg : g ≠ bx) (G2 : Gr w w2 g2 cap2 A) (hlen : n + A.length ≤ 140737488355323) :
    ∃ g3 cap3 w3, (Builtin.append_ #[23, 23] 23 #[.slice (some ⟨g, 0, none⟩) n c, .slice (some ⟨g2, 0, none⟩) A.length cap2]).run Try.prog w2 = .ok (.slice (some ⟨g3, 0, none⟩) (n + A.length) cap3) w3 ∧
      Gr w0 w3 g3 cap3 (d ++ A) ∧ (d ++ A).length = n + A.length ∧ Tri w3 bx x ∧ g3 ≠ bx := by
  subst hd
  have H := G.more G2.keep
  obtain ⟨g', cap', w3, hrun, hrow, hk, hg', hf⟩ := append_rows w2 g c d.length d H.row H.free (some ⟨g2, 0, none⟩) A.length cap2 A G2.row hlen
  have hm : (d ++ A).length = d.length + A.length := List.length_append
  have hn := H.new
  have T2 : Tri w2 bx x := Blk.keep T G2.keep (fun e => e)
  refine ⟨g', cap', w3, hrun, ⟨by rw [hm]; exact hrow, hf, ?_, H.keep.next hk (fun x hx e => by omega)⟩, hm, Blk.keep T2 hk (fun e => hg e.symm), ?_⟩
  · rcases hg' with rfl | hg'
    · exact hn
    · have := H.keep.size; omega
  · rcases hg' with rfl | hg'
    · exact hg
    · have := T2.lt; omega
set_option maxHeartbeats 600000 in
theorem record_any {w : World} {a : Option Addr} {cap : Nat} {l : List Rn} (hR : Rz w a cap l) (hm : MayL l) :
    Calls Try.prog 14 #[.slice a l.length cap] w fun e w' => ∃ g c, e = .returned (.slice (some ⟨g, 0, none⟩) (recL l).length c) ∧ Gr w w' g c (recL l) := by
  have hlc := hR.1
  have hlc2 := hR.2.1
  have hl5 := hm.1
  have e1 : IntKind.u64.wrap (l.length : Int) = (l.length : Int) := by rw [IntKind.wrap_u64]; omega
  have hm' : Hid (MayL l) := hm
  clear hm
  go_enter Try.func14, Try.ntmps14
  go_wp2_with fail
  refine (rput_any (l.length : Int) _ ⟨by omega, by omega⟩).mono ?_
  rintro e w1 ⟨g1, cap1, rfl, G1⟩
  go_wp2_with fail
  have hd0 : Hid (recL l = vb (l.length : Int) ++ recB 0 0 (l.drop 0)) := rfl
  have hn0 : Hid (1 ≤ (vb (l.length : Int)).length ∧ (vb (l.length : Int)).length ≤ 10 + 30 * 0) := ⟨vb_pos _, vb_ten (by omega)⟩
  go_loopw [3, 4, 5, 6] (fun b lb ph v wx => ∃ (i g c n : Nat) (d : List Int) (L P : Int), i ≤ l.length ∧ v = .int .i64 (i : Int) ∧ b = .slice (some ⟨g, 0, none⟩) n c ∧ lb = .int .i64 L ∧ ph = .int .i64 P ∧ Gr w wx g c d ∧ Hid (d.length = n) ∧ Hid (recL l = d ++ recB L P (l.drop i)) ∧ Hid (0 ≤ L ∧ L ≤ 1024 ∧ 0 ≤ P ∧ P ≤ 1049088) ∧ Hid (1 ≤ n ∧ n ≤ 10 + 30 * i)) (fun _ _ _ v _ => l.length - (intOf v).toNat)
  case atStart => exact ⟨0, g1, cap1, _, _, 0, 0, by omega, rfl, rfl, rfl, rfl, G1, rfl, hd0, ⟨by omega, by omega, by omega, by omega⟩, hn0⟩
  case round =>
    clear hd0 hn0 G1
    obtain ⟨i, g, c, n, d, L, P, hi, rfl, rfl, rfl, rfl, G, hdn, hI, hLP, hn⟩ := hrel
    by_cases hlt : i < l.length
    · obtain ⟨x, hx⟩ := get_rn hlt
      obtain ⟨ga, o, rfl, c0, c1, c2⟩ := (hR.more G.keep).at hx
      have hxm : Hid (MayX x) := (show MayL l from hm').2 x (List.mem_of_getElem? hx)
      obtain ⟨y0, y1, y2, y3, y4, y5⟩ := show MayX x from hxm
      obtain ⟨z0, z1, z2, z3⟩ := show _ ∧ _ ∧ _ ∧ _ from hLP
      have hstep : Hid (recL l = d ++ (vb (fold (x.lba - L)) ++ (vb x.len ++ (vb (fold (dOf P x)) ++ recB (x.lba + x.len) (phN P x) (l.drop (i + 1)))))) := by
        show _ = _
        rw [show recL l = _ from hI, drop_at hx, recB]
      have di : (i : Int) < (l.length : Int) := by omega
      have dw := wrapI (x := (i : Int) + 1) (by omega) (by omega)
      have f1 := wrapI (x := x.lba - L) (by omega) (by omega)
      have f2 : IntKind.u64.wrap x.len = x.len := by rw [IntKind.wrap_u64]; omega
      have f3 := wrapI (x := x.lba + x.len) (by omega) (by omega)
      have f4 := wrapI (x := x.phys - P) (by omega) (by omega)
      have f5 := wrapI (x := x.phys - P + 1) (by omega) (by omega)
      have f6 := wrapI (x := x.phys + x.len) (by omega) (by omega)
      have p1 := fun w => puts_any (v := x.lba - L) (by omega) w
      have p2 := fun w => rput_any x.len w (by omega)
      have t1 : (vb (fold (x.lba - L))).length ≤ 10 := vb_ten (fold_bd (by omega)).2
      have t2 : (vb x.len).length ≤ 10 := vb_ten (by omega)
      have hlt' : Hid (i < l.length) := hlt
      obtain ⟨hn1, hn'⟩ := show 1 ≤ n ∧ n ≤ 10 + 30 * i from hn
      have hdn' : d.length = n := hdn
      generalize vb (fold (x.lba - L)) = A at p1 t1 hstep
      generalize vb x.len = B at p2 t2 hstep
      have Ga := G.more ((Keep.refl (fun _ => False) wr).alloc (.cells #[.int .i64 x.lba, .int .i64 x.len, .int .i64 x.phys] 28))
      have Ta := Tri.new wr x
      have ga := Nat.ne_of_lt (G.lt (by rw [hdn']; exact hn1))
      clear hI hlt hx hn hdn hLP hxm
      go_wp2_with fail
      refine (p1 _).mono ?_
      rintro e w2 ⟨g2, cap2, rfl, G2⟩
      obtain ⟨g3, cap3, w3, hrun, G3, hd3, T3, ne3⟩ := growT Ga hdn' Ta ga G2 (by omega)
      have q0 := T3.c0
      have q1 := T3.c1
      have q2 := T3.c2
      clear Ga Ta ga G2 p1 c0 c1 c2
      go_wp2_with (at_builtin; refine wpList_append_run rfl (.tmp 23) (.tmp 28) 23 rfl (by rfl) (by rfl) hrun ?_)
      clear hrun
      refine (p2 _).mono ?_
      rintro e w4 ⟨g4, cap4, rfl, G4⟩
      obtain ⟨g5, cap5, w5, hrun, G5, hd5, T5, ne5⟩ := growT G3 hd3 T3 ne3 G4 (by omega)
      have q0 := T5.c0
      have q1 := T5.c1
      have q2 := T5.c2
      clear G3 T3 ne3 G4 p2 
      have hstep2 : ∀ C P2 : _, vb (fold (dOf P x)) = C → phN P x = P2 → Hid (recL l = ((d ++ A) ++ B ++ C) ++ recB (x.lba + x.len) P2 (l.drop (i + 1))) := by
        intro C P2 e1 e2
        show _ = _
        rw [show recL l = _ from hstep, e1, e2]
        simp only [List.append_assoc]
      clear hstep
      have f0 : 0 ≤ x.lba + x.len ∧ x.lba + x.len ≤ 1024 := by omega
      by_cases hneg : x.phys < 0
      · have h3 := hstep2 (vb (fold 0)) P (by rw [dOf, if_pos hneg]) (by rw [phN, if_pos hneg])
        have p3 := fun w => puts_any (v := 0) (by omega) w
        have t3 : (vb (fold 0)).length ≤ 10 := vb_ten (fold_bd (by omega)).2
        generalize vb (fold 0) = C at p3 t3 h3
        clear hstep2
        go_wp2_with (at_builtin; refine wpList_append_run rfl (.tmp 30) (.tmp 34) 23 rfl (by rfl) (by rfl) hrun ?_)
        clear hrun
        refine (p3 _).mono ?_
        rintro e w6 ⟨g6, cap6, rfl, G6⟩
        obtain ⟨g7, cap7, w7, hrun, G7, hd7, T7, ne7⟩ := growT G5 hd5 T5 ne5 G6 (by omega)
        clear G5 T5 ne5 G6 p3
        go_wp2_with (at_builtin; refine wpList_append_run rfl (.tmp 44) (.tmp 45) 23 rfl (by rfl) (by rfl) hrun ?_)
        go_roundw
        case rel => exact ⟨i + 1, g7, cap7, _, _, _, _, hlt', by go_num, rfl, rfl, rfl, G7, hd7, h3, ⟨f0.1, f0.2, z2, z3⟩, ⟨by omega, by omega⟩⟩
        case measure => have : i < l.length := hlt'; simp [intOf]; omega
      · have f7 : 0 ≤ x.phys + x.len ∧ x.phys + x.len ≤ 1049088 := by omega
        by_cases hd : x.phys - P < 0
        · have h3 := hstep2 (vb (fold (x.phys - P))) (x.phys + x.len) (by rw [dOf, if_neg hneg, if_pos hd]) (by rw [phN, if_neg hneg])
          have p3 := fun w => puts_any (v := x.phys - P) (by omega) w
          have t3 : (vb (fold (x.phys - P))).length ≤ 10 := vb_ten (fold_bd (by omega)).2
          generalize vb (fold (x.phys - P)) = C at p3 t3 h3
          have hd' : ¬ 0 ≤ x.phys - P := by omega
          clear hstep2
          go_wp2_with (at_builtin; refine wpList_append_run rfl (.tmp 30) (.tmp 34) 23 rfl (by rfl) (by rfl) hrun ?_)
          clear hrun
          refine (p3 _).mono ?_
          rintro e w6 ⟨g6, cap6, rfl, G6⟩
          obtain ⟨g7, cap7, w7, hrun, G7, hd7, T7, ne7⟩ := growT G5 hd5 T5 ne5 G6 (by omega)
          have q1 := T7.c1
          have q2 := T7.c2
          clear G5 T5 ne5 G6 p3
          go_wp2_with (at_builtin; refine wpList_append_run rfl (.tmp 55) (.tmp 57) 23 rfl (by rfl) (by rfl) hrun ?_)
          go_roundw
          case rel => exact ⟨i + 1, g7, cap7, _, _, _, _, hlt', by go_num, rfl, rfl, rfl, G7, hd7, h3, ⟨f0.1, f0.2, f7.1, f7.2⟩, ⟨by omega, by omega⟩⟩
          case measure => have : i < l.length := hlt'; simp [intOf]; omega
        · have h3 := hstep2 (vb (fold (x.phys - P + 1))) (x.phys + x.len) (by rw [dOf, if_neg hneg, if_neg hd]) (by rw [phN, if_neg hneg])
          have p3 := fun w => puts_any (v := x.phys - P + 1) (by omega) w
          have t3 : (vb (fold (x.phys - P + 1))).length ≤ 10 := vb_ten (fold_bd (by omega)).2
          generalize vb (fold (x.phys - P + 1)) = C at p3 t3 h3
          have hd' : 0 ≤ x.phys - P := by omega
          clear hstep2
          go_wp2_with (at_builtin; refine wpList_append_run rfl (.tmp 30) (.tmp 34) 23 rfl (by rfl) (by rfl) hrun ?_)
          clear hrun
          refine (p3 _).mono ?_
          rintro e w6 ⟨g6, cap6, rfl, G6⟩
          obtain ⟨g7, cap7, w7, hrun, G7, hd7, T7, ne7⟩ := growT G5 hd5 T5 ne5 G6 (by omega)
          have q1 := T7.c1
          have q2 := T7.c2
          clear G5 T5 ne5 G6 p3
          go_wp2_with (at_builtin; refine wpList_append_run rfl (.tmp 55) (.tmp 57) 23 rfl (by rfl) (by rfl) hrun ?_)
          go_roundw
          case rel => exact ⟨i + 1, g7, cap7, _, _, _, _, hlt', by go_num, rfl, rfl, rfl, G7, hd7, h3, ⟨f0.1, f0.2, f7.1, f7.2⟩, ⟨by omega, by omega⟩⟩
          case measure => have : i < l.length := hlt'; simp [intOf]; omega
    · obtain rfl : i = l.length := by omega
      have hT : Hid (recL l = d) := by
        show _ = _
        rw [show recL l = _ from hI, List.drop_length, recB, List.append_nil]
      clear hI hlt hLP hn
      go_wp2_with fail
      go_ret
      have hT' : recL l = d := hT
      have hdn' : d.length = n := hdn
      subst hdn'
      exact ⟨g, c, by rw [hT']; rfl, by rw [hT']; exact G⟩
end Tg
end Go.Proofs.Ytlekapfhbceibaa
