/-
  What Erase, Read and the copying of bytes answer and do: any flash, any block and page, under any cut and failure.
-/
import Derived.Test.YtjafjofonckaaaaWalkC
import Derived.Test.YtjafjofonckaaaaRoom
import Derived.BigQuiet
import Derived.Lib.SliceRun
import Derived.Deep.RegionLaw
import Derived.BigRegion
namespace Go.Proofs.Ytjafjofonckaaaa
open Go.ChangeShapes Go.WideShapes Go.ChangeAt Go.RowKit
namespace Nd

set_option maxHeartbeats 1000000 in
theorem erase_go {w : World} {p c k N : Nat} {s : Fl} (h : Mem w p c k s) (ok : s.Ok N) (hN : N ≤ 1000000) {b : Nat} (hb : b < s.B) (e1 : s.on = true) (e2 : s.bad b = false) :
    Calls Try.prog 13 #[.pointer (some ⟨p, 0, none⟩), .int .i64 b] w fun e w' => e = .returned (.int .i64 ((s.era b).1 : Nat)) ∧ Mem w' p c k (s.era b).2 ∧ Keep (Own p c k) w w' := by
  have H := has_yes h hb
  have HR := refuses_ok h hb e1 e2
  obtain ⟨t0, t1, t2, t3, t4, t5⟩ := h.tops
  obtain ⟨b0, b1, b2, b3, g0, g1, g2, g3⟩ := h.at hb
  obtain ⟨t6, t7, t8⟩ := h.stats
  have f8 := h.free 8 (by omega)
  have c0 : (b : Int) < s.B := by omega
  have c3 : s.erases ≤ 1000000 := Nat.le_trans ok.erases hN
  have c4 : s.wear b ≤ 1000000 := Nat.le_trans (ok.wear b) hN
  have hpk := h.pk
  have hm1 := h.begin b
  have hk1 : Keep (Own p c k) w ((w.setCell ⟨p, 8, none⟩ (.int .i64 ((s.erases : Int) + 1))).setCell ⟨k, b * 4 + 3, none⟩ (.int .i64 ((s.wear b : Int) + 1))) := ((Keep.refl _ _).p _ _).k _ _
  have hk0 : ¬ k = p := fun e => hpk e.symm
  go_enter Try.func13, Try.ntmps13
  go_wp2_with fail
  refine H.mono ?_
  rintro e w1 ⟨rfl, rfl⟩
  go_wp2_with fail
  refine HR.mono ?_
  rintro e w1 ⟨rfl, rfl⟩
  go_wp2_with fail
  clear H HR t0 t1 t2 t3 t4 t5 b0 b1 b2 b3 g0 g1 g2 g3 t6 t7 t8 f8 h
  generalize ((w1.setCell ⟨p, 8, none⟩ (.int .i64 ((s.erases : Int) + 1))).setCell ⟨k, b * 4 + 3, none⟩ (.int .i64 ((s.wear b : Int) + 1))) = w2 at hm1 hk1 ⊢
  have ok1 := ok.begin b
  have hfb : (s.begin b).failB = s.failB := rfl
  refine (fails_any hm1 ok1.fail).mono ?_
  rintro e w3 ⟨rfl, hm3, hk3⟩
  have hk3 := hk1.trans hk3
  clear hk1 hm1
  have ok3 := ok1.failed
  have ho3 : (s.begin b).failed.on = true := by rw [Fl.failed_on]; exact e1
  have HB : Hid ((s.begin b).failed.B = s.B) := by show _ = _; rw [Fl.failed_B]; rfl
  have hst := step_any hm3 ho3 ok3.cut
  have HX : Hid (s.era b = if (s.begin b).failed.stepOk then (if (s.begin b).failB then (6, ((s.begin b).failed.step.leave b true).setBad b) else if ((s.begin b).failed.step.leave b true).stepOk then (0, (((s.begin b).failed.step.leave b true).step.leave b false)) else (7, ((s.begin b).failed.step.leave b true).step)) else (7, (s.begin b).failed.step)) := rfl
  rw [hfb] at HX ⊢
  clear hm3 hfb ok1 ok
  generalize (s.begin b).failed = u at HX HB hst ho3 ok3
  cases e6 : u.stepOk
  · rw [e6] at hst
    have HX' : Hid (s.era b = (7, u.step)) := by show _ = _; rw [HX.out, e6]; rfl
    clear e6 HX
    go_wp2_with fail
    refine hst.mono ?_
    rintro e w4 ⟨rfl, hm4, hk4⟩
    go_wp2_with fail
    go_ret
    rw [HX'.out]
    exact ⟨rfl, hm4, hk3.trans hk4⟩
  · rw [e6] at hst
    have ho4 := Fl.step_on e6 ho3
    have ok4 := ok3.step
    have hb4 : b < u.step.B := by rw [Fl.step_B, HB.out]; exact hb
    cases e7 : s.failB
    · cases e8 : (u.step.leave b true).stepOk
      · have HX' : Hid (s.era b = (7, (u.step.leave b true).step)) := by show _ = _; rw [HX.out, e6, e7, e8]; rfl
        clear HX
        go_wp2_with fail
        refine hst.mono ?_
        rintro e w4 ⟨rfl, hm4, hk4⟩
        go_wp2_with fail
        refine (leave_any hm4 ok4 hb4 true).mono ?_
        rintro e w5 ⟨rfl, hm5, hk5⟩
        have hs5 := step_any hm5 ho4 (ok4.leave b true).cut
        rw [e8] at hs5
        clear e6 e7 e8
        go_wp2_with fail
        refine hs5.mono ?_
        rintro e w6 ⟨rfl, hm6, hk6⟩
        go_wp2_with fail
        go_ret
        rw [HX'.out]
        exact ⟨rfl, hm6, ((hk3.trans hk4).trans hk5).trans hk6⟩
      · have HX' : Hid (s.era b = (0, (u.step.leave b true).step.leave b false)) := by show _ = _; rw [HX.out, e6, e7, e8]; rfl
        clear HX
        go_wp2_with fail
        refine hst.mono ?_
        rintro e w4 ⟨rfl, hm4, hk4⟩
        go_wp2_with fail
        refine (leave_any hm4 ok4 hb4 true).mono ?_
        rintro e w5 ⟨rfl, hm5, hk5⟩
        have hs5 := step_any hm5 ho4 (ok4.leave b true).cut
        rw [e8] at hs5
        clear e6 e7 e8
        go_wp2_with fail
        refine hs5.mono ?_
        rintro e w6 ⟨rfl, hm6, hk6⟩
        go_wp2_with fail
        refine (leave_any hm6 (ok4.leave b true).step (by rw [Fl.step_B]; exact hb4) false).mono ?_
        rintro e w7 ⟨rfl, hm7, hk7⟩
        go_wp2_with fail
        go_ret
        rw [HX'.out]
        exact ⟨rfl, hm7, (((hk3.trans hk4).trans hk5).trans hk6).trans hk7⟩
    · have HX' : Hid (s.era b = (6, (u.step.leave b true).setBad b)) := by show _ = _; rw [HX.out, e6, e7]; rfl
      clear e6 HX
      go_wp2_with fail
      refine hst.mono ?_
      rintro e w4 ⟨rfl, hm4, hk4⟩
      go_wp2_with fail
      refine (leave_any hm4 ok4 hb4 true).mono ?_
      rintro e w5 ⟨rfl, hm5, hk5⟩
      obtain ⟨b0, b1, b2', b3, g0, g1, g2, g3⟩ := hm5.at (b := b) hb4
      have hm6 := hm5.setBad b true
      clear hm5
      go_wp2_with fail
      go_ret
      rw [HX'.out]
      exact ⟨rfl, hm6, ((hk3.trans hk4).trans hk5).k _ _⟩

theorem erase_any {w : World} {p c k N : Nat} {s : Fl} (h : Mem w p c k s) (ok : s.Ok N) (hN : N ≤ 1000000) {b : Nat} (hb : b < s.B) :
    Calls Try.prog 13 #[.pointer (some ⟨p, 0, none⟩), .int .i64 b] w fun e w' => e = .returned (.int .i64 ((s.erase b).1 : Nat)) ∧ Mem w' p c k (s.erase b).2 ∧ Keep (Own p c k) w w' := by
  unfold Fl.erase
  cases e1 : s.on
  · refine (erase_refused h hb 7 (by omega) (refuses_off h hb e1)).mono ?_
    rintro e w' ⟨rfl, rfl⟩
    exact ⟨rfl, h, Keep.refl _ _⟩
  · simp only [Bool.true_eq_false, if_false]
    cases e2 : s.bad b
    · simp only [Bool.false_eq_true, if_false]
      exact erase_go h ok hN hb e1 e2
    · refine (erase_refused h hb 6 (by omega) (refuses_bad h hb e1 e2)).mono ?_
      rintro e w' ⟨rfl, rfl⟩
      exact ⟨rfl, h, Keep.refl _ _⟩

theorem Keep.next {S T : Nat → Prop} {a b c : World} (h : Keep S a b) (k : Keep T b c) (e : ∀ x, x < a.heap.size → T x → S x) : Keep S a c :=
  ⟨k.os.trans h.os, k.tape.trans h.tape, k.output.trans h.output, Nat.le_trans h.size k.size, fun i hi hs => (k.block i (Nat.lt_of_lt_of_le hi h.size) (fun t => hs (e i hi t))).trans (h.block i hi hs)⟩

/-- A copy of bytes. -/
theorem clone_any {w : World} {b N : Nat} {d : Nat → Int} (h : Blk w b N (fun i => .int .u8 (d i))) (hd : ∀ i, 0 ≤ d i ∧ d i ≤ 255) (o n cap : Nat) (hn : o + n ≤ N) (hn0 : 0 < n) (hN : N ≤ 139264) (hc : n ≤ cap) (hm : cap ≤ 9223372036854775807) :
    Calls Try.prog 41 #[.slice (some ⟨b, o, none⟩) n cap] w fun e w' => ∃ g cap', e = .returned (.slice (some ⟨g, 0, none⟩) n cap') ∧ w.heap.size ≤ g ∧ Row w' (some ⟨g, 0, none⟩) n cap' (tab n fun i => d (o + i)) ∧ Free w' g cap' ∧ Keep (fun _ => False) w w' := by
  have hl := h.lt (by omega)
  obtain ⟨g', cap', w2, hrun, hrow, hk, hg, hf⟩ := append_rows (w.alloc (.cells #[] 5)) w.heap.size 0 0 [] ⟨rfl, by omega, by omega, by simp, Or.inl rfl⟩ (fun i hi => by omega) (some ⟨b, o, none⟩) n cap (tab n fun i => d (o + i)) ((h.alloc _).row hd o n cap hn hc hm) (by omega)
  have hk2 : Keep (fun _ => False) w w2 := ((Keep.refl _ _).alloc _).next hk (fun x hx e => by omega)
  have hg2 : w.heap.size ≤ g' := by (rcases hg with rfl | hg); (omega); (simp at hg; omega)
  rw [Nat.zero_add] at hrun hrow
  rw [List.nil_append] at hrow
  clear hg hk
  have hq : ∀ w, (binOp .eql 28 (.slice (some ⟨b, o, none⟩) n cap) (.slice none 0 0)).run Try.prog w = .ok (.bool false) w := fun w => Lib.run_eql_slice_nil w 28 5 _ _ _ _ _ Try.underlying28
  go_enter Try.func41, Try.ntmps41
  go_wp2_with (refine wpList_append_run rfl (.tmp 5) (.tmp 6) 28 rfl (by rfl) (by rfl) hrun ?_)
  go_ret
  exact ⟨g', cap', rfl, hg2, hrow, hf, hk2⟩
theorem marks_any {w : World} (bd tn : Bool) (nx wr : Int) :
    Calls Try.prog 47 #[.agg #[.bool bd, .bool tn, .int .i64 nx, .int .i64 wr]] w fun e w' => e = .returned (.int .u8 ((if bd then 1 else 0) + (if tn then 2 else 0))) ∧ w' = w.alloc (.cells #[.bool bd, .bool tn, .int .i64 nx, .int .i64 wr] 71) := by
  cases bd <;> cases tn
  all_goals
    go_enter Try.func47, Try.ntmps47
    go_wp2_with fail
    go_ret
    exact ⟨rfl, rfl⟩

theorem read_no {w : World} {p c k N : Nat} {s : Fl} {n : Int} (h : Mem w p c k s) (ok : s.Ok N) (hb : n < 0 ∨ (s.B * s.P : Nat) ≤ n) :
    Calls Try.prog 15 #[.pointer (some ⟨p, 0, none⟩), .int .i64 n] w fun e w' => e = .returned (.tuple #[.slice none 0 0, .int .i64 1]) ∧ Mem w' p c k s ∧ Keep (fun _ => False) w w' := by
  have H := page_no h ok.b2 ok.p2 hb
  go_enter Try.func15, Try.ntmps15
  go_wp2_with fail
  refine H.mono ?_
  rintro e w1 ⟨rfl, hm, hk⟩
  go_wp2_with fail
  go_ret2
  exact ⟨rfl, hm, hk⟩
theorem read_off {w : World} {p c k N : Nat} {s : Fl} {pg : Nat} (h : Mem w p c k s) (ok : s.Ok N) (hb : pg < s.B * s.P) (e1 : s.on = false) :
    Calls Try.prog 15 #[.pointer (some ⟨p, 0, none⟩), .int .i64 pg] w fun e w' => e = .returned (.tuple #[.slice none 0 0, .int .i64 7]) ∧ Mem w' p c k s ∧ Keep (fun _ => False) w w' := by
  have H := page_yes h ok.b2 ok.p2 hb
  go_enter Try.func15, Try.ntmps15
  go_wp2_with fail
  refine H.mono ?_
  rintro e w1 ⟨rfl, hm, hk⟩
  obtain ⟨t0, t1, t2, t3, t4, t5⟩ := hm.tops
  rw [e1] at t3
  go_wp2_with fail
  go_ret2
  exact ⟨rfl, hm, hk⟩
theorem read_any {w : World} {p c k N : Nat} {s : Fl} {pg : Nat} (h : Mem w p c k s) (ok : s.Ok N) (hN : N ≤ 1000000) (hb : pg < s.B * s.P) (e1 : s.on = true) :
    Calls Try.prog 15 #[.pointer (some ⟨p, 0, none⟩), .int .i64 pg] w fun e w' => ∃ g cap, e = .returned (.tuple #[.slice (some ⟨g, 0, none⟩) 68 cap, .int .i64 0]) ∧ w.heap.size ≤ g ∧
      Row w' (some ⟨g, 0, none⟩) 68 cap (tab 68 fun i => s.cell (pg * 68 + i)) ∧ Free w' g cap ∧ Mem w' p c k s.readOne ∧ Keep (Own p c k) w w' := by
  have H := page_yes h ok.b2 ok.p2 hb
  have hm0 : s.B * s.P ≤ 64 * 32 := Nat.mul_le_mul ok.b2 ok.p2
  have c3 : s.reads ≤ 1000000 := Nat.le_trans ok.reads hN
  go_enter Try.func15, Try.ntmps15
  go_wp2_with fail
  refine H.mono ?_
  rintro e w1 ⟨rfl, hm, hk⟩
  obtain ⟨t0, t1, t2, t3, t4, t5⟩ := hm.tops
  obtain ⟨t6, t7, t8⟩ := hm.stats
  have f6 := hm.free 6 (by omega)
  rw [e1] at t3
  have hm2 := hm.readOne
  have hk2 : Keep (Own p c k) w (w1.setCell ⟨p, 6, none⟩ (.int .i64 ((s.reads : Int) + 1))) := (hk.none (S := Own p c k)).p _ _
  have hcel := hm2.cel
  have hN2 : s.B * s.P * 68 ≤ 139264 := by omega
  have hpl : pg * 68 + 68 ≤ s.B * s.P * 68 := by omega
  have hne : ¬ s.B * s.P * 68 = pg * 68 := by omega
  have HC := clone_any hcel ok.cell (pg * 68) 68 (s.B * s.P * 68 - pg * 68) hpl (by omega) hN2 (by omega) (by omega)
  have hsz := hk.size
  clear hm hk H hcel
  generalize s.B * s.P * 68 = M at *
  have c1 : (pg : Int) * 68 ≤ ((pg : Int) + 1) * 68 := by omega
  have c2 : ((pg : Int) + 1) * 68 ≤ M := by omega
  have c4 : (((pg : Int) + 1) * 68).toNat = pg * 68 + 68 := by omega
  have c5 : pg * 68 + 68 - pg * 68 = 68 := by omega
  go_wp2_with fail
  refine HC.mono ?_
  rintro e w2 ⟨g, cap, rfl, hg, hrow, hf, hk3⟩
  have hk4 := hk2.trans hk3.none
  have hm3 := hm2.keep hk3 (fun e => e) (fun e => e) (fun e => e)
  clear HC t0 t1 t2 t3 t4 t5 t6 t7 t8
  go_wp2_with fail
  go_ret2
  refine ⟨g, cap, rfl, ?_, hrow, hf, hm3, hk4⟩
  simp at hg
  omega
end Nd
end Go.Proofs.Ytjafjofonckaaaa
