/-
  Erase of the document's own flash does what the mathematics says: any block, under any cut and failure.
-/
import Derived.Test.YtjafjofonckaaaaRefFill
namespace Go.Proofs.Ytjafjofonckaaaa
open Go.ChangeShapes Go.WideShapes Go.ChangeAt Go.RowKit
namespace Nd

theorem rerase_no {w : World} {l : Pl} {s : Fl} {x n : Int} (h : RM w l s x) (hb : n < 0 ∨ s.B ≤ n) :
    Calls Try.prog 19 #[.pointer (some ⟨l.p, 0, none⟩), .int .i64 n] w fun e w' => e = .returned (.int .i64 1) ∧ w' = w := by
  obtain ⟨t0, t1, t2, t3, t4, t5, t6, t7, t8⟩ := h.tops
  by_cases h0 : n < 0
  · go_enter Try.func19, Try.ntmps19
    go_wp2_with fail
    go_ret
    exact ⟨rfl, rfl⟩
  · have h1 : (s.B : Int) ≤ n := by omega
    go_enter Try.func19, Try.ntmps19
    go_wp2_with fail
    go_ret
    exact ⟨rfl, rfl⟩

theorem RM.begin {w : World} {l : Pl} {s : Fl} {x : Int} (h : RM w l s x) (b : Nat) : RM (w.setCell ⟨l.p, 11, none⟩ (.int .i64 ((s.erases : Int) + 1))) l (s.begin b) x :=
  (h.setErases (s.erases + 1)).alike (fun y => if y = b then s.wear y + 1 else s.wear y) s.cut

theorem Cuts.same {s t : Fl} {x : Int} (h : Cuts s x) (ho : t.on = s.on) (hc : t.cut = s.cut) : Cuts t x := ⟨fun e => by rw [hc]; exact h.1 (by rw [← ho]; exact e), h.2⟩

set_option maxHeartbeats 1000000 in
theorem rerase_any {w : World} {l : Pl} {s : Fl} {x : Int} {N : Nat} (h : RM w l s x) (hx : Cuts s x) (ok : s.Ok N) (hN : N ≤ 1000000) {b : Nat} (hb : b < s.B) :
    Calls Try.prog 19 #[.pointer (some ⟨l.p, 0, none⟩), .int .i64 b] w fun e w' => e = .returned (.int .i64 ((s.erase b).1 : Nat)) ∧ ∃ y, RM w' l (s.erase b).2 y ∧ Cuts (s.erase b).2 y ∧ Keep l.own w w' := by
  obtain ⟨t0, t1, t2, t3, t4, t5, t6, t7, t8⟩ := h.tops
  obtain ⟨t9, t10, t11⟩ := h.stats
  have f11 := h.free 11 (by omega)
  have hb1 : w.cell? ⟨l.b, b, none⟩ = some (.bool (s.bad b)) := (h.bad b hb).1
  have hb2 : w.frozen? ⟨l.b, b, none⟩ = false := (h.bad b hb).2
  have c0 : ¬ (b : Int) < 0 := by omega
  have c1 : ¬ (s.B : Int) ≤ b := by omega
  have c1' : (b : Int) < s.B := by omega
  have c3 : s.erases ≤ 1000000 := Nat.le_trans ok.erases hN
  cases e1 : s.on
  · have HX : Hid (s.erase b = (7, s)) := by show _ = _; unfold Fl.erase; rw [if_pos e1]
    rw [e1] at t8
    go_enter Try.func19, Try.ntmps19
    go_wp2_with fail
    go_ret
    rw [HX.out]
    exact ⟨rfl, x, h, hx, Keep.refl _ _⟩
  · rw [e1] at t8
    cases e2 : s.bad b
    · rw [e2] at hb1
      have HX0 : Hid (s.erase b = s.era b) := by show _ = _; unfold Fl.erase; rw [if_neg (by simp [e1]), if_neg (by simp [e2])]
      have hm1 := h.begin b
      have hk1 := rkp (Keep.refl l.own w) 11 (.int .i64 ((s.erases : Int) + 1))
      have hx1 : Cuts (s.begin b) x := hx.same rfl rfl
      go_enter Try.func19, Try.ntmps19
      go_wp2_with fail
      clear t0 t1 t2 t3 t4 t5 t6 t7 t8 t9 t10 t11 hb1 hb2 f11 h
      generalize w.setCell ⟨l.p, 11, none⟩ (.int .i64 ((s.erases : Int) + 1)) = w2 at hm1 hk1 ⊢
      have ok1 := ok.begin b
      have hfb : (s.begin b).failB = s.failB := rfl
      refine (rfails_any hm1 ok1.fail).mono ?_
      rintro e w3 ⟨rfl, hm3, hk3⟩
      have hk3 := hk1.trans hk3
      clear hk1 hm1
      have ok3 := ok1.failed
      have ho3 : (s.begin b).failed.on = true := by rw [Fl.failed_on]; exact e1
      have hx3 : Cuts (s.begin b).failed x := hx1.same (Fl.failed_on _) (Fl.failed_cut _)
      have HB : Hid ((s.begin b).failed.B = s.B) := by show _ = _; rw [Fl.failed_B]; rfl
      have hst := rstep_any hm3 ho3 hx3
      have HX : Hid (s.era b = if (s.begin b).failed.stepOk then (if (s.begin b).failB then (6, ((s.begin b).failed.step.leave b true).setBad b) else if ((s.begin b).failed.step.leave b true).stepOk then (0, (((s.begin b).failed.step.leave b true).step.leave b false)) else (7, ((s.begin b).failed.step.leave b true).step)) else (7, (s.begin b).failed.step)) := rfl
      rw [hfb] at HX ⊢
      clear hm3 hfb ok1 ok hx1
      generalize (s.begin b).failed = u at HX HB hst ho3 ok3 hx3
      cases e6 : u.stepOk
      · rw [e6] at hst
        have HX' : Hid (s.erase b = (7, u.step)) := by show _ = _; rw [HX0.out, HX.out, e6]; rfl
        clear e6 HX HX0
        go_wp2_with fail
        refine hst.mono ?_
        rintro e w4 ⟨y4, rfl, hm4, hx4, hk4⟩
        go_wp2_with fail
        go_ret
        rw [HX'.out]
        exact ⟨rfl, y4, hm4, hx4, hk3.trans hk4⟩
      · rw [e6] at hst
        have ho4 := Fl.step_on e6 ho3
        have ok4 := ok3.step
        have hb4 : b < u.step.B := by rw [Fl.step_B, HB.out]; exact hb
        cases e7 : s.failB
        · cases e8 : (u.step.leave b true).stepOk
          · have HX' : Hid (s.erase b = (7, (u.step.leave b true).step)) := by show _ = _; rw [HX0.out, HX.out, e6, e7, e8]; rfl
            clear HX HX0
            go_wp2_with fail
            refine hst.mono ?_
            rintro e w4 ⟨y4, rfl, hm4, hx4, hk4⟩
            go_wp2_with fail
            refine (rfill_any hm4 ok4 hb4 0 true rfl rfl).mono ?_
            rintro e w5 ⟨rfl, hm5, hk5⟩
            have hs5 := rstep_any hm5 ho4 (hx4.same rfl rfl)
            rw [e8] at hs5
            clear e6 e7 e8
            go_wp2_with fail
            refine hs5.mono ?_
            rintro e w6 ⟨y6, rfl, hm6, hx6, hk6⟩
            go_wp2_with fail
            go_ret
            rw [HX'.out]
            exact ⟨rfl, y6, hm6, hx6, ((hk3.trans hk4).trans hk5).trans hk6⟩
          · have HX' : Hid (s.erase b = (0, (u.step.leave b true).step.leave b false)) := by show _ = _; rw [HX0.out, HX.out, e6, e7, e8]; rfl
            clear HX HX0
            go_wp2_with fail
            refine hst.mono ?_
            rintro e w4 ⟨y4, rfl, hm4, hx4, hk4⟩
            go_wp2_with fail
            refine (rfill_any hm4 ok4 hb4 0 true rfl rfl).mono ?_
            rintro e w5 ⟨rfl, hm5, hk5⟩
            have hs5 := rstep_any hm5 ho4 (hx4.same rfl rfl)
            rw [e8] at hs5
            clear e6 e7 e8
            go_wp2_with fail
            refine hs5.mono ?_
            rintro e w6 ⟨y6, rfl, hm6, hx6, hk6⟩
            go_wp2_with fail
            refine (rfill_any hm6 (ok4.leave b true).step (by rw [Fl.step_B]; exact hb4) 255 false rfl rfl).mono ?_
            rintro e w7 ⟨rfl, hm7, hk7⟩
            go_wp2_with fail
            go_ret
            rw [HX'.out]
            exact ⟨rfl, y6, hm7, hx6.same rfl rfl, (((hk3.trans hk4).trans hk5).trans hk6).trans hk7⟩
        · have HX' : Hid (s.erase b = (6, (u.step.leave b true).setBad b)) := by show _ = _; rw [HX0.out, HX.out, e6, e7]; rfl
          clear e6 HX HX0
          go_wp2_with fail
          refine hst.mono ?_
          rintro e w4 ⟨y4, rfl, hm4, hx4, hk4⟩
          go_wp2_with fail
          refine (rfill_any hm4 ok4 hb4 0 true rfl rfl).mono ?_
          rintro e w5 ⟨rfl, hm5, hk5⟩
          obtain ⟨q0, q1, q2, q3, q4, q5, q6, q7, q8⟩ := hm5.tops
          obtain ⟨qb1, qb2⟩ := hm5.bad b hb4
          have c5 : (b : Int) < (u.step.leave b true).B := by show (b : Int) < u.step.B; omega
          have hm6 := hm5.setBad b true
          clear hm5 hm4
          go_wp2_with fail
          go_ret
          rw [HX'.out]
          exact ⟨rfl, y4, hm6, hx4.same rfl rfl, rkb ((hk3.trans hk4).trans hk5) _ _⟩
    · rw [e2] at hb1
      have HX : Hid (s.erase b = (6, s)) := by show _ = _; unfold Fl.erase; rw [if_neg (by simp [e1]), if_pos e2]
      go_enter Try.func19, Try.ntmps19
      go_wp2_with fail
      go_ret
      rw [HX.out]
      exact ⟨rfl, x, h, hx, Keep.refl _ _⟩
end Nd
end Go.Proofs.Ytjafjofonckaaaa
