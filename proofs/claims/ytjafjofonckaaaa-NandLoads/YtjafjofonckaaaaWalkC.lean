/-
  What Program and a refused Erase answer and do: any flash, any page, under any cut and failure.
-/
import Derived.Test.YtjafjofonckaaaaWalkB
import Derived.BigQuiet
import Derived.BigRegion
namespace Go.Proofs.Ytjafjofonckaaaa
open Go.ChangeShapes Go.WideShapes Go.ChangeAt Go.RowKit
namespace Nd

theorem refuses_off {w : World} {p c k : Nat} {s : Fl} (h : Mem w p c k s) {b : Nat} (hb : b < s.B) (e : s.on = false) :
    Calls Try.prog 35 #[.pointer (some ⟨p, 0, none⟩), .pointer (some ⟨k, b * 4, none⟩)] w fun e w' => e = .returned (.int .i64 7) ∧ w' = w := by
  have := refuses_any h hb; rwa [if_pos e] at this
theorem refuses_bad {w : World} {p c k : Nat} {s : Fl} (h : Mem w p c k s) {b : Nat} (hb : b < s.B) (e : s.on = true) (e2 : s.bad b = true) :
    Calls Try.prog 35 #[.pointer (some ⟨p, 0, none⟩), .pointer (some ⟨k, b * 4, none⟩)] w fun e w' => e = .returned (.int .i64 6) ∧ w' = w := by
  have := refuses_any h hb; rwa [if_neg (by simp [e]), if_pos e2] at this
theorem refuses_ok {w : World} {p c k : Nat} {s : Fl} (h : Mem w p c k s) {b : Nat} (hb : b < s.B) (e : s.on = true) (e2 : s.bad b = false) :
    Calls Try.prog 35 #[.pointer (some ⟨p, 0, none⟩), .pointer (some ⟨k, b * 4, none⟩)] w fun e w' => e = .returned (.int .i64 0) ∧ w' = w := by
  have := refuses_any h hb; rwa [if_neg (by simp [e]), if_neg (by simp [e2])] at this

theorem Keep.none {S : Nat → Prop} {w w' : World} (h : Keep (fun _ => False) w w') : Keep S w w' := h.mono (fun _ _ e => e.elim)

theorem program_no {w : World} {p c k N len cap : Nat} {a : Option Addr} {s : Fl} {n : Int} (h : Mem w p c k s) (ok : s.Ok N) (hb : n < 0 ∨ (s.B * s.P : Nat) ≤ n ∨ len ≠ 68) :
    Calls Try.prog 10 #[.pointer (some ⟨p, 0, none⟩), .int .i64 n, .slice a len cap] w fun e w' => e = .returned (.int .i64 1) ∧ Mem w' p c k s ∧ Keep (Own p c k) w w' := by
  by_cases h1 : n < 0 ∨ (s.B * s.P : Nat) ≤ n
  · have H := page_no h ok.b2 ok.p2 h1
    clear h1 hb
    go_enter Try.func10, Try.ntmps10
    go_wp2_with fail
    refine H.mono ?_
    rintro e w1 ⟨rfl, hm, hk⟩
    go_wp2_with fail
    go_ret
    exact ⟨rfl, hm, hk.none⟩
  · have h68 : ¬ len = 68 := by omega
    have h68' : ¬ (len : Int) = 68 := by omega
    obtain ⟨pg, rfl⟩ : ∃ pg : Nat, n = pg := ⟨n.toNat, by omega⟩
    have H := page_yes h ok.b2 ok.p2 (pg := pg) (by omega)
    clear h1 hb
    go_enter Try.func10, Try.ntmps10
    go_wp2_with fail
    refine H.mono ?_
    rintro e w1 ⟨rfl, hm, hk⟩
    go_wp2_with fail
    go_ret
    exact ⟨rfl, hm, hk.none⟩

theorem pg_lt {P B b j pg : Nat} (hb : b < B) (hj : j < P) (h : pg = b * P + j) : pg < B * P := by
  have hbp : (b + 1) * P ≤ B * P := Nat.mul_le_mul (by omega) (Nat.le_refl _)
  rw [Nat.add_mul, Nat.one_mul] at hbp
  omega

/-- The way of a program up to the test of the order. -/
theorem program_refused {w : World} {p c k g gc N : Nat} {s : Fl} (h : Mem w p c k s) (ok : s.Ok N) {b j pg : Nat} (hb : b < s.B) (hj : j < s.P) (hpg : pg = b * s.P + j)
    (e1 : s.on = false ∨ s.bad b = true) :
    Calls Try.prog 10 #[.pointer (some ⟨p, 0, none⟩), .int .i64 pg, .slice (some ⟨g, 0, none⟩) 68 gc] w
      fun e w' => e = .returned (.int .i64 (if s.on = false then 7 else 6)) ∧ Mem w' p c k s ∧ Keep (Own p c k) w w' := by
  have H := page_yes h ok.b2 ok.p2 (pg_lt hb hj hpg)
  obtain ⟨hdiv, hmod⟩ := pg_div hj hpg
  have b2 := ok.b2
  have p1 := ok.p1
  have p2 := ok.p2
  have c0 : (b : Int) < s.B := by omega
  have c1 : ¬ (s.P : Int) = 0 := by omega
  clear h hpg
  cases e2 : s.on
  · rw [if_pos rfl]
    go_enter Try.func10, Try.ntmps10
    go_wp2_with fail
    refine H.mono ?_
    rintro e w1 ⟨rfl, hm, hk⟩
    obtain ⟨t0, t1, t2, t3, t4, t5⟩ := hm.tops
    have HR := refuses_off hm.drew hb e2
    have hm' := hm.drew
    clear hm H t1 t4 t5
    go_wp2_with fail
    go_region
    go_wp2_with fail
    refine HR.mono ?_
    rintro e w2 ⟨rfl, rfl⟩
    go_wp2_with fail
    go_ret
    exact ⟨rfl, hm', hk.none.drew⟩
  · rw [if_neg (by simp)]
    go_enter Try.func10, Try.ntmps10
    go_wp2_with fail
    refine H.mono ?_
    rintro e w1 ⟨rfl, hm, hk⟩
    obtain ⟨t0, t1, t2, t3, t4, t5⟩ := hm.tops
    have HR := refuses_bad hm.drew hb e2 (by simpa [e2] using e1)
    have hm' := hm.drew
    clear hm H t1 t4 t5
    go_wp2_with fail
    go_region
    go_wp2_with fail
    refine HR.mono ?_
    rintro e w2 ⟨rfl, rfl⟩
    go_wp2_with fail
    go_ret
    exact ⟨rfl, hm', hk.none.drew⟩

theorem program_order {w : World} {p c k g gc N : Nat} {s : Fl} (h : Mem w p c k s) (ok : s.Ok N) {b j pg : Nat} (hb : b < s.B) (hj : j < s.P) (hpg : pg = b * s.P + j)
    (e1 : s.on = true) (e2 : s.bad b = false) (e3 : s.torn b = true ∨ j ≠ s.next b) :
    Calls Try.prog 10 #[.pointer (some ⟨p, 0, none⟩), .int .i64 pg, .slice (some ⟨g, 0, none⟩) 68 gc] w
      fun e w' => e = .returned (.int .i64 8) ∧ Mem w' p c k s ∧ Keep (Own p c k) w w' := by
  have H := page_yes h ok.b2 ok.p2 (pg_lt hb hj hpg)
  obtain ⟨hdiv, hmod⟩ := pg_div hj hpg
  have b2 := ok.b2
  have p1 := ok.p1
  have p2 := ok.p2
  have c0 : (b : Int) < s.B := by omega
  have c1 : ¬ (s.P : Int) = 0 := by omega
  clear h hpg
  cases e4 : s.torn b
  · have e5 : ¬ (j : Int) = (s.next b : Int) := by simp [e4] at e3; omega
    clear e3
    go_enter Try.func10, Try.ntmps10
    go_wp2_with fail
    refine H.mono ?_
    rintro e w1 ⟨rfl, hm, hk⟩
    obtain ⟨t0, t1, t2, t3, t4, t5⟩ := hm.tops
    obtain ⟨b0, b1, b2', b3, g0, g1, g2, g3⟩ := hm.at hb
    rw [e4] at b1
    have HR := refuses_ok hm.drew hb e1 e2
    have hm' := hm.drew
    clear hm H t1 t4 t5
    go_wp2_with fail
    go_region
    go_wp2_with fail
    refine HR.mono ?_
    rintro e w2 ⟨rfl, rfl⟩
    go_wp2_with fail
    go_quiet (fail)
    go_wp2_with fail
    go_ret
    exact ⟨rfl, hm'.drewN _, hk.none.drew.drewN _⟩
  · clear e3
    go_enter Try.func10, Try.ntmps10
    go_wp2_with fail
    refine H.mono ?_
    rintro e w1 ⟨rfl, hm, hk⟩
    obtain ⟨t0, t1, t2, t3, t4, t5⟩ := hm.tops
    obtain ⟨b0, b1, b2', b3, g0, g1, g2, g3⟩ := hm.at hb
    rw [e4] at b1
    have HR := refuses_ok hm.drew hb e1 e2
    have hm' := hm.drew
    clear hm H t1 t4 t5
    go_wp2_with fail
    go_region
    go_wp2_with fail
    refine HR.mono ?_
    rintro e w2 ⟨rfl, rfl⟩
    go_wp2_with fail
    go_quiet (fail)
    go_wp2_with fail
    go_ret
    exact ⟨rfl, hm'.drewN _, hk.none.drew.drewN _⟩

theorem wrote_good (r : Bool × Fl) : wcode r.1 = ((Fl.wrote r 0 r.2).1 : Nat) ∧ r.2 = (Fl.wrote r 0 r.2).2 := by
  unfold wcode Fl.wrote
  cases r.1 <;> exact ⟨rfl, rfl⟩

theorem Mem.progOne {w : World} {p c k : Nat} {s : Fl} (h : Mem w p c k s) : Mem (w.setCell ⟨p, 7, none⟩ (.int .i64 ((s.progs : Int) + 1))) p c k s.progOne := h.setProgs (s.progs + 1)
theorem Mem.readOne {w : World} {p c k : Nat} {s : Fl} (h : Mem w p c k s) : Mem (w.setCell ⟨p, 6, none⟩ (.int .i64 ((s.reads : Int) + 1))) p c k s.readOne := h.setReads (s.reads + 1)
theorem Mem.begin {w : World} {p c k : Nat} {s : Fl} (h : Mem w p c k s) (b : Nat) : Mem ((w.setCell ⟨p, 8, none⟩ (.int .i64 ((s.erases : Int) + 1))).setCell ⟨k, b * 4 + 3, none⟩ (.int .i64 ((s.wear b : Int) + 1))) p c k (s.begin b) :=
  ((h.setErases (s.erases + 1)).setWear b (s.wear b + 1)).congr (by
    unfold Fl.begin
    congr 1
    funext x
    by_cases e : x = b
    · rw [if_pos e, if_pos e, e]
    · rw [if_neg e, if_neg e])

set_option maxHeartbeats 1000000 in
theorem program_go {w : World} {p c k g gc N : Nat} {s : Fl} {d : Nat → Int} (h : Mem w p c k s) (ok : s.Ok N) (hN : N ≤ 1000000) {b j pg : Nat} (hb : b < s.B) (hj : j < s.P) (hpg : pg = b * s.P + j)
    (hd : ∀ i, 0 ≤ d i ∧ d i ≤ 255) (hr : Blk w g 68 (fun i => .int .u8 (d i))) (hg : ¬ Own p c k g) (hgc : 68 ≤ gc) (hgc' : gc ≤ 9223372036854775807)
    (e1 : s.on = true) (e2 : s.bad b = false) (e4 : s.torn b = false) (e5 : j = s.next b) :
    Calls Try.prog 10 #[.pointer (some ⟨p, 0, none⟩), .int .i64 pg, .slice (some ⟨g, 0, none⟩) 68 gc] w
      fun e w' => e = .returned (.int .i64 ((s.prog b j d).1 : Nat)) ∧ Mem w' p c k (s.prog b j d).2 ∧ Keep (Own p c k) w w' := by
  have H := page_yes h ok.b2 ok.p2 (pg_lt hb hj hpg)
  obtain ⟨hdiv, hmod⟩ := pg_div hj hpg
  have b2 := ok.b2
  have p1 := ok.p1
  have p2 := ok.p2
  have c0 : (b : Int) < s.B := by omega
  have c1 : ¬ (s.P : Int) = 0 := by omega
  have c2 : (j : Int) = (s.next b : Int) := by omega
  have c3 : s.progs ≤ 1000000 := Nat.le_trans ok.progs hN
  have HPG : Hid (pg = b * s.P + j) := hpg
  clear h hpg
  go_enter Try.func10, Try.ntmps10
  go_wp2_with fail
  refine H.mono ?_
  rintro e w1 ⟨rfl, hm, hk⟩
  obtain ⟨t0, t1, t2, t3, t4, t5⟩ := hm.tops
  obtain ⟨b0, b1, b2', b3, g0, g1, g2, g3⟩ := hm.at hb
  rw [← c2] at b2'
  rw [e4] at b1
  have HR := refuses_ok hm.drew hb e1 e2
  have hm' := hm
  have hr1 := hr.keep (hk.none (S := Own p c k)) hg
  obtain ⟨t6, t7, t8⟩ := hm.stats
  have f7 := hm.free 7 (by omega)
  clear hm H t1 t4 t5 e5 c2 hr
  go_wp2_with fail
  go_region
  go_wp2_with fail
  refine HR.mono ?_
  rintro e w2 ⟨rfl, rfl⟩
  go_wp2_with fail
  go_quiet (fail)
  go_wp2_with fail
  have hm2 := (hm'.drewN (1 + nq)).progOne
  have hk2 : Keep (Own p c k) w ((w1.drewN (1 + nq)).setCell ⟨p, 7, none⟩ (.int .i64 ((s.progs : Int) + 1))) := ((hk.none (S := Own p c k)).drewN (1 + nq)).p _ _
  have hr2 : Blk ((w1.drewN (1 + nq)).setCell ⟨p, 7, none⟩ (.int .i64 ((s.progs : Int) + 1))) g 68 (fun i => .int .u8 (d i)) := (hr1.keep (((Keep.refl _ _).drewN (1 + nq)).p (p := p) (c := c) (k := k) _ _) hg)
  generalize ((w1.drewN (1 + nq)).setCell ⟨p, 7, none⟩ (.int .i64 ((s.progs : Int) + 1))) = w3 at hm2 hk2 hr2 ⊢
  clear hm' hr1 hk t0 t2 t3 b0 b1 b2' b3 g0 g1 g2 g3 t6 t7 t8 f7 HR
  have ok1 := ok.progOne
  refine (fails_any hm2 ok1.fail).mono ?_
  rintro e w4 ⟨rfl, hm4, hk4⟩
  have hk5 := hk2.trans hk4
  have hr5 := hr2.keep hk4 hg
  have hb5 : b < s.progOne.failed.B := by rw [Fl.failed_B]; exact hb
  have hj5 : j < s.progOne.failed.P := by rw [Fl.failed_P]; exact hj
  have hp5 : pg = b * s.progOne.failed.P + j := by rw [Fl.failed_P]; exact HPG.out
  have ho5 : s.progOne.failed.on = true := by rw [Fl.failed_on]; exact e1
  clear hk2 hk4 hm2 hr2
  have hfb : s.progOne.failB = s.failB := rfl
  cases e6 : s.failB
  · rw [hfb, e6]
    have HX : Hid (s.prog b j d = Fl.wrote (s.progOne.failed.write b j d 0 17) 0 (s.progOne.failed.write b j d 0 17).2) := by show _ = _; rw [Fl.prog, e6]; rfl
    have HWr := write_any (n := 17) hm4 ok1.failed ho5 hb5 hj5 hp5 hd hr5 hg hgc hgc' (by omega)
    rw [show ((17 : Nat) : Int) = 17 from rfl] at HWr
    clear hfb e6 hm4 hr5 hp5
    generalize s.progOne.failed.write b j d 0 17 = r at HX HWr
    go_wp2_with fail
    refine HWr.mono ?_
    rintro e w6 ⟨rfl, hm6, hk6⟩
    go_wp2_with fail
    go_ret
    obtain ⟨x1, x2⟩ := wrote_good r
    rw [HX.out, ← x1, ← x2]
    exact ⟨rfl, hm6, hk5.trans hk6⟩
  · rw [hfb, e6]
    have HX : Hid (s.prog b j d = Fl.wrote (s.progOne.failed.write b j d 0 4) 6 ((s.progOne.failed.write b j d 0 4).2.setBad b)) := by show _ = _; rw [Fl.prog, e6]; rfl
    have HWr := write_any (n := 4) hm4 ok1.failed ho5 hb5 hj5 hp5 hd hr5 hg hgc hgc' (by omega)
    rw [show ((4 : Nat) : Int) = 4 from rfl] at HWr
    have hB := (Fl.write_P (b := b) (j := j) (d := d) 4 0 s.progOne.failed).2
    rw [Fl.failed_B] at hB
    clear hfb e6 hm4 hr5 hp5
    generalize s.progOne.failed.write b j d 0 4 = r at HX HWr hB
    obtain ⟨r1, r2⟩ := r
    cases r1
    · go_wp2_with fail
      refine HWr.mono ?_
      rintro e w6 ⟨rfl, hm6, hk6⟩
      go_wp2_with fail
      go_ret
      rw [HX.out]
      exact ⟨rfl, hm6, hk5.trans hk6⟩
    · go_wp2_with fail
      refine HWr.mono ?_
      rintro e w6 ⟨rfl, hm6, hk6⟩
      obtain ⟨b0, b1, b2', b3, g0, g1, g2, g3⟩ := hm6.at (b := b) (by rw [hB]; exact hb)
      have hm7 := hm6.setBad b true
      clear hm6
      go_wp2_with fail
      go_ret
      rw [HX.out]
      exact ⟨rfl, hm7, (hk5.trans hk6).k _ _⟩

theorem program_any {w : World} {p c k g gc N : Nat} {s : Fl} {d : Nat → Int} (h : Mem w p c k s) (ok : s.Ok N) (hN : N ≤ 1000000) {b j pg : Nat} (hb : b < s.B) (hj : j < s.P) (hpg : pg = b * s.P + j)
    (hd : ∀ i, 0 ≤ d i ∧ d i ≤ 255) (hr : Blk w g 68 (fun i => .int .u8 (d i))) (hg : ¬ Own p c k g) (hgc : 68 ≤ gc) (hgc' : gc ≤ 9223372036854775807) :
    Calls Try.prog 10 #[.pointer (some ⟨p, 0, none⟩), .int .i64 pg, .slice (some ⟨g, 0, none⟩) 68 gc] w
      fun e w' => e = .returned (.int .i64 ((s.program b j d).1 : Nat)) ∧ Mem w' p c k (s.program b j d).2 ∧ Keep (Own p c k) w w' := by
  unfold Fl.program
  cases e1 : s.on
  · have := program_refused (g := g) (gc := gc) h ok hb hj hpg (Or.inl e1)
    rw [if_pos e1] at this
    exact this
  · cases e2 : s.bad b
    · cases e3 : s.torn b
      · by_cases e5 : j = s.next b
        · have := program_go h ok hN hb hj hpg hd hr hg hgc hgc' e1 e2 e3 e5
          simp only [Bool.true_eq_false, Bool.false_eq_true, if_false, Bool.false_or]
          rw [show (!(j == s.next b)) = false by simp [e5]]
          exact this
        · have := program_order (g := g) (gc := gc) h ok hb hj hpg e1 e2 (Or.inr e5)
          simp only [Bool.true_eq_false, Bool.false_eq_true, if_false, Bool.false_or]
          rw [show (!(j == s.next b)) = true by simp [e5]]
          exact this
      · have := program_order (g := g) (gc := gc) h ok hb hj hpg e1 e2 (Or.inl e3)
        simp only [Bool.true_eq_false, Bool.false_eq_true, if_false, Bool.true_or]
        exact this
    · have := program_refused (g := g) (gc := gc) h ok hb hj hpg (Or.inr e2)
      rw [if_neg (by simp [e1])] at this
      simp only [Bool.true_eq_false, if_false]
      exact this

theorem erase_no {w : World} {p c k : Nat} {s : Fl} {n : Int} (h : Mem w p c k s) (hb : n < 0 ∨ s.B ≤ n) :
    Calls Try.prog 13 #[.pointer (some ⟨p, 0, none⟩), .int .i64 n] w fun e w' => e = .returned (.int .i64 1) ∧ w' = w := by
  have H := has_no h hb
  go_enter Try.func13, Try.ntmps13
  go_wp2_with fail
  refine H.mono ?_
  rintro e w1 ⟨rfl, rfl⟩
  go_wp2_with fail
  go_ret
  exact ⟨rfl, rfl⟩

theorem erase_refused {w : World} {p c k : Nat} {s : Fl} (h : Mem w p c k s) {b : Nat} (hb : b < s.B) (v : Int) (hv : ¬ v = 0)
    (HR : Calls Try.prog 35 #[.pointer (some ⟨p, 0, none⟩), .pointer (some ⟨k, b * 4, none⟩)] w fun e w' => e = .returned (.int .i64 v) ∧ w' = w) :
    Calls Try.prog 13 #[.pointer (some ⟨p, 0, none⟩), .int .i64 b] w fun e w' => e = .returned (.int .i64 v) ∧ w' = w := by
  have H := has_yes h hb
  obtain ⟨t0, t1, t2, t3, t4, t5⟩ := h.tops
  have c0 : (b : Int) < s.B := by omega
  go_enter Try.func13, Try.ntmps13
  go_wp2_with fail
  refine H.mono ?_
  rintro e w1 ⟨rfl, rfl⟩
  go_wp2_with fail
  refine HR.mono ?_
  rintro e w1 ⟨rfl, rfl⟩
  go_wp2_with fail
  go_ret
  exact ⟨rfl, rfl⟩

end Nd
end Go.Proofs.Ytjafjofonckaaaa
