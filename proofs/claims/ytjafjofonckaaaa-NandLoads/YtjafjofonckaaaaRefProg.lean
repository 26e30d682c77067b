/-
  Program of the document's own flash does what the mathematics says: any page, any bytes, under any cut and failure.
-/
import Derived.Test.YtjafjofonckaaaaRefNo
namespace Go.Proofs.Ytjafjofonckaaaa
open Go.ChangeShapes Go.WideShapes Go.ChangeAt Go.RowKit
namespace Nd

theorem Fl.chunk_noop (t : Fl) (b j : Nat) (h : t.next b = j + 1) (f : Nat → Int) : ({ t with cell := f } : Fl) = { t with cell := f, next := fun x => if x = b then j + 1 else t.next x } := by
  have : t.next = fun x => if x = b then j + 1 else t.next x := by
    funext x
    by_cases e : x = b
    · rw [if_pos e, e, h]
    · rw [if_neg e]
  conv => lhs; rw [show ({ t with cell := f } : Fl) = { t with cell := f, next := t.next } from rfl]
  rw [← this]

/-- Four bytes of a chunk, one by one. -/
def part (t : Fl) (base : Nat) (d : Nat → Int) (off q : Nat) : Fl := { t with cell := fun i => if base ≤ i ∧ i < base + q then d (i - off) else t.cell i }

theorem RWr.step {w : World} {l : Pl} {g : Nat} {s : Fl} {N b j : Nat} {d : Nat → Int} {n q : Nat} {wr w2 : World} {t : Fl} {y y2 : Int} (h : RWr w l g s N b j d n q wr t y) (hq : q < n) (hon : t.stepOk = true) {pg : Nat} (hpg : pg = b * s.P + j)
    (hm : RM w2 l (part { t.step with next := fun x => if x = b then j + 1 else t.step.next x } (pg * 68 + 4 * q) d (pg * 68) 4) y2) (hx : Cuts t.step y2) (hk : Keep l.own wr w2) (hg : ¬ l.own g) (hj : j < s.P) (hd : ∀ i, 0 ≤ d i ∧ d i ≤ 255) :
    RWr w l g s N b j d n (q + 1) w2 (t.step.chunk b j d q) y2 := by
  have hsB : t.step.B = s.B := by rw [Fl.step_B, h.B]
  have hsP : t.step.P = s.P := by rw [Fl.step_P, h.P]
  refine ⟨?_, hx.same rfl rfl, h.ok.step.chunk (by rw [hsP]; exact hj) hd q, Fl.step_on hon h.on, h.row.keep hk hg, h.keep.trans hk, ?_, ?_, hsB, hsP⟩
  · refine hm.congr ?_
    unfold part Fl.chunk
    rw [hsP, ← hpg]
  · rw [h.rest, show n - q = (n - (q + 1)) + 1 by omega, Fl.write_succ _ _ _ _ _ _ hon]
  · rw [if_neg (by omega)]; show (if b = b then j + 1 else _) = _; rw [if_pos rfl]

theorem part_set {w : World} {l : Pl} {T : Fl} {pg q r : Nat} {d : Nat → Int} {y : Int} (h : RM w l (part T (pg * 68 + 4 * q) d (pg * 68) r) y) :
    RM (w.setCell ⟨l.y, pg * 68 + 4 * q + r, none⟩ (.int .u8 (d (4 * q + r)))) l (part T (pg * 68 + 4 * q) d (pg * 68) (r + 1)) y := by
  refine (h.setCel (pg * 68 + 4 * q + r) (d (4 * q + r))).congr ?_
  unfold part
  congr 1
  funext i
  by_cases e : i = pg * 68 + 4 * q + r
  · rw [if_pos e, if_pos (by omega)]; congr 1; omega
  · rw [if_neg e]
    show (if pg * 68 + 4 * q ≤ i ∧ i < pg * 68 + 4 * q + r then d (i - pg * 68) else T.cell i) = _
    by_cases e2 : pg * 68 + 4 * q ≤ i ∧ i < pg * 68 + 4 * q + r
    · rw [if_pos e2, if_pos (by omega)]
    · rw [if_neg e2, if_neg (by omega)]
theorem part_zero (T : Fl) (base off : Nat) (d : Nat → Int) : T = part T base d off 0 := by
  unfold part
  have : T.cell = fun i => if base ≤ i ∧ i < base + 0 then d (i - off) else T.cell i := by funext i; rw [if_neg (by omega)]
  rw [← this]
theorem next_same (t : Fl) (b j : Nat) (h : t.next b = j + 1) : t = { t with next := fun x => if x = b then j + 1 else t.next x } := by
  have : t.next = fun x => if x = b then j + 1 else t.next x := by
    funext x
    by_cases e : x = b
    · rw [if_pos e, e, h]
    · rw [if_neg e]
  rw [← this]

theorem RM.progOne {w : World} {l : Pl} {s : Fl} {x : Int} (h : RM w l s x) : RM (w.setCell ⟨l.p, 10, none⟩ (.int .i64 ((s.progs : Int) + 1))) l s.progOne x := h.setProgs (s.progs + 1)

set_option maxRecDepth 100000 in
set_option maxHeartbeats 1000000 in
theorem rprogram_go {w : World} {l : Pl} {s : Fl} {x : Int} {N g gc : Nat} {d : Nat → Int} (h : RM w l s x) (hx : Cuts s x) (ok : s.Ok N) (hN : N ≤ 1000000) {b j pg : Nat} (hb : b < s.B) (hj : j < s.P) (hpg : pg = b * s.P + j)
    (hd0 : ∀ i, 0 ≤ d i ∧ d i ≤ 255) (hr : Blk w g 68 (fun i => .int .u8 (d i))) (hg : ¬ l.own g) (e1 : s.on = true) (e2 : s.bad b = false) (e3 : s.torn b = false) (e4 : j = s.next b) :
    Calls Try.prog 18 #[.pointer (some ⟨l.p, 0, none⟩), .int .i64 pg, .slice (some ⟨g, 0, none⟩) 68 gc] w fun e w' => e = .returned (.int .i64 ((s.prog b j d).1 : Nat)) ∧ ∃ y, RM w' l (s.prog b j d).2 y ∧ Cuts (s.prog b j d).2 y ∧ Keep l.own w w' := by
  obtain ⟨t0, t1, t2, t3, t4, t5, t6, t7, t8⟩ := h.tops
  obtain ⟨t9, t10, t11⟩ := h.stats
  have f10 := h.free 10 (by omega)
  have hm : s.B * s.P ≤ 64 * 32 := Nat.mul_le_mul ok.b2 ok.p2
  have hlt := pg_lt hb hj hpg
  have hlt68 : pg * 68 + 68 ≤ s.B * s.P * 68 := by omega
  have hN2 : s.B * s.P * 68 ≤ 139264 := by omega
  obtain ⟨hdiv, hmod⟩ := pg_div hj hpg
  have b2 := ok.b2
  have p1 := ok.p1
  have p2 := ok.p2
  have hmul : (s.B : Int) * (s.P : Int) = ((s.B * s.P : Nat) : Int) := by simp
  have hb1 : w.cell? ⟨l.b, b, none⟩ = some (.bool false) := by rw [(h.bad b hb).1]; simp only [e2]
  have ht1 : w.cell? ⟨l.t, b, none⟩ = some (.bool false) := by rw [(h.torn b hb).1]; simp only [e3]
  have hn1 : w.cell? ⟨l.n, b, none⟩ = some (.int .i64 j) := by rw [(h.next b hb).1]; simp only [← e4]
  have HPG : Hid (pg = b * s.P + j) := hpg
  have HNX : Hid (j = s.next b) := e4
  have c3 : s.progs ≤ 1000000 := Nat.le_trans ok.progs hN
  have H := fun k => (h.drewN k).progOne
  have ok1 := ok.progOne
  rw [e1] at t8
  clear h hpg t2 e4
  generalize hM : s.B * s.P * 68 = M at hlt68 hN2
  generalize s.B * s.P = m at hm hlt hmul
  have hd : decide ((pg : Int) < 0) = false := by simp
  have hwm : IntKind.i64.wrap (m : Int) = (m : Int) := by rw [IntKind.wrap_i64]; omega
  have hd1 : decide ((m : Int) ≤ pg) = false := by simp; omega
  have c0 : (b : Int) < s.B := by omega
  have c1 : ¬ (s.P : Int) = 0 := by omega
  go_enter Try.func18, Try.ntmps18
  go_wp2
  go_quiet (fail)
  revert nq
  intro nq1
  go_wp2
  go_quiet (fail)
  go_wp2_with fail
  have hm2 := H (nq1 + nq)
  have hk2 := rkp ((Keep.refl l.own w).drewN (nq1 + nq)) 10 (.int .i64 ((s.progs : Int) + 1))
  have hr2 := hr.keep hk2 hg
  have hx2 : Cuts s.progOne x := hx.same rfl rfl
  generalize (w.drewN (nq1 + nq)).setCell ⟨l.p, 10, none⟩ (.int .i64 ((s.progs : Int) + 1)) = w2 at hm2 hk2 hr2 ⊢
  clear H hr hx t0 t1 t3 t4 t5 t6 t7 t8 t9 t10 t11 f10 hb1 ht1 hn1 hd hd1 hwm hmul hdiv hmod
  have hfb : s.progOne.failB = s.failB := rfl
  refine (rfails_any hm2 ok1.fail).mono ?_
  rintro e w3 ⟨rfl, hm3, hk3⟩
  have W00 : ∀ n, RWr w l g s.progOne.failed (N + 1) b j d n 0 w3 s.progOne.failed x := fun n =>
    ⟨hm3, hx2.same (Fl.failed_on _) (Fl.failed_cut _), ok1.failed, by rw [Fl.failed_on]; exact e1, hr2.keep hk3 hg, hk2.trans hk3, rfl, by rw [if_pos rfl, Fl.failed_next]; exact HNX.out.symm, rfl, rfl⟩
  have hFB : s.progOne.failed.B = s.B := Fl.failed_B _
  have hFP : s.progOne.failed.P = s.P := Fl.failed_P _
  clear hm2 hk2 hr2 hx2 hm3 hk3
  cases e6 : s.failB
  · rw [hfb, e6]
    have HX : Hid (s.prog b j d = Fl.wrote (s.progOne.failed.write b j d 0 17) 0 (s.progOne.failed.write b j d 0 17).2) := by show _ = _; rw [Fl.prog, e6]; rfl
    clear hfb e6
    go_wp2_with fail
    go_loopw [9] (fun k wr => ∃ (q : Nat) (t : Fl) (y : Int), q ≤ 17 ∧ k = .int .i64 q ∧ RWr w l g s.progOne.failed (N + 1) b j d 17 q wr t y) (fun k _ => 17 - (intOf k).toNat)
    case atStart => exact ⟨0, _, x, by omega, rfl, W00 17⟩
    case round =>
      obtain ⟨q, t, y, hq, rfl, hw⟩ := hrel
      by_cases hqn : q < 17
      · have hst := rstep_any hw.mem hw.on hw.cuts
        have hq17 : (q : Int) < 17 := by omega
        cases hso : t.stepOk
        · rw [hso] at hst
          have HE : Hid (s.progOne.failed.write b j d 0 17 = (false, t.step)) := by
            show _ = _
            rw [hw.rest, show 17 - q = (17 - (q + 1)) + 1 by omega, Fl.write_stop _ _ _ _ _ _ hso]
          have hK := hw.keep
          clear hw
          go_wp2_with fail
          refine hst.mono ?_
          rintro e w1 ⟨y1, rfl, hm1, hx1, hk1⟩
          go_wp2_with fail
          go_ret
          rw [HX.out, HE.out]
          exact ⟨rfl, y1, hm1, hx1, hK.trans hk1⟩
        · rw [hso] at hst
          have hsB : t.step.B = s.B := by rw [Fl.step_B, hw.B, hFB]
          have hsP : t.step.P = s.P := by rw [Fl.step_P, hw.P, hFP]
          have hnx := hw.nx
          obtain ⟨T, HT⟩ : ∃ T, Hid (T = ({ t.step with next := fun x => if x = b then j + 1 else t.step.next x } : Fl)) := ⟨_, rfl⟩
          have TM : T.B * T.P * 68 = M := by rw [HT.out]; show t.step.B * t.step.P * 68 = M; rw [hsB, hsP, hM]
          have HST := fun w2 y2 hm hx hk => hw.step (w2 := w2) (y2 := y2) hqn hso (pg := pg) (by rw [hFP]; exact HPG.out) hm hx hk hg (by rw [hFP]; exact hj) hd0
          rw [← HT.out] at HST
          have hrw := hw.row
          clear hw
          by_cases hq0 : q = 0
          · rw [if_pos hq0] at hnx
            subst hq0
            go_wp2_with fail
            refine hst.mono ?_
            rintro e w1 ⟨y1, rfl, hm1, hx1, hk1⟩
            obtain ⟨v0, v1, v2, v3, v4, v5, v6, v7, v8⟩ := hm1.tops
            rw [hsB] at v5
            have hbn := hm1.next b (by rw [hsB]; exact hb)
            have hn1 : w1.cell? ⟨l.n, b, none⟩ = some (.int .i64 j) := by rw [hbn.1]; simp only [Fl.step_next, hnx]
            have hn2 := hbn.2
            have MT : RM (w1.setCell ⟨l.n, b, none⟩ (.int .i64 ((j : Int) + 1))) l (part T (pg * 68 + 4 * 0) d (pg * 68) 0) y1 := by rw [← part_zero, HT.out]; exact hm1.setNext b (j + 1)
            have KT : Keep l.own wr (w1.setCell ⟨l.n, b, none⟩ (.int .i64 ((j : Int) + 1))) := rkn hk1 _ _
            have RT := hrw.keep KT hg
            clear hm1 hk1 hbn v0 v1 v2 v3 v4 v6 v7 v8 hrw hnx hst
            go_wp2_with fail
            go_loopw [10] (fun i wi => ∃ r : Nat, r ≤ 4 ∧ i = .int .i64 r ∧ RM wi l (part T (pg * 68 + 4 * 0) d (pg * 68) r) y1 ∧ Keep l.own wr wi ∧ Blk wi g 68 (fun i => .int .u8 (d i))) (fun i _ => 4 - (intOf i).toNat)
            case atStart => exact ⟨0, by omega, rfl, MT, KT, RT⟩
            case round =>
              obtain ⟨r, hr4, rfl, hmi, hki, hri⟩ := hrel
              clear MT KT RT
              by_cases hr5 : r < 4
              · obtain ⟨u0, u1, u2, u3, u4, u5, u6, u7, u8⟩ := hmi.tops
                have u2' : wr.cell? ⟨l.p, 2, none⟩ = some (.slice (some ⟨l.y, 0, none⟩) M M) := by rw [u2]; show some (Value.slice _ (T.B * T.P * 68) (T.B * T.P * 68)) = _; rw [TM]
                have hyc := hmi.cel (pg * 68 + 4 * 0 + r) (by show _ < T.B * T.P * 68; rw [TM]; omega)
                have hy1 := hyc.1
                have hy2 := hyc.2
                have hdc : wr.cell? ⟨g, 4 * 0 + r, none⟩ = some (.int .u8 (d (4 * 0 + r))) := (hri (4 * 0 + r) (by omega)).1
                have HN' := part_set hmi
                have HK' := rky hki (pg * 68 + 4 * 0 + r) (.int .u8 (d (4 * 0 + r)))
                have HR' := (hri.keep (rky (Keep.refl l.own wr) (pg * 68 + 4 * 0 + r) (.int .u8 (d (4 * 0 + r)))) hg)
                rw [show pg * 68 + 4 * 0 + r = pg * 68 + r by omega] at hy1 hy2 HN' HK' HR'
                rw [show 4 * 0 + r = r by omega] at hdc HN' HK' HR'
                have g3 : (r : Int) < 68 := by omega
                have g4 : (pg : Int) * 68 + r < M := by omega
                have g5 : ((pg : Int) * 68 + r).toNat = pg * 68 + r := by omega
                have w0' : IntKind.i64.wrap (0 : Int) = 0 := by rw [IntKind.wrap_i64]; omega
                have w1' : IntKind.i64.wrap ((pg : Int) * 68) = (pg : Int) * 68 := by rw [IntKind.wrap_i64]; omega
                have w4' : IntKind.i64.wrap ((pg : Int) * 68 + r) = (pg : Int) * 68 + r := by rw [IntKind.wrap_i64]; omega
                have w5' : IntKind.i64.wrap (r : Int) = (r : Int) := by rw [IntKind.wrap_i64]; omega
                clear hmi hki hri hyc u0 u1 u2 u3 u4 u5 u6 u7 u8
                go_wp2_with fail
                go_region
                go_wp2_with fail
                go_roundw
                case rel => exact ⟨r + 1, by omega, by go_num, HN'.drew, HK'.drew, HR'.drew⟩
                case measure => simp [intOf]; omega
              · obtain rfl : r = 4 := by omega
                have HW := HST _ _ hmi hx1 hki
                clear hmi hki hri
                go_wp2_with fail
                go_roundw
                case rel => exact ⟨1, _, y1, by omega, by go_num, HW⟩
                case measure => simp [intOf]
          · rw [if_neg hq0] at hnx
            have hq0' : ((q : Int) == 0) = false := by simp [hq0]
            go_wp2_with fail
            refine hst.mono ?_
            rintro e w1 ⟨y1, rfl, hm1, hx1, hk1⟩
            have MT : RM w1 l (part T (pg * 68 + 4 * q) d (pg * 68) 0) y1 := by
              rw [← part_zero, HT.out, ← next_same t.step b j (by rw [Fl.step_next]; exact hnx)]; exact hm1
            have KT : Keep l.own wr w1 := hk1
            have RT := hrw.keep KT hg
            clear hm1 hk1 hrw hnx hst
            go_wp2_with fail
            go_loopw [10] (fun i wi => ∃ r : Nat, r ≤ 4 ∧ i = .int .i64 r ∧ RM wi l (part T (pg * 68 + 4 * q) d (pg * 68) r) y1 ∧ Keep l.own wr wi ∧ Blk wi g 68 (fun i => .int .u8 (d i))) (fun i _ => 4 - (intOf i).toNat)
            case atStart => exact ⟨0, by omega, rfl, MT, KT, RT⟩
            case round =>
              obtain ⟨r, hr4, rfl, hmi, hki, hri⟩ := hrel
              clear MT KT RT
              by_cases hr5 : r < 4
              · obtain ⟨u0, u1, u2, u3, u4, u5, u6, u7, u8⟩ := hmi.tops
                have u2' : wr.cell? ⟨l.p, 2, none⟩ = some (.slice (some ⟨l.y, 0, none⟩) M M) := by rw [u2]; show some (Value.slice _ (T.B * T.P * 68) (T.B * T.P * 68)) = _; rw [TM]
                have hyc := hmi.cel (pg * 68 + 4 * q + r) (by show _ < T.B * T.P * 68; rw [TM]; omega)
                have hy1 := hyc.1
                have hy2 := hyc.2
                have hdc : wr.cell? ⟨g, 4 * q + r, none⟩ = some (.int .u8 (d (4 * q + r))) := (hri (4 * q + r) (by omega)).1
                have HN' := part_set hmi
                have HK' := rky hki (pg * 68 + 4 * q + r) (.int .u8 (d (4 * q + r)))
                have HR' := (hri.keep (rky (Keep.refl l.own wr) (pg * 68 + 4 * q + r) (.int .u8 (d (4 * q + r)))) hg)
                obtain ⟨a, ha⟩ : ∃ a, Hid (a = 4 * q + r) := ⟨_, rfl⟩
                rw [show pg * 68 + 4 * q + r = pg * 68 + a by rw [ha.out]; omega] at hy1 hy2 HN' HK' HR'
                rw [← ha.out] at hdc HN' HK' HR'
                have g1 : (pg : Int) * 68 + (q : Int) * 4 + r = (pg : Int) * 68 + a := by have := ha.out; omega
                have g2 : (q : Int) * 4 + r = a := by have := ha.out; omega
                have g3 : (a : Int) < 68 := by have := ha.out; omega
                have g4 : (pg : Int) * 68 + a < M := by omega
                have g5 : ((pg : Int) * 68 + a).toNat = pg * 68 + a := by omega
                have w1' : IntKind.i64.wrap ((pg : Int) * 68) = (pg : Int) * 68 := by rw [IntKind.wrap_i64]; omega
                have w2' : IntKind.i64.wrap ((q : Int) * 4) = (q : Int) * 4 := by rw [IntKind.wrap_i64]; omega
                have w3' : IntKind.i64.wrap ((pg : Int) * 68 + (q : Int) * 4) = (pg : Int) * 68 + (q : Int) * 4 := by rw [IntKind.wrap_i64]; omega
                have w4' : IntKind.i64.wrap ((pg : Int) * 68 + a) = (pg : Int) * 68 + a := by rw [IntKind.wrap_i64]; omega
                have w5' : IntKind.i64.wrap (a : Int) = (a : Int) := by rw [IntKind.wrap_i64]; omega
                clear hmi hki hri hyc u0 u1 u2 u3 u4 u5 u6 u7 u8
                go_wp2_with fail
                go_region
                go_wp2_with fail
                go_roundw
                case rel => exact ⟨r + 1, by omega, by go_num, HN'.drew, HK'.drew, HR'.drew⟩
                case measure => simp [intOf]; omega
              · obtain rfl : r = 4 := by omega
                have HW := HST _ _ hmi hx1 hki
                clear hmi hki hri
                go_wp2_with fail
                go_roundw
                case rel => exact ⟨q + 1, _, y1, by omega, by go_num, HW⟩
                case measure => simp [intOf]; omega
      · obtain rfl : q = 17 := by omega
        have HE : Hid (s.progOne.failed.write b j d 0 17 = (true, t)) := by show _ = _; rw [hw.rest, Nat.sub_self]; rfl
        go_wp2_with fail
        go_ret
        rw [HX.out, HE.out]
        exact ⟨rfl, y, hw.mem, hw.cuts, hw.keep⟩
  · rw [hfb, e6]
    have HX : Hid (s.prog b j d = Fl.wrote (s.progOne.failed.write b j d 0 4) 6 ((s.progOne.failed.write b j d 0 4).2.setBad b)) := by show _ = _; rw [Fl.prog, e6]; rfl
    clear hfb e6
    go_wp2_with fail
    go_loopw [9] (fun k wr => ∃ (q : Nat) (t : Fl) (y : Int), q ≤ 4 ∧ k = .int .i64 q ∧ RWr w l g s.progOne.failed (N + 1) b j d 4 q wr t y) (fun k _ => 4 - (intOf k).toNat)
    case atStart => exact ⟨0, _, x, by omega, rfl, W00 4⟩
    case round =>
      obtain ⟨q, t, y, hq, rfl, hw⟩ := hrel
      by_cases hqn : q < 4
      · have hst := rstep_any hw.mem hw.on hw.cuts
        have hq17 : (q : Int) < 17 := by omega
        have hq4 : ¬ (q : Int) = 4 := by omega
        cases hso : t.stepOk
        · rw [hso] at hst
          have HE : Hid (s.progOne.failed.write b j d 0 4 = (false, t.step)) := by
            show _ = _
            rw [hw.rest, show 4 - q = (4 - (q + 1)) + 1 by omega, Fl.write_stop _ _ _ _ _ _ hso]
          have hK := hw.keep
          clear hw
          go_wp2_with fail
          refine hst.mono ?_
          rintro e w1 ⟨y1, rfl, hm1, hx1, hk1⟩
          go_wp2_with fail
          go_ret
          rw [HX.out, HE.out]
          exact ⟨rfl, y1, hm1, hx1, hK.trans hk1⟩
        · rw [hso] at hst
          have hsB : t.step.B = s.B := by rw [Fl.step_B, hw.B, hFB]
          have hsP : t.step.P = s.P := by rw [Fl.step_P, hw.P, hFP]
          have hnx := hw.nx
          obtain ⟨T, HT⟩ : ∃ T, Hid (T = ({ t.step with next := fun x => if x = b then j + 1 else t.step.next x } : Fl)) := ⟨_, rfl⟩
          have TM : T.B * T.P * 68 = M := by rw [HT.out]; show t.step.B * t.step.P * 68 = M; rw [hsB, hsP, hM]
          have HST := fun w2 y2 hm hx hk => hw.step (w2 := w2) (y2 := y2) hqn hso (pg := pg) (by rw [hFP]; exact HPG.out) hm hx hk hg (by rw [hFP]; exact hj) hd0
          rw [← HT.out] at HST
          have hrw := hw.row
          clear hw
          by_cases hq0 : q = 0
          · rw [if_pos hq0] at hnx
            subst hq0
            go_wp2_with fail
            refine hst.mono ?_
            rintro e w1 ⟨y1, rfl, hm1, hx1, hk1⟩
            obtain ⟨v0, v1, v2, v3, v4, v5, v6, v7, v8⟩ := hm1.tops
            rw [hsB] at v5
            have hbn := hm1.next b (by rw [hsB]; exact hb)
            have hn1 : w1.cell? ⟨l.n, b, none⟩ = some (.int .i64 j) := by rw [hbn.1]; simp only [Fl.step_next, hnx]
            have hn2 := hbn.2
            have MT : RM (w1.setCell ⟨l.n, b, none⟩ (.int .i64 ((j : Int) + 1))) l (part T (pg * 68 + 4 * 0) d (pg * 68) 0) y1 := by rw [← part_zero, HT.out]; exact hm1.setNext b (j + 1)
            have KT : Keep l.own wr (w1.setCell ⟨l.n, b, none⟩ (.int .i64 ((j : Int) + 1))) := rkn hk1 _ _
            have RT := hrw.keep KT hg
            clear hm1 hk1 hbn v0 v1 v2 v3 v4 v6 v7 v8 hrw hnx hst
            go_wp2_with fail
            go_loopw [10] (fun i wi => ∃ r : Nat, r ≤ 4 ∧ i = .int .i64 r ∧ RM wi l (part T (pg * 68 + 4 * 0) d (pg * 68) r) y1 ∧ Keep l.own wr wi ∧ Blk wi g 68 (fun i => .int .u8 (d i))) (fun i _ => 4 - (intOf i).toNat)
            case atStart => exact ⟨0, by omega, rfl, MT, KT, RT⟩
            case round =>
              obtain ⟨r, hr4, rfl, hmi, hki, hri⟩ := hrel
              clear MT KT RT
              by_cases hr5 : r < 4
              · obtain ⟨u0, u1, u2, u3, u4, u5, u6, u7, u8⟩ := hmi.tops
                have u2' : wr.cell? ⟨l.p, 2, none⟩ = some (.slice (some ⟨l.y, 0, none⟩) M M) := by rw [u2]; show some (Value.slice _ (T.B * T.P * 68) (T.B * T.P * 68)) = _; rw [TM]
                have hyc := hmi.cel (pg * 68 + 4 * 0 + r) (by show _ < T.B * T.P * 68; rw [TM]; omega)
                have hy1 := hyc.1
                have hy2 := hyc.2
                have hdc : wr.cell? ⟨g, 4 * 0 + r, none⟩ = some (.int .u8 (d (4 * 0 + r))) := (hri (4 * 0 + r) (by omega)).1
                have HN' := part_set hmi
                have HK' := rky hki (pg * 68 + 4 * 0 + r) (.int .u8 (d (4 * 0 + r)))
                have HR' := (hri.keep (rky (Keep.refl l.own wr) (pg * 68 + 4 * 0 + r) (.int .u8 (d (4 * 0 + r)))) hg)
                rw [show pg * 68 + 4 * 0 + r = pg * 68 + r by omega] at hy1 hy2 HN' HK' HR'
                rw [show 4 * 0 + r = r by omega] at hdc HN' HK' HR'
                have g3 : (r : Int) < 68 := by omega
                have g4 : (pg : Int) * 68 + r < M := by omega
                have g5 : ((pg : Int) * 68 + r).toNat = pg * 68 + r := by omega
                have w0' : IntKind.i64.wrap (0 : Int) = 0 := by rw [IntKind.wrap_i64]; omega
                have w1' : IntKind.i64.wrap ((pg : Int) * 68) = (pg : Int) * 68 := by rw [IntKind.wrap_i64]; omega
                have w4' : IntKind.i64.wrap ((pg : Int) * 68 + r) = (pg : Int) * 68 + r := by rw [IntKind.wrap_i64]; omega
                have w5' : IntKind.i64.wrap (r : Int) = (r : Int) := by rw [IntKind.wrap_i64]; omega
                clear hmi hki hri hyc u0 u1 u2 u3 u4 u5 u6 u7 u8
                go_wp2_with fail
                go_region
                go_wp2_with fail
                go_roundw
                case rel => exact ⟨r + 1, by omega, by go_num, HN'.drew, HK'.drew, HR'.drew⟩
                case measure => simp [intOf]; omega
              · obtain rfl : r = 4 := by omega
                have HW := HST _ _ hmi hx1 hki
                clear hmi hki hri
                go_wp2_with fail
                go_roundw
                case rel => exact ⟨1, _, y1, by omega, by go_num, HW⟩
                case measure => simp [intOf]
          · rw [if_neg hq0] at hnx
            have hq0' : ((q : Int) == 0) = false := by simp [hq0]
            go_wp2_with fail
            refine hst.mono ?_
            rintro e w1 ⟨y1, rfl, hm1, hx1, hk1⟩
            have MT : RM w1 l (part T (pg * 68 + 4 * q) d (pg * 68) 0) y1 := by
              rw [← part_zero, HT.out, ← next_same t.step b j (by rw [Fl.step_next]; exact hnx)]; exact hm1
            have KT : Keep l.own wr w1 := hk1
            have RT := hrw.keep KT hg
            clear hm1 hk1 hrw hnx hst
            go_wp2_with fail
            go_loopw [10] (fun i wi => ∃ r : Nat, r ≤ 4 ∧ i = .int .i64 r ∧ RM wi l (part T (pg * 68 + 4 * q) d (pg * 68) r) y1 ∧ Keep l.own wr wi ∧ Blk wi g 68 (fun i => .int .u8 (d i))) (fun i _ => 4 - (intOf i).toNat)
            case atStart => exact ⟨0, by omega, rfl, MT, KT, RT⟩
            case round =>
              obtain ⟨r, hr4, rfl, hmi, hki, hri⟩ := hrel
              clear MT KT RT
              by_cases hr5 : r < 4
              · obtain ⟨u0, u1, u2, u3, u4, u5, u6, u7, u8⟩ := hmi.tops
                have u2' : wr.cell? ⟨l.p, 2, none⟩ = some (.slice (some ⟨l.y, 0, none⟩) M M) := by rw [u2]; show some (Value.slice _ (T.B * T.P * 68) (T.B * T.P * 68)) = _; rw [TM]
                have hyc := hmi.cel (pg * 68 + 4 * q + r) (by show _ < T.B * T.P * 68; rw [TM]; omega)
                have hy1 := hyc.1
                have hy2 := hyc.2
                have hdc : wr.cell? ⟨g, 4 * q + r, none⟩ = some (.int .u8 (d (4 * q + r))) := (hri (4 * q + r) (by omega)).1
                have HN' := part_set hmi
                have HK' := rky hki (pg * 68 + 4 * q + r) (.int .u8 (d (4 * q + r)))
                have HR' := (hri.keep (rky (Keep.refl l.own wr) (pg * 68 + 4 * q + r) (.int .u8 (d (4 * q + r)))) hg)
                obtain ⟨a, ha⟩ : ∃ a, Hid (a = 4 * q + r) := ⟨_, rfl⟩
                rw [show pg * 68 + 4 * q + r = pg * 68 + a by rw [ha.out]; omega] at hy1 hy2 HN' HK' HR'
                rw [← ha.out] at hdc HN' HK' HR'
                have g1 : (pg : Int) * 68 + (q : Int) * 4 + r = (pg : Int) * 68 + a := by have := ha.out; omega
                have g2 : (q : Int) * 4 + r = a := by have := ha.out; omega
                have g3 : (a : Int) < 68 := by have := ha.out; omega
                have g4 : (pg : Int) * 68 + a < M := by omega
                have g5 : ((pg : Int) * 68 + a).toNat = pg * 68 + a := by omega
                have w1' : IntKind.i64.wrap ((pg : Int) * 68) = (pg : Int) * 68 := by rw [IntKind.wrap_i64]; omega
                have w2' : IntKind.i64.wrap ((q : Int) * 4) = (q : Int) * 4 := by rw [IntKind.wrap_i64]; omega
                have w3' : IntKind.i64.wrap ((pg : Int) * 68 + (q : Int) * 4) = (pg : Int) * 68 + (q : Int) * 4 := by rw [IntKind.wrap_i64]; omega
                have w4' : IntKind.i64.wrap ((pg : Int) * 68 + a) = (pg : Int) * 68 + a := by rw [IntKind.wrap_i64]; omega
                have w5' : IntKind.i64.wrap (a : Int) = (a : Int) := by rw [IntKind.wrap_i64]; omega
                clear hmi hki hri hyc u0 u1 u2 u3 u4 u5 u6 u7 u8
                go_wp2_with fail
                go_region
                go_wp2_with fail
                go_roundw
                case rel => exact ⟨r + 1, by omega, by go_num, HN'.drew, HK'.drew, HR'.drew⟩
                case measure => simp [intOf]; omega
              · obtain rfl : r = 4 := by omega
                have HW := HST _ _ hmi hx1 hki
                clear hmi hki hri
                go_wp2_with fail
                go_roundw
                case rel => exact ⟨q + 1, _, y1, by omega, by go_num, HW⟩
                case measure => simp [intOf]; omega
      · obtain rfl : q = 4 := by omega
        have HE : Hid (s.progOne.failed.write b j d 0 4 = (true, t)) := by show _ = _; rw [hw.rest, Nat.sub_self]; rfl
        obtain ⟨v0, v1, v2, v3, v4, v5, v6, v7, v8⟩ := hw.mem.tops
        rw [hw.B, hFB] at v3
        have hbb := hw.mem.bad b (by rw [hw.B, hFB]; exact hb)
        have hb1 := hbb.1
        have hb2 := hbb.2
        have hmB := hw.mem.setBad b true
        have hKB := rkb hw.keep b (.bool true)
        have hxB := hw.cuts
        clear hw hbb
        go_wp2_with fail
        go_ret
        rw [HX.out, HE.out]
        exact ⟨rfl, y, hmB, hxB.same rfl rfl, hKB⟩

theorem rprogram_any {w : World} {l : Pl} {s : Fl} {x : Int} {N g gc : Nat} {d : Nat → Int} (h : RM w l s x) (hx : Cuts s x) (ok : s.Ok N) (hN : N ≤ 1000000) {b j pg : Nat} (hb : b < s.B) (hj : j < s.P) (hpg : pg = b * s.P + j)
    (hd0 : ∀ i, 0 ≤ d i ∧ d i ≤ 255) (hr : Blk w g 68 (fun i => .int .u8 (d i))) (hg : ¬ l.own g) :
    Calls Try.prog 18 #[.pointer (some ⟨l.p, 0, none⟩), .int .i64 pg, .slice (some ⟨g, 0, none⟩) 68 gc] w fun e w' => e = .returned (.int .i64 ((s.program b j d).1 : Nat)) ∧ ∃ y, RM w' l (s.program b j d).2 y ∧ Cuts (s.program b j d).2 y ∧ Keep l.own w w' := by
  unfold Fl.program
  cases e1 : s.on
  · refine (rprogram_off (g := g) (gc := gc) h ok hb hj hpg e1).mono ?_
    rintro e w' ⟨rfl, hm, hk⟩
    exact ⟨rfl, x, hm, hx, hk⟩
  · simp only [Bool.true_eq_false, if_false]
    cases e2 : s.bad b
    · simp only [Bool.false_eq_true, if_false]
      cases e3 : s.torn b
      · by_cases e5 : j = s.next b
        · rw [show (false || !(j == s.next b)) = false by simp [e5]]
          exact rprogram_go h hx ok hN hb hj hpg hd0 hr hg e1 e2 e3 e5
        · rw [show (false || !(j == s.next b)) = true by simp [e5]]
          refine (rprogram_order (g := g) (gc := gc) h ok hb hj hpg e1 e2 (Or.inr e5)).mono ?_
          rintro e w' ⟨rfl, hm, hk⟩
          exact ⟨rfl, x, hm, hx, hk⟩
      · refine (rprogram_order (g := g) (gc := gc) h ok hb hj hpg e1 e2 (Or.inl e3)).mono ?_
        rintro e w' ⟨rfl, hm, hk⟩
        exact ⟨rfl, x, hm, hx, hk⟩
    · refine (rprogram_bad (g := g) (gc := gc) h ok hb hj hpg e1 e2).mono ?_
      rintro e w' ⟨rfl, hm, hk⟩
      exact ⟨rfl, x, hm, hx, hk⟩
end Nd
end Go.Proofs.Ytjafjofonckaaaa
