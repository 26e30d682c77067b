/-
  StreamPlays' body.
-/
import Derived.Test.YthfbfepaoknmfaaPj
namespace Go.Proofs.Ythfbfepaoknmfaa
open Go.ChangeShapes Go.WideShapes Go.ChangeAt Go.RowKit
namespace Tg
theorem Rh.older {w0 w1 w : World} {p g1 g2 g3 c1 c2 c3 : Nat} {ex us lg : List Int} {now : Int} (h : Rh w1 w p g1 g2 g3 c1 c2 c3 ex us lg now) (k : Keep (fun _ => False) w0 w1) : Rh w0 w p g1 g2 g3 c1 c2 c3 ex us lg now :=
  ⟨h.top, fun j hj => (h.row j hj).older k, h.out, h.two, Nat.le_trans k.size h.old⟩
/-- The blocks of the two detectors are apart. -/
def Sep (p g h q g1 g2 g3 : Nat) : Prop := ∀ b, RhB q g1 g2 g3 b → b ≠ p ∧ b ≠ g ∧ b ≠ h
/-- Both detectors beside each other, i commands behind. -/
def PlI (w1 wx : World) (p g h q g1 g2 g3 c1 c2 c3 n : Nat) (i : Nat) : Prop := ∃ s us now, Dt w1 wx p g h n s ∧ Rh w1 wx q g1 g2 g3 c1 c2 c3 s.ex us s.lg now ∧ Stp us now s n ∧ Lb s (i : Int) ∧ now ≤ (i : Int)
theorem pl_new {w1 w2 w3 : World} {p g h q n : Nat} (hn : 1 ≤ n) (D : Dt w1 w2 p g h n (St.new n)) (R : Rg w2 w3 q (List.replicate n (-1)) (List.replicate n 0) (List.replicate n 0) 0) :
    ∃ g1 g2 g3 c1 c2 c3, PlI w1 w3 p g h q g1 g2 g3 c1 c2 c3 n 0 ∧ Sep p g h q g1 g2 g3 := by
  obtain ⟨g1, g2, g3, c1, c2, c3, R⟩ := R.rh (by simp; omega) (by simp; omega) (by simp; omega)
  refine ⟨g1, g2, g3, c1, c2, c3, ⟨St.new n, List.replicate n 0, 0, D.more R.keep, R.older D.keep, stp_new n, lb_new n, by omega⟩, fun b hb => ?_⟩
  have h1 := (R.lt hb).1
  have h2 := D.lt
  omega
theorem Dt.shun {S : Nat → Prop} {w0 w w' : World} {p g h n : Nat} {s : St} (d : Dt w0 w p g h n s) (k : Keep S w w') (h1 : ∀ b, S b → b ≠ p ∧ b ≠ g ∧ b ≠ h) (h0 : Keep (fun _ => False) w0 w') : Dt w0 w' p g h n s :=
  d.other k (fun e => (h1 _ e).1 rfl) (fun e => (h1 _ e).2.1 rfl) (fun e => (h1 _ e).2.2 rfl) h0
theorem Ri.nines {w0 w : World} {a n : Nat} {xs : List Int} (h : Ri w0 w (Option.some ⟨a, 0, none⟩) n xs) (hl : xs.length = n) {j : Nat} (hj : j < n) : (∃ v, w.cell? ⟨a, j, none⟩ = Option.some v) ∧ w.frozen? ⟨a, j, none⟩ = false ∧ ∃ ys : List Int, ys.length = n ∧ Ri w0 (w.setCell ⟨a, j, none⟩ (.int .i64 99)) (Option.some ⟨a, 0, none⟩) n ys :=
  ⟨⟨_, h.cell (by omega)⟩, h.fz j, xs.set j 99, by rw [List.length_set]; exact hl, h.set j 99⟩
set_option maxRecDepth 100000 in
set_option maxHeartbeats 1000000 in
theorem plays_no {k : Int} (hk : k < 1 ∨ 16 < k) (v : Value) (w : World) : Calls Try.prog 4 #[.int .i64 k, v] w fun e w' => e = .returned (.bool true) ∧ Keep (fun _ => False) w w' := by
  have haw := awake_any w
  have hno := new_no hk
  go_enter Try.func4, Try.ntmps4
  go_wp2_with fail
  refine haw.mono ?_
  rintro e w1 ⟨rfl, K1⟩
  clear haw
  go_wp2_with fail
  refine (hno _).mono ?_
  rintro e wz ⟨rfl, e0⟩
  have e0 := e0.symm
  subst e0
  clear hno
  by_cases h1 : k < 1
  · clear hk
    go_wp2_with fail
    go_ret
    exact ⟨rfl, K1⟩
  · have h2 := hk.resolve_left h1
    clear hk
    go_wp2_with fail
    go_ret
    exact ⟨rfl, K1⟩
set_option maxRecDepth 100000 in
set_option maxHeartbeats 1000000 in
theorem plays_many {n : Nat} (hn : 1 ≤ n ∧ n ≤ 16) {a : Option Addr} {len cap : Nat} (hl : 100 < len) (w : World) : Calls Try.prog 4 #[.int .i64 (n : Int), .slice a len cap] w fun e w' => e = .returned (.bool true) ∧ Keep (fun _ => False) w w' := by
  have haw := awake_any w
  have dl : (100 : Int) < (len : Int) := by omega
  have d1 : ¬ (n : Int) < 1 := by omega
  have d2 : ¬ (16 : Int) < (n : Int) := by omega
  go_enter Try.func4, Try.ntmps4
  go_wp2_with fail
  refine haw.mono ?_
  rintro e w1 ⟨rfl, K1⟩
  have hnew := new_ok (w := w1) hn.1 hn.2
  clear haw hn
  go_wp2_with fail
  refine hnew.mono ?_
  rintro e w2 ⟨p, g, h, rfl, D⟩
  have K2 := K1.trans D.keep
  clear hnew D
  go_wp2_with fail
  go_ret
  exact ⟨rfl, K2⟩
set_option maxRecDepth 100000 in
set_option maxHeartbeats 4000000 in
theorem plays_yes {n : Nat} (hn : 1 ≤ n ∧ n ≤ 16) {a : Option Addr} {len cap : Nat} {w : World} (hA : Acts w a len cap) (hl : len ≤ 100) : Calls Try.prog 4 #[.int .i64 (n : Int), .slice a len cap] w fun e w' => e = .returned (.bool true) ∧ Keep (fun _ => False) w w' := by
  have haw := awake_any w
  have dl : ¬ (100 : Int) < (len : Int) := by omega
  have d1 : ¬ (n : Int) < 1 := by omega
  have d2 : ¬ (16 : Int) < (n : Int) := by omega
  go_enter Try.func4, Try.ntmps4
  go_wp2_with fail
  refine haw.mono ?_
  rintro e w1 ⟨rfl, K1⟩
  have hnew := new_ok (w := w1) hn.1 hn.2
  clear haw
  go_wp2_with fail
  refine hnew.mono ?_
  rintro e w2 ⟨p, g, h, rfl, D⟩
  have hrn := rnew14 (w := w2) hn.2
  clear hnew
  go_wp2_with fail
  refine hrn.mono ?_
  rintro e w3 ⟨q, rfl, R⟩
  obtain ⟨g1, g2, g3, c1, c2, c3, P0, hsep⟩ := pl_new hn.1 D R
  clear hrn D R
  have hA : Hid (Acts w1 a len cap) := hA.more K1
  have hn' : Hid (1 ≤ n ∧ n ≤ 16) := hn
  have hl' : Hid (len ≤ 100) := hl
  have hsep : Hid (Sep p g h q g1 g2 g3) := hsep
  clear hn hl
  go_wp2_with fail
  go_loopw [8, 9, 10, 11, 12, 13, 14, 15, 16] (fun iv _ _ _ _ _ _ _ _ wx => ∃ i : Nat, i ≤ len ∧ iv = .int .i64 (i : Int) ∧ PlI w1 wx p g h q g1 g2 g3 c1 c2 c3 n i) (fun iv _ _ _ _ _ _ _ _ _ => len - (intOf iv).toNat)
  case atStart => exact ⟨0, by omega, rfl, P0⟩
  case round =>
    clear P0
    obtain ⟨i, hi, rfl, s, us, now, D, R, HS, hb, hnow⟩ := hrel
    by_cases hlt : i < len
    · have di : (i : Int) < (len : Int) := by omega
      have hl2 : len ≤ 100 := hl'
      have hn2 : 1 ≤ n ∧ n ≤ 16 := hn'
      have hs2 : Sep p g h q g1 g2 g3 := hsep
      have dwi := wrapI (x := (i : Int) + 1) (by omega) (by omega)
      have hlt' : Hid (i < len) := hlt
      have hlts := D.lt
      have hrlt : ∀ b, RhB q g1 g2 g3 b → b < wr.heap.size := fun b hb => (R.lt hb).2
      have hA2 := (show Acts w1 a len cap from hA).more D.keep
      obtain ⟨b, o, x, y, rfl, hx, hy, cx, cy⟩ := hA2.at hlt
      have B3 : Blk (wr.alloc (.cells #[.int .i64 x, .int .i64 y] 37)) wr.heap.size 2 (fun j => if j = 0 then .int .i64 x else .int .i64 y) := blk_alloc wr _ 37 2 _ (fun j hj => by rcases (by omega : j = 0 ∨ j = 1) with rfl | rfl <;> rfl)
      have K3 := (Keep.refl (fun _ => False) wr).alloc (.cells #[.int .i64 x, .int .i64 y] 37)
      have D3 := D.more K3
      have R3 := R.more K3
      have hHid : Hid (Stp us now s n ∧ Lb s (i : Int) ∧ now ≤ (i : Int)) := ⟨HS, hb, hnow⟩
      clear D R HS hb hnow hA2 hlt hi K3
      go_upto_region 13 with fail
      generalize wr.alloc (.cells #[.int .i64 x, .int .i64 y] 37) = w3 at B3 D3 R3 ⊢
      generalize wr.heap.size = xb at B3 hlts hrlt ⊢
      obtain ⟨HS, hb, hnow⟩ : Stp us now s n ∧ Lb s (i : Int) ∧ now ≤ (i : Int) := hHid
      clear cx cy
      have x0 := (B3 0 (by omega)).1
      have x1 := (B3 1 (by omega)).1
      simp only [show ¬ (1 : Nat) = 0 by omega, ↓reduceIte] at x0 x1
      by_cases hc : 0 ≤ x ∧ 1 ≤ y ∧ x + y ≤ 1073741824
      · have hfd := feed_ok D3 hn2.2 (hb.mono (by omega)) hc
        have HS2 := stp_feed HS D3.ok (lba := x) (m := y)
        have hb2 := lb_feed D3.ok hb (by omega) x y
        have hok3 := D3.ok
        have e1 : ¬ x < 0 := by omega
        have e2 : ¬ y < 1 := by omega
        have e3 : ¬ 1073741824 < x := by omega
        have e4 : ¬ 1073741824 - x < y := by omega
        have e5 := wrapI (x := 1073741824 - x) (by omega) (by omega)
        have hHid : Hid (Stp us now s n ∧ Lb s (i : Int) ∧ now ≤ (i : Int) ∧ Stp (us.set (s.pos x) (now + 1)) (now + 1) (s.feed x y) n ∧ Lb (s.feed x y) ((i : Int) + 1) ∧ s.Ok n ∧ (0 ≤ x ∧ 1 ≤ y ∧ x + y ≤ 1073741824)) := ⟨HS, hb, hnow, HS2, hb2, hok3, hc⟩
        clear HS hb hnow HS2 hb2 hok3 hc D3 hx hy
        go_wp2_with fail
        refine hfd.mono ?_
        rintro e w4 ⟨rfl, D4, K4⟩
        have R4 := R3.other K4 (fun b' hb' e => by have := hs2 b' hb'; unfold DtB at e; omega) D4.keep
        have B4 := Blk.keep B3 K4 (by unfold DtB; omega)
        have y0 := (B4 0 (by omega)).1
        have y1 := (B4 1 (by omega)).1
        simp only [show ¬ (1 : Nat) = 0 by omega, ↓reduceIte] at y0 y1
        obtain ⟨HS, hb, hnow, HS2, hb2, hok3, hc⟩ : Stp us now s n ∧ Lb s (i : Int) ∧ now ≤ (i : Int) ∧ Stp (us.set (s.pos x) (now + 1)) (now + 1) (s.feed x y) n ∧ Lb (s.feed x y) ((i : Int) + 1) ∧ s.Ok n ∧ (0 ≤ x ∧ 1 ≤ y ∧ x + y ≤ 1073741824) := hHid
        have hrf := rfeed14 R4 HS hok3 hn2.2 (by omega) (hb.mono (by omega)) hc
        have hfin : Hid (Stp (us.set (s.pos x) (now + 1)) (now + 1) (s.feed x y) n ∧ Lb (s.feed x y) ((i : Int) + 1) ∧ now + 1 ≤ (i : Int) + 1) := ⟨HS2, hb2, by omega⟩
        have dq : (((s.pos x : Nat) : Int) != ((s.pos x : Nat) : Int)) = false := by rw [bne_eq_false_iff_eq]
        clear HS hb hnow HS2 hb2 hok3 hc R3 K4 B3 B4 x0 x1 hfd
        go_wp2_with fail
        refine hrf.mono ?_
        rintro e w5 ⟨rfl, R5, K5⟩
        have D5 := D4.shun K5 hs2 R5.keep
        clear D4 R4 hrf K5 y0 y1 e1 e2 e3 e4 e5
        generalize us.set (s.pos x) (now + 1) = us2 at R5 hfin
        generalize now + 1 = now2 at R5 hfin
        obtain ⟨S, hS⟩ : ∃ S, S = s.feed x y := ⟨_, rfl⟩
        rw [← hS] at R5 D5 hfin
        clear hS
        have hex := expects_ok D5 hn2.2
        go_wp2_with fail
        refine hex.mono ?_
        rintro e w6 ⟨a1, rfl, R6⟩
        have D6 := D5.more R6.keep
        have Rh6 := R5.more R6.keep
        have ha1 := (R6.block rfl).1
        have hlt5 := D5.lt
        have hrl5 : ∀ b, RhB q g1 g2 g3 b → b < w5.heap.size := fun b hb => (R5.lt hb).2
        have hK15 := D5.keep
        have hi := ints_any R6.is (Ri.is (Rh6.row 0 (by omega))) (by rw [D5.ok.ex]; omega)
        have hi : Calls Try.prog 11 #[.slice (some ⟨a1, 0, none⟩) n n, .slice (some ⟨g1, 0, none⟩) n c1] w6 fun e w' => e = .returned (.bool true) ∧ Keep (fun _ => False) w6 w' := by
          have h2 : Calls Try.prog 11 #[.slice (some ⟨a1, 0, none⟩) S.ex.length n, .slice (some ⟨g1, 0, none⟩) S.ex.length c1] w6 fun e w' => e = .returned (.bool (decide (S.ex = S.ex))) ∧ Keep (fun _ => False) w6 w' := hi
          rw [D5.ok.ex, decide_eq_true rfl] at h2
          exact h2
        have z0 := Rh6.z0
        rw [D5.ok.ex] at z0
        have hlgl : Hid (S.lg.length = n) := D5.ok.lg
        have hR6 : Hid (∃ xs : List Int, xs.length = n ∧ Ri w5 w6 (some ⟨a1, 0, none⟩) n xs) := ⟨S.ex, D5.ok.ex, R6⟩
        clear hex D5 R5 R6
        go_wp2_with fail
        refine hi.mono ?_
        rintro e w7 ⟨rfl, K7⟩
        have D7 := D6.more K7
        have Rh7 := Rh6.more K7
        have hR7 : Hid (∃ xs : List Int, xs.length = n ∧ Ri w5 w7 (some ⟨a1, 0, none⟩) n xs) := by obtain ⟨xs, q1, q2⟩ := (show ∃ xs : List Int, _ from hR6); exact ⟨xs, q1, q2.more K7⟩
        clear hi D6 Rh6 K7 z0 hR6
        go_wp2_with fail
        go_loopw [13, 14, 15] (fun jv _ _ wx => ∃ J : Int, -1 ≤ J ∧ J ≤ (n : Int) + 1 ∧ jv = .int .i64 J ∧ Keep (fun _ => False) w7 wx) (fun jv _ _ _ => ((n : Int) + 1 - intOf jv).toNat)
        case atStart => exact ⟨-1, by omega, by omega, rfl, Keep.refl _ _⟩
        case round =>
          obtain ⟨J, hJ1, hJ2, rfl, k1⟩ := hrel
          by_cases hJ : J ≤ (n : Int)
          · have dwj := wrapI (x := J + 1) (by omega) (by omega)
            have hJ' : Hid (-1 ≤ J ∧ J ≤ (n : Int)) := ⟨hJ1, hJ⟩
            have D8 := D7.more k1
            by_cases hin : 0 ≤ J ∧ J < (n : Int)
            · obtain ⟨k, rfl⟩ : ∃ k : Nat, J = (k : Int) := ⟨J.toNat, by omega⟩
              have hk : k < n := by omega
              have hlo := long_ok D8 hk
              have Rh8 := Rh7.more k1
              have z2 := Rh8.z2
              rw [show S.lg.length = n from hlgl] at z2
              have z3 := (Rh8.e3 (i := k) (by rw [show S.lg.length = n from hlgl]; exact hk)).1
              generalize S.lg.getD k 0 = v at hlo z3
              have dv : (v != v) = false := by rw [bne_eq_false_iff_eq]
              have g1' : ¬ (k : Int) < 0 := by omega
              have g2' : ¬ (n : Int) ≤ (k : Int) := by omega
              have g3' : (k : Int) < (n : Int) := by omega
              clear Rh8 D8 hin hJ1 hJ2 hk
              go_wp2_with fail
              refine hlo.mono ?_
              rintro e wz ⟨rfl, e0⟩
              have e0 := e0.symm
              subst e0
              clear hlo
              go_wp2_with fail
              go_roundw
              case rel => exact ⟨(k : Int) + 1, by omega, by have : -1 ≤ (k : Int) ∧ (k : Int) ≤ (n : Int) := hJ'; omega, rfl, k1⟩
              case measure => have : -1 ≤ (k : Int) ∧ (k : Int) ≤ (n : Int) := hJ'; simp [intOf]; omega
            · have hor : J < 0 ∨ (n : Int) ≤ J := by omega
              have hlo := long_no D8 hor
              clear D8 hin hJ1 hJ2
              go_wp2_with fail
              refine hlo.mono ?_
              rintro e wz ⟨rfl, e0⟩
              have e0 := e0.symm
              subst e0
              clear hlo
              by_cases g1' : J < 0
              · clear hor
                go_wp2_with fail
                go_roundw
                case rel => exact ⟨J + 1, by have : -1 ≤ J ∧ J ≤ (n : Int) := hJ'; omega, by have : -1 ≤ J ∧ J ≤ (n : Int) := hJ'; omega, rfl, k1⟩
                case measure => have : -1 ≤ J ∧ J ≤ (n : Int) := hJ'; simp [intOf]; omega
              · have g2' : (n : Int) ≤ J := hor.resolve_left g1'
                clear hor
                go_wp2_with fail
                go_roundw
                case rel => exact ⟨J + 1, by have : -1 ≤ J ∧ J ≤ (n : Int) := hJ'; omega, by have : -1 ≤ J ∧ J ≤ (n : Int) := hJ'; omega, rfl, k1⟩
                case measure => have : -1 ≤ J ∧ J ≤ (n : Int) := hJ'; simp [intOf]; omega
          · have hR8 : Hid (∃ xs : List Int, xs.length = n ∧ Ri w5 wr (some ⟨a1, 0, none⟩) n xs) := by obtain ⟨xs, q1, q2⟩ := (show ∃ xs : List Int, _ from hR7); exact ⟨xs, q1, q2.more k1⟩
            clear hJ1 hJ2
            go_wp2_with fail
            go_loopw [16] (fun jv wx => ∃ j : Nat, j ≤ n ∧ jv = .int .i64 (j : Int) ∧ Hid (∃ xs : List Int, xs.length = n ∧ Ri w5 wx (some ⟨a1, 0, none⟩) n xs) ∧ Keep (fun b => b = a1) w7 wx) (fun jv _ => n - (intOf jv).toNat)
            case atStart => exact ⟨0, by omega, rfl, hR8, k1.mono (fun _ _ e => e.elim)⟩
            case round =>
              clear hR8 hR7 k1
              obtain ⟨j, hj, rfl, ⟨xs, hxs, RX⟩, k2⟩ := hrel
              by_cases hjl : j < n
              · have dj : (j : Int) < (n : Int) := by omega
                have dwj := wrapI (x := (j : Int) + 1) (by omega) (by omega)
                have hjl' : Hid (j < n) := hjl
                obtain ⟨⟨v0, u0⟩, f0, hny⟩ := RX.nines hxs hjl
                have hny : Hid (∃ ys : List Int, ys.length = n ∧ Ri w5 (wr.setCell ⟨a1, j, none⟩ (.int .i64 99)) (some ⟨a1, 0, none⟩) n ys) := hny
                have k3 := k2.setCell (p := ⟨a1, j, none⟩) (Or.inl rfl) (.int .i64 99)
                clear RX hxs k2 hjl
                go_wp2_with fail
                go_roundw
                case rel => exact ⟨j + 1, hjl', by go_num, hny, k3⟩
                case measure => have : j < n := hjl'; simp [intOf]; omega
              · have dj : ¬ (j : Int) < (n : Int) := by omega
                have hK1 := hK15.trans RX.keep
                have D9 := D7.shun k2 (fun b hb => by subst hb; omega) hK1
                have R9 := Rh7.other k2 (fun b hb e => by have := hrl5 b hb; omega) hK1
                have PP : Hid (PlI w1 wr p g h q g1 g2 g3 c1 c2 c3 n (i + 1)) := ⟨S, us2, now2, D9, R9, hfin⟩
                clear D7 Rh7 RX k2 D9 R9 hK1 hjl
                go_wp2_with fail
                go_roundw
                case rel => exact ⟨i + 1, hlt', by go_num, PP⟩
                case measure => have : i < len := hlt'; simp [intOf]; omega
      · have hfd := feed_no (lba := x) (m := y) (by omega) hx.2 hy.2 (.pointer (some ⟨p, 0, none⟩)) w3
        have hfin : Hid (Stp us now s n ∧ Lb s ((i : Int) + 1) ∧ now ≤ (i : Int) + 1) := ⟨HS, hb.mono (by omega), by omega⟩
        have hc' : Hid (¬ (0 ≤ x ∧ 1 ≤ y ∧ x + y ≤ 1073741824)) := hc
        have hxy : Hid (x ≤ 9223372036854775807) := hx.2
        clear HS hb hnow hc hx hy
        go_wp2_with fail
        refine hfd.mono ?_
        rintro e wz ⟨rfl, e0⟩
        have e0 := e0.symm
        subst e0
        clear hfd
        go_upto_region 14 with fail
        go_cut [90] from 51 to 163 (fun v wx => v = .bool true ∧ wx = w3)
        case first =>
          by_cases e1 : x < 0
          · go_wp2_with fail
            go_meet
            exact ⟨rfl, rfl⟩
          · by_cases e2 : y < 1
            · go_wp2_with fail
              go_meet
              exact ⟨rfl, rfl⟩
            · by_cases e3 : 1073741824 < x
              · go_wp2_with fail
                go_meet
                exact ⟨rfl, rfl⟩
              · have e4 : 1073741824 - x < y := by have : ¬ (0 ≤ x ∧ 1 ≤ y ∧ x + y ≤ 1073741824) := hc'; omega
                have e5 := wrapI (x := 1073741824 - x) (by omega) (by omega)
                go_wp2_with fail
                go_meet
                exact ⟨rfl, rfl⟩
        case rest =>
        obtain ⟨rfl, ew⟩ := hcut
        subst wc
        have D5 := D3
        have R5 := R3
        clear D3 R3 B3 x0 x1 hc' hxy
        generalize us = us2 at R5 hfin
        generalize now = now2 at R5 hfin
        generalize s = S at R5 D5 hfin
        generalize w3 = w5 at R5 D5 ⊢
        have hex := expects_ok D5 hn2.2
        go_wp2_with fail
        refine hex.mono ?_
        rintro e w6 ⟨a1, rfl, R6⟩
        have D6 := D5.more R6.keep
        have Rh6 := R5.more R6.keep
        have ha1 := (R6.block rfl).1
        have hlt5 := D5.lt
        have hrl5 : ∀ b, RhB q g1 g2 g3 b → b < w5.heap.size := fun b hb => (R5.lt hb).2
        have hK15 := D5.keep
        have hi := ints_any R6.is (Ri.is (Rh6.row 0 (by omega))) (by rw [D5.ok.ex]; omega)
        have hi : Calls Try.prog 11 #[.slice (some ⟨a1, 0, none⟩) n n, .slice (some ⟨g1, 0, none⟩) n c1] w6 fun e w' => e = .returned (.bool true) ∧ Keep (fun _ => False) w6 w' := by
          have h2 : Calls Try.prog 11 #[.slice (some ⟨a1, 0, none⟩) S.ex.length n, .slice (some ⟨g1, 0, none⟩) S.ex.length c1] w6 fun e w' => e = .returned (.bool (decide (S.ex = S.ex))) ∧ Keep (fun _ => False) w6 w' := hi
          rw [D5.ok.ex, decide_eq_true rfl] at h2
          exact h2
        have z0 := Rh6.z0
        rw [D5.ok.ex] at z0
        have hlgl : Hid (S.lg.length = n) := D5.ok.lg
        have hR6 : Hid (∃ xs : List Int, xs.length = n ∧ Ri w5 w6 (some ⟨a1, 0, none⟩) n xs) := ⟨S.ex, D5.ok.ex, R6⟩
        clear hex D5 R5 R6
        go_wp2_with fail
        refine hi.mono ?_
        rintro e w7 ⟨rfl, K7⟩
        have D7 := D6.more K7
        have Rh7 := Rh6.more K7
        have hR7 : Hid (∃ xs : List Int, xs.length = n ∧ Ri w5 w7 (some ⟨a1, 0, none⟩) n xs) := by obtain ⟨xs, q1, q2⟩ := (show ∃ xs : List Int, _ from hR6); exact ⟨xs, q1, q2.more K7⟩
        clear hi D6 Rh6 K7 z0 hR6
        go_wp2_with fail
        go_loopw [13, 14, 15] (fun jv _ _ wx => ∃ J : Int, -1 ≤ J ∧ J ≤ (n : Int) + 1 ∧ jv = .int .i64 J ∧ Keep (fun _ => False) w7 wx) (fun jv _ _ _ => ((n : Int) + 1 - intOf jv).toNat)
        case atStart => exact ⟨-1, by omega, by omega, rfl, Keep.refl _ _⟩
        case round =>
          obtain ⟨J, hJ1, hJ2, rfl, k1⟩ := hrel
          by_cases hJ : J ≤ (n : Int)
          · have dwj := wrapI (x := J + 1) (by omega) (by omega)
            have hJ' : Hid (-1 ≤ J ∧ J ≤ (n : Int)) := ⟨hJ1, hJ⟩
            have D8 := D7.more k1
            by_cases hin : 0 ≤ J ∧ J < (n : Int)
            · obtain ⟨k, rfl⟩ : ∃ k : Nat, J = (k : Int) := ⟨J.toNat, by omega⟩
              have hk : k < n := by omega
              have hlo := long_ok D8 hk
              have Rh8 := Rh7.more k1
              have z2 := Rh8.z2
              rw [show S.lg.length = n from hlgl] at z2
              have z3 := (Rh8.e3 (i := k) (by rw [show S.lg.length = n from hlgl]; exact hk)).1
              generalize S.lg.getD k 0 = v at hlo z3
              have dv : (v != v) = false := by rw [bne_eq_false_iff_eq]
              have g1' : ¬ (k : Int) < 0 := by omega
              have g2' : ¬ (n : Int) ≤ (k : Int) := by omega
              have g3' : (k : Int) < (n : Int) := by omega
              clear Rh8 D8 hin hJ1 hJ2 hk
              go_wp2_with fail
              refine hlo.mono ?_
              rintro e wz ⟨rfl, e0⟩
              have e0 := e0.symm
              subst e0
              clear hlo
              go_wp2_with fail
              go_roundw
              case rel => exact ⟨(k : Int) + 1, by omega, by have : -1 ≤ (k : Int) ∧ (k : Int) ≤ (n : Int) := hJ'; omega, rfl, k1⟩
              case measure => have : -1 ≤ (k : Int) ∧ (k : Int) ≤ (n : Int) := hJ'; simp [intOf]; omega
            · have hor : J < 0 ∨ (n : Int) ≤ J := by omega
              have hlo := long_no D8 hor
              clear D8 hin hJ1 hJ2
              go_wp2_with fail
              refine hlo.mono ?_
              rintro e wz ⟨rfl, e0⟩
              have e0 := e0.symm
              subst e0
              clear hlo
              by_cases g1' : J < 0
              · clear hor
                go_wp2_with fail
                go_roundw
                case rel => exact ⟨J + 1, by have : -1 ≤ J ∧ J ≤ (n : Int) := hJ'; omega, by have : -1 ≤ J ∧ J ≤ (n : Int) := hJ'; omega, rfl, k1⟩
                case measure => have : -1 ≤ J ∧ J ≤ (n : Int) := hJ'; simp [intOf]; omega
              · have g2' : (n : Int) ≤ J := hor.resolve_left g1'
                clear hor
                go_wp2_with fail
                go_roundw
                case rel => exact ⟨J + 1, by have : -1 ≤ J ∧ J ≤ (n : Int) := hJ'; omega, by have : -1 ≤ J ∧ J ≤ (n : Int) := hJ'; omega, rfl, k1⟩
                case measure => have : -1 ≤ J ∧ J ≤ (n : Int) := hJ'; simp [intOf]; omega
          · have hR8 : Hid (∃ xs : List Int, xs.length = n ∧ Ri w5 wr (some ⟨a1, 0, none⟩) n xs) := by obtain ⟨xs, q1, q2⟩ := (show ∃ xs : List Int, _ from hR7); exact ⟨xs, q1, q2.more k1⟩
            clear hJ1 hJ2
            go_wp2_with fail
            go_loopw [16] (fun jv wx => ∃ j : Nat, j ≤ n ∧ jv = .int .i64 (j : Int) ∧ Hid (∃ xs : List Int, xs.length = n ∧ Ri w5 wx (some ⟨a1, 0, none⟩) n xs) ∧ Keep (fun b => b = a1) w7 wx) (fun jv _ => n - (intOf jv).toNat)
            case atStart => exact ⟨0, by omega, rfl, hR8, k1.mono (fun _ _ e => e.elim)⟩
            case round =>
              clear hR8 hR7 k1
              obtain ⟨j, hj, rfl, ⟨xs, hxs, RX⟩, k2⟩ := hrel
              by_cases hjl : j < n
              · have dj : (j : Int) < (n : Int) := by omega
                have dwj := wrapI (x := (j : Int) + 1) (by omega) (by omega)
                have hjl' : Hid (j < n) := hjl
                obtain ⟨⟨v0, u0⟩, f0, hny⟩ := RX.nines hxs hjl
                have hny : Hid (∃ ys : List Int, ys.length = n ∧ Ri w5 (wr.setCell ⟨a1, j, none⟩ (.int .i64 99)) (some ⟨a1, 0, none⟩) n ys) := hny
                have k3 := k2.setCell (p := ⟨a1, j, none⟩) (Or.inl rfl) (.int .i64 99)
                clear RX hxs k2 hjl
                go_wp2_with fail
                go_roundw
                case rel => exact ⟨j + 1, hjl', by go_num, hny, k3⟩
                case measure => have : j < n := hjl'; simp [intOf]; omega
              · have dj : ¬ (j : Int) < (n : Int) := by omega
                have hK1 := hK15.trans RX.keep
                have D9 := D7.shun k2 (fun b hb => by subst hb; omega) hK1
                have R9 := Rh7.other k2 (fun b hb e => by have := hrl5 b hb; omega) hK1
                have PP : Hid (PlI w1 wr p g h q g1 g2 g3 c1 c2 c3 n (i + 1)) := ⟨S, us2, now2, D9, R9, hfin⟩
                clear D7 Rh7 RX k2 D9 R9 hK1 hjl
                go_wp2_with fail
                go_roundw
                case rel => exact ⟨i + 1, hlt', by go_num, PP⟩
                case measure => have : i < len := hlt'; simp [intOf]; omega
    · have di : ¬ (i : Int) < (len : Int) := by omega
      have K2 := K1.trans D.keep
      clear D R HS hb hnow hlt hi
      go_wp2_with fail
      go_ret
      exact ⟨rfl, K2⟩
theorem plays_law {n : Int} {a : Option Addr} {len cap : Nat} {w : World} (hA : Acts w a len cap) : Calls Try.prog 4 #[.int .i64 n, .slice a len cap] w fun e w' => e = .returned (.bool true) ∧ Keep (fun _ => False) w w' := by
  by_cases h : n < 1 ∨ 16 < n
  · exact plays_no h _ w
  · obtain ⟨m, rfl⟩ : ∃ m : Nat, n = (m : Int) := ⟨n.toNat, by omega⟩
    by_cases hl : len ≤ 100
    · exact plays_yes (by omega) hA hl
    · exact plays_many (by omega) (by omega) w
end Tg
end Go.Proofs.Ythfbfepaoknmfaa
