/-
  The statements' awakening; StreamKnown's body.
-/
import Derived.Test.YthfbfepaoknmfaaPe
import Derived.Test.YthfbfepaoknmfaaPg
namespace Go.Proofs.Ythfbfepaoknmfaa
open Go.ChangeShapes Go.WideShapes Go.ChangeAt Go.RowKit
namespace Tg
/-- No stream is longer than K. -/
def Lb (s : St) (K : Int) : Prop := ∀ i, 0 ≤ s.lg.getD i 0 ∧ s.lg.getD i 0 ≤ K
theorem lb_new (n : Nat) : Lb (St.new n) 0 := fun i => by unfold St.new; simp only; rw [getD_rep]; omega
theorem lb_feed {s : St} {n : Nat} {K : Int} (ho : s.Ok n) (h : Lb s K) (h0 : 0 ≤ K) (lba m : Int) : Lb (s.feed lba m) (K + 1) := fun i => by
  have hp : s.pos lba < s.lg.length := by rw [ho.lg]; exact ho.pos_lt lba
  have hl : 0 ≤ s.len lba ∧ s.len lba ≤ K + 1 := by
    unfold St.len
    cases s.hit lba with
    | none => simp only; omega
    | some j => have := h j; simp only; omega
  have := h i
  unfold St.feed
  simp only
  rw [getD_set _ _ _ _ hp]
  split <;> omega
theorem Lb.mono {s : St} {K M : Int} (h : Lb s K) (e : K ≤ M) : Lb s M := fun i => ⟨(h i).1, Int.le_trans (h i).2 e⟩
/-- A row of two numbers written out. -/
theorem is_two (w : World) (x y : Int) : Is (w.alloc (.cells #[.int .i64 x, .int .i64 y] 3)) (some ⟨w.heap.size, 0, none⟩) 2 [x, y] := by
  refine ⟨by simp, by omega, Or.inr ⟨_, rfl, fun j u hu => ?_⟩⟩
  have := cells_new w #[.int .i64 x, .int .i64 y] 3 j u (by simpa [ic] using hu)
  rwa [Addr.add_lit, Nat.zero_add] at this
def s1 : St := (St.new 2).feed 0 4
def s2 : St := s1.feed 100 1
def s3 : St := s2.feed 4 2
def s4 : St := s3.feed 101 1
theorem p1 : (St.new 2).pos 0 = 0 := by decide
theorem p2 : s1.pos 100 = 1 := by decide
theorem p3 : s2.pos 4 = 0 := by decide
theorem p4 : s3.pos 101 = 1 := by decide
theorem e4 : s4.ex = [6, 102] := by decide
theorem l4 : s4.lg.getD 0 0 = 2 := by decide
set_option maxRecDepth 100000 in
set_option maxHeartbeats 1000000 in
theorem awake_any (w : World) : Calls Try.prog 7 #[] w fun e w' => e = .returned (.bool true) ∧ Keep (fun _ => False) w w' := by
  have hnew := new_ok (w := w) (n := 2) (by omega) (by omega)
  have o0 := new_okS (n := 2) (by omega)
  have b1 : Lb s1 1 := lb_feed o0 (lb_new 2) (by omega) 0 4
  have b2 : Lb s2 2 := lb_feed (o0.feed 0 4) b1 (by omega) 100 1
  have b3 : Lb s3 3 := lb_feed ((o0.feed 0 4).feed 100 1) b2 (by omega) 4 2
  have q0 : Hid (Lb (St.new 2) 1000000) := (lb_new 2).mono (by omega)
  have q1 : Hid (Lb s1 1000000) := b1.mono (by omega)
  have q2 : Hid (Lb s2 1000000) := b2.mono (by omega)
  have q3 : Hid (Lb s3 1000000) := b3.mono (by omega)
  clear b1 b2 b3 o0
  go_enter Try.func7, Try.ntmps7
  go_wp2_with fail
  refine hnew.mono ?_
  rintro e w1 ⟨p, g, h, rfl, D⟩
  clear hnew
  have hf := feed_ok D (by omega) q0 (lba := 0) (m := 4) (by omega)
  rw [p1] at hf
  go_wp2_with fail
  refine hf.mono ?_
  rintro e w2 ⟨rfl, D2, -⟩
  clear hf D
  have hf := feed_ok (s := s1) D2 (by omega) q1 (lba := 100) (m := 1) (by omega)
  rw [p2] at hf
  go_wp2_with fail
  refine hf.mono ?_
  rintro e w3 ⟨rfl, D3, -⟩
  clear hf D2
  have hf := feed_ok (s := s2) D3 (by omega) q2 (lba := 4) (m := 2) (by omega)
  rw [p3] at hf
  go_wp2_with fail
  refine hf.mono ?_
  rintro e w4 ⟨rfl, D4, -⟩
  clear hf D3
  have hf := feed_ok (s := s3) D4 (by omega) q3 (lba := 101) (m := 1) (by omega)
  rw [p4] at hf
  go_wp2_with fail
  refine hf.mono ?_
  rintro e w5 ⟨rfl, D5, -⟩
  clear hf D4
  have hl := long_ok (s := s4) D5 (i := 0) (by omega)
  rw [l4] at hl
  go_wp2_with fail
  refine hl.mono ?_
  rintro e wz ⟨rfl, e0⟩
  have e0 := e0.symm
  subst e0
  have he := expects_ok (s := s4) D5 (by omega)
  rw [e4] at he
  have K5 := D5.keep
  clear hl D5
  go_wp2_with fail
  refine he.mono ?_
  rintro e w6 ⟨a, rfl, R⟩
  have hi := ints_any (R.is.more ((Keep.refl (fun _ => False) w6).alloc (.cells #[.int .i64 6, .int .i64 102] 3))) (is_two w6 6 102) (by simp)
  have K6 := (K5.trans R.keep).alloc (.cells #[.int .i64 6, .int .i64 102] 3)
  clear R he K5
  go_wp2_with fail
  refine hi.mono ?_
  rintro e w7 ⟨rfl, K7⟩
  have K8 := K6.trans K7
  clear hi K7 K6
  go_wp2_with fail
  go_ret
  exact ⟨rfl, K8⟩
set_option maxRecDepth 100000 in
set_option maxHeartbeats 1000000 in
theorem known_law (w : World) : Calls Try.prog 3 #[] w fun e w' => e = .returned (.bool true) ∧ Keep (fun _ => False) w w' := by
  have haw := awake_any w
  have n0 := new_no (k := 0) (by omega)
  have n17 := new_no (k := 17) (by omega)
  have e2 : (St.new 2).ex = [-1, -1] := by decide
  have l2 : (St.new 2).lg.getD 1 0 = 0 := by decide
  go_enter Try.func3, Try.ntmps3
  go_wp2_with fail
  refine haw.mono ?_
  rintro e w1 ⟨rfl, K1⟩
  clear haw
  go_wp2_with fail
  refine (n0 _).mono ?_
  rintro e wz ⟨rfl, e0⟩
  have e0 := e0.symm
  subst e0
  go_wp2_with fail
  refine (n17 _).mono ?_
  rintro e wz ⟨rfl, e0⟩
  have e0 := e0.symm
  subst e0
  have hnew := new_ok (w := w1) (n := 2) (by omega) (by omega)
  clear n0 n17
  go_wp2_with fail
  refine hnew.mono ?_
  rintro e w2 ⟨p, g, h, rfl, D⟩
  clear hnew
  have hf := feed_no (lba := -1) (m := 1) (by omega) (by omega) (by omega) (.pointer (some ⟨p, 0, none⟩)) w2
  go_wp2_with fail
  refine hf.mono ?_
  rintro e wz ⟨rfl, e0⟩
  have e0 := e0.symm
  subst e0
  clear hf
  have hf := feed_no (lba := 1) (m := 0) (by omega) (by omega) (by omega) (.pointer (some ⟨p, 0, none⟩)) w2
  go_wp2_with fail
  refine hf.mono ?_
  rintro e wz ⟨rfl, e0⟩
  have e0 := e0.symm
  subst e0
  clear hf
  have hf := feed_no (lba := 1073741824) (m := 1) (by omega) (by omega) (by omega) (.pointer (some ⟨p, 0, none⟩)) w2
  go_wp2_with fail
  refine hf.mono ?_
  rintro e wz ⟨rfl, e0⟩
  have e0 := e0.symm
  subst e0
  clear hf
  have hl := long_no D (k := 2) (by omega)
  go_wp2_with fail
  refine hl.mono ?_
  rintro e wz ⟨rfl, e0⟩
  have e0 := e0.symm
  subst e0
  clear hl
  have hl := long_ok D (i := 1) (by omega)
  rw [l2] at hl
  go_wp2_with fail
  refine hl.mono ?_
  rintro e wz ⟨rfl, e0⟩
  have e0 := e0.symm
  subst e0
  have he := expects_ok D (by omega)
  rw [e2] at he
  have K5 := K1.trans D.keep
  clear hl D e2 l2 K1
  go_wp2_with fail
  refine he.mono ?_
  rintro e w6 ⟨a, rfl, R⟩
  have hi := ints_any (R.is.more ((Keep.refl (fun _ => False) w6).alloc (.cells #[.int .i64 (-1), .int .i64 (-1)] 3))) (is_two w6 (-1) (-1)) (by simp)
  have K6 := (K5.trans R.keep).alloc (.cells #[.int .i64 (-1), .int .i64 (-1)] 3)
  clear R he K5
  go_wp2_with fail
  refine hi.mono ?_
  rintro e w7 ⟨rfl, K7⟩
  have K8 := K6.trans K7
  clear hi K7 K6
  go_wp2_with fail
  go_ret
  exact ⟨rfl, K8⟩
end Tg
end Go.Proofs.Ythfbfepaoknmfaa
