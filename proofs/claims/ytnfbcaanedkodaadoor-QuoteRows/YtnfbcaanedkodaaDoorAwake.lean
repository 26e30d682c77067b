/-
  What awake asks, and chapter 5's examples, over any memory in which the library's error lies.
-/
import Derived.Test.YtnfbcaanedkodaaDoorRead
namespace Go.Proofs.YtnfbcaanedkodaaDoor
open Go.ChangeShapes Go.WideShapes Go.ChangeAt Go.RowKit
namespace Tg
open Qm

theorem read_yes {t : ByteArray} {x : List Nat} {n : Nat} (h : Qm.read (bs t) = some (x, n)) {s : ByteArray} (hx : str x = s) (hs : t.size ≤ 10000000000000) (w : World) (hG : Gl w) :
    Calls Tryd.prog 10 #[.string t] w fun e w' => e = .returned (.tuple #[.string s, .int .i64 (n : Nat), .int .i64 0]) ∧ Keep (fun _ => False) w w' := by
  refine (read_any t hs w hG).mono ?_
  rintro e w' ⟨⟨y, m, hy, rfl⟩ | ⟨hy, rfl⟩, hk⟩
  · rw [h] at hy
    simp at hy
    obtain ⟨rfl, rfl⟩ := hy
    exact ⟨by rw [hx], hk⟩
  · rw [h] at hy; cases hy
theorem read_not {t : ByteArray} (h : Qm.read (bs t) = none) (hs : t.size ≤ 10000000000000) (w : World) (hG : Gl w) :
    Calls Tryd.prog 10 #[.string t] w fun e w' => e = .returned (.tuple #[.string ⟨#[]⟩, .int .i64 0, .int .i64 3]) ∧ Keep (fun _ => False) w w' := by
  refine (read_any t hs w hG).mono ?_
  rintro e w' ⟨⟨y, m, hy, rfl⟩ | ⟨hy, rfl⟩, hk⟩
  · rw [h] at hy; cases hy
  · exact ⟨rfl, hk⟩
theorem quote_is {s t : ByteArray} (h : str (told (bs s)) = t) (hs : s.size ≤ 35184372088000) (w : World) :
    Calls Tryd.prog 11 #[.string s] w fun e w' => e = .returned (.string t) ∧ Keep (fun _ => False) w w' := by
  rw [← h]; exact quote_any s hs w
theorem cut_is {s t : ByteArray} {n : Int} (h : s.extract 0 (cutI (bs s) n) = t) (hs : s.size ≤ 140737488355328) (w : World) :
    Calls Tryd.prog 12 #[.string s, .int .i64 n] w fun e w' => e = .returned (.string t) ∧ Keep (fun _ => False) w w' := by
  rw [← h]; exact cut_any s n hs w
theorem runes_is {s : ByteArray} {a b : Nat} (h : runes (bs s) = (a, b)) (hs : s.size ≤ 9223372036854775807) (w : World) :
    Calls Tryd.prog 16 #[.string s] w fun e w' => e = .returned (.tuple #[.int .i64 (a : Nat), .int .i64 (b : Nat)]) ∧ Keep (fun _ => False) w w' := by
  have := pruns_any s hs w
  rw [h] at this
  exact this

theorem body_end {l : List Nat} (h : l = []) : body l = [] := by rw [h, body_nil]
theorem runes_end {l : List Nat} (h : l = []) : runes l = (0, 0) := by rw [h, runes_nil]

theorem q1 : told [97, 34, 98] = [34, 97, 92, 34, 98, 34] := by
  unfold told
  rw [body_cons (by decide), body_cons (by decide), body_cons (by decide), body_end (by decide)]; decide
theorem q2 : told [255, 10] = [34, 92, 120, 102, 102, 92, 110, 34] := by
  unfold told
  rw [body_cons (by decide), body_cons (by decide), body_end (by decide)]; decide
theorem q3 : told [195, 169] = [34, 195, 169, 34] := by
  unfold told
  rw [body_cons (by decide), body_end (by decide)]; decide
theorem q4 : told [194, 133] = [34, 92, 117, 48, 48, 56, 53, 34] := by
  unfold told
  rw [body_cons (by decide), body_end (by decide)]; decide
theorem q5 : told [] = [34, 34] := by
  unfold told
  rw [body_nil]; decide
theorem q6 : told [97] = [34, 97, 34] := by
  unfold told
  rw [body_cons (by decide), body_end (by decide)]; decide
theorem q7 : told [97, 65] = [34, 97, 65, 34] := by
  unfold told
  rw [body_cons (by decide), body_cons (by decide), body_end (by decide)]; decide
theorem r1 : Qm.read [34, 97, 34, 32, 98] = some ([97], 3) := by
  have h := read_told (l := [97]) (by decide) [32, 98]
  rw [q6] at h
  exact h
theorem r2 : Qm.read [34, 97, 92, 120, 52, 49, 34] = none := by
  have h : Qm.scan [97, 92, 120, 52, 49, 34] [] 1 ([97, 92, 120, 52, 49, 34].length + 1) = some ([97, 65], 6) := by decide
  simp only [Qm.read, h, q7]
  decide
theorem r3 : Qm.read [34, 97] = none := by
  have h : Qm.scan [97] [] 1 ([97].length + 1) = none := by decide
  simp only [Qm.read, h]
  decide
theorem r4 : Qm.read [97] = none := by
  simp only [Qm.read]
  decide
theorem u1 : runes [97, 195, 169, 255, 195] = (2, 2) := by
  rw [runes_good (by decide), runes_good (by decide), runes_bad (by decide) (by decide), runes_bad (by decide) (by decide), runes_end (by decide)]
theorem c1 : cutI [97, 195, 169] 2 = 1 := by
  rw [cutI_step (by decide) (by decide), cutI_short (by decide)]; decide
theorem c2 : cutI [97, 195, 169] 3 = 3 := cutI_all (by decide)
theorem c3 : cutI [97, 195] 2 = 2 := cutI_all (by decide)
theorem c4 : cutI [97, 98] (-1) = 0 := by unfold cutI; rw [if_pos (by decide)]

theorem b1 : bs ⟨#[34, 97, 34, 32, 98]⟩ = [34, 97, 34, 32, 98] := by decide
theorem b2 : bs ⟨#[97, 195, 169, 255, 195]⟩ = [97, 195, 169, 255, 195] := by decide
theorem b3 : bs ⟨#[97, 34, 98]⟩ = [97, 34, 98] := by decide
theorem b4 : bs ⟨#[255, 10]⟩ = [255, 10] := by decide
theorem b5 : bs ⟨#[97, 195, 169]⟩ = [97, 195, 169] := by decide
theorem b6 : bs ⟨#[34, 97, 92, 120, 52, 49, 34]⟩ = [34, 97, 92, 120, 52, 49, 34] := by decide
theorem b7 : bs ⟨#[34, 97]⟩ = [34, 97] := by decide
theorem b8 : bs ⟨#[97]⟩ = [97] := by decide
theorem b9 : bs ⟨#[195, 169]⟩ = [195, 169] := by decide
theorem b10 : bs ⟨#[194, 133]⟩ = [194, 133] := by decide
theorem b11 : bs ⟨#[]⟩ = [] := by decide
theorem b12 : bs ⟨#[97, 195]⟩ = [97, 195] := by decide
theorem b13 : bs ⟨#[97, 98]⟩ = [97, 98] := by decide

set_option maxHeartbeats 2000000 in
set_option maxRecDepth 100000 in
theorem awake_any (w : World) (hG : Gl w) : Calls Tryd.prog 9 #[] w fun e w' => e = .returned (.bool true) ∧ Keep (fun _ => False) w w' := by
  have hr := read_yes (t := ⟨#[34, 97, 34, 32, 98]⟩) (x := [97]) (n := 3) (by rw [b1]; exact r1) (s := ⟨#[97]⟩) (by decide) (by decide) w hG
  go_enter Tryd.func9, Tryd.ntmps9
  go_wp2_with fail
  refine hr.mono ?_
  rintro e w1 ⟨rfl, k1⟩
  clear hr
  have hu := runes_is (s := ⟨#[97, 195, 169, 255, 195]⟩) (a := 2) (b := 2) (by rw [b2]; exact u1) (by decide) w1
  go_wp2_with fail
  refine hu.mono ?_
  rintro e w2 ⟨rfl, k2⟩
  clear hu
  have h1 := quote_is (s := ⟨#[97, 34, 98]⟩) (t := ⟨#[34, 97, 92, 34, 98, 34]⟩) (by rw [b3, q1]; decide) (by decide) w2
  go_wp2_with fail
  refine h1.mono ?_
  rintro e w3 ⟨rfl, k3⟩
  clear h1
  have h2 := quote_is (s := ⟨#[255, 10]⟩) (t := ⟨#[34, 92, 120, 102, 102, 92, 110, 34]⟩) (by rw [b4, q2]; decide) (by decide) w3
  go_wp2_with fail
  refine h2.mono ?_
  rintro e w4 ⟨rfl, k4⟩
  clear h2
  have h3 := cut_is (s := ⟨#[97, 195, 169]⟩) (n := 2) (t := ⟨#[97]⟩) (by rw [b5, c1]; decide) (by decide) w4
  go_wp2_with fail
  refine h3.mono ?_
  rintro e w5 ⟨rfl, k5⟩
  clear h3
  go_wp2_with fail
  go_ret
  exact ⟨rfl, k1.trans (k2.trans (k3.trans (k4.trans k5)))⟩

set_option maxHeartbeats 4000000 in
set_option maxRecDepth 100000 in
theorem known_any (w : World) (hG : Gl w) : Calls Tryd.prog 3 #[] w fun e w' => e = .returned (.bool true) ∧ Keep (fun _ => False) w w' := by
  have ha := awake_any w hG
  go_enter Tryd.func3, Tryd.ntmps3
  go_wp2_with fail
  refine ha.mono ?_
  rintro e w0 ⟨rfl, k0⟩
  clear ha
  have hr := read_not (t := ⟨#[34, 97, 92, 120, 52, 49, 34]⟩) (by rw [b6]; exact r2) (by decide) w0 (hG.keep k0)
  go_wp2_with fail
  refine hr.mono ?_
  rintro e w1 ⟨rfl, k1⟩
  clear hr
  have hr := read_not (t := ⟨#[34, 97]⟩) (by rw [b7]; exact r3) (by decide) w1 ((hG.keep k0).keep k1)
  go_wp2_with fail
  refine hr.mono ?_
  rintro e w2 ⟨rfl, k2⟩
  clear hr
  have hr := read_not (t := ⟨#[97]⟩) (by rw [b8]; exact r4) (by decide) w2 (((hG.keep k0).keep k1).keep k2)
  go_wp2_with fail
  refine hr.mono ?_
  rintro e w3 ⟨rfl, k3⟩
  clear hr
  have h1 := quote_is (s := ⟨#[195, 169]⟩) (t := ⟨#[34, 195, 169, 34]⟩) (by rw [b9, q3]; decide) (by decide) w3
  go_wp2_with fail
  refine h1.mono ?_
  rintro e w4 ⟨rfl, k4⟩
  clear h1
  have h1 := quote_is (s := ⟨#[194, 133]⟩) (t := ⟨#[34, 92, 117, 48, 48, 56, 53, 34]⟩) (by rw [b10, q4]; decide) (by decide) w4
  go_wp2_with fail
  refine h1.mono ?_
  rintro e w5 ⟨rfl, k5⟩
  clear h1
  have h1 := quote_is (s := ⟨#[]⟩) (t := ⟨#[34, 34]⟩) (by rw [b11, q5]; decide) (by decide) w5
  go_wp2_with fail
  refine h1.mono ?_
  rintro e w6 ⟨rfl, k6⟩
  clear h1
  have h1 := cut_is (s := ⟨#[97, 195, 169]⟩) (n := 3) (t := ⟨#[97, 195, 169]⟩) (by rw [b5, c2]; decide) (by decide) w6
  go_wp2_with fail
  refine h1.mono ?_
  rintro e w7 ⟨rfl, k7⟩
  clear h1
  have h1 := cut_is (s := ⟨#[97, 195]⟩) (n := 2) (t := ⟨#[97, 195]⟩) (by rw [b12, c3]; decide) (by decide) w7
  go_wp2_with fail
  refine h1.mono ?_
  rintro e w8 ⟨rfl, k8⟩
  clear h1
  have h1 := cut_is (s := ⟨#[97, 98]⟩) (n := -1) (t := ⟨#[]⟩) (by rw [b13, c4]; decide) (by decide) w8
  go_wp2_with fail
  refine h1.mono ?_
  rintro e w9 ⟨rfl, k9⟩
  clear h1
  go_wp2_with fail
  go_ret
  exact ⟨rfl, k0.trans (k1.trans (k2.trans (k3.trans (k4.trans (k5.trans (k6.trans (k7.trans (k8.trans k9))))))))⟩
end Tg
end Go.Proofs.YtnfbcaanedkodaaDoor
