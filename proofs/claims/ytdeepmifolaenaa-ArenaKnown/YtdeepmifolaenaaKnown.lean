/-
  The examples of the statement ArenaKnown: the call returns true, and whatever was in memory is as it was.
-/
import Derived.Test.YtdeepmifolaenaaAwake
namespace Go.Proofs.Ytdeepmifolaenaa
open Go.ChangeShapes Go.WideShapes Go.ChangeAt Go.RowKit
namespace Tg

set_option maxHeartbeats 1000000 in
theorem known_walk (w : World) : Calls Try.prog 3 #[] w fun e w' => e = .returned (.bool true) ∧ Below w.heap.size w w' := by
  go_enter Try.func3, Try.ntmps3
  go_wp2_with fail
  refine (awake_any w).mono ?_
  rintro e w1 ⟨rfl, hk1⟩
  go_wp2_with fail
  refine (new_no (n := 0) (by omega)).mono ?_
  rintro e w2 ⟨rfl, rfl⟩
  go_wp2_with fail
  refine (new_no (n := 513) (by omega)).mono ?_
  rintro e w3 ⟨rfl, rfl⟩
  have hnew := Mk.new w3 (n := 1) (by omega) (by omega)
  rw [show ((1 : Nat) : Int) = 1 from rfl] at hnew
  go_wp2_with fail
  refine hnew.mono ?_
  rintro e w4 ⟨p, k, rfl, h4⟩
  clear hnew
  have h4 : Mk w3 w4 p k (Ar.new 1) [1] := h4
  have t4 := h4.take
  clear h4
  go_wp2_with fail
  refine t4.mono ?_
  rintro e w5 ⟨rfl, h5, -⟩
  clear t4
  have t5 := take_none h5.mem h5.ok
  go_wp2_with fail
  refine t5.mono ?_
  rintro e w6 ⟨rfl, rfl⟩
  clear t5
  have g0 := give_no h5.mem (x := 0) (by omega) (by decide) (by decide)
  have g2 := give_no h5.mem (x := 2) (by omega) (by decide) (by decide)
  have g1 := h5.give (q := 0) (by decide) (by decide)
  rw [show ((0 : Nat) : Int) = 0 from rfl] at g0
  rw [show ((2 : Nat) : Int) = 2 from rfl] at g2
  rw [show ((0 : Nat) : Int) + 1 = 1 from rfl] at g1
  go_wp2_with fail
  refine g0.mono ?_
  rintro e w7 ⟨rfl, rfl⟩
  go_wp2_with fail
  refine g2.mono ?_
  rintro e w8 ⟨rfl, rfl⟩
  go_wp2_with fail
  refine g1.mono ?_
  rintro e w9 ⟨rfl, h9, -⟩
  clear g0 g1 g2 h5
  have g3 := give_no h9.mem (x := 1) (by omega) (by decide) (by decide)
  rw [show ((1 : Nat) : Int) = 1 from rfl] at g3
  have HK := hk1.trans h9.keep
  clear h9
  go_wp2_with fail
  refine g3.mono ?_
  rintro e w10 ⟨rfl, rfl⟩
  clear g3
  go_wp2_with fail
  go_ret
  exact ⟨rfl, HK.below (Nat.le_refl _) (fun _ e => e.elim)⟩
end Tg
end Go.Proofs.Ytdeepmifolaenaa
