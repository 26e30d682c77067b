/-
  The statement ArenaPlays at any argument.
-/
import Derived.Test.YtdeepmifolaenaaPlays
namespace Go.Proofs.Ytdeepmifolaenaa
open Go.ChangeShapes Go.WideShapes Go.ChangeAt Go.RowKit
namespace Tg
theorem plays_any (w : World) (n : Int) (a : Option Addr) (len cap : Nat) (hA : Acts w a len cap) :
    Calls Try.prog 4 #[.int .i64 n, .slice a len cap] w fun e w' => e = .returned (.bool true) ∧ Below w.heap.size w w' := by
  by_cases h : n < 1 ∨ 512 < n
  · refine (plays_no w n a len cap h).mono ?_
    rintro e w' ⟨rfl, hk⟩
    exact ⟨rfl, hk.below (Nat.le_refl _) (fun _ e => e.elim)⟩
  · obtain ⟨m, rfl⟩ : ∃ m : Nat, n = (m : Int) := ⟨n.toNat, by omega⟩
    refine (plays_yes w m a len cap hA (by omega) (by omega)).mono ?_
    rintro e w' ⟨rfl, hk⟩
    exact ⟨rfl, hk.below (Nat.le_refl _) (fun _ e => e.elim)⟩
end Tg
end Go.Proofs.Ytdeepmifolaenaa
