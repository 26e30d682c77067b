/-
  The document's own cut over any memory.
-/
import Derived.Test.YtgilagmgepogbaaDoorRunes
namespace Go.Proofs.YtgilagmgepogbaaDoor
open Go.ChangeShapes Go.WideShapes Go.ChangeAt Go.RowKit
namespace Tg
open Qm

/-- The cut at any number. -/
def cutI (l : List Nat) (m : Int) : Nat := if m < 0 then 0 else cutL l m.toNat
theorem cutI_nil (m : Int) : cutI [] m = 0 := by unfold cutI; split; rfl; exact cutL_nil _
theorem cutI_short {l : List Nat} {m : Int} (h : m < ((piece l).2 : Int)) : cutI l m = 0 := by
  unfold cutI
  split
  · rfl
  · exact cutL_short (by omega)
theorem cutI_step {l : List Nat} {m : Int} (e : l ≠ []) (h : ¬ m < ((piece l).2 : Int)) : cutI l m = (piece l).2 + cutI (l.drop (piece l).2) (m - (piece l).2) := by
  unfold cutI
  rw [if_neg (by omega), if_neg (by omega), cutL_step e (by omega)]
  congr 2
  omega

end Tg
end Go.Proofs.YtgilagmgepogbaaDoor
