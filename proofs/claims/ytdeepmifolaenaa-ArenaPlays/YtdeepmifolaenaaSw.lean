/-
  The switch of the statement ArenaPlays, out of the function's body; the node that a call of Put sets.
-/
import Derived.Test.YtdeepmifolaenaaStart
import Derived.Deep.CutBlock
namespace Go.Proofs.Ytdeepmifolaenaa
open Go.ChangeShapes Go.WideShapes Go.ChangeAt Go.RowKit
set_option linter.unusedVariables false
namespace Tg

/-- The block with that number. -/
def blockIn (n : Nat) : Code → Option Code
  | .block m c => if m = n then some (.block m c) else blockIn n c
  | .seq a b => match blockIn n a with
    | some c => some c
    | none => blockIn n b
  | .cond _ a b => match blockIn n a with
    | some c => some c
    | none => blockIn n b
  | .loop c => blockIn n c
  | .scope c => blockIn n c
  | _ => none
noncomputable def swCode : Code := match Try.f4.body with
  | some b => (blockIn 4 b).getD .skip
  | none => .skip

/-- The node that a call of Put sets. -/
def actN (f : Nat → Int) (j : Nat) : Int := if j = 0 then f 2 % 4294967296 else if j = 1 then f 4 % 4294967296 else if j = 2 then f 3 else if j = 3 then f 4 else if j = 4 then f 2 else f 3
theorem actN_eq (f : Nat → Int) : nodeA (actN f) = #[.int .u32 (f 2 % 4294967296), .int .u32 (f 4 % 4294967296), .int .i64 (f 3), .int .i64 (f 4), .int .i64 (f 2), .int .i64 (f 3)] := rfl

end Tg
end Go.Proofs.Ytdeepmifolaenaa
