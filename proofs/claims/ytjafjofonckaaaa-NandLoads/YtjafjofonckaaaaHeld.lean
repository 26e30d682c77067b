/-
  What is held through a region whose order is left open may be said more strongly on the way; what Load leaves.
-/
import Derived.Test.YtjafjofonckaaaaTwin
namespace Go.Proofs.Ytjafjofonckaaaa
open Go.ChangeShapes Go.WideShapes Go.ChangeAt Go.RowKit
namespace Nd
theorem call26 (args : Array Value) (w : World) : (callFunc 26 args).run Try.prog w = .ok (.enter 26 args) w := enters Try.func26 (by kernel_rfl) (by kernel_rfl) args w
theorem wpAnyH_strong {P : Program} {md : Region.Mode} {ops : Array Oper} {Q : Exit → Act → World → Prop} {S S' : World → Prop} (h : ∀ w, S' w → S w) : ∀ {fuel : Nat} {listed : Array Bool} {a : Act} {w : World}, wpAnyH P md ops Q S' fuel listed a w → wpAnyH P md ops Q S fuel listed a w
  | 0, _, _, _, H => H
  | _ + 1, _, _, _, H => ⟨H.1, fun i hi => wpOp_mono (fun _ w' h' => ⟨h w' h'.1, wpAnyH_strong h h'.2⟩) (H.2 i hi)⟩
theorem LoadR.keep {w w' : World} {B P : Nat} {d : Nat → Int} {e : Ending} (h : LoadR w B P d e w') : Keep (fun _ => False) w w' := by
  rcases h with ⟨_, _, _, _, _, _, _, _, _, h⟩ | ⟨_, _, h⟩
  · exact h
  · exact h
end Nd
end Go.Proofs.Ytjafjofonckaaaa
