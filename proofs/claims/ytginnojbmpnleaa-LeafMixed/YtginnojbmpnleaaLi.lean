/-
  The five laws, given what the program's own calls answer.
-/
import Derived.Test.YtginnojbmpnleaaLg
import Derived.Test.YtginnojbmpnleaaLh
namespace Go.Proofs.Ytginnojbmpnleaa
open Go.ChangeShapes Go.WideShapes Go.ChangeAt Go.RowKit
namespace Tg
theorem known_law (HC : CutOk) (HJ : JoinOk) (HP : PagesOk) (W : World) : Calls Try.prog 3 #[] W fun e w' => e = .returned (.bool true) ∧ Below W.heap.size W w' :=
  (known_walk (awake_any HC HJ HP) HC HP W).mono fun _ _ ⟨h1, h2⟩ => ⟨h1, h2.below (Nat.le_refl _) (fun _ e => e.elim)⟩
theorem cuts_law (HC : CutOk) (HJ : JoinOk) (HP : PagesOk) {W : World} {k e g : Int} {a : Option Addr} {len cap : Nat} {b : List Int} (hr : Row W a len cap b) (hlen : len ≤ 140737488355000) (hep : 0 ≤ e ∧ e ≤ 4294967295) (hgr : 0 ≤ g ∧ g ≤ 4294967295) (n : Int) : Calls Try.prog 4 #[.int .i64 k, .int .u32 e, .int .u32 g, .slice a len cap, .int .i64 n] W fun e w' => e = .returned (.bool true) ∧ Below W.heap.size W w' :=
  (cuts_walk (s := ⟨k, e, g, b⟩) (awake_any HC HJ HP) HP HC HJ hr hlen hep hgr n).mono fun _ _ ⟨h1, h2⟩ => ⟨h1, h2.below (Nat.le_refl _) (fun _ e => e.elim)⟩
theorem joins_law (HC : CutOk) (HJ : JoinOk) (HP : PagesOk) {W : World} {a1 a2 : Option Addr} {n1 n2 c1 c2 : Nat} (h1 : ∃ rs L, ArgS W a1 n1 c1 rs L) (h2 : Rpk W a2 n2 c2) : Calls Try.prog 5 #[.slice a1 n1 c1, .slice a2 n2 c2] W fun e w' => e = .returned (.bool true) ∧ Below W.heap.size W w' := by
  obtain ⟨rs, L, h1⟩ := h1
  exact (joins_walk (awake_any HC HJ HP) HJ h1 h2).mono fun _ _ ⟨h1, h2⟩ => ⟨h1, h2.below (Nat.le_refl _) (fun _ e => e.elim)⟩
theorem whole_law (HC : CutOk) (HJ : JoinOk) (HP : PagesOk) {W : World} {a1 a2 : Option Addr} {n1 n2 c1 c2 : Nat} {b1 b2 : List Int} (h1 : Row W a1 n1 c1 b1) (h2 : Row W a2 n2 c2 b2) (turn less : Int) : Calls Try.prog 6 #[.slice a1 n1 c1, .int .i64 turn, .int .i64 less, .slice a2 n2 c2] W fun e w' => e = .returned (.bool true) ∧ Below W.heap.size W w' :=
  (whole_walk (awake_any HC HJ HP) HC HJ h1 h2 turn less).mono fun _ _ ⟨h1, h2⟩ => ⟨h1, h2.below (Nat.le_refl _) (fun _ e => e.elim)⟩
theorem mixed_law (HC : CutOk) (HJ : JoinOk) (HP : PagesOk) {W : World} {a1 a2 : Option Addr} {n1 n2 c1 c2 : Nat} (h1 : ∃ rs L, ArgS W a1 n1 c1 rs L) (h2 : Rpk W a2 n2 c2) (turn : Int) : Calls Try.prog 7 #[.slice a1 n1 c1, .slice a2 n2 c2, .int .i64 turn] W fun e w' => e = .returned (.bool true) ∧ Below W.heap.size W w' := by
  obtain ⟨rs, L, h1⟩ := h1
  exact (mixed_walk (awake_any HC HJ HP) HJ h1 h2 turn).mono fun _ _ ⟨h1, h2⟩ => ⟨h1, h2.below (Nat.le_refl _) (fun _ e => e.elim)⟩
end Tg
end Go.Proofs.Ytginnojbmpnleaa
