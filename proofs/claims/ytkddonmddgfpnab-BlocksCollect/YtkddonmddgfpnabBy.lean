/-
  BlocksCollect as its proof's frame wants it, given what the program's own calls answer.
-/
import Derived.Test.YtkddonmddgfpnabBo
import Derived.Test.YtkddonmddgfpnabBh
namespace Go.Proofs.Ytkddonmddgfpnab
open Go.ChangeShapes Go.WideShapes Go.ChangeAt Go.RowKit
namespace Tg
theorem collect_law (HV : ValidOk) (HS : SplitOk) (HM : MovesOk) (HC : VictimOk) {W : World} {a : Option Addr} {n c : Nat} (hp : Rows3 W a n c) {pages fr tt : Int} (hpg : -9223372036854775808 ≤ pages ∧ pages ≤ 9223372036854775807)
    (hfr : -9223372036854775808 ≤ fr ∧ fr ≤ 9223372036854775807) (htt : -9223372036854775808 ≤ tt ∧ tt ≤ 9223372036854775807) :
    Calls Try.prog 7 #[.slice a n c, .int .i64 pages, .int .i64 fr, .int .i64 tt] W fun e w' => e = .returned (.bool true) ∧ Below W.heap.size W w' := by
  obtain ⟨p, rfl, h3, h4⟩ := hp
  exact (collect_walk (awake_any HV HS HM HC) HV HM h3 h4 hpg hfr htt).mono fun _ _ ⟨h1, h2⟩ => ⟨h1, h2.belowB (Nat.le_refl _) (fun _ e => e.elim)⟩
end Tg
end Go.Proofs.Ytkddonmddgfpnab
