/-
  The four laws as the proofs' frames want them.
-/
import Derived.Test.YthfbfepaoknmfaaPk
namespace Go.Proofs.Ythfbfepaoknmfaa
open Go.ChangeShapes Go.WideShapes Go.ChangeAt Go.RowKit
namespace Tg
theorem known_b (w : World) : Calls Try.prog 3 #[] w fun e w' => e = .returned (.bool true) ∧ Below w.heap.size w w' := (known_law w).mono (by rintro e w' ⟨h, k⟩; exact ⟨h, k.belowB (Nat.le_refl _) (fun _ e => e.elim)⟩)
theorem runs_b {n t c : Int} (w : World) : Calls Try.prog 5 #[.int .i64 n, .int .i64 t, .int .i64 c] w fun e w' => e = .returned (.bool true) ∧ Below w.heap.size w w' := (runs_law w).mono (by rintro e w' ⟨h, k⟩; exact ⟨h, k.belowB (Nat.le_refl _) (fun _ e => e.elim)⟩)
theorem last_b {n : Int} {a : Option Addr} {len cap : Nat} {w : World} (hA : Acts w a len cap) : Calls Try.prog 6 #[.int .i64 n, .slice a len cap] w fun e w' => e = .returned (.bool true) ∧ Below w.heap.size w w' := (last_law hA).mono (by rintro e w' ⟨h, k⟩; exact ⟨h, k.belowB (Nat.le_refl _) (fun _ e => e.elim)⟩)
theorem plays_b {n : Int} {a : Option Addr} {len cap : Nat} {w : World} (hA : Acts w a len cap) : Calls Try.prog 4 #[.int .i64 n, .slice a len cap] w fun e w' => e = .returned (.bool true) ∧ Below w.heap.size w w' := (plays_law hA).mono (by rintro e w' ⟨h, k⟩; exact ⟨h, k.belowB (Nat.le_refl _) (fun _ e => e.elim)⟩)
end Tg
end Go.Proofs.Ythfbfepaoknmfaa
