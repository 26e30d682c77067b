/-
  What a change answers, told as done or as full.
-/
import Derived.Test.YtbdankhlbepjoaaSetW
namespace Go.Proofs.Ytbdankhlbepjoaa
open Go.ChangeShapes Go.WideShapes Go.ChangeAt Go.RowKit
namespace Tg

theorem Did.yes {w wa : World} {q b p k N cap : Nat} {m' : List Rn} {e : Ending} {w' : World} (h : Did w wa q b p k N cap m' e w') (hl : m'.length ≤ N) : e = .returned (.int .i64 0) ∧ Mp w w' q b p k N cap m' ∧ Keep (Own3 b p k) wa w' := by
  rcases h with ⟨h1, h2, h3, h4⟩ | ⟨h1, _⟩
  · exact ⟨h2, h3, h4⟩
  · omega
theorem Did.full {w wa : World} {q b p k N cap : Nat} {m' : List Rn} {e : Ending} {w' : World} (h : Did w wa q b p k N cap m' e w') (hl : N < m'.length) : e = .returned (.int .i64 5) ∧ Keep (fun _ => False) wa w' := by
  rcases h with ⟨h1, _⟩ | ⟨h1, h2, h3⟩
  · omega
  · exact ⟨h2, h3⟩
theorem call_yes {w wa : World} {q b p k N cap : Nat} {m m' : List Rn} {f : FuncId} {vs : Array Value} (h : Calls Try.prog f vs wa (Did w wa q b p k N cap m')) (e : m' = m) (hl : m.length ≤ N) :
    Calls Try.prog f vs wa fun e w' => e = .returned (.int .i64 0) ∧ Mp w w' q b p k N cap m ∧ Keep (Own3 b p k) wa w' := by
  subst e
  exact h.mono (fun _ _ hD => hD.yes hl)
theorem call_full {w wa : World} {q b p k N cap : Nat} {m' : List Rn} {f : FuncId} {vs : Array Value} (h : Calls Try.prog f vs wa (Did w wa q b p k N cap m')) (hl : N < m'.length) :
    Calls Try.prog f vs wa fun e w' => e = .returned (.int .i64 5) ∧ Keep (fun _ => False) wa w' := h.mono (fun _ _ hD => hD.full hl)
theorem Rw.rs {w : World} {G : Nat} {m : List Rn} (h : Rw w G (m.length * 3) (rcells m)) (hl : m.length ≤ 9223372036854775807) : Rs w (some ⟨G, 0, none⟩) m.length m := ⟨Nat.le_refl _, hl, Or.inr ⟨G, rfl, h.cells⟩⟩
theorem Mp.out {w wr : World} {q b p k N cap : Nat} {m : List Rn} (h : Mp w wr q b p k N cap m) {g : Nat} (hg : wr.heap.size ≤ g) : ¬ Own3 b p k g := by
  have := h.lt
  rintro (e | e | e) <;> omega

end Tg
end Go.Proofs.Ytbdankhlbepjoaa
