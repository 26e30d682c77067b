/-
  Arguments: rows of bytes, and how long a row of changes can be.
-/
import Derived.Test.YtlekapfhbceibaaAw
import Derived.Test.YtlekapfhbceibaaDm
namespace Go.Proofs.Ytlekapfhbceibaa
open Go.ChangeShapes Go.WideShapes Go.ChangeAt Go.RowKit
namespace Tg
open Vi
theorem bytes5 : Try.prog.bytesOf 5 = 1 := by kernel_rfl
theorem bytes28 : Try.prog.bytesOf 28 = 24 := by kernel_rfl
/-- An argument that is a row of bytes. -/
theorem open_bytes {H : Type} {enc : TypeId × Value → H} {W : World} {a : Option Addr} {len cap : Nat} {d : DataW H} {p : List MemPlace}
    (h : DataW.Trod enc Try.prog W 0 (fun _ => true) true 23 (.slice a len cap) d p) :
    ∃ l, Row W a len cap l ∧ ((d = .nil ∧ len = 0) ∨ ∃ el sp, d = .slice el sp ∧ el.length = len ∧ el.length + sp.length = cap) := by
  obtain ⟨fuel, hf⟩ := h
  rcases open_ints Try.underlying23 Try.underlying5 (by kernel_rfl) hf with ⟨hcs, hx⟩ | ⟨x, l, c, zs, hcs, _, hl, hm, hz, hx, hcell, hwz⟩
  · simp [Value.cells] at hcs
    obtain ⟨rfl, rfl, rfl⟩ := hcs
    simp only [Prod.mk.injEq] at hx
    exact ⟨[], ⟨rfl, by omega, by omega, by simp, Or.inl rfl⟩, Or.inl ⟨hx.1, rfl⟩⟩
  · simp [Value.cells] at hcs
    obtain ⟨rfl, rfl, rfl⟩ := hcs
    simp only [Prod.mk.injEq] at hx
    simp at hz
    unfold maxLen at hm
    refine ⟨zs.take len, ⟨by simp; omega, hl, by omega, fun n hn => bounds_u8 (hwz n (List.mem_of_mem_take hn)), ?_⟩, Or.inr ⟨_, _, hx.1, by simp [lits]; omega, by simp [lits]; omega⟩⟩
    by_cases h0 : len = 0
    · exact Or.inl h0
    · right
      obtain ⟨b, off, spot⟩ := x
      have hc := hcell 0 (by omega)
      have hspot : spot = none := by simpa [Addr.add] using World.cell?_spot hc
      subst hspot
      refine ⟨b, off, rfl, fun i hi => ?_⟩
      have := hcell i (by omega)
      rw [Addr.add_lit] at this
      rw [this]
      simp [List.getD, hi]
/-- An argument that is a row of changes: its shape, too. -/
theorem open_opsX {H : Type} {enc : TypeId × Value → H} {W : World} {a : Option Addr} {len cap : Nat} {d : DataW H} {p : List MemPlace}
    (h : DataW.Trod enc Try.prog W 0 (fun _ => true) true 29 (.slice a len cap) d p) :
    ∃ _ : Unit, Rows3 W a len cap ∧ ((d = .nil ∧ len = 0) ∨ ∃ el sp, d = .slice el sp ∧ el.length = len ∧ len ≤ cap) := by
  refine ⟨(), open_rows31 h, ?_⟩
  obtain ⟨fuel, hf⟩ := h
  rcases Deep.open_slice Try.underlying29 hf with ⟨hcs, hx⟩ | ⟨ad, l, c, m, n, D, Pl, hcs, _, hl, hm, hmm, hx, hi⟩
  · simp [Value.cells] at hcs
    simp only [Prod.mk.injEq] at hx
    exact Or.inl ⟨hx.1, hcs.2.1⟩
  · simp [Value.cells] at hcs
    obtain ⟨rfl, rfl, rfl⟩ := hcs
    simp only [Prod.mk.injEq] at hx
    exact Or.inr ⟨_, _, hx.1, by simp, hl⟩
theorem records_law {W : World} {a : Option Addr} {n c : Nat} (hl : Rows3 W a n c) (hn : n ≤ 5864062014700) :
    Calls Try.prog 4 #[.slice a n c] W fun e w' => e = .returned (.bool true) ∧ Below W.heap.size W w' := by
  obtain ⟨l, rfl, h1, h2⟩ := hl
  exact (records_walk awake_ok record_ok changes_ok h1 h2 hn).mono fun _ _ ⟨h1, h2⟩ => ⟨h1, h2.below (Nat.le_refl _) (fun _ e => e.elim)⟩
theorem snapshots_law {W : World} {a1 a2 : Option Addr} {n1 n2 d1 d2 : Nat} (hl : Rows3 W a1 n1 d1) (hp : Rows3 W a2 n2 d2) :
    Calls Try.prog 6 #[.slice a1 n1 d1, .slice a2 n2 d2] W fun e w' => e = .returned (.bool true) ∧ Below W.heap.size W w' := by
  obtain ⟨l, rfl, h1, h2⟩ := hl
  obtain ⟨p, rfl, h3, h4⟩ := hp
  exact (snapshots_walk awake_ok snap_ok runs_ok h1 h2 h3 h4).mono fun _ _ ⟨h1, h2⟩ => ⟨h1, h2.below (Nat.le_refl _) (fun _ e => e.elim)⟩
theorem short_law {W : World} {a : Option Addr} {n c : Nat} (hl : Rows3 W a n c) :
    Calls Try.prog 7 #[.slice a n c] W fun e w' => e = .returned (.bool true) ∧ Below W.heap.size W w' := by
  obtain ⟨l, rfl, h1, h2⟩ := hl
  exact (short_walk awake_ok snap_ok runs_ok record_ok changes_ok h1 h2).mono fun _ _ ⟨h1, h2⟩ => ⟨h1, h2.below (Nat.le_refl _) (fun _ e => e.elim)⟩
end Tg
end Go.Proofs.Ytlekapfhbceibaa
