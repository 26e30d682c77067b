/-
  VolWhole over any store: its arguments opened.
-/
import Derived.Test.YtjgnajopomadpaaGreatRo
namespace Go.Proofs.YtjgnajopomadpaaGreat
open Go.ChangeShapes Go.WideShapes Go.ChangeAt Go.RowKit
namespace Tg
open Qm Crc
theorem pick_all {α : Type} {n : Nat} {P : Nat → α → Prop} (d : α) (h : ∀ i, i < n → ∃ y, P i y) : ∃ f : Nat → α, ∀ i, i < n → P i (f i) :=
  ⟨fun i => if c : i < n then Classical.choose (h i c) else d, fun i hi => by
    show P i (if c : i < n then Classical.choose (h i c) else d)
    rw [dif_pos hi]
    exact Classical.choose_spec (h i hi)⟩
set_option maxRecDepth 100000 in
theorem open_ins {H : Type} {enc : TypeId × Value → H} {W : World} {a : Option Addr} {len cap : Nat} {d : DataW H} {p : List MemPlace}
    (h : DataW.Trod enc Tryz.prog W 0 (fun _ => true) true 57 (.slice a len cap) d p) : ∃ f, Ins W a len cap f := by
  obtain ⟨fuel, hf⟩ := h
  rcases Deep.open_slice Tryz.underlying57 hf with ⟨hcs, hx⟩ | ⟨ad, l, c, m, n, D, Pl, hcs, _, hl, hm, hmm, _, hi⟩
  · simp [Value.cells] at hcs
    obtain ⟨rfl, rfl, rfl⟩ := hcs
    exact ⟨fun _ => 0, by omega, by omega, Or.inl rfl⟩
  · simp [Value.cells] at hcs
    obtain ⟨rfl, rfl, rfl⟩ := hcs
    unfold maxLen at hm
    simp at hmm
    by_cases h0 : len = 0
    · exact ⟨fun _ => 0, hl, by omega, Or.inl h0⟩
    · obtain ⟨b, off, spot⟩ := ad
      have hall : ∀ i, i < len → ∃ y : Int, W.cell? ((⟨b, off, spot⟩ : Addr).add i) = some (.int .i64 y) := by
        intro i hil
        obtain ⟨cs', hc, ht⟩ := hi i (by omega)
        rw [cells3, Nat.mul_one] at hc
        obtain ⟨n0, rfl, _, w0⟩ := DataW.trod_int Tryz.underlying3 ht
        have g := cells_get hc 0 (by omega)
        exact ⟨n0, by simpa [Addr.add] using g⟩
      obtain ⟨f, hf'⟩ := pick_all 0 hall
      have hspot : spot = none := by
        have h1 := hf' 0 (by omega)
        simpa [Addr.add] using World.cell?_spot h1
      subst hspot
      refine ⟨f, hl, by omega, Or.inr ⟨b, off, rfl, fun i hil => ?_⟩⟩
      have := hf' i hil
      rw [Addr.add_lit] at this
      exact this
set_option maxRecDepth 100000 in
theorem open_txs {H : Type} {enc : TypeId × Value → H} {W : World} {a : Option Addr} {len cap : Nat} {d : DataW H} {p : List MemPlace}
    (h : DataW.Trod enc Tryz.prog W 0 (fun _ => true) true 58 (.slice a len cap) d p) : ∃ f, Txs W a len cap f := by
  obtain ⟨fuel, hf⟩ := h
  rcases Deep.open_slice Tryz.underlying58 hf with ⟨hcs, hx⟩ | ⟨ad, l, c, m, n, D, Pl, hcs, _, hl, hm, hmm, _, hi⟩
  · simp [Value.cells] at hcs
    obtain ⟨rfl, rfl, rfl⟩ := hcs
    exact ⟨fun _ => ⟨#[]⟩, by omega, by omega, Or.inl rfl⟩
  · simp [Value.cells] at hcs
    obtain ⟨rfl, rfl, rfl⟩ := hcs
    unfold maxLen at hm
    simp at hmm
    by_cases h0 : len = 0
    · exact ⟨fun _ => ⟨#[]⟩, hl, by omega, Or.inl h0⟩
    · obtain ⟨b, off, spot⟩ := ad
      have hall : ∀ i, i < len → ∃ y : ByteArray, W.cell? ((⟨b, off, spot⟩ : Addr).add i) = some (.string y) ∧ y.size ≤ 9223372036854775807 := by
        intro i hil
        obtain ⟨cs', hc, ht⟩ := hi i (by omega)
        rw [cells9, Nat.mul_one] at hc
        obtain ⟨n0, rfl, _, w0⟩ := DataW.trod_string Tryz.underlying9 ht
        have g := cells_get hc 0 (by omega)
        exact ⟨n0, by simpa [Addr.add] using g, by unfold maxLen at w0; omega⟩
      obtain ⟨f, hf'⟩ := pick_all ⟨#[]⟩ hall
      have hspot : spot = none := by
        have h1 := (hf' 0 (by omega)).1
        simpa [Addr.add] using World.cell?_spot h1
      subst hspot
      refine ⟨f, hl, by omega, Or.inr ⟨b, off, rfl, fun i hil => ?_⟩⟩
      have := hf' i hil
      rw [Addr.add_lit] at this
      exact this
section
variable {SV : (Nat → Prop) → World → Nat → Nat → Nat → List Int → (Nat → Option En) → Prop}
theorem whole_law (H : StOk SV) {w : World} {al ad : Option Addr} {len c lend cd : Nat} {cp : Int} (hi : I64 cp) (hal : ∃ f, Ins w al len c f) (had : ∃ f, Txs w ad lend cd f) :
    Calls Tryz.prog 7 #[.int .i64 cp, .slice al len c, .slice ad lend cd] w fun e w' => e = .returned (.bool true) ∧ Below w.heap.size w w' := by
  refine bel ?_
  obtain ⟨fl, hal⟩ := hal
  obtain ⟨td, had⟩ := had
  by_cases h : ¬ (9 ≤ cp ∧ cp ≤ 64) ∨ 6 < len
  · exact whole_no H hi h
  · obtain ⟨N, rfl⟩ : ∃ n : Nat, cp = n := ⟨cp.toNat, by omega⟩
    exact whole_main H (by omega) (by omega) hal had
end
end Tg
end Go.Proofs.YtjgnajopomadpaaGreat
