/-
  Arguments opened; the laws as the proofs' frames want them, given what the program's own calls answer.
-/
import Derived.Test.YtkddonmddgfpnabBp
import Derived.Deep.Grids
namespace Go.Proofs.Ytkddonmddgfpnab
open Go.ChangeShapes Go.WideShapes Go.ChangeAt Go.RowKit
namespace Tg
theorem Keep.belowB {S : Nat → Prop} {w w' : World} (h : Keep S w w') {B : Nat} (hB : B ≤ w.heap.size) (hS : ∀ k, S k → B ≤ k) : Below B w w' :=
  ⟨h.os, h.tape, h.output, h.size, fun k hk => h.block k (by omega) (fun e => by have := hS k e; omega)⟩
theorem bytes35 : Try.prog.bytesOf 35 = 24 := by kernel_rfl
theorem cells4 : Try.prog.cellsOf 4 = 1 := by kernel_rfl
/-- An argument that is a row of runs: its shape, too. -/
theorem open_runsX {H : Type} {enc : TypeId × Value → H} {W : World} {a : Option Addr} {len cap : Nat} {d : DataW H} {p : List MemPlace}
    (h : DataW.Trod enc Try.prog W 0 (fun _ => true) true 27 (.slice a len cap) d p) :
    ∃ _ : Unit, Rows3 W a len cap ∧ ((d = .nil ∧ len = 0) ∨ ∃ el sp, d = .slice el sp ∧ el.length = len ∧ len ≤ cap) := by
  refine ⟨(), open_rows32 h, ?_⟩
  obtain ⟨fuel, hf⟩ := h
  rcases Deep.open_slice Try.underlying27 hf with ⟨hcs, hx⟩ | ⟨ad, l, c, m, n, D, Pl, hcs, _, hl, hm, hmm, hx, hi⟩
  · simp [Value.cells] at hcs
    simp only [Prod.mk.injEq] at hx
    exact Or.inl ⟨hx.1, hcs.2.1⟩
  · simp [Value.cells] at hcs
    obtain ⟨rfl, rfl, rfl⟩ := hcs
    simp only [Prod.mk.injEq] at hx
    exact Or.inr ⟨_, _, hx.1, by simp, hl⟩
/-- An argument that is a row of numbers. -/
theorem open_nums {H : Type} {enc : TypeId × Value → H} {W : World} {a : Option Addr} {len cap : Nat} {d : DataW H} {p : List MemPlace}
    (h : DataW.Trod enc Try.prog W 0 (fun _ => true) true 23 (.slice a len cap) d p) : ∃ l : List Int, l.length = len ∧ Iz W a cap l := by
  obtain ⟨fuel, hf⟩ := h
  rcases open_ints Try.underlying23 Try.underlying3 (by kernel_rfl) hf with ⟨hcs, hx⟩ | ⟨x, l, c, zs, hcs, _, hl, hm, hz, hx, hcell, hwz⟩
  · simp [Value.cells] at hcs
    obtain ⟨rfl, rfl, rfl⟩ := hcs
    exact ⟨[], rfl, by simp, by omega, Or.inl rfl⟩
  · simp [Value.cells] at hcs
    obtain ⟨rfl, rfl, rfl⟩ := hcs
    simp at hz
    unfold maxLen at hm
    have hlen : (zs.take len).length = len := by simp; omega
    refine ⟨zs.take len, hlen, by omega, by omega, ?_⟩
    by_cases h0 : len = 0
    · exact Or.inl (List.eq_nil_of_length_eq_zero (by omega))
    · right
      obtain ⟨b, off, spot⟩ := x
      have hc := hcell 0 (by omega)
      have hspot : spot = none := by simpa [Addr.add] using World.cell?_spot hc
      subst hspot
      refine ⟨b, off, rfl, fun i v hv => ?_⟩
      have hi : i < len := by have := (List.getElem?_eq_some_iff.1 hv).1; omega
      have := hcell i (by omega)
      rw [Addr.add_lit] at this
      rw [this]
      rw [List.getElem?_take_of_lt hi] at hv
      rw [List.getD_eq_getElem?_getD, hv]
      rfl
/-- An argument that is a row of truths. -/
theorem open_truths {H : Type} {enc : TypeId × Value → H} {W : World} {a : Option Addr} {len cap : Nat} {d : DataW H} {p : List MemPlace}
    (h : DataW.Trod enc Try.prog W 0 (fun _ => true) true 33 (.slice a len cap) d p) : ∃ l : List Bool, l.length = len ∧ Bz W a cap l := by
  obtain ⟨fuel, hf⟩ := h
  rcases Deep.open_bools Try.underlying33 Try.underlying4 cells4 hf with ⟨hcs, hx⟩ | ⟨x, l, c, B, hcs, _, hl, hm, hx, hcell⟩
  · simp [Value.cells] at hcs
    obtain ⟨rfl, rfl, rfl⟩ := hcs
    exact ⟨[], rfl, by simp, by omega, Or.inl rfl⟩
  · simp [Value.cells] at hcs
    obtain ⟨rfl, rfl, rfl⟩ := hcs
    unfold maxLen at hm
    refine ⟨(List.range len).map B, by simp, by simp; omega, by omega, ?_⟩
    by_cases h0 : len = 0
    · left; subst h0; rfl
    · right
      obtain ⟨b, off, spot⟩ := x
      have hc := hcell 0 (by omega)
      have hspot : spot = none := by simpa [Addr.add] using World.cell?_spot hc
      subst hspot
      refine ⟨b, off, rfl, fun i v hv => ?_⟩
      have hi : i < len := by have := (List.getElem?_eq_some_iff.1 hv).1; simpa using this
      have := hcell i (by omega)
      rw [Addr.add_lit] at this
      rw [this]
      have e : B i = v := by simpa [hi] using hv
      rw [e]
theorem known_law (HV : ValidOk) (HS : SplitOk) (HM : MovesOk) (HC : VictimOk) (W : World) : Calls Try.prog 3 #[] W fun e w' => e = .returned (.bool true) ∧ Below W.heap.size W w' :=
  (known_walk HV HS HM HC W).mono fun _ _ ⟨h1, h2⟩ => ⟨h1, h2.belowB (Nat.le_refl _) (fun _ e => e.elim)⟩
theorem runs_law (HV : ValidOk) (HS : SplitOk) (HM : MovesOk) (HC : VictimOk) {W : World} {a1 a2 : Option Addr} {n1 n2 d1 d2 : Nat} (hl : Rows3 W a1 n1 d1) (hn1 : n1 ≤ 5864062014700) (hp : Rows3 W a2 n2 d2) {n pages block : Int}
    (hn : -9223372036854775808 ≤ n ∧ n ≤ 9223372036854775807) (hpg : -9223372036854775808 ≤ pages ∧ pages ≤ 9223372036854775807) (hbk : -9223372036854775808 ≤ block ∧ block ≤ 9223372036854775807) :
    Calls Try.prog 4 #[.slice a1 n1 d1, .slice a2 n2 d2, .int .i64 n, .int .i64 pages, .int .i64 block] W fun e w' => e = .returned (.bool true) ∧ Below W.heap.size W w' := by
  obtain ⟨l, rfl, h1, h2⟩ := hl
  obtain ⟨p, rfl, h3, h4⟩ := hp
  exact (runs_walk (awake_any HV HS HM HC) HV HS HM h1 h2 hn1 h3 h4 hn hpg hbk).mono fun _ _ ⟨h1, h2⟩ => ⟨h1, h2.belowB (Nat.le_refl _) (fun _ e => e.elim)⟩
theorem victim_law (HV : ValidOk) (HS : SplitOk) (HM : MovesOk) (HC : VictimOk) {W : World} {a1 a2 : Option Addr} {n1 n2 d1 d2 : Nat} (hv : ∃ l : List Int, l.length = n1 ∧ Iz W a1 d1 l) (hb : ∃ l : List Bool, l.length = n2 ∧ Bz W a2 d2 l) :
    Calls Try.prog 5 #[.slice a1 n1 d1, .slice a2 n2 d2] W fun e w' => e = .returned (.bool true) ∧ Below W.heap.size W w' := by
  obtain ⟨v, rfl, h1⟩ := hv
  obtain ⟨b, rfl, h2⟩ := hb
  exact (victim_walk (awake_any HV HS HM HC) HC h1 h2).mono fun _ _ ⟨h1, h2⟩ => ⟨h1, h2.belowB (Nat.le_refl _) (fun _ e => e.elim)⟩
theorem parts_law (HV : ValidOk) (HS : SplitOk) (HM : MovesOk) (HC : VictimOk) {W : World} {a : Option Addr} {n c : Nat} (hp : Rows3 W a n c) {pages : Int} (hpg : -9223372036854775808 ≤ pages ∧ pages ≤ 9223372036854775807) :
    Calls Try.prog 6 #[.slice a n c, .int .i64 pages] W fun e w' => e = .returned (.bool true) ∧ Below W.heap.size W w' := by
  obtain ⟨p, rfl, h3, h4⟩ := hp
  exact (parts_walk (awake_any HV HS HM HC) HV HM h3 h4 hpg).mono fun _ _ ⟨h1, h2⟩ => ⟨h1, h2.belowB (Nat.le_refl _) (fun _ e => e.elim)⟩
end Tg
end Go.Proofs.Ytkddonmddgfpnab
