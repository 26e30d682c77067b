/-
  A list of calls as an argument: each is four cells.
-/
import Derived.Test.YtjafjofonckaaaaRoom
import Derived.Deep.Slices
namespace Go.Proofs.Ytjafjofonckaaaa
open Go.ChangeShapes Go.WideShapes Go.ChangeAt Go.RowKit
namespace Nd

/-- A call as an argument tells it: four cells. -/
structure ActAt (w : World) (b o : Nat) (op a sh f : Int) : Prop where
  c0 : w.cell? ⟨b, o, none⟩ = some (.int .i64 op)
  c1 : w.cell? ⟨b, o + 1, none⟩ = some (.int .i64 a)
  c2 : w.cell? ⟨b, o + 2, none⟩ = some (.int .i64 sh)
  c3 : w.cell? ⟨b, o + 3, none⟩ = some (.int .u8 f)
  wa : (Lit.int .i64 op).wf = true ∧ (Lit.int .i64 a).wf = true ∧ (Lit.int .i64 sh).wf = true ∧ (Lit.int .u8 f).wf = true

theorem cells38 : Try.prog.cellsOf 38 = 4 := by kernel_rfl
theorem cells3 : Try.prog.cellsOf 3 = 1 := by kernel_rfl
theorem cells5 : Try.prog.cellsOf 5 = 1 := by kernel_rfl

theorem act_of_trod {H : Type} {enc : TypeId × Value → H} {w : World} {base fuel : Nat} {spare : Nat → Bool} {held : Bool} {cs : List Value} {x : DataW H × List MemPlace}
    (h : DataW.trod enc Try.prog w base spare held fuel 38 cs = some x) :
    ∃ op a sh f : Int, cs = [.int .i64 op, .int .i64 a, .int .i64 sh, .int .u8 f] ∧ ((Lit.int .i64 op).wf = true ∧ (Lit.int .i64 a).wf = true ∧ (Lit.int .i64 sh).wf = true ∧ (Lit.int .u8 f).wf = true) := by
  obtain ⟨xs, n, rfl, _, hl, hxl, hf⟩ := DataW.trod_struct Try.underlying38 h
  rw [cells38] at hl
  obtain ⟨v0, v1, v2, v3, rfl⟩ : ∃ v0 v1 v2 v3, cs = [v0, v1, v2, v3] := by
    match cs, hl with
    | [v0, v1, v2, v3], _ => exact ⟨v0, v1, v2, v3, rfl⟩
  have hx : ∀ i, i < 4 → ∃ y, xs[i]? = some y := fun i hi => ⟨xs[i]'(by rw [hxl]; exact hi), List.getElem?_eq_getElem _⟩
  obtain ⟨y0, e0⟩ := hx 0 (by omega)
  obtain ⟨y1, e1⟩ := hx 1 (by omega)
  obtain ⟨y2, e2⟩ := hx 2 (by omega)
  obtain ⟨y3, e3⟩ := hx 3 (by omega)
  have k0 : DataW.trod enc Try.prog w base spare held n 3 (List.take (Try.prog.cellsOf 3) (List.drop 0 [v0, v1, v2, v3])) = xs[0]? := hf 0 _ rfl
  have k1 : DataW.trod enc Try.prog w base spare held n 3 (List.take (Try.prog.cellsOf 3) (List.drop 1 [v0, v1, v2, v3])) = xs[1]? := hf 1 _ rfl
  have k2 : DataW.trod enc Try.prog w base spare held n 3 (List.take (Try.prog.cellsOf 3) (List.drop 2 [v0, v1, v2, v3])) = xs[2]? := hf 2 _ rfl
  have k3 : DataW.trod enc Try.prog w base spare held n 5 (List.take (Try.prog.cellsOf 5) (List.drop 3 [v0, v1, v2, v3])) = xs[3]? := hf 3 _ rfl
  rw [e0, cells3] at k0
  rw [e1, cells3] at k1
  rw [e2, cells3] at k2
  rw [e3, cells5] at k3
  obtain ⟨n0, q0, _, w0⟩ := DataW.trod_int Try.underlying3 k0
  obtain ⟨n1, q1, _, w1⟩ := DataW.trod_int Try.underlying3 k1
  obtain ⟨n2, q2, _, w2⟩ := DataW.trod_int Try.underlying3 k2
  obtain ⟨n3, q3, _, w3⟩ := DataW.trod_int Try.underlying5 k3
  simp at q0 q1 q2 q3
  subst q0 q1 q2 q3
  exact ⟨n0, n1, n2, n3, rfl, w0, w1, w2, w3⟩

theorem cells_get {w : World} {base : Nat} {a : Addr} {n : Nat} {cs : List Value} (h : w.cells? base a n = some cs) : ∀ i, i < n → w.cell? (a.add i) = cs[i]? := by
  unfold World.cells? at h
  split at h
  · intro i hi
    have := mapM_some_get h i i (by simp [hi])
    exact this
  · cases h

/-- An argument that is a list of calls. -/
theorem open_acts {H : Type} {enc : TypeId × Value → H} {W : World} {a : Option Addr} {len cap : Nat} {d : DataW H} {p : List MemPlace}
    (h : DataW.Trod enc Try.prog W 0 (fun _ => true) true 34 (.slice a len cap) d p) :
    len ≤ cap ∧ cap ≤ 9223372036854775807 ∧ (len = 0 ∨ ∃ b o, a = some ⟨b, o, none⟩ ∧ ∀ i, i < len → ∃ op x sh f, ActAt W b (o + i * 4) op x sh f) := by
  obtain ⟨fuel, hf⟩ := h
  rcases Deep.open_slice Try.underlying34 hf with ⟨hcs, hx⟩ | ⟨ad, l, c, m, n, D, Pl, hcs, _, hl, hm, hmm, _, hi⟩
  · simp [Value.cells] at hcs
    obtain ⟨rfl, rfl, rfl⟩ := hcs
    exact ⟨by omega, by omega, Or.inl rfl⟩
  · simp [Value.cells] at hcs
    obtain ⟨rfl, rfl, rfl⟩ := hcs
    unfold maxLen at hm
    simp at hmm
    refine ⟨hl, by omega, ?_⟩
    by_cases h0 : len = 0
    · exact Or.inl h0
    · right
      obtain ⟨b, off, spot⟩ := ad
      have hall : ∀ i, i < len → ∃ op x sh f, W.cell? ((⟨b, off, spot⟩ : Addr).add (i * 4)) = some (.int .i64 op) ∧ W.cell? (((⟨b, off, spot⟩ : Addr).add (i * 4)).add 1) = some (.int .i64 x) ∧ W.cell? (((⟨b, off, spot⟩ : Addr).add (i * 4)).add 2) = some (.int .i64 sh) ∧ W.cell? (((⟨b, off, spot⟩ : Addr).add (i * 4)).add 3) = some (.int .u8 f) ∧
          ((Lit.int .i64 op).wf = true ∧ (Lit.int .i64 x).wf = true ∧ (Lit.int .i64 sh).wf = true ∧ (Lit.int .u8 f).wf = true) := by
        intro i hil
        obtain ⟨cs', hc, ht⟩ := hi i (by omega)
        rw [cells38] at hc
        obtain ⟨op, x, sh, f, rfl, hw⟩ := act_of_trod ht
        have g := cells_get hc
        refine ⟨op, x, sh, f, ?_, g 1 (by omega), g 2 (by omega), g 3 (by omega), hw⟩
        have := g 0 (by omega)
        simpa [Addr.add] using this
      have hspot : spot = none := by
        obtain ⟨op, x, sh, f, h1, _⟩ := hall 0 (by omega)
        simpa [Addr.add] using World.cell?_spot h1
      subst hspot
      refine ⟨b, off, rfl, fun i hil => ?_⟩
      obtain ⟨op, x, sh, f, h1, h2, h3, h4, hw⟩ := hall i hil
      rw [Addr.add_lit] at h1 h2 h3 h4
      rw [Addr.add_lit] at h2 h3 h4
      exact ⟨op, x, sh, f, h1, h2, h3, h4, hw⟩
end Nd
end Go.Proofs.Ytjafjofonckaaaa
