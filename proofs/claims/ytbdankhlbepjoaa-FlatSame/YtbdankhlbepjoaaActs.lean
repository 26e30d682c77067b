/-
  A list of calls as an argument: each is four cells; a call as an argument.
-/
import Derived.Test.YtbdankhlbepjoaaDidW
import Derived.Deep.Slices
namespace Go.Proofs.Ytbdankhlbepjoaa
open Go.ChangeShapes Go.WideShapes Go.ChangeAt Go.RowKit
namespace Tg

theorem cells34 : Try.prog.cellsOf 34 = 4 := by kernel_rfl
theorem cells3 : Try.prog.cellsOf 3 = 1 := by kernel_rfl
def act4 (a0 a1 a2 a3 : Int) (j : Nat) : Int := if j = 0 then a0 else if j = 1 then a1 else if j = 2 then a2 else a3

theorem int_fits {n : Int} (h : (Lit.int .i64 n).wf = true) : -9223372036854775808 ≤ n ∧ n ≤ 9223372036854775807 := by
  have h1 : IntKind.i64.min = -9223372036854775808 := by rfl
  have h2 : IntKind.i64.max = 9223372036854775807 := by rfl
  simp [Lit.wf] at h
  omega
set_option maxRecDepth 100000 in
theorem act_of_trod {H : Type} {enc : TypeId × Value → H} {w : World} {base fuel : Nat} {spare : Nat → Bool} {held : Bool} {cs : List Value} {x : DataW H × List MemPlace}
    (h : DataW.trod enc Try.prog w base spare held fuel 34 cs = some x) :
    ∃ a : Nat → Int, cs = [.int .i64 (a 0), .int .i64 (a 1), .int .i64 (a 2), .int .i64 (a 3)] ∧ ∀ j, -9223372036854775808 ≤ a j ∧ a j ≤ 9223372036854775807 := by
  obtain ⟨xs, n, rfl, _, hl, hxl, hf⟩ := DataW.trod_struct Try.underlying34 h
  rw [cells34] at hl
  obtain ⟨v0, v1, v2, v3, rfl⟩ : ∃ v0 v1 v2 v3, cs = [v0, v1, v2, v3] := by
    match cs, hl with
    | [v0, v1, v2, v3], _ => exact ⟨v0, v1, v2, v3, rfl⟩
  have hx : ∀ i, i < 4 → ∃ y, xs[i]? = some y := fun i hi => ⟨xs[i]'(by rw [hxl]; exact hi), List.getElem?_eq_getElem _⟩
  obtain ⟨y0, e0⟩ := hx 0 (by omega)
  obtain ⟨y1, e1⟩ := hx 1 (by omega)
  obtain ⟨y2, e2⟩ := hx 2 (by omega)
  obtain ⟨y3, e3⟩ := hx 3 (by omega)
  have k0 : DataW.trod enc Try.prog w base spare held n 3 (List.take (Try.prog.cellsOf 3) (List.drop 0 [v0, v1, v2, v3])) = xs[0]? := hf 0 _ rfl
  have k1 : DataW.trod enc Try.prog w base spare held n 3 (List.take (Try.prog.cellsOf 3) (List.drop 1 [v0, v1, v2, v3])) = xs[1]? := hf 1 _ rfl
  have k2 : DataW.trod enc Try.prog w base spare held n 3 (List.take (Try.prog.cellsOf 3) (List.drop 2 [v0, v1, v2, v3])) = xs[2]? := hf 2 _ rfl
  have k3 : DataW.trod enc Try.prog w base spare held n 3 (List.take (Try.prog.cellsOf 3) (List.drop 3 [v0, v1, v2, v3])) = xs[3]? := hf 3 _ rfl
  rw [e0, cells3] at k0
  rw [e1, cells3] at k1
  rw [e2, cells3] at k2
  rw [e3, cells3] at k3
  obtain ⟨n0, q0, _, w0⟩ := DataW.trod_int Try.underlying3 k0
  obtain ⟨n1, q1, _, w1⟩ := DataW.trod_int Try.underlying3 k1
  obtain ⟨n2, q2, _, w2⟩ := DataW.trod_int Try.underlying3 k2
  obtain ⟨n3, q3, _, w3⟩ := DataW.trod_int Try.underlying3 k3
  simp at q0 q1 q2 q3
  subst q0 q1 q2 q3
  have r0 := int_fits w0
  have r1 := int_fits w1
  have r2 := int_fits w2
  have r3 := int_fits w3
  exact ⟨act4 n0 n1 n2 n3, rfl, fun j => by unfold act4; split; exact r0; split; exact r1; split; exact r2; exact r3⟩

theorem cells_get {w : World} {base : Nat} {a : Addr} {n : Nat} {cs : List Value} (h : w.cells? base a n = some cs) : ∀ i, i < n → w.cell? (a.add i) = cs[i]? := by
  unfold World.cells? at h
  split at h
  · intro i hi
    have := mapM_some_get h i i (by simp [hi])
    exact this
  · cases h

/-- A list of calls in memory. -/
def Acts (W : World) (a : Option Addr) (len cap : Nat) : Prop :=
  len ≤ cap ∧ cap ≤ 9223372036854775807 ∧ (len = 0 ∨ ∃ b o, a = some ⟨b, o, none⟩ ∧ ∀ i, i < len → ∃ f : Nat → Int, (∀ j, -9223372036854775808 ≤ f j ∧ f j ≤ 9223372036854775807) ∧ ∀ j, j < 4 → W.cell? ⟨b, o + i * 4 + j, none⟩ = some (.int .i64 (f j)))
theorem four {j : Nat} (h : j < 4) : j = 0 ∨ j = 1 ∨ j = 2 ∨ j = 3 := by omega

set_option maxRecDepth 100000 in
/-- An argument that is a list of calls. -/
theorem open_acts {H : Type} {enc : TypeId × Value → H} {W : World} {a : Option Addr} {len cap : Nat} {d : DataW H} {p : List MemPlace}
    (h : DataW.Trod enc Try.prog W 0 (fun _ => true) true 30 (.slice a len cap) d p) : Acts W a len cap := by
  obtain ⟨fuel, hf⟩ := h
  rcases Deep.open_slice Try.underlying30 hf with ⟨hcs, hx⟩ | ⟨ad, l, c, m, n, D, Pl, hcs, _, hl, hm, hmm, _, hi⟩
  · simp [Value.cells] at hcs
    obtain ⟨rfl, rfl, rfl⟩ := hcs
    exact ⟨by omega, by omega, Or.inl rfl⟩
  · simp [Value.cells] at hcs
    obtain ⟨rfl, rfl, rfl⟩ := hcs
    unfold maxLen at hm
    simp at hmm
    refine ⟨hl, by omega, ?_⟩
    by_cases h0 : len = 0
    · exact Or.inl h0
    · right
      obtain ⟨b, off, spot⟩ := ad
      have hall : ∀ i, i < len → ∃ f : Nat → Int, (∀ j, -9223372036854775808 ≤ f j ∧ f j ≤ 9223372036854775807) ∧ ∀ j, j < 4 → W.cell? (((⟨b, off, spot⟩ : Addr).add (i * 4)).add j) = some (.int .i64 (f j)) := by
        intro i hil
        obtain ⟨cs', hc, ht⟩ := hi i (by omega)
        rw [cells34] at hc
        obtain ⟨f, rfl, hfr⟩ := act_of_trod ht
        have g := cells_get hc
        refine ⟨f, hfr, fun j hj => ?_⟩
        rw [g j hj]
        rcases four hj with rfl | rfl | rfl | rfl <;> rfl
      have hspot : spot = none := by
        obtain ⟨f, -, h1⟩ := hall 0 (by omega)
        simpa [Addr.add] using World.cell?_spot (h1 0 (by omega))
      subst hspot
      refine ⟨b, off, rfl, fun i hil => ?_⟩
      obtain ⟨f, hfr, h1⟩ := hall i hil
      refine ⟨f, hfr, fun j hj => ?_⟩
      have := h1 j hj
      rwa [Addr.add_lit, Addr.add_lit] at this

theorem Acts.keep {S : Nat → Prop} {w w' : World} {a : Option Addr} {len cap : Nat} (h : Acts w a len cap) (k : Keep S w w') (hs : ∀ b o, a = some ⟨b, o, none⟩ → ¬ S b) : Acts w' a len cap := by
  obtain ⟨h1, h2, h3⟩ := h
  refine ⟨h1, h2, h3.imp id ?_⟩
  rintro ⟨b, o, rfl, hc⟩
  refine ⟨b, o, rfl, fun i hi => ?_⟩
  obtain ⟨f, hfr, hf⟩ := hc i hi
  refine ⟨f, hfr, fun j hj => ?_⟩
  have := hf j hj
  rw [← this]
  exact World.cell?_of_block (w := w) (a := ⟨b, o + i * 4 + j, none⟩) (k.block b (World.block_lt_of_cell? w _ this) (hs b o rfl))

/-- A call's four cells. -/
def actA (f : Nat → Int) : Array Value := #[.int .i64 (f 0), .int .i64 (f 1), .int .i64 (f 2), .int .i64 (f 3)]
set_option maxRecDepth 100000 in
/-- An argument that is a call. -/
theorem open_act {H : Type} {enc : TypeId × Value → H} {W : World} {base b0 : Nat} {spare : Nat → Bool} {held : Bool} {r : Reach} {v : Value} {d : DataW H} {p : List MemPlace} (hv : Value.okWide Try.prog W r b0 34 v) (h : DataW.Trod enc Try.prog W base spare held 34 v d p) :
    ∃ f : Nat → Int, v = .agg (actA f) ∧ ∀ j, -9223372036854775808 ≤ f j ∧ f j ≤ 9223372036854775807 := by
  obtain ⟨cs, rfl, hsz⟩ := okWide_struct Try.underlying34 hv
  obtain ⟨fuel, hf⟩ := h
  obtain ⟨f, hcs, hr⟩ := act_of_trod hf
  refine ⟨f, ?_, hr⟩
  have : cs.toList = [.int .i64 (f 0), .int .i64 (f 1), .int .i64 (f 2), .int .i64 (f 3)] := hcs
  rw [← Array.toArray_toList (xs := cs), this]
  rfl
/-- The call at a place of the list. -/
theorem Acts.at {w : World} {a : Option Addr} {len cap : Nat} (h : Acts w a len cap) {i : Nat} (hi : i < len) : ∃ b o, a = some ⟨b, o, none⟩ ∧ ∃ f : Nat → Int, (∀ j, -9223372036854775808 ≤ f j ∧ f j ≤ 9223372036854775807) ∧
    w.cell? ⟨b, o + i * 4, none⟩ = some (.int .i64 (f 0)) ∧ w.cell? ⟨b, o + i * 4 + 1, none⟩ = some (.int .i64 (f 1)) ∧ w.cell? ⟨b, o + i * 4 + 2, none⟩ = some (.int .i64 (f 2)) ∧ w.cell? ⟨b, o + i * 4 + 3, none⟩ = some (.int .i64 (f 3)) := by
  rcases h.2.2 with h0 | ⟨b, o, rfl, hc⟩
  · omega
  · obtain ⟨f, hr, hf⟩ := hc i hi
    exact ⟨b, o, rfl, f, hr, hf 0 (by omega), hf 1 (by omega), hf 2 (by omega), hf 3 (by omega)⟩
theorem Acts.more {w w' : World} {a : Option Addr} {len cap : Nat} (h : Acts w a len cap) (k : Keep (fun _ => False) w w') : Acts w' a len cap := h.keep k (fun _ _ _ e => e)
end Tg
end Go.Proofs.Ytbdankhlbepjoaa
