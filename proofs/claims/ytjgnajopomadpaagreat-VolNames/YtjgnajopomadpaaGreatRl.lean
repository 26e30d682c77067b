/-
  Calls as arguments; VolApart, given what a store's calls answer.
-/
import Derived.Test.YtjgnajopomadpaaGreatRk
import Derived.OpenShut
namespace Go.Proofs.YtjgnajopomadpaaGreat
open Go.ChangeShapes Go.WideShapes Go.ChangeAt Go.RowKit
namespace Tg
open Qm Crc
theorem cells43 : Tryz.prog.cellsOf 43 = 6 := by kernel_rfl
theorem cells3 : Tryz.prog.cellsOf 3 = 1 := by kernel_rfl
theorem cells9 : Tryz.prog.cellsOf 9 = 1 := by kernel_rfl
theorem int_fits {n : Int} (h : (Lit.int .i64 n).wf = true) : I64 n := by
  have h1 : IntKind.i64.min = -9223372036854775808 := by rfl
  have h2 : IntKind.i64.max = 9223372036854775807 := by rfl
  simp [Lit.wf] at h
  unfold I64
  omega
set_option maxRecDepth 100000 in
theorem act_of_trod {H : Type} {enc : TypeId × Value → H} {w : World} {base fuel : Nat} {spare : Nat → Bool} {held : Bool} {cs : List Value} {x : DataW H × List MemPlace}
    (h : DataW.trod enc Tryz.prog w base spare held fuel 43 cs = some x) :
    ∃ y : Ac, cs = (acA y).toList ∧ y.Ok := by
  obtain ⟨xs, n, rfl, _, hl, hxl, hf⟩ := DataW.trod_struct Tryz.underlying43 h
  rw [cells43] at hl
  obtain ⟨v0, v1, v2, v3, v4, v5, rfl⟩ : ∃ v0 v1 v2 v3 v4 v5, cs = [v0, v1, v2, v3, v4, v5] := by
    match cs, hl with
    | [v0, v1, v2, v3, v4, v5], _ => exact ⟨v0, v1, v2, v3, v4, v5, rfl⟩
  have hx : ∀ i, i < 6 → ∃ y, xs[i]? = some y := fun i hi => ⟨xs[i]'(by rw [hxl]; exact hi), List.getElem?_eq_getElem _⟩
  obtain ⟨y0, e0⟩ := hx 0 (by omega)
  obtain ⟨y1, e1⟩ := hx 1 (by omega)
  obtain ⟨y2, e2⟩ := hx 2 (by omega)
  obtain ⟨y3, e3⟩ := hx 3 (by omega)
  obtain ⟨y4, e4⟩ := hx 4 (by omega)
  obtain ⟨y5, e5⟩ := hx 5 (by omega)
  have k0 : DataW.trod enc Tryz.prog w base spare held n 3 (List.take (Tryz.prog.cellsOf 3) (List.drop 0 [v0, v1, v2, v3, v4, v5])) = xs[0]? := hf 0 _ rfl
  have k1 : DataW.trod enc Tryz.prog w base spare held n 3 (List.take (Tryz.prog.cellsOf 3) (List.drop 1 [v0, v1, v2, v3, v4, v5])) = xs[1]? := hf 1 _ rfl
  have k2 : DataW.trod enc Tryz.prog w base spare held n 3 (List.take (Tryz.prog.cellsOf 3) (List.drop 2 [v0, v1, v2, v3, v4, v5])) = xs[2]? := hf 2 _ rfl
  have k3 : DataW.trod enc Tryz.prog w base spare held n 3 (List.take (Tryz.prog.cellsOf 3) (List.drop 3 [v0, v1, v2, v3, v4, v5])) = xs[3]? := hf 3 _ rfl
  have k4 : DataW.trod enc Tryz.prog w base spare held n 3 (List.take (Tryz.prog.cellsOf 3) (List.drop 4 [v0, v1, v2, v3, v4, v5])) = xs[4]? := hf 4 _ rfl
  have k5 : DataW.trod enc Tryz.prog w base spare held n 9 (List.take (Tryz.prog.cellsOf 9) (List.drop 5 [v0, v1, v2, v3, v4, v5])) = xs[5]? := hf 5 _ rfl
  rw [e0, cells3] at k0
  rw [e1, cells3] at k1
  rw [e2, cells3] at k2
  rw [e3, cells3] at k3
  rw [e4, cells3] at k4
  rw [e5, cells9] at k5
  obtain ⟨n0, q0, _, w0⟩ := DataW.trod_int Tryz.underlying3 k0
  obtain ⟨n1, q1, _, w1⟩ := DataW.trod_int Tryz.underlying3 k1
  obtain ⟨n2, q2, _, w2⟩ := DataW.trod_int Tryz.underlying3 k2
  obtain ⟨n3, q3, _, w3⟩ := DataW.trod_int Tryz.underlying3 k3
  obtain ⟨n4, q4, _, w4⟩ := DataW.trod_int Tryz.underlying3 k4
  obtain ⟨n5, q5, _, w5⟩ := DataW.trod_string Tryz.underlying9 k5
  simp at q0 q1 q2 q3 q4 q5
  subst q0 q1 q2 q3 q4 q5
  exact ⟨⟨n0, n1, n2, n3, n4, n5⟩, rfl, ⟨int_fits w3, int_fits w4, by show n5.size ≤ _; unfold maxLen at w5; omega⟩⟩
theorem cells_get {w : World} {base : Nat} {a : Addr} {n : Nat} {cs : List Value} (h : w.cells? base a n = some cs) : ∀ i, i < n → w.cell? (a.add i) = cs[i]? := by
  unfold World.cells? at h
  split at h
  · intro i hi
    have := mapM_some_get h i i (by simp [hi])
    exact this
  · cases h
set_option maxRecDepth 100000 in
/-- An argument that is a list of calls. -/
theorem open_acs {H : Type} {enc : TypeId × Value → H} {W : World} {a : Option Addr} {len cap : Nat} {d : DataW H} {p : List MemPlace}
    (h : DataW.Trod enc Tryz.prog W 0 (fun _ => true) true 36 (.slice a len cap) d p) : Acs W a len cap := by
  obtain ⟨fuel, hf⟩ := h
  rcases Deep.open_slice Tryz.underlying36 hf with ⟨hcs, hx⟩ | ⟨ad, l, c, m, n, D, Pl, hcs, _, hl, hm, hmm, _, hi⟩
  · simp [Value.cells] at hcs
    obtain ⟨rfl, rfl, rfl⟩ := hcs
    exact ⟨by omega, by omega, Or.inl rfl⟩
  · simp [Value.cells] at hcs
    obtain ⟨rfl, rfl, rfl⟩ := hcs
    unfold maxLen at hm
    simp at hmm
    refine ⟨hl, by omega, ?_⟩
    by_cases h0 : len = 0
    · exact Or.inl h0
    · right
      obtain ⟨b, off, spot⟩ := ad
      have hall : ∀ i, i < len → ∃ y : Ac, y.Ok ∧ ∀ j, j < 6 → W.cell? (((⟨b, off, spot⟩ : Addr).add (i * 6)).add j) = some (acC y j) := by
        intro i hil
        obtain ⟨cs', hc, ht⟩ := hi i (by omega)
        rw [cells43] at hc
        obtain ⟨y, rfl, hy⟩ := act_of_trod ht
        have g := cells_get hc
        refine ⟨y, hy, fun j hj => ?_⟩
        rw [g j hj]
        rcases (by omega : j = 0 ∨ j = 1 ∨ j = 2 ∨ j = 3 ∨ j = 4 ∨ j = 5) with rfl | rfl | rfl | rfl | rfl | rfl <;> rfl
      have hspot : spot = none := by
        obtain ⟨y, -, h1⟩ := hall 0 (by omega)
        have := h1 0 (by omega)
        simpa [Addr.add] using World.cell?_spot this
      subst hspot
      refine ⟨b, off, rfl, fun i hil => ?_⟩
      obtain ⟨y, hy, hj⟩ := hall i hil
      refine ⟨y, hy, fun j hj6 => ?_⟩
      have := hj j hj6
      rw [Addr.add_lit, Addr.add_lit] at this
      exact this
section
variable {SV : (Nat → Prop) → World → Nat → Nat → Nat → List Int → (Nat → Option En) → Prop}
theorem apart_law (H : StOk SV) {w : World} {a : Option Addr} {len c : Nat} {cp : Int} (first data : ByteArray) (hi : I64 cp) (hd : data.size ≤ 9223372036854775807) (hac : Acs w a len c) :
    Calls Tryz.prog 6 #[.int .i64 cp, .string first, .slice a len c, .string data] w fun e w' => e = .returned (.bool true) ∧ Below w.heap.size w w' := by
  refine bel ?_
  by_cases h : ¬ (9 ≤ cp ∧ cp ≤ 64) ∨ 25 < len
  · exact apart_no H first data hi h
  · obtain ⟨N, rfl⟩ : ∃ n : Nat, cp = n := ⟨cp.toNat, by omega⟩
    exact apart_main H first data hd (by omega) (by omega) hac
end
end Tg
end Go.Proofs.YtjgnajopomadpaaGreat
