/-
  Rows of triples as arguments: changes, runs, pieces.
-/
import Derived.Test.YtkddonmddgfpnaaSpB
import Derived.Deep.Slices
namespace Go.Proofs.Ytkddonmddgfpnaa
open Go.ChangeShapes Go.WideShapes Go.ChangeAt Go.RowKit
namespace Tg

/-- A row of triples that came in. -/
def Rows3 (W : World) (a : Option Addr) (len cap : Nat) : Prop := ∃ l : List Rn, l.length = len ∧ Rz W a cap l ∧ Fits l
theorem three3 {j : Nat} (h : j < 3) : j = 0 ∨ j = 1 ∨ j = 2 := by omega
/-- A number by three. -/
def trip (a0 a1 a2 : Int) (j : Nat) : Int := if j = 0 then a0 else if j = 1 then a1 else a2
/-- A row of triples, told as a list. -/
theorem rows3_of {W : World} {b o len cap : Nat} (h1 : len ≤ cap) (h2 : cap ≤ 9223372036854775807) (h : ∀ i, i < len → ∃ f : Nat → Int, (∀ j, -9223372036854775808 ≤ f j ∧ f j ≤ 9223372036854775807) ∧ ∀ j, j < 3 → W.cell? ⟨b, o + i * 3 + j, none⟩ = some (.int .i64 (f j))) :
    ∀ n, n ≤ len → ∃ l : List Rn, l.length = n ∧ Fits l ∧ ∀ i x, l[i]? = some x → W.cell? ⟨b, o + i * 3, none⟩ = some (.int .i64 x.lba) ∧ W.cell? ⟨b, o + i * 3 + 1, none⟩ = some (.int .i64 x.len) ∧ W.cell? ⟨b, o + i * 3 + 2, none⟩ = some (.int .i64 x.phys)
  | 0, _ => ⟨[], rfl, (fun x hx => by cases hx), (fun i x hx => by simp at hx)⟩
  | n + 1, hn => by
    obtain ⟨l, hl, hf, hc⟩ := rows3_of h1 h2 h n (by omega)
    obtain ⟨f, hb, hv⟩ := h n (by omega)
    refine ⟨l ++ [⟨f 0, f 1, f 2⟩], by simp [hl], fun x hx => ?_, fun i x hx => ?_⟩
    · rcases List.mem_append.1 hx with hx | hx
      · exact hf x hx
      · simp at hx; subst hx; exact ⟨hb 0, hb 1, hb 2⟩
    · by_cases c : i < l.length
      · rw [List.getElem?_append_left c] at hx
        exact hc i x hx
      · rw [List.getElem?_append_right (by omega)] at hx
        have e : i - l.length = 0 := by
          by_cases c2 : i - l.length = 0
          · exact c2
          · rw [List.getElem?_eq_none (by simp; omega)] at hx; cases hx
        rw [e] at hx
        simp at hx
        subst hx
        have ei : i = n := by omega
        subst ei
        exact ⟨hv 0 (by omega), hv 1 (by omega), hv 2 (by omega)⟩

theorem cells30 : Try.prog.cellsOf 30 = 3 := by kernel_rfl
set_option maxRecDepth 100000 in
theorem trip_of_trod30 {H : Type} {enc : TypeId × Value → H} {w : World} {base fuel : Nat} {spare : Nat → Bool} {held : Bool} {cs : List Value} {x : DataW H × List MemPlace}
    (h : DataW.trod enc Try.prog w base spare held fuel 30 cs = some x) :
    ∃ a : Nat → Int, cs = [.int .i64 (a 0), .int .i64 (a 1), .int .i64 (a 2)] ∧ ∀ j, -9223372036854775808 ≤ a j ∧ a j ≤ 9223372036854775807 := by
  obtain ⟨xs, n, rfl, _, hl, hxl, hf⟩ := DataW.trod_struct Try.underlying30 h
  rw [cells30] at hl
  obtain ⟨v0, v1, v2, rfl⟩ : ∃ v0 v1 v2, cs = [v0, v1, v2] := by
    match cs, hl with
    | [v0, v1, v2], _ => exact ⟨v0, v1, v2, rfl⟩
  have hx : ∀ i, i < 3 → ∃ y, xs[i]? = some y := fun i hi => ⟨xs[i]'(by rw [hxl]; exact hi), List.getElem?_eq_getElem _⟩
  obtain ⟨y0, e0⟩ := hx 0 (by omega)
  obtain ⟨y1, e1⟩ := hx 1 (by omega)
  obtain ⟨y2, e2⟩ := hx 2 (by omega)
  have k0 : DataW.trod enc Try.prog w base spare held n 3 (List.take (Try.prog.cellsOf 3) (List.drop 0 [v0, v1, v2])) = xs[0]? := hf 0 _ rfl
  have k1 : DataW.trod enc Try.prog w base spare held n 3 (List.take (Try.prog.cellsOf 3) (List.drop 1 [v0, v1, v2])) = xs[1]? := hf 1 _ rfl
  have k2 : DataW.trod enc Try.prog w base spare held n 3 (List.take (Try.prog.cellsOf 3) (List.drop 2 [v0, v1, v2])) = xs[2]? := hf 2 _ rfl
  rw [e0, cells3] at k0
  rw [e1, cells3] at k1
  rw [e2, cells3] at k2
  obtain ⟨n0, q0, _, w0⟩ := DataW.trod_int Try.underlying3 k0
  obtain ⟨n1, q1, _, w1⟩ := DataW.trod_int Try.underlying3 k1
  obtain ⟨n2, q2, _, w2⟩ := DataW.trod_int Try.underlying3 k2
  simp at q0 q1 q2
  subst q0 q1 q2
  have r0 := int_fits w0
  have r1 := int_fits w1
  have r2 := int_fits w2
  exact ⟨trip n0 n1 n2, rfl, fun j => by unfold trip; split; exact r0; split; exact r1; exact r2⟩
set_option maxRecDepth 100000 in
/-- Cells that read as such a row. -/
theorem rows_of_trod31 {H : Type} {enc : TypeId × Value → H} {W : World} {spare : Nat → Bool} {held : Bool} {a : Option Addr} {len cap fuel : Nat} {x : DataW H × List MemPlace}
    (hf : DataW.trod enc Try.prog W 0 spare held fuel 31 [.slice a len cap] = some x) : Rows3 W a len cap := by
  rcases Deep.open_slice Try.underlying31 hf with ⟨hcs, hx⟩ | ⟨ad, l, c, m, n, D, Pl, hcs, _, hl, hm, hmm, _, hi⟩
  · simp at hcs
    obtain ⟨rfl, rfl, rfl⟩ := hcs
    exact ⟨[], rfl, ⟨by simp, by omega, Or.inl rfl⟩, fun x hx => by cases hx⟩
  · simp at hcs
    obtain ⟨rfl, rfl, rfl⟩ := hcs
    unfold maxLen at hm
    have hmm' : len ≤ m := by
      rw [hmm]; split <;> omega
    by_cases h0 : len = 0
    · subst h0
      exact ⟨[], rfl, ⟨by simp, by omega, Or.inl rfl⟩, fun x hx => by cases hx⟩
    · obtain ⟨b, off, spot⟩ := ad
      have hall : ∀ i, i < len → ∃ f : Nat → Int, (∀ j, -9223372036854775808 ≤ f j ∧ f j ≤ 9223372036854775807) ∧ ∀ j, j < 3 → W.cell? (((⟨b, off, spot⟩ : Addr).add (i * 3)).add j) = some (.int .i64 (f j)) := by
        intro i hil
        obtain ⟨cs', hc, ht⟩ := hi i (by omega)
        rw [cells30] at hc
        obtain ⟨f, rfl, hfr⟩ := trip_of_trod30 ht
        have g := cells_get hc
        refine ⟨f, hfr, fun j hj => ?_⟩
        rw [g j hj]
        rcases three3 hj with rfl | rfl | rfl <;> rfl
      have hspot : spot = none := by
        obtain ⟨f, -, h1⟩ := hall 0 (by omega)
        simpa [Addr.add] using World.cell?_spot (h1 0 (by omega))
      subst hspot
      obtain ⟨rows, hr1, hr2, hr3⟩ := rows3_of (W := W) (b := b) (o := off) (len := len) (cap := cap) hl (by omega) (fun i hil => by
        obtain ⟨f, hfr, h1⟩ := hall i hil
        refine ⟨f, hfr, fun j hj => ?_⟩
        have := h1 j hj
        rwa [Addr.add_lit, Addr.add_lit] at this) len (Nat.le_refl _)
      exact ⟨rows, hr1, ⟨by omega, by omega, Or.inr ⟨b, off, rfl, hr3⟩⟩, hr2⟩
theorem open_rows31 {H : Type} {enc : TypeId × Value → H} {W : World} {a : Option Addr} {len cap : Nat} {d : DataW H} {p : List MemPlace}
    (h : DataW.Trod enc Try.prog W 0 (fun _ => true) true 31 (.slice a len cap) d p) : Rows3 W a len cap := by
  obtain ⟨fuel, hf⟩ := h
  exact rows_of_trod31 (by simpa [Value.cells] using hf)

theorem cells34 : Try.prog.cellsOf 34 = 3 := by kernel_rfl
set_option maxRecDepth 100000 in
theorem trip_of_trod34 {H : Type} {enc : TypeId × Value → H} {w : World} {base fuel : Nat} {spare : Nat → Bool} {held : Bool} {cs : List Value} {x : DataW H × List MemPlace}
    (h : DataW.trod enc Try.prog w base spare held fuel 34 cs = some x) :
    ∃ a : Nat → Int, cs = [.int .i64 (a 0), .int .i64 (a 1), .int .i64 (a 2)] ∧ ∀ j, -9223372036854775808 ≤ a j ∧ a j ≤ 9223372036854775807 := by
  obtain ⟨xs, n, rfl, _, hl, hxl, hf⟩ := DataW.trod_struct Try.underlying34 h
  rw [cells34] at hl
  obtain ⟨v0, v1, v2, rfl⟩ : ∃ v0 v1 v2, cs = [v0, v1, v2] := by
    match cs, hl with
    | [v0, v1, v2], _ => exact ⟨v0, v1, v2, rfl⟩
  have hx : ∀ i, i < 3 → ∃ y, xs[i]? = some y := fun i hi => ⟨xs[i]'(by rw [hxl]; exact hi), List.getElem?_eq_getElem _⟩
  obtain ⟨y0, e0⟩ := hx 0 (by omega)
  obtain ⟨y1, e1⟩ := hx 1 (by omega)
  obtain ⟨y2, e2⟩ := hx 2 (by omega)
  have k0 : DataW.trod enc Try.prog w base spare held n 3 (List.take (Try.prog.cellsOf 3) (List.drop 0 [v0, v1, v2])) = xs[0]? := hf 0 _ rfl
  have k1 : DataW.trod enc Try.prog w base spare held n 3 (List.take (Try.prog.cellsOf 3) (List.drop 1 [v0, v1, v2])) = xs[1]? := hf 1 _ rfl
  have k2 : DataW.trod enc Try.prog w base spare held n 3 (List.take (Try.prog.cellsOf 3) (List.drop 2 [v0, v1, v2])) = xs[2]? := hf 2 _ rfl
  rw [e0, cells3] at k0
  rw [e1, cells3] at k1
  rw [e2, cells3] at k2
  obtain ⟨n0, q0, _, w0⟩ := DataW.trod_int Try.underlying3 k0
  obtain ⟨n1, q1, _, w1⟩ := DataW.trod_int Try.underlying3 k1
  obtain ⟨n2, q2, _, w2⟩ := DataW.trod_int Try.underlying3 k2
  simp at q0 q1 q2
  subst q0 q1 q2
  have r0 := int_fits w0
  have r1 := int_fits w1
  have r2 := int_fits w2
  exact ⟨trip n0 n1 n2, rfl, fun j => by unfold trip; split; exact r0; split; exact r1; exact r2⟩
set_option maxRecDepth 100000 in
/-- Cells that read as such a row. -/
theorem rows_of_trod32 {H : Type} {enc : TypeId × Value → H} {W : World} {spare : Nat → Bool} {held : Bool} {a : Option Addr} {len cap fuel : Nat} {x : DataW H × List MemPlace}
    (hf : DataW.trod enc Try.prog W 0 spare held fuel 32 [.slice a len cap] = some x) : Rows3 W a len cap := by
  rcases Deep.open_slice Try.underlying32 hf with ⟨hcs, hx⟩ | ⟨ad, l, c, m, n, D, Pl, hcs, _, hl, hm, hmm, _, hi⟩
  · simp at hcs
    obtain ⟨rfl, rfl, rfl⟩ := hcs
    exact ⟨[], rfl, ⟨by simp, by omega, Or.inl rfl⟩, fun x hx => by cases hx⟩
  · simp at hcs
    obtain ⟨rfl, rfl, rfl⟩ := hcs
    unfold maxLen at hm
    have hmm' : len ≤ m := by
      rw [hmm]; split <;> omega
    by_cases h0 : len = 0
    · subst h0
      exact ⟨[], rfl, ⟨by simp, by omega, Or.inl rfl⟩, fun x hx => by cases hx⟩
    · obtain ⟨b, off, spot⟩ := ad
      have hall : ∀ i, i < len → ∃ f : Nat → Int, (∀ j, -9223372036854775808 ≤ f j ∧ f j ≤ 9223372036854775807) ∧ ∀ j, j < 3 → W.cell? (((⟨b, off, spot⟩ : Addr).add (i * 3)).add j) = some (.int .i64 (f j)) := by
        intro i hil
        obtain ⟨cs', hc, ht⟩ := hi i (by omega)
        rw [cells34] at hc
        obtain ⟨f, rfl, hfr⟩ := trip_of_trod34 ht
        have g := cells_get hc
        refine ⟨f, hfr, fun j hj => ?_⟩
        rw [g j hj]
        rcases three3 hj with rfl | rfl | rfl <;> rfl
      have hspot : spot = none := by
        obtain ⟨f, -, h1⟩ := hall 0 (by omega)
        simpa [Addr.add] using World.cell?_spot (h1 0 (by omega))
      subst hspot
      obtain ⟨rows, hr1, hr2, hr3⟩ := rows3_of (W := W) (b := b) (o := off) (len := len) (cap := cap) hl (by omega) (fun i hil => by
        obtain ⟨f, hfr, h1⟩ := hall i hil
        refine ⟨f, hfr, fun j hj => ?_⟩
        have := h1 j hj
        rwa [Addr.add_lit, Addr.add_lit] at this) len (Nat.le_refl _)
      exact ⟨rows, hr1, ⟨by omega, by omega, Or.inr ⟨b, off, rfl, hr3⟩⟩, hr2⟩
theorem open_rows32 {H : Type} {enc : TypeId × Value → H} {W : World} {a : Option Addr} {len cap : Nat} {d : DataW H} {p : List MemPlace}
    (h : DataW.Trod enc Try.prog W 0 (fun _ => true) true 32 (.slice a len cap) d p) : Rows3 W a len cap := by
  obtain ⟨fuel, hf⟩ := h
  exact rows_of_trod32 (by simpa [Value.cells] using hf)

theorem cells57 : Try.prog.cellsOf 57 = 3 := by kernel_rfl
set_option maxRecDepth 100000 in
theorem trip_of_trod57 {H : Type} {enc : TypeId × Value → H} {w : World} {base fuel : Nat} {spare : Nat → Bool} {held : Bool} {cs : List Value} {x : DataW H × List MemPlace}
    (h : DataW.trod enc Try.prog w base spare held fuel 57 cs = some x) :
    ∃ a : Nat → Int, cs = [.int .i64 (a 0), .int .i64 (a 1), .int .i64 (a 2)] ∧ ∀ j, -9223372036854775808 ≤ a j ∧ a j ≤ 9223372036854775807 := by
  obtain ⟨xs, n, rfl, _, hl, hxl, hf⟩ := DataW.trod_struct Try.underlying57 h
  rw [cells57] at hl
  obtain ⟨v0, v1, v2, rfl⟩ : ∃ v0 v1 v2, cs = [v0, v1, v2] := by
    match cs, hl with
    | [v0, v1, v2], _ => exact ⟨v0, v1, v2, rfl⟩
  have hx : ∀ i, i < 3 → ∃ y, xs[i]? = some y := fun i hi => ⟨xs[i]'(by rw [hxl]; exact hi), List.getElem?_eq_getElem _⟩
  obtain ⟨y0, e0⟩ := hx 0 (by omega)
  obtain ⟨y1, e1⟩ := hx 1 (by omega)
  obtain ⟨y2, e2⟩ := hx 2 (by omega)
  have k0 : DataW.trod enc Try.prog w base spare held n 3 (List.take (Try.prog.cellsOf 3) (List.drop 0 [v0, v1, v2])) = xs[0]? := hf 0 _ rfl
  have k1 : DataW.trod enc Try.prog w base spare held n 3 (List.take (Try.prog.cellsOf 3) (List.drop 1 [v0, v1, v2])) = xs[1]? := hf 1 _ rfl
  have k2 : DataW.trod enc Try.prog w base spare held n 3 (List.take (Try.prog.cellsOf 3) (List.drop 2 [v0, v1, v2])) = xs[2]? := hf 2 _ rfl
  rw [e0, cells3] at k0
  rw [e1, cells3] at k1
  rw [e2, cells3] at k2
  obtain ⟨n0, q0, _, w0⟩ := DataW.trod_int Try.underlying3 k0
  obtain ⟨n1, q1, _, w1⟩ := DataW.trod_int Try.underlying3 k1
  obtain ⟨n2, q2, _, w2⟩ := DataW.trod_int Try.underlying3 k2
  simp at q0 q1 q2
  subst q0 q1 q2
  have r0 := int_fits w0
  have r1 := int_fits w1
  have r2 := int_fits w2
  exact ⟨trip n0 n1 n2, rfl, fun j => by unfold trip; split; exact r0; split; exact r1; exact r2⟩
set_option maxRecDepth 100000 in
/-- Cells that read as such a row. -/
theorem rows_of_trod55 {H : Type} {enc : TypeId × Value → H} {W : World} {spare : Nat → Bool} {held : Bool} {a : Option Addr} {len cap fuel : Nat} {x : DataW H × List MemPlace}
    (hf : DataW.trod enc Try.prog W 0 spare held fuel 55 [.slice a len cap] = some x) : Rows3 W a len cap := by
  rcases Deep.open_slice Try.underlying55 hf with ⟨hcs, hx⟩ | ⟨ad, l, c, m, n, D, Pl, hcs, _, hl, hm, hmm, _, hi⟩
  · simp at hcs
    obtain ⟨rfl, rfl, rfl⟩ := hcs
    exact ⟨[], rfl, ⟨by simp, by omega, Or.inl rfl⟩, fun x hx => by cases hx⟩
  · simp at hcs
    obtain ⟨rfl, rfl, rfl⟩ := hcs
    unfold maxLen at hm
    have hmm' : len ≤ m := by
      rw [hmm]; split <;> omega
    by_cases h0 : len = 0
    · subst h0
      exact ⟨[], rfl, ⟨by simp, by omega, Or.inl rfl⟩, fun x hx => by cases hx⟩
    · obtain ⟨b, off, spot⟩ := ad
      have hall : ∀ i, i < len → ∃ f : Nat → Int, (∀ j, -9223372036854775808 ≤ f j ∧ f j ≤ 9223372036854775807) ∧ ∀ j, j < 3 → W.cell? (((⟨b, off, spot⟩ : Addr).add (i * 3)).add j) = some (.int .i64 (f j)) := by
        intro i hil
        obtain ⟨cs', hc, ht⟩ := hi i (by omega)
        rw [cells57] at hc
        obtain ⟨f, rfl, hfr⟩ := trip_of_trod57 ht
        have g := cells_get hc
        refine ⟨f, hfr, fun j hj => ?_⟩
        rw [g j hj]
        rcases three3 hj with rfl | rfl | rfl <;> rfl
      have hspot : spot = none := by
        obtain ⟨f, -, h1⟩ := hall 0 (by omega)
        simpa [Addr.add] using World.cell?_spot (h1 0 (by omega))
      subst hspot
      obtain ⟨rows, hr1, hr2, hr3⟩ := rows3_of (W := W) (b := b) (o := off) (len := len) (cap := cap) hl (by omega) (fun i hil => by
        obtain ⟨f, hfr, h1⟩ := hall i hil
        refine ⟨f, hfr, fun j hj => ?_⟩
        have := h1 j hj
        rwa [Addr.add_lit, Addr.add_lit] at this) len (Nat.le_refl _)
      exact ⟨rows, hr1, ⟨by omega, by omega, Or.inr ⟨b, off, rfl, hr3⟩⟩, hr2⟩
theorem open_rows55 {H : Type} {enc : TypeId × Value → H} {W : World} {a : Option Addr} {len cap : Nat} {d : DataW H} {p : List MemPlace}
    (h : DataW.Trod enc Try.prog W 0 (fun _ => true) true 55 (.slice a len cap) d p) : Rows3 W a len cap := by
  obtain ⟨fuel, hf⟩ := h
  exact rows_of_trod55 (by simpa [Value.cells] using hf)
end Tg
end Go.Proofs.Ytkddonmddgfpnaa
