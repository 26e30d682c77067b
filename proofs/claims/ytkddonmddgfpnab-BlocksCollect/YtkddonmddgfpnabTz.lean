/-
  Rows of triples as arguments and of one's own, beside the tower.
-/
import Derived.Test.YtkddonmddgfpnabSpG
import Derived.Test.YtkddonmddgfpnabFormB
import Derived.Test.YtkddonmddgfpnabFoldB
import Derived.Deep.Slices
namespace Go.Proofs.Ytkddonmddgfpnab
open Go.ChangeShapes Go.WideShapes Go.ChangeAt Go.RowKit
namespace Tg
/-- A row of triples that came in. -/
def Rows3 (W : World) (a : Option Addr) (len cap : Nat) : Prop := ∃ l : List Rn, l.length = len ∧ Rz W a cap l ∧ Fits l
theorem three3 {j : Nat} (h : j < 3) : j = 0 ∨ j = 1 ∨ j = 2 := by omega
/-- A number by three. -/
def trip (a0 a1 a2 : Int) (j : Nat) : Int := if j = 0 then a0 else if j = 1 then a1 else a2
/-- A row of triples, told as a list. -/
theorem rows3_of {W : World} {b o len cap : Nat} (h1 : len ≤ cap) (h2 : cap ≤ 9223372036854775807) (h : ∀ i, i < len → ∃ f : Nat → Int, (∀ j, -9223372036854775808 ≤ f j ∧ f j ≤ 9223372036854775807) ∧ ∀ j, j < 3 → W.cell? ⟨b, o + i * 3 + j, none⟩ = some (.int .i64 (f j))) :
    ∀ n, n ≤ len → ∃ l : List Rn, l.length = n ∧ Fits l ∧ ∀ i x, l[i]? = some x → W.cell? ⟨b, o + i * 3, none⟩ = some (.int .i64 x.lba) ∧ W.cell? ⟨b, o + i * 3 + 1, none⟩ = some (.int .i64 x.len) ∧ W.cell? ⟨b, o + i * 3 + 2, none⟩ = some (.int .i64 x.phys)
  | 0, _ => ⟨[], rfl, (fun x hx => by cases hx), (fun i x hx => by simp at hx)⟩
  | n + 1, hn => by
    obtain ⟨l, hl, hf, hc⟩ := rows3_of h1 h2 h n (by omega)
    obtain ⟨f, hb, hv⟩ := h n (by omega)
    refine ⟨l ++ [⟨f 0, f 1, f 2⟩], by simp [hl], fun x hx => ?_, fun i x hx => ?_⟩
    · rcases List.mem_append.1 hx with hx | hx
      · exact hf x hx
      · simp at hx; subst hx; exact ⟨hb 0, hb 1, hb 2⟩
    · by_cases c : i < l.length
      · rw [List.getElem?_append_left c] at hx
        exact hc i x hx
      · rw [List.getElem?_append_right (by omega)] at hx
        have e : i - l.length = 0 := by
          by_cases c2 : i - l.length = 0
          · exact c2
          · rw [List.getElem?_eq_none (by simp; omega)] at hx; cases hx
        rw [e] at hx
        simp at hx
        subst hx
        have ei : i = n := by omega
        subst ei
        exact ⟨hv 0 (by omega), hv 1 (by omega), hv 2 (by omega)⟩
theorem cells30 : Try.prog.cellsOf 51 = 3 := by kernel_rfl
set_option maxRecDepth 100000 in
theorem trip_of_trod30 {H : Type} {enc : TypeId × Value → H} {w : World} {base fuel : Nat} {spare : Nat → Bool} {held : Bool} {cs : List Value} {x : DataW H × List MemPlace}
    (h : DataW.trod enc Try.prog w base spare held fuel 51 cs = some x) :
    ∃ a : Nat → Int, cs = [.int .i64 (a 0), .int .i64 (a 1), .int .i64 (a 2)] ∧ ∀ j, -9223372036854775808 ≤ a j ∧ a j ≤ 9223372036854775807 := by
  obtain ⟨xs, n, rfl, _, hl, hxl, hf⟩ := DataW.trod_struct Try.underlying51 h
  rw [cells30] at hl
  obtain ⟨v0, v1, v2, rfl⟩ : ∃ v0 v1 v2, cs = [v0, v1, v2] := by
    match cs, hl with
    | [v0, v1, v2], _ => exact ⟨v0, v1, v2, rfl⟩
  have hx : ∀ i, i < 3 → ∃ y, xs[i]? = some y := fun i hi => ⟨xs[i]'(by rw [hxl]; exact hi), List.getElem?_eq_getElem _⟩
  obtain ⟨y0, e0⟩ := hx 0 (by omega)
  obtain ⟨y1, e1⟩ := hx 1 (by omega)
  obtain ⟨y2, e2⟩ := hx 2 (by omega)
  have k0 : DataW.trod enc Try.prog w base spare held n 3 (List.take (Try.prog.cellsOf 3) (List.drop 0 [v0, v1, v2])) = xs[0]? := hf 0 _ rfl
  have k1 : DataW.trod enc Try.prog w base spare held n 3 (List.take (Try.prog.cellsOf 3) (List.drop 1 [v0, v1, v2])) = xs[1]? := hf 1 _ rfl
  have k2 : DataW.trod enc Try.prog w base spare held n 3 (List.take (Try.prog.cellsOf 3) (List.drop 2 [v0, v1, v2])) = xs[2]? := hf 2 _ rfl
  rw [e0, cells3] at k0
  rw [e1, cells3] at k1
  rw [e2, cells3] at k2
  obtain ⟨n0, q0, _, w0⟩ := DataW.trod_int Try.underlying3 k0
  obtain ⟨n1, q1, _, w1⟩ := DataW.trod_int Try.underlying3 k1
  obtain ⟨n2, q2, _, w2⟩ := DataW.trod_int Try.underlying3 k2
  simp at q0 q1 q2
  subst q0 q1 q2
  have r0 := int_fits w0
  have r1 := int_fits w1
  have r2 := int_fits w2
  exact ⟨trip n0 n1 n2, rfl, fun j => by unfold trip; split; exact r0; split; exact r1; exact r2⟩
set_option maxRecDepth 100000 in
/-- Cells that read as such a row. -/
theorem rows_of_trod31 {H : Type} {enc : TypeId × Value → H} {W : World} {spare : Nat → Bool} {held : Bool} {a : Option Addr} {len cap fuel : Nat} {x : DataW H × List MemPlace}
    (hf : DataW.trod enc Try.prog W 0 spare held fuel 50 [.slice a len cap] = some x) : Rows3 W a len cap := by
  rcases Deep.open_slice Try.underlying50 hf with ⟨hcs, hx⟩ | ⟨ad, l, c, m, n, D, Pl, hcs, _, hl, hm, hmm, _, hi⟩
  · simp at hcs
    obtain ⟨rfl, rfl, rfl⟩ := hcs
    exact ⟨[], rfl, ⟨by simp, by omega, Or.inl rfl⟩, fun x hx => by cases hx⟩
  · simp at hcs
    obtain ⟨rfl, rfl, rfl⟩ := hcs
    unfold maxLen at hm
    have hmm' : len ≤ m := by
      rw [hmm]; split <;> omega
    by_cases h0 : len = 0
    · subst h0
      exact ⟨[], rfl, ⟨by simp, by omega, Or.inl rfl⟩, fun x hx => by cases hx⟩
    · obtain ⟨b, off, spot⟩ := ad
      have hall : ∀ i, i < len → ∃ f : Nat → Int, (∀ j, -9223372036854775808 ≤ f j ∧ f j ≤ 9223372036854775807) ∧ ∀ j, j < 3 → W.cell? (((⟨b, off, spot⟩ : Addr).add (i * 3)).add j) = some (.int .i64 (f j)) := by
        intro i hil
        obtain ⟨cs', hc, ht⟩ := hi i (by omega)
        rw [cells30] at hc
        obtain ⟨f, rfl, hfr⟩ := trip_of_trod30 ht
        have g := cells_get hc
        refine ⟨f, hfr, fun j hj => ?_⟩
        rw [g j hj]
        rcases three3 hj with rfl | rfl | rfl <;> rfl
      have hspot : spot = none := by
        obtain ⟨f, -, h1⟩ := hall 0 (by omega)
        simpa [Addr.add] using World.cell?_spot (h1 0 (by omega))
      subst hspot
      obtain ⟨rows, hr1, hr2, hr3⟩ := rows3_of (W := W) (b := b) (o := off) (len := len) (cap := cap) hl (by omega) (fun i hil => by
        obtain ⟨f, hfr, h1⟩ := hall i hil
        refine ⟨f, hfr, fun j hj => ?_⟩
        have := h1 j hj
        rwa [Addr.add_lit, Addr.add_lit] at this) len (Nat.le_refl _)
      exact ⟨rows, hr1, ⟨by omega, by omega, Or.inr ⟨b, off, rfl, hr3⟩⟩, hr2⟩
theorem open_rows31 {H : Type} {enc : TypeId × Value → H} {W : World} {a : Option Addr} {len cap : Nat} {d : DataW H} {p : List MemPlace}
    (h : DataW.Trod enc Try.prog W 0 (fun _ => true) true 50 (.slice a len cap) d p) : Rows3 W a len cap := by
  obtain ⟨fuel, hf⟩ := h
  exact rows_of_trod31 (by simpa [Value.cells] using hf)
theorem cells34 : Try.prog.cellsOf 35 = 3 := by kernel_rfl
set_option maxRecDepth 100000 in
theorem trip_of_trod34 {H : Type} {enc : TypeId × Value → H} {w : World} {base fuel : Nat} {spare : Nat → Bool} {held : Bool} {cs : List Value} {x : DataW H × List MemPlace}
    (h : DataW.trod enc Try.prog w base spare held fuel 35 cs = some x) :
    ∃ a : Nat → Int, cs = [.int .i64 (a 0), .int .i64 (a 1), .int .i64 (a 2)] ∧ ∀ j, -9223372036854775808 ≤ a j ∧ a j ≤ 9223372036854775807 := by
  obtain ⟨xs, n, rfl, _, hl, hxl, hf⟩ := DataW.trod_struct Try.underlying35 h
  rw [cells34] at hl
  obtain ⟨v0, v1, v2, rfl⟩ : ∃ v0 v1 v2, cs = [v0, v1, v2] := by
    match cs, hl with
    | [v0, v1, v2], _ => exact ⟨v0, v1, v2, rfl⟩
  have hx : ∀ i, i < 3 → ∃ y, xs[i]? = some y := fun i hi => ⟨xs[i]'(by rw [hxl]; exact hi), List.getElem?_eq_getElem _⟩
  obtain ⟨y0, e0⟩ := hx 0 (by omega)
  obtain ⟨y1, e1⟩ := hx 1 (by omega)
  obtain ⟨y2, e2⟩ := hx 2 (by omega)
  have k0 : DataW.trod enc Try.prog w base spare held n 3 (List.take (Try.prog.cellsOf 3) (List.drop 0 [v0, v1, v2])) = xs[0]? := hf 0 _ rfl
  have k1 : DataW.trod enc Try.prog w base spare held n 3 (List.take (Try.prog.cellsOf 3) (List.drop 1 [v0, v1, v2])) = xs[1]? := hf 1 _ rfl
  have k2 : DataW.trod enc Try.prog w base spare held n 3 (List.take (Try.prog.cellsOf 3) (List.drop 2 [v0, v1, v2])) = xs[2]? := hf 2 _ rfl
  rw [e0, cells3] at k0
  rw [e1, cells3] at k1
  rw [e2, cells3] at k2
  obtain ⟨n0, q0, _, w0⟩ := DataW.trod_int Try.underlying3 k0
  obtain ⟨n1, q1, _, w1⟩ := DataW.trod_int Try.underlying3 k1
  obtain ⟨n2, q2, _, w2⟩ := DataW.trod_int Try.underlying3 k2
  simp at q0 q1 q2
  subst q0 q1 q2
  have r0 := int_fits w0
  have r1 := int_fits w1
  have r2 := int_fits w2
  exact ⟨trip n0 n1 n2, rfl, fun j => by unfold trip; split; exact r0; split; exact r1; exact r2⟩
set_option maxRecDepth 100000 in
/-- Cells that read as such a row. -/
theorem rows_of_trod32 {H : Type} {enc : TypeId × Value → H} {W : World} {spare : Nat → Bool} {held : Bool} {a : Option Addr} {len cap fuel : Nat} {x : DataW H × List MemPlace}
    (hf : DataW.trod enc Try.prog W 0 spare held fuel 27 [.slice a len cap] = some x) : Rows3 W a len cap := by
  rcases Deep.open_slice Try.underlying27 hf with ⟨hcs, hx⟩ | ⟨ad, l, c, m, n, D, Pl, hcs, _, hl, hm, hmm, _, hi⟩
  · simp at hcs
    obtain ⟨rfl, rfl, rfl⟩ := hcs
    exact ⟨[], rfl, ⟨by simp, by omega, Or.inl rfl⟩, fun x hx => by cases hx⟩
  · simp at hcs
    obtain ⟨rfl, rfl, rfl⟩ := hcs
    unfold maxLen at hm
    have hmm' : len ≤ m := by
      rw [hmm]; split <;> omega
    by_cases h0 : len = 0
    · subst h0
      exact ⟨[], rfl, ⟨by simp, by omega, Or.inl rfl⟩, fun x hx => by cases hx⟩
    · obtain ⟨b, off, spot⟩ := ad
      have hall : ∀ i, i < len → ∃ f : Nat → Int, (∀ j, -9223372036854775808 ≤ f j ∧ f j ≤ 9223372036854775807) ∧ ∀ j, j < 3 → W.cell? (((⟨b, off, spot⟩ : Addr).add (i * 3)).add j) = some (.int .i64 (f j)) := by
        intro i hil
        obtain ⟨cs', hc, ht⟩ := hi i (by omega)
        rw [cells34] at hc
        obtain ⟨f, rfl, hfr⟩ := trip_of_trod34 ht
        have g := cells_get hc
        refine ⟨f, hfr, fun j hj => ?_⟩
        rw [g j hj]
        rcases three3 hj with rfl | rfl | rfl <;> rfl
      have hspot : spot = none := by
        obtain ⟨f, -, h1⟩ := hall 0 (by omega)
        simpa [Addr.add] using World.cell?_spot (h1 0 (by omega))
      subst hspot
      obtain ⟨rows, hr1, hr2, hr3⟩ := rows3_of (W := W) (b := b) (o := off) (len := len) (cap := cap) hl (by omega) (fun i hil => by
        obtain ⟨f, hfr, h1⟩ := hall i hil
        refine ⟨f, hfr, fun j hj => ?_⟩
        have := h1 j hj
        rwa [Addr.add_lit, Addr.add_lit] at this) len (Nat.le_refl _)
      exact ⟨rows, hr1, ⟨by omega, by omega, Or.inr ⟨b, off, rfl, hr3⟩⟩, hr2⟩
theorem open_rows32 {H : Type} {enc : TypeId × Value → H} {W : World} {a : Option Addr} {len cap : Nat} {d : DataW H} {p : List MemPlace}
    (h : DataW.Trod enc Try.prog W 0 (fun _ => true) true 27 (.slice a len cap) d p) : Rows3 W a len cap := by
  obtain ⟨fuel, hf⟩ := h
  exact rows_of_trod32 (by simpa [Value.cells] using hf)
theorem cells57 : Try.prog.cellsOf 42 = 3 := by kernel_rfl
set_option maxRecDepth 100000 in
theorem trip_of_trod57 {H : Type} {enc : TypeId × Value → H} {w : World} {base fuel : Nat} {spare : Nat → Bool} {held : Bool} {cs : List Value} {x : DataW H × List MemPlace}
    (h : DataW.trod enc Try.prog w base spare held fuel 42 cs = some x) :
    ∃ a : Nat → Int, cs = [.int .i64 (a 0), .int .i64 (a 1), .int .i64 (a 2)] ∧ ∀ j, -9223372036854775808 ≤ a j ∧ a j ≤ 9223372036854775807 := by
  obtain ⟨xs, n, rfl, _, hl, hxl, hf⟩ := DataW.trod_struct Try.underlying42 h
  rw [cells57] at hl
  obtain ⟨v0, v1, v2, rfl⟩ : ∃ v0 v1 v2, cs = [v0, v1, v2] := by
    match cs, hl with
    | [v0, v1, v2], _ => exact ⟨v0, v1, v2, rfl⟩
  have hx : ∀ i, i < 3 → ∃ y, xs[i]? = some y := fun i hi => ⟨xs[i]'(by rw [hxl]; exact hi), List.getElem?_eq_getElem _⟩
  obtain ⟨y0, e0⟩ := hx 0 (by omega)
  obtain ⟨y1, e1⟩ := hx 1 (by omega)
  obtain ⟨y2, e2⟩ := hx 2 (by omega)
  have k0 : DataW.trod enc Try.prog w base spare held n 3 (List.take (Try.prog.cellsOf 3) (List.drop 0 [v0, v1, v2])) = xs[0]? := hf 0 _ rfl
  have k1 : DataW.trod enc Try.prog w base spare held n 3 (List.take (Try.prog.cellsOf 3) (List.drop 1 [v0, v1, v2])) = xs[1]? := hf 1 _ rfl
  have k2 : DataW.trod enc Try.prog w base spare held n 3 (List.take (Try.prog.cellsOf 3) (List.drop 2 [v0, v1, v2])) = xs[2]? := hf 2 _ rfl
  rw [e0, cells3] at k0
  rw [e1, cells3] at k1
  rw [e2, cells3] at k2
  obtain ⟨n0, q0, _, w0⟩ := DataW.trod_int Try.underlying3 k0
  obtain ⟨n1, q1, _, w1⟩ := DataW.trod_int Try.underlying3 k1
  obtain ⟨n2, q2, _, w2⟩ := DataW.trod_int Try.underlying3 k2
  simp at q0 q1 q2
  subst q0 q1 q2
  have r0 := int_fits w0
  have r1 := int_fits w1
  have r2 := int_fits w2
  exact ⟨trip n0 n1 n2, rfl, fun j => by unfold trip; split; exact r0; split; exact r1; exact r2⟩
set_option maxRecDepth 100000 in
/-- Cells that read as such a row. -/
theorem rows_of_trod55 {H : Type} {enc : TypeId × Value → H} {W : World} {spare : Nat → Bool} {held : Bool} {a : Option Addr} {len cap fuel : Nat} {x : DataW H × List MemPlace}
    (hf : DataW.trod enc Try.prog W 0 spare held fuel 36 [.slice a len cap] = some x) : Rows3 W a len cap := by
  rcases Deep.open_slice Try.underlying36 hf with ⟨hcs, hx⟩ | ⟨ad, l, c, m, n, D, Pl, hcs, _, hl, hm, hmm, _, hi⟩
  · simp at hcs
    obtain ⟨rfl, rfl, rfl⟩ := hcs
    exact ⟨[], rfl, ⟨by simp, by omega, Or.inl rfl⟩, fun x hx => by cases hx⟩
  · simp at hcs
    obtain ⟨rfl, rfl, rfl⟩ := hcs
    unfold maxLen at hm
    have hmm' : len ≤ m := by
      rw [hmm]; split <;> omega
    by_cases h0 : len = 0
    · subst h0
      exact ⟨[], rfl, ⟨by simp, by omega, Or.inl rfl⟩, fun x hx => by cases hx⟩
    · obtain ⟨b, off, spot⟩ := ad
      have hall : ∀ i, i < len → ∃ f : Nat → Int, (∀ j, -9223372036854775808 ≤ f j ∧ f j ≤ 9223372036854775807) ∧ ∀ j, j < 3 → W.cell? (((⟨b, off, spot⟩ : Addr).add (i * 3)).add j) = some (.int .i64 (f j)) := by
        intro i hil
        obtain ⟨cs', hc, ht⟩ := hi i (by omega)
        rw [cells57] at hc
        obtain ⟨f, rfl, hfr⟩ := trip_of_trod57 ht
        have g := cells_get hc
        refine ⟨f, hfr, fun j hj => ?_⟩
        rw [g j hj]
        rcases three3 hj with rfl | rfl | rfl <;> rfl
      have hspot : spot = none := by
        obtain ⟨f, -, h1⟩ := hall 0 (by omega)
        simpa [Addr.add] using World.cell?_spot (h1 0 (by omega))
      subst hspot
      obtain ⟨rows, hr1, hr2, hr3⟩ := rows3_of (W := W) (b := b) (o := off) (len := len) (cap := cap) hl (by omega) (fun i hil => by
        obtain ⟨f, hfr, h1⟩ := hall i hil
        refine ⟨f, hfr, fun j hj => ?_⟩
        have := h1 j hj
        rwa [Addr.add_lit, Addr.add_lit] at this) len (Nat.le_refl _)
      exact ⟨rows, hr1, ⟨by omega, by omega, Or.inr ⟨b, off, rfl, hr3⟩⟩, hr2⟩
theorem open_rows55 {H : Type} {enc : TypeId × Value → H} {W : World} {a : Option Addr} {len cap : Nat} {d : DataW H} {p : List MemPlace}
    (h : DataW.Trod enc Try.prog W 0 (fun _ => true) true 36 (.slice a len cap) d p) : Rows3 W a len cap := by
  obtain ⟨fuel, hf⟩ := h
  exact rows_of_trod55 (by simpa [Value.cells] using hf)
set_option maxRecDepth 100000 in
theorem info30p : (Try.prog.info? 51).map (fun i => (i.zero, i.size, i.bytes)) = some (some (.agg #[.int .i64 0, .int .i64 0, .int .i64 0]), 3, 24) := by kernel_rfl
/-- A list of changes of one's own, in memory made since w0. -/
structure Rp (w0 w : World) (a : Option Addr) (cap : Nat) (m : List Rn) : Prop where
  own : w.ownsRow w0.heap.size 51 3 (.slice a m.length cap) m.length (rcells m)
  keep : Keep (fun _ => False) w0 w
theorem Rp.nil (w : World) : Rp w w none 0 [] := ⟨World.ownsRow_nil _ _ _ _, Keep.refl _ _⟩
theorem Rp.more {w0 w w' : World} {a : Option Addr} {cap : Nat} {m : List Rn} (h : Rp w0 w a cap m) (k : Keep (fun _ => False) w w') : Rp w0 w' a cap m := by
  refine ⟨⟨h.own.1, h.own.2.imp id ?_⟩, h.keep.trans k⟩
  rintro ⟨g, c, cur, e, hb, hh, h1, h2, h3, h4⟩
  exact ⟨g, c, cur, e, hb, by rw [k.block g (by by_cases hg : g < w.heap.size; exact hg; simp [Array.getElem?_eq_none (Nat.le_of_not_lt hg)] at hh) (fun e => e)]; exact hh, h1, h2, h3, h4⟩
theorem Rp.other {S : Nat → Prop} {w0 w w' : World} {a : Option Addr} {cap : Nat} {m : List Rn} (h : Rp w0 w a cap m) (k : Keep S w w') (hs : ∀ g, a = some ⟨g, 0, none⟩ → ¬ S g) (h0 : ∀ x, S x → w0.heap.size ≤ x) : Rp w0 w' a cap m := by
  refine ⟨⟨h.own.1, h.own.2.imp id ?_⟩, h.keep.next k (fun x hx e => by have := h0 x e; omega)⟩
  rintro ⟨g, c, cur, e, hb, hh, h1, h2, h3, h4⟩
  injection e with e1 e2 e3
  exact ⟨g, c, cur, by rw [e1, e3], hb, by rw [k.block g (by by_cases hg : g < w.heap.size; exact hg; simp [Array.getElem?_eq_none (Nat.le_of_not_lt hg)] at hh) (hs g e1)]; exact hh, h1, h2, h3, h4⟩
set_option maxRecDepth 100000 in
theorem Rp.block {w0 w : World} {a : Option Addr} {cap : Nat} {m : List Rn} (h : Rp w0 w a cap m) {g : Nat} (e : a = some ⟨g, 0, none⟩) : w0.heap.size ≤ g ∧ g < w.heap.size := by
  have := h.own.lt g (by rw [e]; rfl)
  exact this
set_option maxRecDepth 100000 in
theorem Rp.rs {w0 w : World} {a : Option Addr} {cap : Nat} {m : List Rn} (h : Rp w0 w a cap m) : Rs w a cap m := by
  obtain ⟨h1, h2⟩ := h.own
  rcases h2 with ⟨e, hn⟩ | ⟨g, c, cur, e, hb, hh, hn, hm, hs, ht⟩
  · injection e with e1 e2 e3
    exact ⟨by omega, by omega, Or.inl (List.eq_nil_of_length_eq_zero hn)⟩
  · injection e with e1 e2 e3
    subst e1 e3
    unfold maxLen at hm
    refine ⟨hn, by omega, Or.inr ⟨g, rfl, fun j u hu => ?_⟩⟩
    have := h.own.cells (g := g) rfl j u hu
    rwa [Addr.add_lit, Nat.zero_add] at this
set_option maxRecDepth 100000 in
theorem Rp.appN {w0 w : World} {a : Option Addr} {cap : Nat} {m : List Rn} (h : Rp w0 w a cap m) (x : Addr) (c : Nat) (ns : List Rn) (hl : m.length + ns.length ≤ 1000000) (hnews : ∀ j u, (rcells ns)[j]? = some u → w.cell? (x.add j) = some u) :
    ∃ a' cap' w', (Builtin.append_ #[50, 50] 50 #[.slice a m.length cap, .slice (some x) ns.length c]).run Try.prog w = .ok (.slice a' (m.length + ns.length) cap') w' ∧ Rp w0 w' a' cap' (m ++ ns) ∧ Keep (fun b => w0.heap.size ≤ b) w w' := by
  obtain ⟨i, hi, hz0, hz1, hz2⟩ := info_parts info30p
  have hs := h.keep.size
  obtain ⟨v', w', hrun, hown, hgrow, hnil⟩ := run_append_own (P := Try.prog) w w0.heap.size 50 50 51 i _ 3 24 Try.underlying50 hi hz0 hz1 hz2 rfl (by decide) (.slice a m.length cap) m.length (rcells m) h.own
    x ns.length c (rcells ns) (rcells_len ns) hnews (by intro u hu; obtain ⟨y, _, hy⟩ := List.mem_flatMap.1 hu; simp [rcs] at hy; rcases hy with rfl | rfl | rfl <;> rfl) (by unfold maxLen; omega) (by omega) hs
  have hk : Keep (fun b => w0.heap.size ≤ b) w w' := (keep_grown hgrow).mono (fun b _ e => (h.own.lt b e.symm).1)
  have hK : Keep (fun _ => False) w0 w' := h.keep.next hk (fun y hy e => by omega)
  rw [← rcells_app, ← List.length_append] at hown
  have hshape : ∃ a' cap', v' = .slice a' (m ++ ns).length cap' := by
    rcases hown.2 with ⟨e, hn⟩ | ⟨g, c', cur, e, -⟩
    · exact ⟨none, 0, by rw [hn]; exact e⟩
    · exact ⟨_, _, e⟩
  obtain ⟨a', cap', rfl⟩ := hshape
  exact ⟨a', cap', w', by rw [hrun, List.length_append], ⟨hown, hK⟩, hk⟩
theorem Rp.app1 {w0 w : World} {a : Option Addr} {cap : Nat} {m : List Rn} (h : Rp w0 w a cap m) (hl : m.length ≤ 100000) (x : Rn) :
    ∃ a' cap' w', (Builtin.append_ #[50, 50] 50 #[.slice a m.length cap, .slice (some ⟨w.heap.size, 0, none⟩) 1 1]).run Try.prog (w.alloc (.cells #[.int .i64 x.lba, .int .i64 x.len, .int .i64 x.phys] 51)) = .ok (.slice a' (m.length + 1) cap') w' ∧ Rp w0 w' a' cap' (m ++ [x]) := by
  obtain ⟨a', cap', w', h1, h2, -⟩ := (h.more ((Keep.refl (fun _ => False) w).alloc (.cells #[.int .i64 x.lba, .int .i64 x.len, .int .i64 x.phys] 51))).appN ⟨w.heap.size, 0, none⟩ 1 [x] (by simp; omega) (fun j u hu => cells_new w _ 51 j u (by simpa [rcells, rcs] using hu))
  exact ⟨a', cap', w', h1, h2⟩
theorem rp_made (w : World) : Rp w (w.alloc (.cells #[] 51)) (some ⟨w.heap.size, 0, none⟩) 0 [] :=
  ⟨World.ownsRow_lit (e := 51) (size := 3) (base := w.heap.size) w #[] 0 (Nat.le_refl _) (by unfold maxLen; omega) rfl, (Keep.refl _ _).alloc _⟩
set_option maxRecDepth 100000 in
theorem run_app_none (a : Addr) (c : Nat) (w : World) : (Builtin.append_ #[50, 50] 50 #[.slice (some a) 0 0, .slice none 0 c]).run Try.prog w = .ok (.slice (some a) 0 0) w := by kernel_rfl
theorem step_append_run {P : Program} {ops : Array Oper} {o : Oper} {a : Act} {w : World} {K : Act → World → Prop} {Q : Exit → Act → World → Prop} {E : Prop}
    (hw : Region.wanted o (yielded ops a.tmps) = true) (s x : Operand) (t : TypeId) (hop : o.op = Op.call { callee := Callee.builtin Builtin.append, args := #[s, x], argTypes := #[t, t] })
    {v1 v2 v' : Value} {w' : World} (hs : a.eval s = v1) (hx : a.eval x = v2) (hrun : (Builtin.append_ #[t, t] o.type #[v1, v2]).run P w = .ok v' w')
    (hK : K (a.put o.dst v') w') : if Region.wanted o (yielded ops a.tmps) = true then Oper.wp P o a w K Q else E := by
  rw [if_pos hw]
  unfold Oper.wp
  simp [execOp, hop, resolve, invoke, builtin, hs, hx, hrun, Result.andThen]
  exact hK
/-- Does a run begin above 2^20? -/
def farL (m : List Rn) : Bool := m.any (fun x => decide (1048576 < x.phys))
theorem farL_snoc (m : List Rn) (x : Rn) : farL (m ++ [x]) = (farL m || decide (1048576 < x.phys)) := by simp [farL]
theorem farL_no {m : List Rn} (h : farL m = false) : ∀ x ∈ m, x.phys ≤ 1048576 := fun x hx => by
  unfold farL at h
  rw [List.any_eq_false] at h
  have := h x hx
  simp at this
  exact this
theorem foldR_in {l : List Rn} {x : Rn} (hx : x ∈ foldR l) : inB x = true := by
  have hok := (foldR_form l).1 x hx
  have hfin := foldR_fin hx
  have hp := (foldR_form l).page_of hx (s := x.lba) (by omega) (by unfold Rn.fin; unfold Rn.Ok at hok; omega)
  rw [(foldR_of l).2] at hp
  have he := foldT_ent l blank_len blank_ent x.lba.toNat
  unfold Rn.Ok at hok
  unfold Rn.fin at hfin
  rw [inB_iff]
  unfold entry at hp
  split at hp
  · injection hp with hp
    omega
  · cases hp
theorem foldR_formP (l : List Rn) : formP none (foldR l) = true := form_true (foldR_form l) (fun x hx => foldR_in hx) (fun a e => by cases e)
theorem foldR_len (l : List Rn) : (foldR l).length ≤ 512 := refR_len _ 512
theorem foldR_fits (l : List Rn) : Fits (foldR l) := fun x hx => by
  have h := inB_iff.1 (foldR_in hx)
  omega
theorem foldR_self {l : List Rn} (h : farL (foldR l) = false) : foldR (foldR l) = foldR l := fold_self (foldR_form l) (fun x hx => ⟨foldR_fin hx, farL_no h x hx⟩)
theorem sameL_refl (m : List Rn) : sameL m m = true := sameL_iff.2 rfl
/-- A row that the call has just made. -/
theorem rs_new (w : World) (A : Array Value) (ty : TypeId) (l : List Rn) (hA : A.toList = rcells l) (hl : l.length ≤ 100000) : Rs (w.alloc (.cells A ty)) (some ⟨w.heap.size, 0, none⟩) l.length l := by
  refine ⟨Nat.le_refl _, by omega, Or.inr ⟨_, rfl, fun j u hu => ?_⟩⟩
  rw [← hA] at hu
  obtain ⟨hj, e⟩ := List.getElem?_eq_some_iff.1 hu
  exact (blk_alloc w A ty (j + 1) (fun i => A[i]?.getD undef) (fun i hi => by
    have : i < A.size := by simp at hj; omega
    simp [this]) j (by omega)).1.trans (by
    have : j < A.size := by simpa using hj
    simp at e
    simp [this, e])
/-- A row's cells, from its first on. -/
theorem Rz.hcells {w : World} {ad : Addr} {cap : Nat} {l : List Rn} (h : Rz w (some ad) cap l) : ∀ j u, (rcells l)[j]? = some u → w.cell? (ad.add j) = some u := fun j u hu => by
  have hj := (List.getElem?_eq_some_iff.1 hu).1
  rw [rcells_len] at hj
  obtain ⟨x, hx⟩ := get_rn (m := l) (i := j / 3) (by omega)
  obtain ⟨g', o', e, c0, c1, c2⟩ := h.at hx
  injection e with e
  subst e
  have hr := rcells_at hx (j % 3) (by omega)
  rw [show j / 3 * 3 + j % 3 = j by omega, hu] at hr
  rw [Addr.add_lit]
  have h3 : j % 3 = 0 ∨ j % 3 = 1 ∨ j % 3 = 2 := by omega
  rcases h3 with h3 | h3 | h3
  · rw [h3] at hr; rw [show o' + j = o' + j / 3 * 3 by omega, hr]; exact c0
  · rw [h3] at hr; rw [show o' + j = o' + j / 3 * 3 + 1 by omega, hr]; exact c1
  · rw [h3] at hr; rw [show o' + j = o' + j / 3 * 3 + 2 by omega, hr]; exact c2
/-- A row copied. -/
theorem copy_ops {w : World} {a : Option Addr} {c : Nat} {x : List Rn} (h : Rz w a c x) (hx : x.length ≤ 12) : ∃ a1 c1 w1, (Builtin.append_ #[50, 50] 50 #[.slice (some ⟨w.heap.size, 0, none⟩) 0 0, .slice a x.length c]).run Try.prog (w.alloc (.cells #[] 51)) = .ok (.slice a1 x.length c1) w1 ∧ Rp w w1 a1 c1 x := by
  cases a with
  | none =>
    have : x = [] := by
      rcases h.2.2 with e | ⟨g, o, e, -⟩
      · exact e
      · cases e
    subst this
    exact ⟨_, _, _, run_app_none _ _ _, rp_made w⟩
  | some ad =>
    obtain ⟨a1, c1, w1, h1, h2, -⟩ := (rp_made w).appN ad c x (by simp; omega) (h.more ((Keep.refl _ _).alloc _)).hcells
    rw [List.length_nil, Nat.zero_add] at h1
    exact ⟨a1, c1, w1, h1, h2⟩
end Tg
end Go.Proofs.Ytkddonmddgfpnab
