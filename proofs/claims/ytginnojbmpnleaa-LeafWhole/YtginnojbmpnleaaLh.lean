/-
  Arguments: rows of bytes, of picks, of streams.
-/
import Derived.Test.YtginnojbmpnleaaLx
namespace Go.Proofs.Ytginnojbmpnleaa
open Go.ChangeShapes Go.WideShapes Go.ChangeAt Go.RowKit
namespace Tg
/-- Cells that read as a row of bytes. -/
theorem row_of_trod {H : Type} {enc : TypeId × Value → H} {W : World} {spare : Nat → Bool} {held : Bool} {fuel : Nat} {v : Value} {x : DataW H × List MemPlace}
    (hf : DataW.trod enc Try.prog W 0 spare held fuel 28 [v] = some x) : ∃ a len cap l, v = .slice a len cap ∧ Row W a len cap l := by
  rcases open_ints Try.underlying28 Try.underlying5 (by kernel_rfl) hf with ⟨hcs, hx⟩ | ⟨y, l, c, zs, hcs, _, hl, hm, hz, hx, hcell, hwz⟩
  · simp at hcs
    exact ⟨none, 0, 0, [], hcs, ⟨rfl, by omega, by omega, by simp, Or.inl rfl⟩⟩
  · simp at hcs
    have hz' : l ≤ zs.length := by rw [hz]; split <;> omega
    unfold maxLen at hm
    refine ⟨some y, l, c, zs.take l, hcs, ⟨by simp; omega, hl, by omega, fun n hn => bounds_u8 (hwz n (List.mem_of_mem_take hn)), ?_⟩⟩
    by_cases h0 : l = 0
    · exact Or.inl h0
    · right
      obtain ⟨b, off, spot⟩ := y
      have hc := hcell 0 (by omega)
      have hspot : spot = none := by simpa [Addr.add] using World.cell?_spot hc
      subst hspot
      refine ⟨b, off, rfl, fun i hi => ?_⟩
      have := hcell i (by omega)
      rw [Addr.add_lit] at this
      rw [this]
      simp [List.getD, hi]
/-- An argument that is a row of bytes. -/
theorem open_bytesX {H : Type} {enc : TypeId × Value → H} {W : World} {a : Option Addr} {len cap : Nat} {d : DataW H} {p : List MemPlace}
    (h : DataW.Trod enc Try.prog W 0 (fun _ => true) true 28 (.slice a len cap) d p) :
    ∃ l, Row W a len cap l ∧ ((d = .nil ∧ len = 0) ∨ ∃ el sp, d = .slice el sp ∧ el.length = len ∧ el.length + sp.length = cap) := by
  obtain ⟨fuel, hf⟩ := h
  rcases open_ints Try.underlying28 Try.underlying5 (by kernel_rfl) hf with ⟨hcs, hx⟩ | ⟨x, l, c, zs, hcs, _, hl, hm, hz, hx, hcell, hwz⟩
  · simp [Value.cells] at hcs
    obtain ⟨rfl, rfl, rfl⟩ := hcs
    simp only [Prod.mk.injEq] at hx
    exact ⟨[], ⟨rfl, by omega, by omega, by simp, Or.inl rfl⟩, Or.inl ⟨hx.1, rfl⟩⟩
  · simp [Value.cells] at hcs
    obtain ⟨rfl, rfl, rfl⟩ := hcs
    simp only [Prod.mk.injEq] at hx
    simp at hz
    unfold maxLen at hm
    refine ⟨zs.take len, ⟨by simp; omega, hl, by omega, fun n hn => bounds_u8 (hwz n (List.mem_of_mem_take hn)), ?_⟩, Or.inr ⟨_, _, hx.1, by simp [lits]; omega, by simp [lits]; omega⟩⟩
    by_cases h0 : len = 0
    · exact Or.inl h0
    · right
      obtain ⟨b, off, spot⟩ := x
      have hc := hcell 0 (by omega)
      have hspot : spot = none := by simpa [Addr.add] using World.cell?_spot hc
      subst hspot
      refine ⟨b, off, rfl, fun i hi => ?_⟩
      have := hcell i (by omega)
      rw [Addr.add_lit] at this
      rw [this]
      simp [List.getD, hi]
theorem cells3 : Try.prog.cellsOf 3 = 1 := by kernel_rfl
theorem cells27 : Try.prog.cellsOf 27 = 1 := by kernel_rfl
theorem cells28 : Try.prog.cellsOf 28 = 1 := by kernel_rfl
theorem cells30 : Try.prog.cellsOf 30 = 4 := by kernel_rfl
theorem cells45 : Try.prog.cellsOf 45 = 4 := by kernel_rfl
set_option maxRecDepth 100000 in
theorem pick_of_trod {H : Type} {enc : TypeId × Value → H} {w : World} {base fuel : Nat} {spare : Nat → Bool} {held : Bool} {cs : List Value} {x : DataW H × List MemPlace}
    (h : DataW.trod enc Try.prog w base spare held fuel 45 cs = some x) : ∃ f0 f1 f2 f3 : Int, cs = [.int .i64 f0, .int .i64 f1, .int .i64 f2, .int .i64 f3] := by
  obtain ⟨xs, n, rfl, _, hl, hxl, hf⟩ := DataW.trod_struct Try.underlying45 h
  rw [cells45] at hl
  obtain ⟨v0, v1, v2, v3, rfl⟩ : ∃ v0 v1 v2 v3, cs = [v0, v1, v2, v3] := by
    match cs, hl with
    | [v0, v1, v2, v3], _ => exact ⟨v0, v1, v2, v3, rfl⟩
  have hx : ∀ i, i < 4 → ∃ y, xs[i]? = some y := fun i hi => ⟨xs[i]'(by rw [hxl]; exact hi), List.getElem?_eq_getElem _⟩
  obtain ⟨y0, e0⟩ := hx 0 (by omega)
  obtain ⟨y1, e1⟩ := hx 1 (by omega)
  obtain ⟨y2, e2⟩ := hx 2 (by omega)
  obtain ⟨y3, e3⟩ := hx 3 (by omega)
  have k0 : DataW.trod enc Try.prog w base spare held n 3 (List.take (Try.prog.cellsOf 3) (List.drop 0 [v0, v1, v2, v3])) = xs[0]? := hf 0 _ rfl
  have k1 : DataW.trod enc Try.prog w base spare held n 3 (List.take (Try.prog.cellsOf 3) (List.drop 1 [v0, v1, v2, v3])) = xs[1]? := hf 1 _ rfl
  have k2 : DataW.trod enc Try.prog w base spare held n 3 (List.take (Try.prog.cellsOf 3) (List.drop 2 [v0, v1, v2, v3])) = xs[2]? := hf 2 _ rfl
  have k3 : DataW.trod enc Try.prog w base spare held n 3 (List.take (Try.prog.cellsOf 3) (List.drop 3 [v0, v1, v2, v3])) = xs[3]? := hf 3 _ rfl
  rw [e0, cells3] at k0
  rw [e1, cells3] at k1
  rw [e2, cells3] at k2
  rw [e3, cells3] at k3
  obtain ⟨n0, q0, _, w0⟩ := DataW.trod_int Try.underlying3 k0
  obtain ⟨n1, q1, _, w1⟩ := DataW.trod_int Try.underlying3 k1
  obtain ⟨n2, q2, _, w2⟩ := DataW.trod_int Try.underlying3 k2
  obtain ⟨n3, q3, _, w3⟩ := DataW.trod_int Try.underlying3 k3
  simp at q0 q1 q2 q3
  subst q0 q1 q2 q3
  exact ⟨n0, n1, n2, n3, rfl⟩
set_option maxRecDepth 100000 in
theorem stream_of_trod {H : Type} {enc : TypeId × Value → H} {w : World} {fuel : Nat} {spare : Nat → Bool} {held : Bool} {cs : List Value} {x : DataW H × List MemPlace}
    (h : DataW.trod enc Try.prog w 0 spare held fuel 30 cs = some x) : ∃ (r : Raw) (l : List Int), cs = [.int .i64 r.k, .int .u32 r.e, .int .u32 r.g, .slice r.a r.len r.cap] ∧ (0 ≤ r.e ∧ r.e ≤ 4294967295) ∧ (0 ≤ r.g ∧ r.g ≤ 4294967295) ∧ Row w r.a r.len r.cap l := by
  obtain ⟨xs, n, rfl, _, hl, hxl, hf⟩ := DataW.trod_struct Try.underlying30 h
  rw [cells30] at hl
  obtain ⟨v0, v1, v2, v3, rfl⟩ : ∃ v0 v1 v2 v3, cs = [v0, v1, v2, v3] := by
    match cs, hl with
    | [v0, v1, v2, v3], _ => exact ⟨v0, v1, v2, v3, rfl⟩
  have hx : ∀ i, i < 4 → ∃ y, xs[i]? = some y := fun i hi => ⟨xs[i]'(by rw [hxl]; exact hi), List.getElem?_eq_getElem _⟩
  obtain ⟨y0, e0⟩ := hx 0 (by omega)
  obtain ⟨y1, e1⟩ := hx 1 (by omega)
  obtain ⟨y2, e2⟩ := hx 2 (by omega)
  obtain ⟨y3, e3⟩ := hx 3 (by omega)
  have k0 : DataW.trod enc Try.prog w 0 spare held n 3 (List.take (Try.prog.cellsOf 3) (List.drop 0 [v0, v1, v2, v3])) = xs[0]? := hf 0 _ rfl
  have k1 : DataW.trod enc Try.prog w 0 spare held n 27 (List.take (Try.prog.cellsOf 27) (List.drop 1 [v0, v1, v2, v3])) = xs[1]? := hf 1 _ rfl
  have k2 : DataW.trod enc Try.prog w 0 spare held n 27 (List.take (Try.prog.cellsOf 27) (List.drop 2 [v0, v1, v2, v3])) = xs[2]? := hf 2 _ rfl
  have k3 : DataW.trod enc Try.prog w 0 spare held n 28 (List.take (Try.prog.cellsOf 28) (List.drop 3 [v0, v1, v2, v3])) = xs[3]? := hf 3 _ rfl
  rw [e0, cells3] at k0
  rw [e1, cells27] at k1
  rw [e2, cells27] at k2
  rw [e3, cells28] at k3
  obtain ⟨n0, q0, _, w0⟩ := DataW.trod_int Try.underlying3 k0
  obtain ⟨n1, q1, _, w1⟩ := DataW.trod_int Try.underlying27 k1
  obtain ⟨n2, q2, _, w2⟩ := DataW.trod_int Try.underlying27 k2
  obtain ⟨a, len, cap, l, q3, hrow⟩ := row_of_trod (v := v3) (by simpa using k3)
  simp at q0 q1 q2
  subst q0 q1 q2 q3
  exact ⟨⟨n0, n1, n2, a, len, cap⟩, l, rfl, bounds_u32 w1, bounds_u32 w2, hrow⟩
set_option maxRecDepth 100000 in
/-- An argument that is a row of picks. -/
theorem open_picks {H : Type} {enc : TypeId × Value → H} {W : World} {a : Option Addr} {len cap : Nat} {d : DataW H} {p : List MemPlace}
    (h : DataW.Trod enc Try.prog W 0 (fun _ => true) true 41 (.slice a len cap) d p) : Rpk W a len cap := by
  obtain ⟨fuel, hf⟩ := h
  rcases Deep.open_slice Try.underlying41 hf with ⟨hcs, hx⟩ | ⟨ad, l, c, m, n, D, Pl, hcs, _, hl, hm, hmm, _, hi⟩
  · simp [Value.cells] at hcs
    obtain ⟨rfl, rfl, rfl⟩ := hcs
    exact ⟨by omega, by omega, Or.inl rfl⟩
  · simp [Value.cells] at hcs
    obtain ⟨rfl, rfl, rfl⟩ := hcs
    unfold maxLen at hm
    have hmm' : len ≤ m := by rw [hmm]; split <;> omega
    refine ⟨hl, by omega, ?_⟩
    by_cases h0 : len = 0
    · exact Or.inl h0
    · right
      obtain ⟨b, off, spot⟩ := ad
      have hall : ∀ i, i < len → ∃ f0 f1 f2 f3 : Int, ∀ j, j < 4 → W.cell? (((⟨b, off, spot⟩ : Addr).add (i * 4)).add j) = some (pkc f0 f1 f2 f3 j) := by
        intro i hil
        obtain ⟨cs', hc, ht⟩ := hi i (by omega)
        rw [cells45] at hc
        obtain ⟨f0, f1, f2, f3, rfl⟩ := pick_of_trod ht
        have g := cells_get hc
        refine ⟨f0, f1, f2, f3, fun j hj => ?_⟩
        rw [g j hj]
        rcases (by omega : j = 0 ∨ j = 1 ∨ j = 2 ∨ j = 3) with rfl | rfl | rfl | rfl <;> rfl
      have hspot : spot = none := by
        obtain ⟨f0, f1, f2, f3, h1⟩ := hall 0 (by omega)
        simpa [Addr.add] using World.cell?_spot (h1 0 (by omega))
      subst hspot
      refine ⟨b, off, rfl, fun i hil => ?_⟩
      obtain ⟨f0, f1, f2, f3, h1⟩ := hall i hil
      refine ⟨f0, f1, f2, f3, fun j hj => ?_⟩
      have := h1 j hj
      rwa [Addr.add_lit, Addr.add_lit] at this
/-- So many streams, told as lists. -/
theorem streams_of {W : World} {b o len : Nat} (h : ∀ i, i < len → ∃ (r : Raw) (l : List Int), (0 ≤ r.e ∧ r.e ≤ 4294967295) ∧ (0 ≤ r.g ∧ r.g ≤ 4294967295) ∧ Row W r.a r.len r.cap l ∧ ∀ j, j < 4 → W.cell? ⟨b, o + i * 4 + j, none⟩ = some (rwc r j)) :
    ∀ n, n ≤ len → ∃ (rs : List Raw) (L : List St), rs.length = n ∧ Says W rs L ∧ (∀ s ∈ L, (0 ≤ s.ep ∧ s.ep ≤ 4294967295) ∧ (0 ≤ s.gr ∧ s.gr ≤ 4294967295)) ∧ ∀ i r, rs[i]? = some r → ∀ j, j < 4 → W.cell? ⟨b, o + i * 4 + j, none⟩ = some (rwc r j)
  | 0, _ => ⟨[], [], rfl, Says.nil _, (fun x hx => by cases hx), (fun i x hx => by simp at hx)⟩
  | n + 1, hn => by
    obtain ⟨rs, L, hl, hsy, hb, hc⟩ := streams_of h n (by omega)
    obtain ⟨r, l, b1, b2, hrow, hv⟩ := h n (by omega)
    refine ⟨rs ++ [r], L ++ [⟨r.k, r.e, r.g, l⟩], by simp [hl], hsy.snoc rfl rfl rfl hrow, fun s hs => ?_, fun i x hx => ?_⟩
    · rcases List.mem_append.1 hs with hs | hs
      · exact hb s hs
      · simp at hs; subst hs; exact ⟨b1, b2⟩
    · by_cases c : i < rs.length
      · rw [List.getElem?_append_left c] at hx
        exact hc i x hx
      · rw [List.getElem?_append_right (by omega)] at hx
        have e : i - rs.length = 0 := by
          by_cases c2 : i - rs.length = 0
          · exact c2
          · rw [List.getElem?_eq_none (by simp; omega)] at hx; cases hx
        rw [e] at hx
        simp at hx
        subst hx
        have ei : i = n := by omega
        subst ei
        exact hv
set_option maxRecDepth 100000 in
/-- An argument that is a row of streams. -/
theorem open_streams {H : Type} {enc : TypeId × Value → H} {W : World} {a : Option Addr} {len cap : Nat} {d : DataW H} {p : List MemPlace}
    (h : DataW.Trod enc Try.prog W 0 (fun _ => true) true 37 (.slice a len cap) d p) : ∃ rs L, ArgS W a len cap rs L := by
  obtain ⟨fuel, hf⟩ := h
  rcases Deep.open_slice Try.underlying37 hf with ⟨hcs, hx⟩ | ⟨ad, l, c, m, n, D, Pl, hcs, _, hl, hm, hmm, _, hi⟩
  · simp [Value.cells] at hcs
    obtain ⟨rfl, rfl, rfl⟩ := hcs
    exact ⟨[], [], ⟨by simp, by omega, Or.inl rfl⟩, rfl, Says.nil _, fun s hs => by cases hs⟩
  · simp [Value.cells] at hcs
    obtain ⟨rfl, rfl, rfl⟩ := hcs
    unfold maxLen at hm
    have hmm' : len ≤ m := by rw [hmm]; split <;> omega
    by_cases h0 : len = 0
    · subst h0
      exact ⟨[], [], ⟨by simp, by omega, Or.inl rfl⟩, rfl, Says.nil _, fun s hs => by cases hs⟩
    · obtain ⟨b, off, spot⟩ := ad
      have hall : ∀ i, i < len → ∃ (r : Raw) (l : List Int), (0 ≤ r.e ∧ r.e ≤ 4294967295) ∧ (0 ≤ r.g ∧ r.g ≤ 4294967295) ∧ Row W r.a r.len r.cap l ∧ ∀ j, j < 4 → W.cell? (((⟨b, off, spot⟩ : Addr).add (i * 4)).add j) = some (rwc r j) := by
        intro i hil
        obtain ⟨cs', hc, ht⟩ := hi i (by omega)
        rw [cells30] at hc
        obtain ⟨r, l, rfl, b1, b2, hrow⟩ := stream_of_trod ht
        have g := cells_get hc
        refine ⟨r, l, b1, b2, hrow, fun j hj => ?_⟩
        rw [g j hj]
        rcases (by omega : j = 0 ∨ j = 1 ∨ j = 2 ∨ j = 3) with rfl | rfl | rfl | rfl <;> rfl
      have hspot : spot = none := by
        obtain ⟨r, l, -, -, -, h1⟩ := hall 0 (by omega)
        simpa [Addr.add] using World.cell?_spot (h1 0 (by omega))
      subst hspot
      obtain ⟨rs, L, h1, h2, h3, h4⟩ := streams_of (W := W) (b := b) (o := off) (len := len) (fun i hil => by
        obtain ⟨r, l, b1, b2, hrow, h1⟩ := hall i hil
        refine ⟨r, l, b1, b2, hrow, fun j hj => ?_⟩
        have := h1 j hj
        rwa [Addr.add_lit, Addr.add_lit] at this) len (Nat.le_refl _)
      exact ⟨rs, L, ⟨by omega, by omega, Or.inr ⟨b, off, rfl, h4⟩⟩, h1, h2, h3⟩
end Tg
end Go.Proofs.Ytginnojbmpnleaa
