/-
  Rows of bytes: read out of an argument, carried from one memory to a later one, turned into a text and back; no condition but that a row's cells hold numbers from 0 to 255.
-/
import Derived.Test.YtmobcidcpfecbaaWalks
import Derived.SizedLaws
import Derived.ArgAppend
namespace Go.Proofs.Ytmobcidcpfecbaa
open Go.ChangeShapes Go.WideShapes Go.ChangeAt Go.RowKit
namespace Crc

theorem laidOut : laidOutB Try.prog = true := by kernel_rfl
theorem bytes5 : Try.prog.bytesOf 5 = 1 := by kernel_rfl

/-- An argument that is a row of bytes. -/
theorem open_bytes {H : Type} {enc : TypeId × Value → H} {W : World} {a : Option Addr} {len cap : Nat} {d : DataW H} {p : List MemPlace}
    (h : DataW.Trod enc Try.prog W 0 (fun _ => true) true 25 (.slice a len cap) d p) :
    ∃ l, Row W a len cap l ∧ ((d = .nil ∧ len = 0) ∨ ∃ el sp, d = .slice el sp ∧ el.length = len ∧ el.length + sp.length = cap) := by
  obtain ⟨fuel, hf⟩ := h
  rcases open_ints Try.underlying25 Try.underlying5 (by kernel_rfl) hf with ⟨hcs, hx⟩ | ⟨x, l, c, zs, hcs, _, hl, hm, hz, hx, hcell, hwz⟩
  · simp [Value.cells] at hcs
    obtain ⟨rfl, rfl, rfl⟩ := hcs
    simp only [Prod.mk.injEq] at hx
    exact ⟨[], ⟨rfl, by omega, by omega, by simp, Or.inl rfl⟩, Or.inl ⟨hx.1, rfl⟩⟩
  · simp [Value.cells] at hcs
    obtain ⟨rfl, rfl, rfl⟩ := hcs
    simp only [Prod.mk.injEq] at hx
    simp at hz
    unfold maxLen at hm
    refine ⟨zs.take len, ⟨by simp; omega, hl, by omega, fun n hn => bounds_u8 (hwz n (List.mem_of_mem_take hn)), ?_⟩, Or.inr ⟨_, _, hx.1, by simp [lits]; omega, by simp [lits]; omega⟩⟩
    by_cases h0 : len = 0
    · exact Or.inl h0
    · right
      obtain ⟨b, off, spot⟩ := x
      have hc := hcell 0 (by omega)
      have hspot : spot = none := by simpa [Addr.add] using World.cell?_spot hc
      subst hspot
      refine ⟨b, off, rfl, fun i hi => ?_⟩
      have := hcell i (by omega)
      rw [Addr.add_lit] at this
      rw [this]
      simp [List.getD, hi]

theorem Row.below {w w' : World} {a : Option Addr} {len cap : Nat} {l : List Int} (h : Row w a len cap l) (hb : Below w.heap.size w w') : Row w' a len cap l := by
  obtain ⟨h1, h2, h3, h4, h5⟩ := h
  refine ⟨h1, h2, h3, h4, h5.imp id ?_⟩
  rintro ⟨b, o, rfl, hc⟩
  refine ⟨b, o, rfl, fun i hi => ?_⟩
  have := hc i hi
  rw [← this]
  exact hb.cell (World.block_lt_of_cell? w _ this)

/-- Bytes become a text. -/
theorem Row.text {w : World} {a : Option Addr} {len cap : Nat} {l : List Int} (h : Row w a len cap l) : (convert 25 9 (.slice a len cap)).run Try.prog w = .ok (.string (strOfNums l)) w := by
  obtain ⟨h1, h2, h3, h4, h5⟩ := h
  rcases h5 with h0 | ⟨b, o, rfl, hc⟩
  · subst h0
    obtain rfl := List.eq_nil_of_length_eq_zero h1
    rw [run_convert_bytes_string w 25 9 5 _ _ _ Try.underlying25 Try.underlying5 Try.underlying9]
    cases a with
    | none => simp [Conv.bytesToString]; rfl
    | some x =>
      rw [run_bytesToString w x 0 cap [] (by simp [loadCells, loadCellsFrom])]
      rfl
  · exact run_convert_bytes_arg w 25 5 Try.underlying25 Try.underlying5 b o len cap l h1 hc 9 Try.underlying9

/-- A text becomes bytes, in a new row. -/
theorem text_row (w : World) (l : List Int) (hb : ∀ n ∈ l, 0 ≤ n ∧ n ≤ 255) (hl : l.length ≤ 9223372036854775807) :
    ∃ cap w1, (convert 9 25 (.string (strOfNums l))).run Try.prog w = .ok (.slice (some ⟨w.heap.size, 0, none⟩) l.length cap) w1 ∧
      Row w1 (some ⟨w.heap.size, 0, none⟩) l.length cap l ∧ Below w.heap.size w w1 ∧ w1.heap.size = w.heap.size + 1 ∧
      (∀ i, i < cap → (w1.cell? ⟨w.heap.size, i, none⟩).isSome = true ∧ w1.frozen? ⟨w.heap.size, i, none⟩ = false) := by
  have hsz : (strOfNums l).size = l.length := strOfNums_size l
  have hge := grownCap_ge w (strOfNums l).size 0 5
  have hle := grownCap_le_maxLen w (strOfNums l).size 0 5 (by rw [hsz]; exact hl)
  have hcs : (Lib.bytesCells w 5 (strOfNums l)).size = grownCap w (strOfNums l).size 0 5 := by
    simp [Lib.bytesCells]
    have := hsz
    simp only [ByteArray.size] at this
    omega
  refine ⟨grownCap w (strOfNums l).size 0 5, Lib.bytesWorld w 5 (strOfNums l), ?_, ?_, ?_, Lib.bytesWorld_size w 5 _, ?_⟩
  · rw [Lib.run_convert_string_bytes w 9 25 5 _ Try.underlying9 Try.underlying25 Try.underlying5, hsz]
  · refine ⟨rfl, by omega, hle, hb, Or.inr ⟨_, _, rfl, fun i hi => ?_⟩⟩
    rw [Nat.zero_add, Lib.bytesWorld_cell w 5 _ i (by omega), strOfNums_data]
    have hbd := hb l[i] (List.getElem_mem hi)
    simp [List.getD, hi]
    omega
  · exact ⟨rfl, rfl, rfl, by rw [Lib.bytesWorld_size]; omega, fun k hk => Lib.bytesWorld_at_old w 5 _ k hk⟩
  · intro i hi
    have hh := Lib.bytesWorld_at_new w 5 (strOfNums l)
    constructor
    · simp [World.cell?, hh, hcs, hi]
    · simp [World.frozen?, hh, hcs]
      omega

end Crc
end Go.Proofs.Ytmobcidcpfecbaa
