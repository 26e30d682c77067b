/-
  An argument that is a list of commands by numbers, of small bulk.
-/
import Derived.Test.YtgilagmgepogbaaDoorLe
import Derived.Deep.Slices
import Derived.SizedLaws
namespace Go.Proofs.YtgilagmgepogbaaDoor
open Go.ChangeShapes Go.WideShapes Go.ChangeAt Go.RowKit
namespace Tg
open Qm Km

theorem bulk_pos {H : Type} (d : DataW H) : 1 ≤ Rows.uptoBulk d := by
  cases d with
  | lit l => cases l <;> simp [Rows.uptoBulk]
  | nil => simp [Rows.uptoBulk]
  | ptr d => simp [Rows.uptoBulk]
  | slice a b => simp [Rows.uptoBulk]
  | agg a => simp [Rows.uptoBulk]
  | iface a b => simp [Rows.uptoBulk]
  | map a => simp [Rows.uptoBulk]
  | held a => simp [Rows.uptoBulk]
theorem bulk_mem {H : Type} : ∀ {l : List (DataW H)} {d : DataW H}, d ∈ l → Rows.uptoBulk d ≤ Rows.uptoBulkAll l
  | [], d, h => by cases h
  | x :: l, d, h => by
    simp only [Rows.uptoBulkAll]
    rcases List.mem_cons.1 h with rfl | h
    · omega
    · have := bulk_mem h
      omega
theorem bulk_len {H : Type} : ∀ (l : List (DataW H)), l.length ≤ Rows.uptoBulkAll l
  | [] => by simp
  | x :: l => by
    simp only [Rows.uptoBulkAll, List.length_cons]
    have := bulk_len l
    have := bulk_pos x
    omega
theorem cells45 : Tryd.prog.cellsOf 45 = 4 := by kernel_rfl
theorem cells3 : Tryd.prog.cellsOf 3 = 1 := by kernel_rfl
theorem cells9s : Tryd.prog.cellsOf 9 = 1 := by kernel_rfl
theorem int_fits {n : Int} (h : (Lit.int .i64 n).wf = true) : I64 n := by
  have h1 : IntKind.i64.min = -9223372036854775808 := by rfl
  have h2 : IntKind.i64.max = 9223372036854775807 := by rfl
  simp [Lit.wf] at h
  unfold I64
  omega
set_option maxRecDepth 100000 in
theorem say_of_trod {H : Type} {enc : TypeId × Value → H} {w : World} {base fuel : Nat} {spare : Nat → Bool} {held : Bool} {cs : List Value} {x : DataW H × List MemPlace}
    (h : DataW.trod enc Tryd.prog w base spare held fuel 45 cs = some x) :
    ∃ s : Sy, cs = [.int .i64 s.k, .int .i64 s.a, .int .i64 s.b, .string s.d] ∧ I64 s.a ∧ I64 s.b ∧ s.d.size ≤ Rows.uptoBulk x.1 := by
  obtain ⟨xs, n, rfl, hx, hl, hxl, hf⟩ := DataW.trod_struct Tryd.underlying45 h
  rw [cells45] at hl
  obtain ⟨v0, v1, v2, v3, rfl⟩ : ∃ v0 v1 v2 v3, cs = [v0, v1, v2, v3] := by
    match cs, hl with
    | [v0, v1, v2, v3], _ => exact ⟨v0, v1, v2, v3, rfl⟩
  have hxi : ∀ i, i < 4 → ∃ y, xs[i]? = some y := fun i hi => ⟨xs[i]'(by rw [hxl]; exact hi), List.getElem?_eq_getElem _⟩
  obtain ⟨y0, e0⟩ := hxi 0 (by omega)
  obtain ⟨y1, e1⟩ := hxi 1 (by omega)
  obtain ⟨y2, e2⟩ := hxi 2 (by omega)
  obtain ⟨y3, e3⟩ := hxi 3 (by omega)
  have k0 : DataW.trod enc Tryd.prog w base spare held n 3 (List.take (Tryd.prog.cellsOf 3) (List.drop 0 [v0, v1, v2, v3])) = xs[0]? := hf 0 _ rfl
  have k1 : DataW.trod enc Tryd.prog w base spare held n 3 (List.take (Tryd.prog.cellsOf 3) (List.drop 1 [v0, v1, v2, v3])) = xs[1]? := hf 1 _ rfl
  have k2 : DataW.trod enc Tryd.prog w base spare held n 3 (List.take (Tryd.prog.cellsOf 3) (List.drop 2 [v0, v1, v2, v3])) = xs[2]? := hf 2 _ rfl
  have k3 : DataW.trod enc Tryd.prog w base spare held n 9 (List.take (Tryd.prog.cellsOf 9) (List.drop 3 [v0, v1, v2, v3])) = xs[3]? := hf 3 _ rfl
  rw [e0, cells3] at k0
  rw [e1, cells3] at k1
  rw [e2, cells3] at k2
  rw [e3, cells9s] at k3
  obtain ⟨n0, q0, _, w0⟩ := DataW.trod_int Tryd.underlying3 k0
  obtain ⟨n1, q1, _, w1⟩ := DataW.trod_int Tryd.underlying3 k1
  obtain ⟨n2, q2, _, w2⟩ := DataW.trod_int Tryd.underlying3 k2
  obtain ⟨n3, q3, hy3, w3⟩ := DataW.trod_string Tryd.underlying9 k3
  simp at q0 q1 q2 q3
  subst q0 q1 q2 q3
  refine ⟨⟨n0, n1, n2, n3⟩, rfl, int_fits w1, int_fits w2, ?_⟩
  have hm : y3.1 ∈ xs.map (·.1) := List.mem_map.2 ⟨y3, List.mem_of_getElem? e3, rfl⟩
  have hb := bulk_mem hm
  have hs : Rows.uptoBulk y3.1 = n3.size + 1 := by
    rw [hy3]
    simp only [Rows.uptoBulk, Array.length_toList]
    rfl
  rw [hx]
  simp only [Rows.uptoBulk]
  show n3.size ≤ _
  omega
set_option maxRecDepth 100000 in
theorem cells_got {w : World} {base : Nat} {a : Addr} {n : Nat} {cs : List Value} (h : w.cells? base a n = some cs) : ∀ i, i < n → w.cell? (a.add i) = cs[i]? := by
  unfold World.cells? at h
  split at h
  · intro i hi
    have := mapM_some_get h i i (by simp [hi])
    exact this
  · cases h
set_option maxRecDepth 100000 in
/-- An argument that is a list of commands by numbers. -/
theorem open_says {H : Type} {enc : TypeId × Value → H} {W : World} {a : Option Addr} {len cap : Nat} {d : DataW H} {p : List MemPlace}
    (h : DataW.Trod enc Tryd.prog W 0 (fun _ => true) true 42 (.slice a len cap) d p) (hb : Rows.uptoBulk d ≤ 1048576) : ∃ L : List Sy, L.length = len ∧ Sys W a L ∧ len ≤ 1048576 := by
  obtain ⟨fuel, hf⟩ := h
  rcases Deep.open_slice Tryd.underlying42 hf with ⟨hcs, hx⟩ | ⟨ad, l, c, m, n, D, Pl, hcs, _, hl, hm, hmm, hx, hi⟩
  · simp [Value.cells] at hcs
    obtain ⟨rfl, rfl, rfl⟩ := hcs
    exact ⟨[], rfl, ⟨by simp, Or.inl rfl⟩, by omega⟩
  · simp [Value.cells] at hcs
    obtain ⟨rfl, rfl, rfl⟩ := hcs
    simp at hmm
    injection hx with hx1 hx2
    subst hx1
    simp only [Rows.uptoBulk] at hb
    have hlen := bulk_len ((List.range len).map D)
    simp only [List.length_map, List.length_range] at hlen
    have hD : ∀ i, i < len → Rows.uptoBulk (D i) ≤ 1048576 := fun i hil => by
      have := bulk_mem (List.mem_map.2 ⟨i, List.mem_range.2 hil, rfl⟩ : D i ∈ (List.range len).map D)
      omega
    obtain ⟨b, off, spot⟩ := ad
    have hall : ∀ i : Fin len, ∃ s : Sy, (I64 s.a ∧ I64 s.b ∧ s.d.size ≤ 1048576) ∧ W.cell? (((⟨b, off, spot⟩ : Addr).add (i.1 * 4)).add 0) = some (.int .i64 s.k) ∧ W.cell? (((⟨b, off, spot⟩ : Addr).add (i.1 * 4)).add 1) = some (.int .i64 s.a) ∧ W.cell? (((⟨b, off, spot⟩ : Addr).add (i.1 * 4)).add 2) = some (.int .i64 s.b) ∧ W.cell? (((⟨b, off, spot⟩ : Addr).add (i.1 * 4)).add 3) = some (.string s.d) := by
      intro i
      obtain ⟨cs', hc, ht⟩ := hi i.1 (by have := i.2; omega)
      rw [cells45] at hc
      obtain ⟨s, rfl, i1, i2, i3⟩ := say_of_trod ht
      have g := cells_got hc
      have := hD i.1 i.2
      refine ⟨s, ⟨i1, i2, by simp only at i3; omega⟩, ?_, ?_, ?_, ?_⟩
      · rw [g 0 (by omega)]; rfl
      · rw [g 1 (by omega)]; rfl
      · rw [g 2 (by omega)]; rfl
      · rw [g 3 (by omega)]; rfl
    obtain ⟨f, hF⟩ := Classical.axiomOfChoice hall
    refine ⟨List.ofFn f, by simp, ⟨fun x hx => ?_, ?_⟩, by omega⟩
    · rw [List.mem_ofFn] at hx
      obtain ⟨i, rfl⟩ := hx
      exact (hF i).1
    · by_cases h0 : len = 0
      · subst h0
        exact Or.inl (by simp)
      · right
        have hspot : spot = none := by
          have h1 := (hF ⟨0, by omega⟩).2.1
          simpa [Addr.add] using World.cell?_spot h1
        subst hspot
        refine ⟨b, off, rfl, fun i hil => ?_⟩
        have hil' : i < len := by simpa using hil
        obtain ⟨_, r0, r1, r2, r3⟩ := hF ⟨i, hil'⟩
        rw [Addr.add_lit, Addr.add_lit] at r0 r1 r2 r3
        simp only [List.getElem_ofFn]
        exact ⟨r0, r1, r2, r3⟩
end Tg
end Go.Proofs.YtgilagmgepogbaaDoor
