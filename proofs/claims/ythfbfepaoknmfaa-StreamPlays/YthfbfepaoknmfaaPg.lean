/-
  Rows of numbers held against each other; a list of commands as an argument.
-/
import Derived.Test.YthfbfepaoknmfaaPf
import Derived.Deep.Slices
namespace Go.Proofs.Ythfbfepaoknmfaa
open Go.ChangeShapes Go.WideShapes Go.ChangeAt Go.RowKit
namespace Tg
theorem Is.atS {w : World} {a : Option Addr} {cap : Nat} {m : List Int} (h : Is w a cap m) {i : Nat} {x : Int} (hx : m[i]? = some x) : ∃ g, a = some ⟨g, 0, none⟩ ∧ w.cell? ⟨g, i, none⟩ = some (.int .i64 x) := by
  rcases h.2.2 with rfl | ⟨g, rfl, hc⟩
  · simp at hx
  · refine ⟨g, rfl, hc i _ ?_⟩
    unfold ic
    rw [List.getElem?_map, hx]
    rfl
set_option maxRecDepth 100000 in
set_option maxHeartbeats 1000000 in
theorem ints_any {w : World} {a1 a2 : Option Addr} {c1 c2 : Nat} {m1 m2 : List Int} (h1 : Is w a1 c1 m1) (h2 : Is w a2 c2 m2) (hl : m1.length ≤ 100000) :
    Calls Try.prog 11 #[.slice a1 m1.length c1, .slice a2 m2.length c2] w fun e w' => e = .returned (.bool (decide (m1 = m2))) ∧ Keep (fun _ => False) w w' := by
  have K0 := Keep.refl (fun _ => False) w
  have e1 := h1.1
  have e2 := h1.2.1
  have e3 := h2.1
  have e4 := h2.2.1
  obtain ⟨n1, hn1⟩ : ∃ n, n = m1.length := ⟨_, rfl⟩
  obtain ⟨n2, hn2⟩ : ∃ n, n = m2.length := ⟨_, rfl⟩
  have hn1' : Hid (n1 = m1.length) := hn1
  have hn2' : Hid (n2 = m2.length) := hn2
  rw [← hn1] at e1 hl ⊢
  rw [← hn2] at e3 ⊢
  by_cases hne : n1 = n2
  · have g0 : ((n1 : Int) != (n2 : Int)) = false := by rw [bne_eq_false_iff_eq]; omega
    clear hn1 hn2
    go_enter Try.func11, Try.ntmps11
    go_wp2_with fail
    go_loopw [5] (fun v wx => ∃ i : Nat, i ≤ n1 ∧ v = .int .i64 (i : Int) ∧ Hid (m1.take i = m2.take i) ∧ Keep (fun _ => False) w wx) (fun v _ => n1 - (intOf v).toNat)
    case atStart => exact ⟨0, by omega, rfl, rfl, K0⟩
    case round =>
      obtain ⟨i, hi, rfl, hs, KK⟩ := hrel
      by_cases hlt : i < n1
      · obtain ⟨x, hx⟩ := get_int (l := m1) (i := i) (by rw [← show n1 = _ from hn1']; exact hlt)
        obtain ⟨y, hy⟩ := get_int (l := m2) (i := i) (by rw [← show n2 = _ from hn2']; omega)
        obtain ⟨g1, rfl, cx⟩ := (h1.more KK).atS hx
        obtain ⟨g2, rfl, cy⟩ := (h2.more KK).atS hy
        have di : (i : Int) < (n1 : Int) := by omega
        have dj : (i : Int) < (n2 : Int) := by omega
        have hin2 : i < n2 := by omega
        have dw := wrapI (x := (i : Int) + 1) (by omega) (by omega)
        have hlt' : Hid (i < n1) := hlt
        by_cases he : x = y
        · have gx : (x != y) = false := by rw [bne_eq_false_iff_eq]; exact he
          have hs2 : Hid (m1.take (i + 1) = m2.take (i + 1)) := by show _ = _; rw [List.take_add_one, List.take_add_one, hx, hy, show m1.take i = _ from hs, he]
          have hne' : Hid (n1 = n2) := hne
          clear hs hx hy he hlt hne
          go_wp2_with fail
          go_quiet (fail)
          go_wp2_with fail
          go_roundw
          case rel => exact ⟨i + 1, hlt', by go_num, hs2, KK.drewN _⟩
          case measure => have : i < n1 := hlt'; simp [intOf]; omega
        · have gx : (x != y) = true := by rw [bne_iff_ne]; exact he
          have hno : Hid (decide (m1 = m2) = false) := decide_eq_false (fun e => he (by rw [e, hy] at hx; injection hx with hx; exact hx.symm))
          clear hs hx hy he hlt hne
          go_wp2_with fail
          go_quiet (fail)
          go_wp2_with fail
          go_ret
          exact ⟨by rw [show decide (m1 = m2) = false from hno]; rfl, KK.drewN _⟩
      · have hyes : Hid (decide (m1 = m2) = true) := decide_eq_true (by
          have := show m1.take i = m2.take i from hs
          rwa [List.take_of_length_le (by rw [← show n1 = _ from hn1']; omega), List.take_of_length_le (by rw [← show n2 = _ from hn2']; omega)] at this)
        have di : ¬ (i : Int) < (n1 : Int) := by omega
        clear hlt hs hne
        go_wp2_with fail
        go_ret
        exact ⟨by rw [show decide (m1 = m2) = true from hyes]; rfl, KK⟩
  · have g0 : ((n1 : Int) != (n2 : Int)) = true := by rw [bne_iff_ne]; omega
    rw [decide_eq_false (fun e => hne (by rw [hn1, hn2, e]))]
    clear hn1 hn2 hne
    go_enter Try.func11, Try.ntmps11
    go_wp2_with fail
    go_ret
    exact ⟨rfl, K0⟩
theorem Keep.belowB {S : Nat → Prop} {w w' : World} (h : Keep S w w') {B : Nat} (hB : B ≤ w.heap.size) (hS : ∀ k, S k → B ≤ k) : Below B w w' :=
  ⟨h.os, h.tape, h.output, h.size, fun k hk => h.block k (by omega) (fun e => by have := hS k e; omega)⟩
theorem cells37 : Try.prog.cellsOf 37 = 2 := by kernel_rfl
theorem cells3 : Try.prog.cellsOf 3 = 1 := by kernel_rfl
def act2 (a0 a1 : Int) (j : Nat) : Int := if j = 0 then a0 else a1
theorem int_fits {n : Int} (h : (Lit.int .i64 n).wf = true) : -9223372036854775808 ≤ n ∧ n ≤ 9223372036854775807 := by
  have h1 : IntKind.i64.min = -9223372036854775808 := by rfl
  have h2 : IntKind.i64.max = 9223372036854775807 := by rfl
  simp [Lit.wf] at h
  omega
set_option maxRecDepth 100000 in
theorem act_of_trod {H : Type} {enc : TypeId × Value → H} {w : World} {base fuel : Nat} {spare : Nat → Bool} {held : Bool} {cs : List Value} {x : DataW H × List MemPlace}
    (h : DataW.trod enc Try.prog w base spare held fuel 37 cs = some x) :
    ∃ a : Nat → Int, cs = [.int .i64 (a 0), .int .i64 (a 1)] ∧ ∀ j, -9223372036854775808 ≤ a j ∧ a j ≤ 9223372036854775807 := by
  obtain ⟨xs, n, rfl, _, hl, hxl, hf⟩ := DataW.trod_struct Try.underlying37 h
  rw [cells37] at hl
  obtain ⟨v0, v1, rfl⟩ : ∃ v0 v1, cs = [v0, v1] := by
    match cs, hl with
    | [v0, v1], _ => exact ⟨v0, v1, rfl⟩
  have hx : ∀ i, i < 2 → ∃ y, xs[i]? = some y := fun i hi => ⟨xs[i]'(by rw [hxl]; exact hi), List.getElem?_eq_getElem _⟩
  obtain ⟨y0, e0⟩ := hx 0 (by omega)
  obtain ⟨y1, e1⟩ := hx 1 (by omega)
  have k0 : DataW.trod enc Try.prog w base spare held n 3 (List.take (Try.prog.cellsOf 3) (List.drop 0 [v0, v1])) = xs[0]? := hf 0 _ rfl
  have k1 : DataW.trod enc Try.prog w base spare held n 3 (List.take (Try.prog.cellsOf 3) (List.drop 1 [v0, v1])) = xs[1]? := hf 1 _ rfl
  rw [e0, cells3] at k0
  rw [e1, cells3] at k1
  obtain ⟨n0, q0, _, w0⟩ := DataW.trod_int Try.underlying3 k0
  obtain ⟨n1, q1, _, w1⟩ := DataW.trod_int Try.underlying3 k1
  simp at q0 q1
  subst q0 q1
  have r0 := int_fits w0
  have r1 := int_fits w1
  exact ⟨act2 n0 n1, rfl, fun j => by unfold act2; split; exact r0; exact r1⟩
theorem cells_get {w : World} {base : Nat} {a : Addr} {n : Nat} {cs : List Value} (h : w.cells? base a n = some cs) : ∀ i, i < n → w.cell? (a.add i) = cs[i]? := by
  unfold World.cells? at h
  split at h
  · intro i hi
    have := mapM_some_get h i i (by simp [hi])
    exact this
  · cases h

/-- A list of calls in memory. -/
def Acts (W : World) (a : Option Addr) (len cap : Nat) : Prop :=
  len ≤ cap ∧ cap ≤ 9223372036854775807 ∧ (len = 0 ∨ ∃ b o, a = some ⟨b, o, none⟩ ∧ ∀ i, i < len → ∃ f : Nat → Int, (∀ j, -9223372036854775808 ≤ f j ∧ f j ≤ 9223372036854775807) ∧ ∀ j, j < 2 → W.cell? ⟨b, o + i * 2 + j, none⟩ = some (.int .i64 (f j)))
set_option maxRecDepth 100000 in
/-- An argument that is a list of calls. -/
theorem open_acts {H : Type} {enc : TypeId × Value → H} {W : World} {a : Option Addr} {len cap : Nat} {d : DataW H} {p : List MemPlace}
    (h : DataW.Trod enc Try.prog W 0 (fun _ => true) true 33 (.slice a len cap) d p) : Acts W a len cap := by
  obtain ⟨fuel, hf⟩ := h
  rcases Deep.open_slice Try.underlying33 hf with ⟨hcs, hx⟩ | ⟨ad, l, c, m, n, D, Pl, hcs, _, hl, hm, hmm, _, hi⟩
  · simp [Value.cells] at hcs
    obtain ⟨rfl, rfl, rfl⟩ := hcs
    exact ⟨by omega, by omega, Or.inl rfl⟩
  · simp [Value.cells] at hcs
    obtain ⟨rfl, rfl, rfl⟩ := hcs
    unfold maxLen at hm
    simp at hmm
    refine ⟨hl, by omega, ?_⟩
    by_cases h0 : len = 0
    · exact Or.inl h0
    · right
      obtain ⟨b, off, spot⟩ := ad
      have hall : ∀ i, i < len → ∃ f : Nat → Int, (∀ j, -9223372036854775808 ≤ f j ∧ f j ≤ 9223372036854775807) ∧ ∀ j, j < 2 → W.cell? (((⟨b, off, spot⟩ : Addr).add (i * 2)).add j) = some (.int .i64 (f j)) := by
        intro i hil
        obtain ⟨cs', hc, ht⟩ := hi i (by omega)
        rw [cells37] at hc
        obtain ⟨f, rfl, hfr⟩ := act_of_trod ht
        have g := cells_get hc
        refine ⟨f, hfr, fun j hj => ?_⟩
        rw [g j hj]
        rcases (by omega : j = 0 ∨ j = 1) with rfl | rfl <;> rfl
      have hspot : spot = none := by
        obtain ⟨f, -, h1⟩ := hall 0 (by omega)
        simpa [Addr.add] using World.cell?_spot (h1 0 (by omega))
      subst hspot
      refine ⟨b, off, rfl, fun i hil => ?_⟩
      obtain ⟨f, hfr, h1⟩ := hall i hil
      refine ⟨f, hfr, fun j hj => ?_⟩
      have := h1 j hj
      rwa [Addr.add_lit, Addr.add_lit] at this

theorem Acts.keep {S : Nat → Prop} {w w' : World} {a : Option Addr} {len cap : Nat} (h : Acts w a len cap) (k : Keep S w w') (hs : ∀ b o, a = some ⟨b, o, none⟩ → ¬ S b) : Acts w' a len cap := by
  obtain ⟨h1, h2, h3⟩ := h
  refine ⟨h1, h2, h3.imp id ?_⟩
  rintro ⟨b, o, rfl, hc⟩
  refine ⟨b, o, rfl, fun i hi => ?_⟩
  obtain ⟨f, hfr, hf⟩ := hc i hi
  refine ⟨f, hfr, fun j hj => ?_⟩
  have := hf j hj
  rw [← this]
  exact World.cell?_of_block (w := w) (a := ⟨b, o + i * 2 + j, none⟩) (k.block b (World.block_lt_of_cell? w _ this) (hs b o rfl))

end Tg
end Go.Proofs.Ythfbfepaoknmfaa
