/-
  Calls as arguments; the three laws of stage 17, given what the program's calls answer.
-/
import Derived.Test.YtikepmdlpalpfaaMq
import Derived.Test.YtikepmdlpalpfaaMc
import Derived.Test.YtikepmdlpalpfaaMd
import Derived.Test.YtikepmdlpalpfaaMe
import Derived.Test.YtikepmdlpalpfaaMf
import Derived.Test.YtikepmdlpalpfaaMg
namespace Go.Proofs.Ytikepmdlpalpfaa
open Go.ChangeShapes Go.WideShapes Go.ChangeAt Go.RowKit
namespace Tg
theorem cells35 : Try.prog.cellsOf 35 = 4 := by kernel_rfl
theorem cells3 : Try.prog.cellsOf 3 = 1 := by kernel_rfl
theorem cells9 : Try.prog.cellsOf 9 = 1 := by kernel_rfl
theorem int_fits {n : Int} (h : (Lit.int .i64 n).wf = true) : I64 n := by
  have h1 : IntKind.i64.min = -9223372036854775808 := by rfl
  have h2 : IntKind.i64.max = 9223372036854775807 := by rfl
  simp [Lit.wf] at h
  unfold I64
  omega
set_option maxRecDepth 100000 in
theorem act_of_trod {H : Type} {enc : TypeId × Value → H} {w : World} {base fuel : Nat} {spare : Nat → Bool} {held : Bool} {cs : List Value} {x : DataW H × List MemPlace}
    (h : DataW.trod enc Try.prog w base spare held fuel 35 cs = some x) :
    ∃ (o l n : Int) (d : ByteArray), cs = [.int .i64 o, .int .i64 l, .int .i64 n, .string d] ∧ I64 l ∧ I64 n ∧ d.size ≤ 9223372036854775807 := by
  obtain ⟨xs, n, rfl, _, hl, hxl, hf⟩ := DataW.trod_struct Try.underlying35 h
  rw [cells35] at hl
  obtain ⟨v0, v1, v2, v3, rfl⟩ : ∃ v0 v1 v2 v3, cs = [v0, v1, v2, v3] := by
    match cs, hl with
    | [v0, v1, v2, v3], _ => exact ⟨v0, v1, v2, v3, rfl⟩
  have hx : ∀ i, i < 4 → ∃ y, xs[i]? = some y := fun i hi => ⟨xs[i]'(by rw [hxl]; exact hi), List.getElem?_eq_getElem _⟩
  obtain ⟨y0, e0⟩ := hx 0 (by omega)
  obtain ⟨y1, e1⟩ := hx 1 (by omega)
  obtain ⟨y2, e2⟩ := hx 2 (by omega)
  obtain ⟨y3, e3⟩ := hx 3 (by omega)
  have k0 : DataW.trod enc Try.prog w base spare held n 3 (List.take (Try.prog.cellsOf 3) (List.drop 0 [v0, v1, v2, v3])) = xs[0]? := hf 0 _ rfl
  have k1 : DataW.trod enc Try.prog w base spare held n 3 (List.take (Try.prog.cellsOf 3) (List.drop 1 [v0, v1, v2, v3])) = xs[1]? := hf 1 _ rfl
  have k2 : DataW.trod enc Try.prog w base spare held n 3 (List.take (Try.prog.cellsOf 3) (List.drop 2 [v0, v1, v2, v3])) = xs[2]? := hf 2 _ rfl
  have k3 : DataW.trod enc Try.prog w base spare held n 9 (List.take (Try.prog.cellsOf 9) (List.drop 3 [v0, v1, v2, v3])) = xs[3]? := hf 3 _ rfl
  rw [e0, cells3] at k0
  rw [e1, cells3] at k1
  rw [e2, cells3] at k2
  rw [e3, cells9] at k3
  obtain ⟨n0, q0, _, w0⟩ := DataW.trod_int Try.underlying3 k0
  obtain ⟨n1, q1, _, w1⟩ := DataW.trod_int Try.underlying3 k1
  obtain ⟨n2, q2, _, w2⟩ := DataW.trod_int Try.underlying3 k2
  obtain ⟨n3, q3, _, w3⟩ := DataW.trod_string Try.underlying9 k3
  simp at q0 q1 q2 q3
  subst q0 q1 q2 q3
  exact ⟨n0, n1, n2, n3, rfl, int_fits w1, int_fits w2, by unfold maxLen at w3; omega⟩
set_option maxRecDepth 100000 in
/-- An argument that is a call. -/
theorem open_act {H : Type} {enc : TypeId × Value → H} {W : World} {base b0 : Nat} {spare : Nat → Bool} {held : Bool} {r : Reach} {v : Value} {d : DataW H} {p : List MemPlace} (hv : Value.okWide Try.prog W r b0 35 v) (h : DataW.Trod enc Try.prog W base spare held 35 v d p) :
    ∃ (o l n : Int) (d : ByteArray), v = .agg #[.int .i64 o, .int .i64 l, .int .i64 n, .string d] ∧ I64 l ∧ I64 n ∧ d.size ≤ 9223372036854775807 := by
  obtain ⟨cs, rfl, hsz⟩ := okWide_struct Try.underlying35 hv
  obtain ⟨fuel, hf⟩ := h
  obtain ⟨o, l, n, d, hcs, hr⟩ := act_of_trod hf
  refine ⟨o, l, n, d, ?_, hr⟩
  have : cs.toList = [.int .i64 o, .int .i64 l, .int .i64 n, .string d] := hcs
  rw [← Array.toArray_toList (xs := cs), this]
theorem cells_get {w : World} {base : Nat} {a : Addr} {n : Nat} {cs : List Value} (h : w.cells? base a n = some cs) : ∀ i, i < n → w.cell? (a.add i) = cs[i]? := by
  unfold World.cells? at h
  split at h
  · intro i hi
    have := mapM_some_get h i i (by simp [hi])
    exact this
  · cases h
set_option maxRecDepth 100000 in
/-- An argument that is a list of calls. -/
theorem open_acs {H : Type} {enc : TypeId × Value → H} {W : World} {a : Option Addr} {len cap : Nat} {d : DataW H} {p : List MemPlace}
    (h : DataW.Trod enc Try.prog W 0 (fun _ => true) true 31 (.slice a len cap) d p) : Acs W a len cap := by
  obtain ⟨fuel, hf⟩ := h
  rcases Deep.open_slice Try.underlying31 hf with ⟨hcs, hx⟩ | ⟨ad, l, c, m, n, D, Pl, hcs, _, hl, hm, hmm, _, hi⟩
  · simp [Value.cells] at hcs
    obtain ⟨rfl, rfl, rfl⟩ := hcs
    exact ⟨by omega, by omega, Or.inl rfl⟩
  · simp [Value.cells] at hcs
    obtain ⟨rfl, rfl, rfl⟩ := hcs
    unfold maxLen at hm
    simp at hmm
    refine ⟨hl, by omega, ?_⟩
    by_cases h0 : len = 0
    · exact Or.inl h0
    · right
      obtain ⟨b, off, spot⟩ := ad
      have hall : ∀ i, i < len → ∃ (o xl xn : Int) (xd : ByteArray), I64 xl ∧ I64 xn ∧ xd.size ≤ 9223372036854775807 ∧ W.cell? (((⟨b, off, spot⟩ : Addr).add (i * 4)).add 0) = some (.int .i64 o) ∧ W.cell? (((⟨b, off, spot⟩ : Addr).add (i * 4)).add 1) = some (.int .i64 xl) ∧ W.cell? (((⟨b, off, spot⟩ : Addr).add (i * 4)).add 2) = some (.int .i64 xn) ∧ W.cell? (((⟨b, off, spot⟩ : Addr).add (i * 4)).add 3) = some (.string xd) := by
        intro i hil
        obtain ⟨cs', hc, ht⟩ := hi i (by omega)
        rw [cells35] at hc
        obtain ⟨o, xl, xn, xd, rfl, i1, i2, i3⟩ := act_of_trod ht
        have g := cells_get hc
        refine ⟨o, xl, xn, xd, i1, i2, i3, ?_, ?_, ?_, ?_⟩
        · rw [g 0 (by omega)]; rfl
        · rw [g 1 (by omega)]; rfl
        · rw [g 2 (by omega)]; rfl
        · rw [g 3 (by omega)]; rfl
      have hspot : spot = none := by
        obtain ⟨o, xl, xn, xd, -, -, -, h1, -⟩ := hall 0 (by omega)
        simpa [Addr.add] using World.cell?_spot h1
      subst hspot
      refine ⟨b, off, rfl, fun i hil => ?_⟩
      obtain ⟨o, xl, xn, xd, i1, i2, i3, h0, h1, h2, h3⟩ := hall i hil
      rw [Addr.add_lit, Addr.add_lit] at h0 h1 h2 h3
      exact ⟨o, xl, xn, xd, i1, i2, i3, h0, h1, h2, h3⟩
theorem bel {f : FuncId} {vs : Array Value} {v : Value} {w : World} (h : Calls Try.prog f vs w fun e w' => e = .returned v ∧ Keep (fun _ => False) w w') : Calls Try.prog f vs w fun e w' => e = .returned v ∧ Below w.heap.size w w' :=
  h.mono (by rintro e w' ⟨rfl, k⟩; exact ⟨rfl, k.below (Nat.le_refl _) (fun _ e => e.elim)⟩)
theorem plays_law {M : (Nat → Prop) → World → Nat → List Int → Prop} (H : ArrOk M) {w : World} {a : Option Addr} {len cap : Nat} {cp at_ : Int} (i0 : I64 cp) (hac : Acs w a len cap) :
    Calls Try.prog 4 #[.int .i64 cp, .slice a len cap, .int .i64 at_] w fun e w' => e = .returned (.bool true) ∧ Below w.heap.size w w' := by
  refine bel ?_
  by_cases hc : 1 ≤ cp ∧ cp ≤ 512
  · obtain ⟨N, rfl⟩ : ∃ n : Nat, cp = n := ⟨cp.toNat, by omega⟩
    by_cases hl : 40 < len
    · exact plays_len H w (by omega) (by omega) hl
    · by_cases h3 : 64 < N
      · exact plays_cap H w (by omega) (by omega) hl h3
      · exact plays_main H w (by omega) (by omega) (by omega) hac
  · exact plays_none H w i0 hc
theorem apart_law {M : (Nat → Prop) → World → Nat → List Int → Prop} (H : ArrOk M) {w : World} {cp ao al an bo bl bn : Int} {ad bd : ByteArray} (i0 : I64 cp) (i1 : I64 al) (i2 : I64 an) (i3 : I64 bl) (i4 : I64 bn) (sa : ad.size ≤ 9223372036854775807) (sb : bd.size ≤ 9223372036854775807) :
    Calls Try.prog 5 #[.int .i64 cp, .agg #[.int .i64 ao, .int .i64 al, .int .i64 an, .string ad], .agg #[.int .i64 bo, .int .i64 bl, .int .i64 bn, .string bd]] w fun e w' => e = .returned (.bool true) ∧ Below w.heap.size w w' := by
  refine bel ?_
  by_cases hc : 1 ≤ cp ∧ cp ≤ 512
  · obtain ⟨N, rfl⟩ : ∃ n : Nat, cp = n := ⟨cp.toNat, by omega⟩
    have h1 : 1 ≤ N := by omega
    have h2 : N ≤ 512 := by omega
    by_cases d1 : an < 1
    · exact apart_out_a H w h1 h2 d1
    by_cases d2 : bn < 1
    · exact apart_out_b H w h1 h2 d1 d2
    by_cases d3 : (N : Int) < an
    · exact apart_out_c H w h1 h2 d1 d2 d3
    by_cases d4 : (N : Int) < bn
    · exact apart_out_d H w h1 h2 d1 d2 d3 d4
    by_cases d5 : al < IntKind.i64.wrap (bl + bn)
    · by_cases d6 : bl < IntKind.i64.wrap (al + an)
      · exact apart_out_e H w h1 h2 d1 d2 d3 d4 d5 d6
      cases ra : okR N al an with
      | true =>
        have pa := okR_iff.1 ra
        obtain ⟨al, rfl⟩ : ∃ n : Nat, al = n := ⟨al.toNat, by omega⟩
        obtain ⟨an, rfl⟩ : ∃ n : Nat, an = n := ⟨an.toNat, by omega⟩
        cases rb : okR N bl bn with
        | true =>
          have pb := okR_iff.1 rb
          obtain ⟨bl, rfl⟩ : ∃ n : Nat, bl = n := ⟨bl.toNat, by omega⟩
          obtain ⟨bn, rfl⟩ : ∃ n : Nat, bn = n := ⟨bn.toNat, by omega⟩
          exact apart_r_yy H w h1 h2 d1 d2 d3 d4 d5 d6 sa sb ra rb (by rw [wrapI (by omega) (by omega)] at d5 d6; omega)
        | false => exact apart_r_yn H w h1 h2 d1 d2 d3 d4 d5 d6 sa sb ra rb ⟨i3, i4⟩
      | false =>
        cases rb : okR N bl bn with
        | true =>
          have pb := okR_iff.1 rb
          obtain ⟨bl, rfl⟩ : ∃ n : Nat, bl = n := ⟨bl.toNat, by omega⟩
          obtain ⟨bn, rfl⟩ : ∃ n : Nat, bn = n := ⟨bn.toNat, by omega⟩
          exact apart_r_ny H w h1 h2 d1 d2 d3 d4 d5 d6 sa sb ra rb ⟨i1, i2⟩
        | false => exact apart_r_nn H w h1 h2 d1 d2 d3 d4 d5 d6 sa sb ra rb ⟨i1, i2⟩ ⟨i3, i4⟩
    · cases ra : okR N al an with
      | true =>
        have pa := okR_iff.1 ra
        obtain ⟨al, rfl⟩ : ∃ n : Nat, al = n := ⟨al.toNat, by omega⟩
        obtain ⟨an, rfl⟩ : ∃ n : Nat, an = n := ⟨an.toNat, by omega⟩
        cases rb : okR N bl bn with
        | true =>
          have pb := okR_iff.1 rb
          obtain ⟨bl, rfl⟩ : ∃ n : Nat, bl = n := ⟨bl.toNat, by omega⟩
          obtain ⟨bn, rfl⟩ : ∃ n : Nat, bn = n := ⟨bn.toNat, by omega⟩
          exact apart_l_yy H w h1 h2 d1 d2 d3 d4 d5 sa sb ra rb (by rw [wrapI (by omega) (by omega)] at d5; omega)
        | false => exact apart_l_yn H w h1 h2 d1 d2 d3 d4 d5 sa sb ra rb ⟨i3, i4⟩
      | false =>
        cases rb : okR N bl bn with
        | true =>
          have pb := okR_iff.1 rb
          obtain ⟨bl, rfl⟩ : ∃ n : Nat, bl = n := ⟨bl.toNat, by omega⟩
          obtain ⟨bn, rfl⟩ : ∃ n : Nat, bn = n := ⟨bn.toNat, by omega⟩
          exact apart_l_ny H w h1 h2 d1 d2 d3 d4 d5 sa sb ra rb ⟨i1, i2⟩
        | false => exact apart_l_nn H w h1 h2 d1 d2 d3 d4 d5 sa sb ra rb ⟨i1, i2⟩ ⟨i3, i4⟩
  · exact apart_none H w i0 hc
end Tg
end Go.Proofs.Ytikepmdlpalpfaa
