/-
  A Config as an argument; the five laws of stage 16, given what the program's calls answer.
-/
import Derived.Test.YtoobjmhllfeffaaZg
import Derived.Test.YtoobjmhllfeffaaZh
import Derived.Test.YtoobjmhllfeffaaZi
import Derived.Test.YtoobjmhllfeffaaZj
import Derived.Test.YtoobjmhllfeffaaZk
import Derived.Deep.Slices
namespace Go.Proofs.Ytoobjmhllfeffaa
open Go.ChangeShapes Go.WideShapes Go.ChangeAt Go.RowKit
namespace Tg
theorem cells29 : Try.prog.cellsOf 29 = 7 := by kernel_rfl
theorem cells3 : Try.prog.cellsOf 3 = 1 := by kernel_rfl
theorem cells4 : Try.prog.cellsOf 4 = 1 := by kernel_rfl
theorem int_fits {n : Int} (h : (Lit.int .i64 n).wf = true) : I64 n := by
  have h1 : IntKind.i64.min = -9223372036854775808 := by rfl
  have h2 : IntKind.i64.max = 9223372036854775807 := by rfl
  simp [Lit.wf] at h
  unfold I64
  omega
set_option maxRecDepth 100000 in
theorem cfg_of_trod {H : Type} {enc : TypeId × Value → H} {w : World} {base fuel : Nat} {spare : Nat → Bool} {held : Bool} {cs : List Value} {x : DataW H × List MemPlace}
    (h : DataW.trod enc Try.prog w base spare held fuel 29 cs = some x) :
    ∃ c : Cf, cs = [.int .i64 c.b, .int .i64 c.p, .int .i64 c.c, .int .i64 c.s, .int .i64 c.m, .int .i64 c.w, .bool c.f] ∧ C64 c := by
  obtain ⟨xs, n, rfl, _, hl, hxl, hf⟩ := DataW.trod_struct Try.underlying29 h
  rw [cells29] at hl
  obtain ⟨v0, v1, v2, v3, v4, v5, v6, rfl⟩ : ∃ v0 v1 v2 v3 v4 v5 v6, cs = [v0, v1, v2, v3, v4, v5, v6] := by
    match cs, hl with
    | [v0, v1, v2, v3, v4, v5, v6], _ => exact ⟨v0, v1, v2, v3, v4, v5, v6, rfl⟩
  have hx : ∀ i, i < 7 → ∃ y, xs[i]? = some y := fun i hi => ⟨xs[i]'(by rw [hxl]; exact hi), List.getElem?_eq_getElem _⟩
  obtain ⟨y0, e0⟩ := hx 0 (by omega)
  obtain ⟨y1, e1⟩ := hx 1 (by omega)
  obtain ⟨y2, e2⟩ := hx 2 (by omega)
  obtain ⟨y3, e3⟩ := hx 3 (by omega)
  obtain ⟨y4, e4⟩ := hx 4 (by omega)
  obtain ⟨y5, e5⟩ := hx 5 (by omega)
  obtain ⟨y6, e6⟩ := hx 6 (by omega)
  have k0 : DataW.trod enc Try.prog w base spare held n 3 (List.take (Try.prog.cellsOf 3) (List.drop 0 [v0, v1, v2, v3, v4, v5, v6])) = xs[0]? := hf 0 _ rfl
  have k1 : DataW.trod enc Try.prog w base spare held n 3 (List.take (Try.prog.cellsOf 3) (List.drop 1 [v0, v1, v2, v3, v4, v5, v6])) = xs[1]? := hf 1 _ rfl
  have k2 : DataW.trod enc Try.prog w base spare held n 3 (List.take (Try.prog.cellsOf 3) (List.drop 2 [v0, v1, v2, v3, v4, v5, v6])) = xs[2]? := hf 2 _ rfl
  have k3 : DataW.trod enc Try.prog w base spare held n 3 (List.take (Try.prog.cellsOf 3) (List.drop 3 [v0, v1, v2, v3, v4, v5, v6])) = xs[3]? := hf 3 _ rfl
  have k4 : DataW.trod enc Try.prog w base spare held n 3 (List.take (Try.prog.cellsOf 3) (List.drop 4 [v0, v1, v2, v3, v4, v5, v6])) = xs[4]? := hf 4 _ rfl
  have k5 : DataW.trod enc Try.prog w base spare held n 3 (List.take (Try.prog.cellsOf 3) (List.drop 5 [v0, v1, v2, v3, v4, v5, v6])) = xs[5]? := hf 5 _ rfl
  have k6 : DataW.trod enc Try.prog w base spare held n 4 (List.take (Try.prog.cellsOf 4) (List.drop 6 [v0, v1, v2, v3, v4, v5, v6])) = xs[6]? := hf 6 _ rfl
  rw [e0, cells3] at k0
  rw [e1, cells3] at k1
  rw [e2, cells3] at k2
  rw [e3, cells3] at k3
  rw [e4, cells3] at k4
  rw [e5, cells3] at k5
  rw [e6, cells4] at k6
  obtain ⟨n0, q0, _, w0⟩ := DataW.trod_int Try.underlying3 k0
  obtain ⟨n1, q1, _, w1⟩ := DataW.trod_int Try.underlying3 k1
  obtain ⟨n2, q2, _, w2⟩ := DataW.trod_int Try.underlying3 k2
  obtain ⟨n3, q3, _, w3⟩ := DataW.trod_int Try.underlying3 k3
  obtain ⟨n4, q4, _, w4⟩ := DataW.trod_int Try.underlying3 k4
  obtain ⟨n5, q5, _, w5⟩ := DataW.trod_int Try.underlying3 k5
  obtain ⟨n6, q6, _⟩ := DataW.trod_bool Try.underlying4 k6
  simp at q0 q1 q2 q3 q4 q5 q6
  subst q0 q1 q2 q3 q4 q5 q6
  exact ⟨⟨n0, n1, n2, n3, n4, n5, n6⟩, rfl, ⟨int_fits w0, int_fits w1, int_fits w2, int_fits w3, int_fits w4, int_fits w5⟩⟩
set_option maxRecDepth 100000 in
/-- An argument that is a Config. -/
theorem open_cfg {H : Type} {enc : TypeId × Value → H} {W : World} {base b0 : Nat} {spare : Nat → Bool} {held : Bool} {r : Reach} {v : Value} {d : DataW H} {p : List MemPlace} (hv : Value.okWide Try.prog W r b0 29 v) (h : DataW.Trod enc Try.prog W base spare held 29 v d p) :
    ∃ c : Cf, v = .agg #[.int .i64 c.b, .int .i64 c.p, .int .i64 c.c, .int .i64 c.s, .int .i64 c.m, .int .i64 c.w, .bool c.f] ∧ C64 c := by
  obtain ⟨cs, rfl, hsz⟩ := okWide_struct Try.underlying29 hv
  obtain ⟨fuel, hf⟩ := h
  obtain ⟨c, hcs, hr⟩ := cfg_of_trod hf
  refine ⟨c, ?_, hr⟩
  have : cs.toList = [.int .i64 c.b, .int .i64 c.p, .int .i64 c.c, .int .i64 c.s, .int .i64 c.m, .int .i64 c.w, .bool c.f] := hcs
  rw [← Array.toArray_toList (xs := cs), this]
theorem bel {f : FuncId} {vs : Array Value} {v : Value} {w : World} (h : Calls Try.prog f vs w fun e w' => e = .returned v ∧ Keep (fun _ => False) w w') : Calls Try.prog f vs w fun e w' => e = .returned v ∧ Below w.heap.size w w' :=
  h.mono (by rintro e w' ⟨rfl, k⟩; exact ⟨rfl, k.below (Nat.le_refl _) (fun _ e => e.elim)⟩)
theorem good_of (H : GoodOk) {c : Cf} (hc : C64 c) {b : Bool} (h : goodB c = b) (w : World) : Calls Try.prog 12 #[.agg #[.int .i64 c.b, .int .i64 c.p, .int .i64 c.c, .int .i64 c.s, .int .i64 c.m, .int .i64 c.w, .bool c.f]] w fun e w' => e = .returned (.bool b) ∧ Keep (fun _ => False) w w' := by
  have := H w hc
  rwa [h] at this
theorem rgood_of {c : Cf} {b : Bool} (h : goodB c = b) (w : World) : Calls Try.prog 16 #[.agg #[.int .i64 c.b, .int .i64 c.p, .int .i64 c.c, .int .i64 c.s, .int .i64 c.m, .int .i64 c.w, .bool c.f]] w fun e w' => e = .returned (.bool b) ∧ Keep (fun _ => False) w w' := by
  have := rgood_any w c
  rwa [h] at this
theorem rspan_of {c : Cf} {b : Bool} (h : spanB c = b) (w : World) : Calls Try.prog 13 #[.agg #[.int .i64 c.b, .int .i64 c.p, .int .i64 c.c, .int .i64 c.s, .int .i64 c.m, .int .i64 c.w, .bool c.f]] w fun e w' => e = .returned (.bool b) ∧ Keep (fun _ => False) w w' := by
  have := rspan_any w c
  rwa [h] at this
theorem tells_law (H1 : OfOk) (H2 : GoodOk) (H3 : RwOk) (H4 : CpOk) (H5 : GrOk) {c : Cf} (hc : C64 c) {n f : Int} (hn : I64 n) (hf : I64 f) {w : World} :
    Calls Try.prog 4 #[.agg #[.int .i64 c.b, .int .i64 c.p, .int .i64 c.c, .int .i64 c.s, .int .i64 c.m, .int .i64 c.w, .bool c.f], .int .i64 n, .int .i64 f] w fun e w' => e = .returned (.bool true) ∧ Below w.heap.size w w' := by
  have hA := awake_any H1 H2 H3 H4 H5
  refine bel ?_
  cases hs : spanB c with
  | false =>
    have hg : goodB c = false := by unfold goodB; rw [hs]; rfl
    exact tells_a w hA (fun w => H1.no w hc hs) (rspan_of hs) (good_of H2 hc hg) (rgood_of hg) (fun w => H3.no w hc hn (by rw [hg]; rintro ⟨e, -⟩; cases e)) (fun w => H4.no w hc hn hf (by rw [hg]; rintro ⟨e, -⟩; cases e))
  | true =>
    have hS := span_iff.1 hs
    have hRo := fun w => rof_any w hS
    have hOf := fun w => H1.yes w hS
    have hIs : ∀ w : World, Calls Try.prog 14 #[.agg #[.int .i64 (rbI c), .int .i64 (spI c), .int .i64 (omI c), .int .i64 (obI c), .int .i64 (rpI c), .int .i64 (lpI c), .int .i64 (ebI c), .int .i64 (mbI c), .int .i64 (wnI c), .int .i64 (slI c), .int .i64 (mrI c)], .agg #[.int .i64 (rbI c), .int .i64 (spI c), .int .i64 (omI c), .int .i64 (obI c), .int .i64 (rpI c), .int .i64 (lpI c), .int .i64 (ebI c), .int .i64 (mbI c), .int .i64 (wnI c), .int .i64 (slI c), .int .i64 (mrI c)]] w fun e w' => e = .returned (.bool true) ∧ Keep (fun _ => False) w w' := fun w => is_same w _ _ _ _ _ _ _ _ _ _ _
    cases hg : goodB c with
    | false => exact tells_b w hA hOf (rspan_of hs) (good_of H2 hc hg) (rgood_of hg) hRo hIs (fun w => H3.no w hc hn (by rw [hg]; rintro ⟨e, -⟩; cases e)) (fun w => H4.no w hc hn hf (by rw [hg]; rintro ⟨e, -⟩; cases e))
    | true =>
      by_cases d1 : n < 1
      · exact tells_c w hA hOf (rspan_of hs) (good_of H2 hc hg) (rgood_of hg) hRo hIs (fun w => H3.no w hc hn (by rintro ⟨-, e, -⟩; omega)) (fun w => H4.no w hc hn hf (by rintro ⟨-, e, -⟩; omega)) d1
      by_cases d2 : c.c < n
      · exact tells_d w hA hOf (rspan_of hs) (good_of H2 hc hg) (rgood_of hg) hRo hIs (fun w => H3.no w hc hn (by rintro ⟨-, -, e⟩; omega)) (fun w => H4.no w hc hn hf (by rintro ⟨-, -, e, -⟩; omega)) d1 d2
      have h1 : 1 ≤ n := by omega
      have h2 : n ≤ c.c := by omega
      have hRw := fun w => H3.yes w hg h1 h2
      have hRr := fun w => rrew_any w hS h1 h2
      by_cases d3 : f < 0
      · exact tells_e w hA hOf (rspan_of hs) (good_of H2 hc hg) (rgood_of hg) hRo hIs hRw (fun w => H4.no w hc hn hf (by rintro ⟨-, -, -, e, -⟩; omega)) hRr d1 d2 d3
      by_cases d4 : 1000 < f
      · exact tells_f w hA hOf (rspan_of hs) (good_of H2 hc hg) (rgood_of hg) hRo hIs hRw (fun w => H4.no w hc hn hf (by rintro ⟨-, -, -, -, e⟩; omega)) hRr d1 d2 d3 d4
      exact tells_g w hA hOf (rspan_of hs) (good_of H2 hc hg) (rgood_of hg) hRo hIs hRw (fun w => H4.yes w hg h1 h2 (by omega) (by omega)) hRr (fun w => rcall_any w hS h1 h2 (by omega) (by omega)) d1 d2 d3 d4
theorem greatest_law (H1 : OfOk) (H2 : GoodOk) (H3 : RwOk) (H4 : CpOk) (H5 : GrOk) {c : Cf} (hc : C64 c) {w : World} :
    Calls Try.prog 5 #[.agg #[.int .i64 c.b, .int .i64 c.p, .int .i64 c.c, .int .i64 c.s, .int .i64 c.m, .int .i64 c.w, .bool c.f]] w fun e w' => e = .returned (.bool true) ∧ Below w.heap.size w w' := by
  have hA := awake_any H1 H2 H3 H4 H5
  refine bel ?_
  by_cases hz : grK c 512 = 0
  · exact greatest_no w hA (fun w => H5.no w hc hz) (fun n w => rgood_any w (c.at n)) hz
  · exact greatest_yes w hA (fun w => H5.yes w hc hz) (fun n w => rgood_any w (c.at n)) hz
theorem less_law (H1 : OfOk) (H2 : GoodOk) (H3 : RwOk) (H4 : CpOk) (H5 : GrOk) {c : Cf} (hc : C64 c) {n f : Int} {w : World} :
    Calls Try.prog 6 #[.agg #[.int .i64 c.b, .int .i64 c.p, .int .i64 c.c, .int .i64 c.s, .int .i64 c.m, .int .i64 c.w, .bool c.f], .int .i64 n, .int .i64 f] w fun e w' => e = .returned (.bool true) ∧ Below w.heap.size w w' := by
  have hA := awake_any H1 H2 H3 H4 H5
  refine bel ?_
  cases hs : spanB c with
  | false =>
    have hg : goodB c = false := by unfold goodB; rw [hs]; rfl
    exact less_a w hA (fun w => H1.no w hc hs) (good_of H2 hc hg)
  | true =>
    have hS := span_iff.1 hs
    have hOf := fun w => H1.yes w hS
    cases hg : goodB c with
    | false => exact less_b w hA hOf (good_of H2 hc hg)
    | true =>
      obtain ⟨t1, t2, t3⟩ := good_less hg
      by_cases d1 : n < 2
      · exact less_c w hA hOf (good_of H2 hc hg) hS t1 t2 t3 d1
      by_cases d2 : c.c < n
      · exact less_d w hA hOf (good_of H2 hc hg) hS t1 t2 t3 d1 d2
      by_cases d3 : f < 1
      · exact less_e w hA hOf (good_of H2 hc hg) hS t1 t2 t3 d1 d2 d3
      by_cases d4 : 1000 < f
      · exact less_f w hA hOf (good_of H2 hc hg) hS t1 t2 t3 d1 d2 d3 d4
      exact less_g w hA hOf (good_of H2 hc hg) (fun w => H4.yes w hg (by omega) (by omega) (by omega) (by omega)) (fun w => H4.yes w hg (by omega) (by omega) (by omega) (by omega)) (fun w => H4.yes w hg (by omega) (by omega) (by omega) (by omega)) hS t1 t2 t3 d1 d2 d3 d4
theorem room_law (H1 : OfOk) (H2 : GoodOk) (H3 : RwOk) (H4 : CpOk) (H5 : GrOk) {c : Cf} (hc : C64 c) {o : Int} {w : World} :
    Calls Try.prog 7 #[.agg #[.int .i64 c.b, .int .i64 c.p, .int .i64 c.c, .int .i64 c.s, .int .i64 c.m, .int .i64 c.w, .bool c.f], .int .i64 o] w fun e w' => e = .returned (.bool true) ∧ Below w.heap.size w w' := by
  have hA := awake_any H1 H2 H3 H4 H5
  refine bel ?_
  by_cases hz : grK c 512 = 0
  · exact room_none w hA (fun w => H5.no w hc hz) (good_of H2 hc (gr_bad hz))
  · have hb := grK_le c 512
    have hgk := gr_yes hz
    have hS := (good_iff.1 hgk).1
    have hgr := fun w => H5.yes w hc hz
    have hpast := fun n h1 h2 => gr_past (c := c) (n := n) h1 h2
    have hspare := gr_spare hz
    generalize grK c 512 = k at *
    have hck : C64 (c.at k) := ⟨hc.b, hc.p, ⟨by show _ ≤ k; omega, by show k ≤ _; omega⟩, hc.s, hc.m, hc.w⟩
    have hs : 0 ≤ c.s ∧ c.s ≤ 4 := ⟨hS.s1, hS.s2⟩
    have hm : 1 ≤ c.m ∧ c.m ≤ 512 := ⟨hS.m1, hS.m2⟩
    have hcs : C64 ((c.at k).sp) := ⟨hc.b, hc.p, hck.c, ⟨by show _ ≤ c.s + 1; omega, by show c.s + 1 ≤ _; omega⟩, hc.m, hc.w⟩
    have hGn : ∀ n : Int, k < n → n ≤ 512 → ∀ w : World, Calls Try.prog 12 #[.agg #[.int .i64 c.b, .int .i64 c.p, .int .i64 n, .int .i64 c.s, .int .i64 c.m, .int .i64 c.w, .bool c.f]] w fun e w' => e = .returned (.bool false) ∧ Keep (fun _ => False) w w' := fun n h1 h2 w =>
      good_of H2 (c := c.at n) ⟨hc.b, hc.p, ⟨by show _ ≤ n; omega, by show n ≤ _; omega⟩, hc.s, hc.m, hc.w⟩ (hpast n h1 h2) w
    have hk : 1 ≤ k ∧ k ≤ 512 := ⟨by omega, by omega⟩
    have hGo := good_of H2 hck hgk
    have hO1 := fun w => H1.yes w hS
    have hMo : ¬ o < 1 → ¬ 512 < c.m + o → Span ((c.at k).mo o) := fun h1 h2 => ⟨hS.b1, hS.b2, hS.p1, hS.p2, hS.s1, hS.s2, hS.c1, hS.c2, hS.w1, hS.w2, hS.w3, by show 1 ≤ c.m + o; omega, by show c.m + o ≤ 512; omega⟩
    have hM64 : ¬ o < 1 → ¬ 512 < c.m + o → C64 ((c.at k).mo o) := fun h1 h2 => ⟨hc.b, hc.p, hck.c, hc.s, ⟨by show _ ≤ c.m + o; omega, by show c.m + o ≤ _; omega⟩, hc.w⟩
    by_cases hz2 : grK ((c.at k).sp) 512 = 0
    · have hG2 := fun w => H5.no w hcs hz2
      by_cases d1 : o < 1
      · exact room_n_lt w hA hgr hGo hGn hG2 hk hs d1
      by_cases d2 : 100 < o
      · exact room_n_gt w hA hgr hGo hGn hG2 hk hs d1 d2
      by_cases d3 : 512 < c.m + o
      · exact room_n_runs w hA hgr hGo hGn hG2 hk hs hm d1 d2 d3
      have hO2 := fun w => H1.yes w (hMo d1 d3)
      by_cases d4 : spI (c.at k) = spI ((c.at k).mo o)
      · exact room_n_eq w hA hgr hGo hGn hG2 hO1 hO2 (good_of H2 (hM64 d1 d3) (good_runs hgk (by omega) (by show c.m + o ≤ 512; omega) d4.symm)) hk hs hm d1 d2 d3 d4
      · exact room_n_ne w hA hgr hGo hGn hG2 hO1 hO2 hk hs hm d1 d2 d3 d4
    · have hG2 := fun w => H5.yes w hcs hz2
      have t1 : ¬ k < grK ((c.at k).sp) 512 := by omega
      by_cases d1 : o < 1
      · exact room_y_lt w hA hgr hGo hGn hG2 hk hs t1 d1
      by_cases d2 : 100 < o
      · exact room_y_gt w hA hgr hGo hGn hG2 hk hs t1 d1 d2
      by_cases d3 : 512 < c.m + o
      · exact room_y_runs w hA hgr hGo hGn hG2 hk hs hm t1 d1 d2 d3
      have hO2 := fun w => H1.yes w (hMo d1 d3)
      by_cases d4 : spI (c.at k) = spI ((c.at k).mo o)
      · exact room_y_eq w hA hgr hGo hGn hG2 hO1 hO2 (good_of H2 (hM64 d1 d3) (good_runs hgk (by omega) (by show c.m + o ≤ 512; omega) d4.symm)) hk hs hm t1 d1 d2 d3 d4
      · exact room_y_ne w hA hgr hGo hGn hG2 hO1 hO2 hk hs hm t1 d1 d2 d3 d4
end Tg
end Go.Proofs.Ytoobjmhllfeffaa
