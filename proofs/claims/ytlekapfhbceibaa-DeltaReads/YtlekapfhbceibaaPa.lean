/-
  The program's own small functions: numbers laid behind bytes, the end of a change, bounds.
-/
import Derived.Test.YtlekapfhbceibaaDf
namespace Go.Proofs.Ytlekapfhbceibaa
open Go.ChangeShapes Go.WideShapes Go.ChangeAt Go.RowKit
namespace Tg
open Vi
/-- within. -/
def wiB (v a b : Int) : Bool := decide (a ≤ v) && decide (v ≤ b)
theorem wiB_iff {v a b : Int} : wiB v a b = true ↔ a ≤ v ∧ v ≤ b := by simp [wiB]
theorem within_any (v a b : Int) (w : World) : Calls Try.prog 39 #[.int .i64 v, .int .i64 a, .int .i64 b] w fun e w' => e = .returned (.bool (wiB v a b)) ∧ w' = w := by
  by_cases h1 : a ≤ v
  · by_cases h2 : v ≤ b
    · rw [show wiB v a b = true from wiB_iff.2 ⟨h1, h2⟩]
      go_enter Try.func39, Try.ntmps39
      go_wp2_with fail
      go_ret
      exact ⟨by simp, rfl⟩
    · rw [show wiB v a b = false from Bool.eq_false_iff.2 (fun h => h2 (wiB_iff.1 h).2)]
      go_enter Try.func39, Try.ntmps39
      go_wp2_with fail
      go_ret
      exact ⟨by simp, rfl⟩
  · rw [show wiB v a b = false from Bool.eq_false_iff.2 (fun h => h1 (wiB_iff.1 h).1)]
    go_enter Try.func39, Try.ntmps39
    go_wp2_with fail
    go_ret
    exact ⟨by rfl, rfl⟩
/-- append of bytes to nil. -/
theorem app_nil {w0 w : World} {g cap : Nat} {l : List Int} (h : Gr w0 w g cap l) (hl : 1 ≤ l.length) (hl2 : l.length ≤ 100000) :
    ∃ g' cap' w2, (Builtin.append_ #[23, 23] 23 #[.slice none 0 0, .slice (some ⟨g, 0, none⟩) l.length cap]).run Try.prog w = .ok (.slice (some ⟨g', 0, none⟩) l.length cap') w2 ∧ Gr w0 w2 g' cap' l := by
  obtain ⟨i, hi, hz0, hz1, hz2⟩ := info_parts info5
  have hcell : ∀ i, i < l.length → w.cell? ⟨g, i, none⟩ = some (.int .u8 (l.getD i 0)) := fun i hi => h.row.cellAt hi
  have hnews : ∀ j u, (l.map (Value.int .u8))[j]? = some u → w.cell? ((⟨g, 0, none⟩ : Addr).add j) = some u :=
    cells_at (a := ⟨g, 0, none⟩) fun i hi => by rw [Addr.add_lit, Nat.zero_add]; exact hcell i hi
  have hs := h.keep.size
  obtain ⟨v', w', hrun, hown, hgrow, hnil⟩ := run_append_own (P := Try.prog) w w0.heap.size 23 23 5 i (.int .u8 0) 1 1 Try.underlying23 hi hz0 hz1 hz2 rfl (by decide) (.slice none 0 0) 0 [] (World.ownsRow_nil _ _ _ _)
    ⟨g, 0, none⟩ l.length cap (l.map (Value.int .u8)) (by simp) hnews (ints_oneCell _ _) (by unfold maxLen; omega) (by omega) hs
  obtain ⟨hol, hcase⟩ := hown
  rcases hcase with ⟨_, h0⟩ | ⟨g', cap', cur, rfl, hg', hh, hn, hcm, hsz, htake⟩
  · omega
  · unfold maxLen at hcm
    rw [List.nil_append] at htake
    have hcur : ∀ j, j < l.length → cur[j]? = some (.int .u8 (l.getD j 0)) := by
      intro j hj
      have e1 : (cur.toList.take ((0 + l.length) * 1))[j]? = cur.toList[j]? := by rw [List.getElem?_take]; rw [if_pos (by omega)]
      rw [htake] at e1
      rw [← Array.getElem?_toList, ← e1]
      simp only [List.getElem?_map, List.getElem?_eq_getElem hj, Option.map_some, List.getD, Option.getD_some]
    refine ⟨g', cap', w', by rw [hrun, Nat.zero_add], ⟨⟨rfl, by omega, by omega, h.row.2.2.2.1, Or.inr ⟨_, _, rfl, fun i hi => ?_⟩⟩, fun i hi => ?_, hg', h.keep.trans (Keep.of_grown hgrow)⟩⟩
    · rw [Nat.zero_add]
      simp only [World.cell?, hh]
      simpa using hcur i hi
    · have hi' : i < cur.size := by omega
      constructor
      · simp [World.cell?, hh, hi']
      · simp [World.frozen?, hh]
/-- A row grows by what a call told; what it is worth saying. -/
theorem grow_row {w0 w w2 : World} {g c n g2 cap2 : Nat} {d A : List Int} (G : Gr w0 w g c d) (hd : d.length = n) (hg : g < w.heap.size) (G2 : Gr w w2 g2 cap2 A) (hlen : n + A.length ≤ 140737488355323) :
    ∃ g3 cap3 w3, (Builtin.append_ #[23, 23] 23 #[.slice (some ⟨g, 0, none⟩) n c, .slice (some ⟨g2, 0, none⟩) A.length cap2]).run Try.prog w2 = .ok (.slice (some ⟨g3, 0, none⟩) (n + A.length) cap3) w3 ∧
      Gr w0 w3 g3 cap3 (d ++ A) ∧ Keep (fun b => b = g) w w3 ∧ (g3 = g ∨ w.heap.size ≤ g3) := by
  subst hd
  have H := G.more G2.keep
  obtain ⟨g', cap', w3, hrun, hrow, hk, hg', hf⟩ := append_rows w2 g c d.length d H.row H.free (some ⟨g2, 0, none⟩) A.length cap2 A G2.row hlen
  have hm : (d ++ A).length = d.length + A.length := List.length_append
  have hn := H.new
  refine ⟨g', cap', w3, hrun, ⟨by rw [hm]; exact hrow, hf, ?_, H.keep.next hk (fun x hx e => by omega)⟩, (G2.keep.mono (fun _ _ e => e.elim)).trans hk, ?_⟩
  · rcases hg' with rfl | hg'
    · exact hn
    · have := H.keep.size; omega
  · rcases hg' with rfl | hg'
    · exact Or.inl rfl
    · right; have := G2.keep.size; omega
theorem row_nil (w : World) : Row w none 0 0 [] := ⟨rfl, by omega, by omega, by simp, Or.inl rfl⟩
/-- put behind bytes of one's own. -/
theorem pput_gr {w0 w : World} {g c n : Nat} {d : List Int} (G : Gr w0 w g c d) (hd : d.length = n) (hg : g < w.heap.size) {v : Int} (hv : 0 ≤ v ∧ v ≤ 9223372036854775807) (hlen : n ≤ 100000) :
    Calls Try.prog 23 #[.slice (some ⟨g, 0, none⟩) n c, .int .i64 v] w fun e w' => ∃ g' c', e = .returned (.slice (some ⟨g', 0, none⟩) (n + (vb v).length) c') ∧ Gr w0 w' g' c' (d ++ vb v) ∧ Keep (fun b => b = g) w w' ∧ (g' = g ∨ w.heap.size ≤ g') := by
  have hc := put_any (row_nil w) (v := v) (by omega) (by omega)
  have ht : (vb v).length ≤ 10 := vb_ten (by first | exact (fold_bd hv).2 | omega)
  rw [List.nil_append, Nat.zero_add] at hc
  have e1 : IntKind.u64.wrap v = v := by rw [IntKind.wrap_u64]; omega
  generalize vb v = A at hc ht ⊢
  go_enter Try.func23, Try.ntmps23
  go_wp2_with fail
  refine hc.mono ?_
  rintro e w2 ⟨g2, cap2, rfl, G2⟩
  obtain ⟨g3, cap3, w3, hrun, G3, K3, h3⟩ := grow_row G hd hg G2 (by omega)
  go_wp2_with (at_builtin; refine wpList_append_run rfl (.tmp 5) (.tmp 8) 23 rfl (by rfl) (by rfl) hrun ?_)
  go_ret
  exact ⟨g3, cap3, rfl, G3, K3, h3⟩
/-- put behind nothing. -/
theorem pput_nil {w : World} {v : Int} (hv : 0 ≤ v ∧ v ≤ 9223372036854775807) :
    Calls Try.prog 23 #[.slice none 0 0, .int .i64 v] w fun e w' => ∃ g' c', e = .returned (.slice (some ⟨g', 0, none⟩) (vb v).length c') ∧ Gr w w' g' c' (vb v) := by
  have hc := put_any (row_nil w) (v := v) (by omega) (by omega)
  have ht : (vb v).length ≤ 10 := vb_ten (by first | exact (fold_bd hv).2 | omega)
  have hp : 1 ≤ (vb v).length := vb_pos _
  rw [List.nil_append, Nat.zero_add] at hc
  have e1 : IntKind.u64.wrap v = v := by rw [IntKind.wrap_u64]; omega
  generalize vb v = A at hc ht hp ⊢
  go_enter Try.func23, Try.ntmps23
  go_wp2_with fail
  refine hc.mono ?_
  rintro e w2 ⟨g2, cap2, rfl, G2⟩
  obtain ⟨g3, cap3, w3, hrun, G3⟩ := app_nil G2 hp (by omega)
  go_wp2_with (at_builtin; refine wpList_append_run rfl (.tmp 5) (.tmp 8) 23 rfl (by rfl) (by rfl) hrun ?_)
  go_ret
  exact ⟨g3, cap3, rfl, G3⟩
/-- int behind bytes of one's own. -/
theorem pint_gr {w0 w : World} {g c n : Nat} {d : List Int} (G : Gr w0 w g c d) (hd : d.length = n) (hg : g < w.heap.size) {v : Int} (hv : -9223372036854775808 ≤ v ∧ v ≤ 9223372036854775807) (hlen : n ≤ 100000) :
    Calls Try.prog 24 #[.slice (some ⟨g, 0, none⟩) n c, .int .i64 v] w fun e w' => ∃ g' c', e = .returned (.slice (some ⟨g', 0, none⟩) (n + (vb (fold v)).length) c') ∧ Gr w0 w' g' c' (d ++ vb (fold v)) ∧ Keep (fun b => b = g) w w' ∧ (g' = g ∨ w.heap.size ≤ g') := by
  have hc := putint_any (row_nil w) hv (by omega)
  have ht : (vb (fold v)).length ≤ 10 := vb_ten (by first | exact (fold_bd hv).2 | omega)
  rw [List.nil_append, Nat.zero_add] at hc
  generalize vb (fold v) = A at hc ht ⊢
  go_enter Try.func24, Try.ntmps24
  go_wp2_with fail
  refine hc.mono ?_
  rintro e w2 ⟨g2, cap2, rfl, G2⟩
  obtain ⟨g3, cap3, w3, hrun, G3, K3, h3⟩ := grow_row G hd hg G2 (by omega)
  go_wp2_with (at_builtin; refine wpList_append_run rfl (.tmp 5) (.tmp 7) 23 rfl (by rfl) (by rfl) hrun ?_)
  go_ret
  exact ⟨g3, cap3, rfl, G3, K3, h3⟩
/-- int behind nothing. -/
theorem pint_nil {w : World} {v : Int} (hv : -9223372036854775808 ≤ v ∧ v ≤ 9223372036854775807) :
    Calls Try.prog 24 #[.slice none 0 0, .int .i64 v] w fun e w' => ∃ g' c', e = .returned (.slice (some ⟨g', 0, none⟩) (vb (fold v)).length c') ∧ Gr w w' g' c' (vb (fold v)) := by
  have hc := putint_any (row_nil w) hv (by omega)
  have ht : (vb (fold v)).length ≤ 10 := vb_ten (by first | exact (fold_bd hv).2 | omega)
  have hp : 1 ≤ (vb (fold v)).length := vb_pos _
  rw [List.nil_append, Nat.zero_add] at hc
  generalize vb (fold v) = A at hc ht hp ⊢
  go_enter Try.func24, Try.ntmps24
  go_wp2_with fail
  refine hc.mono ?_
  rintro e w2 ⟨g2, cap2, rfl, G2⟩
  obtain ⟨g3, cap3, w3, hrun, G3⟩ := app_nil G2 hp (by omega)
  go_wp2_with (at_builtin; refine wpList_append_run rfl (.tmp 5) (.tmp 7) 23 rfl (by rfl) (by rfl) hrun ?_)
  go_ret
  exact ⟨g3, cap3, rfl, G3⟩
/-- step. -/
theorem step_any {lb ph v : Int} (h1 : -1 ≤ v ∧ v ≤ 1048576) (h2 : 0 ≤ ph ∧ ph ≤ 1049088) {x : Rn} (hx : x.phys = v) (w : World) :
    Calls Try.prog 25 #[.agg #[.int .i64 lb, .int .i64 ph], .int .i64 v] w fun e w' => e = .returned (.int .i64 (dOf ph x)) ∧ Keep (fun _ => False) w w' := by
  have K0 := (Keep.refl (fun _ => False) w).alloc (.cells #[.int .i64 lb, .int .i64 ph] 51)
  have f1 := wrapI (x := v - ph) (by omega) (by omega)
  have f2 := wrapI (x := v - ph + 1) (by omega) (by omega)
  by_cases c1 : v = -1
  · have e : dOf ph x = 0 := by unfold dOf; rw [if_pos (by omega)]
    rw [e]
    clear e hx
    subst c1
    go_enter Try.func25, Try.ntmps25
    go_wp2_with fail
    go_ret
    exact ⟨rfl, K0⟩
  · by_cases c2 : v < ph
    · have e : dOf ph x = v - ph := by unfold dOf; rw [if_neg (by omega), if_pos (by omega), hx]
      rw [e]
      clear e hx
      go_enter Try.func25, Try.ntmps25
      go_wp2_with fail
      go_ret
      exact ⟨rfl, K0⟩
    · have e : dOf ph x = v - ph + 1 := by unfold dOf; rw [if_neg (by omega), if_neg (by omega), hx]
      rw [e]
      clear e hx
      go_enter Try.func25, Try.ntmps25
      go_wp2_with fail
      go_ret
      exact ⟨rfl, K0⟩
/-- behind, whatever the numbers are. -/
def nxL (x : Rn) : Int := IntKind.i64.wrap (x.lba + x.len)
def nxP (ph : Int) (x : Rn) : Int := if x.phys = -1 then ph else IntKind.i64.wrap (x.phys + x.len)
theorem results_cell {fn : Func} {p : Tmp} {ty : TypeId} (h : fn.results = #[.cell p ty]) (tmps : Array Value) (P : Program) (w : World) :
    (results fn tmps).run P w = ((asAddr (tmps.getD p undef)).run P w).andThen fun a w₁ => (loadVar ty a).run P w₁ := by
  simp only [results, h]
  simp [Sem.run_bind, Result.andThen]
/-- A variable of one's own that holds an end. -/
def End (w : World) (b : Nat) (L P : Int) : Prop := Blk w b 2 (fun k => if k = 0 then .int .i64 L else .int .i64 P)
theorem End.c0 {w : World} {b : Nat} {L P : Int} (h : End w b L P) : w.cell? ⟨b, 0, none⟩ = some (.int .i64 L) := (h 0 (by omega)).1
theorem End.c1 {w : World} {b : Nat} {L P : Int} (h : End w b L P) : w.cell? ⟨b, 1, none⟩ = some (.int .i64 P) := (h 1 (by omega)).1
theorem End.lt {w : World} {b : Nat} {L P : Int} (h : End w b L P) : b < w.heap.size := Blk.lt (f := _) h (by omega)
theorem End.new (w : World) (L P : Int) : End (w.alloc (.cells #[.int .i64 L, .int .i64 P] 51)) w.heap.size L P :=
  blk_alloc w #[.int .i64 L, .int .i64 P] 51 2 _ (by intro k hk; rcases (by omega : k = 0 ∨ k = 1) with rfl | rfl <;> rfl)
theorem size51 : (Try.prog.info? 51).map (·.size) = some 2 := by kernel_rfl
theorem under51 : ∃ d, Try.prog.underlying 51 = some d ∧ d.isRow = true := ⟨_, Try.underlying51, rfl⟩
theorem End.range {w : World} {b : Nat} {L P : Int} (h : End w b L P) : w.rangeAt b 0 [.int .i64 L, .int .i64 P] := by
  intro j v hv
  rcases j with _ | _ | j
  · injection hv with hv; rw [← hv]; exact h.c0
  · injection hv with hv; rw [← hv]; exact h.c1
  · simp at hv
theorem End.load {w : World} {b : Nat} {L P : Int} (h : End w b L P) : (loadVar 51 ⟨b, 0, none⟩).run Try.prog w = .ok (.agg #[.int .i64 L, .int .i64 P]) w := by
  obtain ⟨t, h1, h2⟩ := under51
  have := run_loadVar_mid (P := Try.prog) w b 0 51 [.int .i64 L, .int .i64 P] t h.range h1 h2 (by rw [size51]; simp)
  simpa using this
theorem End.over {w : World} {b : Nat} {L P : Int} (h : End w b L P) (L' P' : Int) : ∃ w', (Instr.storeAt 51 (.pointer (some ⟨b, 0, none⟩)) (.agg #[.int .i64 L', .int .i64 P'])).run Try.prog w = .ok () w' ∧ End w' b L' P' ∧ Keep (fun x => x = b) w w' := by
  have ht : w.there b 0 (#[.int .i64 L', .int .i64 P'] : Array Value).size := fun j hj => ⟨by rw [(h (0 + j) (by simp at hj; omega)).1]; rfl, (h (0 + j) (by simp at hj; omega)).2⟩
  refine ⟨_, run_storeAt_mid w b 0 51 #[.int .i64 L', .int .i64 P'] ht size51 (by simp [Value.oneCell']), ?_, (Keep.refl (fun x => x = b) w).setCells (b := b) (Or.inl rfl) _ _⟩
  exact (Blk.setCells h 0 2 (fun k => if k = 0 then .int .i64 L' else .int .i64 P') (by omega)).congr (fun i hi => by rw [if_pos (by omega), Nat.sub_zero])
theorem behind_any {lb ph : Int} (x : Rn) (w : World) :
    Calls Try.prog 26 #[.agg #[.int .i64 lb, .int .i64 ph], .agg #[.int .i64 x.lba, .int .i64 x.len, .int .i64 x.phys]] w fun e w' => e = .returned (.agg #[.int .i64 (nxL x), .int .i64 (nxP ph x)]) ∧ Keep (fun _ => False) w w' := by
  unfold nxL nxP
  have K0 := Keep.refl (fun _ => False) w
  generalize hS : IntKind.i64.wrap (x.lba + x.len) = S
  generalize hT : IntKind.i64.wrap (x.phys + x.len) = T
  by_cases c1 : x.phys = -1
  · rw [if_pos c1]
    go_enter Try.func26, Try.ntmps26
    go_wp2_with fail
    refine bodyPost_ret (v := .agg #[.int .i64 S, .int .i64 ph]) ?_ rfl ⟨rfl, ((K0.alloc _).alloc _).alloc _⟩
    rw [results_cell rfl]
    have hE := (End.new ((w.alloc (.cells #[.int .i64 lb, .int .i64 ph] 51)).alloc (.cells #[.int .i64 x.lba, .int .i64 x.len, .int .i64 (-1)] 28)) S ph).load
    rw [show ((w.alloc (.cells #[.int .i64 lb, .int .i64 ph] 51)).alloc (.cells #[.int .i64 x.lba, .int .i64 x.len, .int .i64 (-1)] 28)).heap.size = w.heap.size + 1 + 1 by simp] at hE
    simp [asAddr, Result.andThen, hE]
  · rw [if_neg c1]
    go_enter Try.func26, Try.ntmps26
    go_wp2_with fail
    refine bodyPost_ret (v := .agg #[.int .i64 S, .int .i64 T]) ?_ rfl ⟨rfl, ((K0.alloc _).alloc _).alloc _⟩
    rw [results_cell rfl]
    have hE := (End.new ((w.alloc (.cells #[.int .i64 lb, .int .i64 ph] 51)).alloc (.cells #[.int .i64 x.lba, .int .i64 x.len, .int .i64 x.phys] 28)) S T).load
    rw [show ((w.alloc (.cells #[.int .i64 lb, .int .i64 ph] 51)).alloc (.cells #[.int .i64 x.lba, .int .i64 x.len, .int .i64 x.phys] 28)).heap.size = w.heap.size + 1 + 1 by simp] at hE
    simp [asAddr, Result.andThen, hE]
/-- page. -/
def pgP (ph d : Int) : Int := if d = 0 then -1 else if d < 0 then IntKind.i64.wrap (ph + d) else IntKind.i64.wrap (IntKind.i64.wrap (ph + d) - 1)
theorem page_any {lb ph : Int} (d : Int) (w : World) :
    Calls Try.prog 45 #[.agg #[.int .i64 lb, .int .i64 ph], .int .i64 d] w fun e w' => e = .returned (.int .i64 (pgP ph d)) ∧ w' = w.alloc (.cells #[.int .i64 lb, .int .i64 ph] 51) := by
  unfold pgP
  by_cases c1 : d = 0
  · rw [if_pos c1]
    subst c1
    go_enter Try.func45, Try.ntmps45
    go_wp2_with fail
    go_ret
    exact ⟨rfl, rfl⟩
  · rw [if_neg c1]
    by_cases c2 : d < 0
    · rw [if_pos c2]
      generalize hS : IntKind.i64.wrap (ph + d) = S
      go_enter Try.func45, Try.ntmps45
      go_wp2_with fail
      go_ret
      exact ⟨rfl, rfl⟩
    · rw [if_neg c2]
      generalize hS : IntKind.i64.wrap (ph + d) = S
      generalize hT : IntKind.i64.wrap (S - 1) = T
      go_enter Try.func45, Try.ntmps45
      go_wp2_with fail
      go_ret
      exact ⟨rfl, rfl⟩
end Tg
end Go.Proofs.Ytlekapfhbceibaa
