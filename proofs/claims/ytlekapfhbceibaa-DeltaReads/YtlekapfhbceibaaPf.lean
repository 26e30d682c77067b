/-
  The program's own readings of changes: what it needs to be told, as mathematics; the reader beside the row.
-/
import Derived.Test.YtlekapfhbceibaaPe
namespace Go.Proofs.Ytlekapfhbceibaa
open Go.ChangeShapes Go.WideShapes Go.ChangeAt Go.RowKit
namespace Tg
open Vi
theorem wrap_rng (x : Int) : -9223372036854775808 ≤ IntKind.i64.wrap x ∧ IntKind.i64.wrap x ≤ 9223372036854775807 := by rw [IntKind.wrap_i64]; omega
set_option maxRecDepth 100000 in
/-- One change more, and where the row then lies. -/
theorem rp_appS {w0 w : World} {a : Option Addr} {cap : Nat} {m : List Rn} (h : Rp w0 w a cap m) (hl : m.length ≤ 100000) (x : Rn) :
    ∃ a' cap' w', (Builtin.append_ #[29, 29] 29 #[.slice a m.length cap, .slice (some ⟨w.heap.size, 0, none⟩) 1 1]).run Try.prog (w.alloc (.cells #[.int .i64 x.lba, .int .i64 x.len, .int .i64 x.phys] 28)) = .ok (.slice a' (m.length + 1) cap') w' ∧ Rp w0 w' a' cap' (m ++ [x]) ∧
      Keep (fun b => a = some ⟨b, 0, none⟩) w w' ∧ (a' = a ∨ ∃ g, a' = some ⟨g, 0, none⟩ ∧ w.heap.size ≤ g) := by
  have hA := (Keep.refl (fun _ => False) w).alloc (.cells #[.int .i64 x.lba, .int .i64 x.len, .int .i64 x.phys] 28)
  have h1 := h.more hA
  have hsz : w.heap.size ≤ (w.alloc (.cells #[.int .i64 x.lba, .int .i64 x.len, .int .i64 x.phys] 28)).heap.size := hA.size
  have hnews : ∀ j u, (rcells [x])[j]? = some u → (w.alloc (.cells #[.int .i64 x.lba, .int .i64 x.len, .int .i64 x.phys] 28)).cell? ((⟨w.heap.size, 0, none⟩ : Addr).add j) = some u := fun j u hu => cells_new w _ 28 j u (by simpa [rcells, rcs] using hu)
  have hone : ∀ u ∈ rcells [x], u.oneCell' = true := by intro u hu; simp [rcells, rcs] at hu; rcases hu with rfl | rfl | rfl <;> rfl
  obtain ⟨i, hi, hz0, hz1, hz2⟩ := info_parts info30p
  generalize w.alloc (.cells #[.int .i64 x.lba, .int .i64 x.len, .int .i64 x.phys] 28) = w1 at *
  obtain ⟨v', w', hrun, hown, hgrow, hnil⟩ := run_append_own (P := Try.prog) w1 w0.heap.size 29 29 28 i _ 3 24 Try.underlying29 hi hz0 hz1 hz2 rfl (by decide) (.slice a m.length cap) m.length (rcells m) h1.own
    ⟨w.heap.size, 0, none⟩ 1 1 (rcells [x]) (rcells_len [x]) hnews hone (by unfold maxLen; omega) (by omega) h1.keep.size
  have hk : Keep (fun b => a = some ⟨b, 0, none⟩) w1 w' := (keep_grown hgrow).mono (fun b _ e => by
    rcases h1.own.2 with ⟨e', -⟩ | ⟨g, c, cur, e', -⟩
    · injection e' with e'; subst e'; cases e
    · injection e' with e'; subst e'; injection e with e; subst e; rfl)
  have hK : Keep (fun b => a = some ⟨b, 0, none⟩) w w' := (hA.mono (fun _ _ e => e.elim)).next hk (fun y hy e => e)
  have hK0 : Keep (fun _ => False) w0 w' := h1.keep.next hk (fun y hy e => by have := (h1.block e).1; omega)
  rw [← rcells_app] at hown
  have hshape : ∃ a' cap', v' = .slice a' (m.length + 1) cap' := by
    rcases hown.2 with ⟨e, hn⟩ | ⟨g, c', cur, e, -⟩
    · omega
    · exact ⟨_, _, e⟩
  obtain ⟨a', cap', rfl⟩ := hshape
  refine ⟨a', cap', w', hrun, ⟨by rw [List.length_append]; exact hown, hK0⟩, hK, ?_⟩
  rcases h1.own.2 with ⟨e', hn⟩ | ⟨g, c, cur, e', hb, hh, hnc, hm, hs, ht⟩
  · injection e' with e1 e2 e3
    subst e1 e3
    have hn' := run_append_nil (P := Try.prog) w1 29 29 28 i _ Try.underlying29 hi hz0 ⟨w.heap.size, 0, none⟩ 1 1 (rcells [x]) (by rw [hz1]; rfl) hnews (by omega) (by omega) (by rw [hz2]; omega)
    rw [hn] at hrun
    rw [hn'] at hrun
    injection hrun with hr1 hr2
    injection hr1 with hr1 hr3 hr4
    exact Or.inr ⟨_, hr1.symm, hsz⟩
  · injection e' with e1 e2 e3
    subst e1 e3
    by_cases hroom : m.length + 1 ≤ cap
    · obtain ⟨w'', hf, -, -⟩ := run_append_fits (P := Try.prog) w1 w0.heap.size 29 29 28 i 3 Try.underlying29 hi hz1 g m.length cap (rcells m) h1.own ⟨w.heap.size, 0, none⟩ 1 1 (rcells [x]) (rcells_len [x]) hnews hone hroom
      rw [hf] at hrun
      injection hrun with hr1 hr2
      injection hr1 with hr1 hr3 hr4
      exact Or.inl hr1.symm
    · have hg := run_append_grow (P := Try.prog) w1 29 29 28 i _ Try.underlying29 hi hz0 ⟨g, 0, none⟩ m.length cap (rcells m) (by rw [hz1]; exact rcells_len m) (h1.own.cells (g := g) rfl) ⟨w.heap.size, 0, none⟩ 1 1 (rcells [x]) (by rw [hz1]; rfl) hnews (by omega) (by omega) (growslice_fits (by omega) (by rw [hz2]; omega))
      rw [hg] at hrun
      injection hrun with hr1 hr2
      injection hr1 with hr1 hr3 hr4
      exact Or.inr ⟨_, hr1.symm, hsz⟩
/-- What gets a number that stands at first. -/
theorem read_num {v : Int} {r : List Int} (h0 : 0 ≤ v) (h1 : v ≤ 1099511627776) : (vg 0 0 (vb v ++ r)).isSome = true ∧ nuI (vb v ++ r) = v ∧ (vb v ++ r).drop (gN (vb v ++ r)) = r := by
  have hk := get_put (v := v) ⟨h0, by omega⟩ r
  have hs := gv_some hk
  refine ⟨by rw [hk]; rfl, ?_, ?_⟩
  · unfold nuI; rw [hs.1]; exact wrapI (by omega) (by omega)
  · rw [gN_some hk]; exact List.drop_left
theorem read_int {v : Int} {r : List Int} (h0 : -549755813888 ≤ v) (h1 : v ≤ 549755813888) : (vg 0 0 (vb (fold v) ++ r)).isSome = true ∧ gi (vb (fold v) ++ r) = v ∧ (vb (fold v) ++ r).drop (gN (vb (fold v) ++ r)) = r := by
  have h3 : 0 ≤ fold v ∧ fold v ≤ 1099511627776 := by unfold fold; split <;> omega
  have hk := get_put (v := fold v) ⟨h3.1, by omega⟩ r
  refine ⟨by rw [hk]; rfl, ?_, ?_⟩
  · rw [gi_some hk, unfold_fold]
  · rw [gN_some hk]; exact List.drop_left
theorem gi_rng {l : List Int} (hb : Bys l) : -9223372036854775808 ≤ gi l ∧ gi l ≤ 9223372036854775807 := by
  cases h : vg 0 0 l with
  | none => rw [gi_none h]; omega
  | some p =>
    obtain ⟨v, n⟩ := p
    obtain ⟨b1, b2, -, -⟩ := put_get hb h
    rw [gi_some h]
    unfold Vi.unfold
    split <;> omega
theorem page_step {P : Int} {x : Rn} (h : -1 ≤ x.phys ∧ x.phys ≤ 1048576) (hP : 0 ≤ P ∧ P ≤ 1049088) : pgP P (dOf P x) = x.phys := by
  unfold pgP dOf
  by_cases c : x.phys < 0
  · rw [if_pos c, if_pos rfl]; omega
  · rw [if_neg c]
    by_cases d : x.phys - P < 0
    · rw [if_pos d, if_neg (by omega), if_pos d, wrapI (by omega) (by omega)]; omega
    · rw [if_neg d, if_neg (by omega), if_neg (by omega), wrapI (x := P + (x.phys - P + 1)) (by omega) (by omega), wrapI (by omega) (by omega)]; omega
theorem pgP_rng (P d : Int) : -9223372036854775808 ≤ pgP P d ∧ pgP P d ≤ 9223372036854775807 := by
  unfold pgP
  split
  · omega
  · split
    · exact wrap_rng _
    · exact wrap_rng _
/-- The change that is read next. -/
def rdX (L P : Int) (r : List Int) : Rn := ⟨IntKind.i64.wrap (L + gi r), nuI (r.drop (gN r)), pgP P (gi ((r.drop (gN r)).drop (gN (r.drop (gN r)))))⟩
/-- What is left behind it. -/
def rdR (r : List Int) : List Int := ((r.drop (gN r)).drop (gN (r.drop (gN r)))).drop (gN ((r.drop (gN r)).drop (gN (r.drop (gN r)))))
/-- Was there one? -/
def rdO (r : List Int) : Bool := (vg 0 0 r).isSome && ((vg 0 0 (r.drop (gN r))).isSome && (vg 0 0 ((r.drop (gN r)).drop (gN (r.drop (gN r))))).isSome)
/-- In the midst of the reading: whatever record it is, it has been read so far. -/
def Inv (b : List Int) (k i : Nat) (m : List Rn) (r : List Int) (L P : Int) : Prop := ∀ l, MayL l → recL l = b → l.length = k ∧ m = l.take i ∧ r = recB L P (l.drop i) ∧ (0 ≤ L ∧ L ≤ 1024) ∧ 0 ≤ P ∧ P ≤ 1049088
theorem Inv.step {b : List Int} {k i : Nat} {m : List Rn} {r : List Int} {L P : Int} (h : Inv b k i m r L P) (hi : i < k) : Inv b k (i + 1) (m ++ [rdX L P r]) (rdR r) (nxL (rdX L P r)) (nxP P (rdX L P r)) ∧ ∀ l, MayL l → recL l = b → rdO r = true := by
  have key : ∀ l, MayL l → recL l = b → ∃ x, l[i]? = some x ∧ rdX L P r = x ∧ rdR r = recB (x.lba + x.len) (phN P x) (l.drop (i + 1)) ∧ rdO r = true ∧ MayX x := by
    intro l hl e
    obtain ⟨h1, h2, h3, h4, h5⟩ := h l hl e
    obtain ⟨x, hx⟩ := get_rn (show i < l.length by omega)
    have hm : MayX x := hl.2 x (List.mem_of_getElem? hx)
    have hm' := hm
    unfold MayX at hm'
    rw [drop_at hx, recB] at h3
    have hd : -549755813888 ≤ dOf P x ∧ dOf P x ≤ 549755813888 := by
      unfold dOf
      split
      · omega
      · split <;> omega
    obtain ⟨a1, a2, a3⟩ := read_int (v := x.lba - L) (r := vb x.len ++ (vb (fold (dOf P x)) ++ recB (x.lba + x.len) (phN P x) (l.drop (i + 1)))) (by omega) (by omega)
    obtain ⟨b1, b2, b3⟩ := read_num (v := x.len) (r := vb (fold (dOf P x)) ++ recB (x.lba + x.len) (phN P x) (l.drop (i + 1))) (by omega) (by omega)
    obtain ⟨c1, c2, c3⟩ := read_int (v := dOf P x) (r := recB (x.lba + x.len) (phN P x) (l.drop (i + 1))) hd.1 hd.2
    rw [← h3] at a1 a2 a3
    refine ⟨x, hx, ?_, ?_, ?_, hm⟩
    · unfold rdX
      rw [a3, a2, b3, b2, c2, page_step (by omega) h5, wrapI (by omega) (by omega)]
      cases x
      simp only [Rn.mk.injEq, and_true]
      omega
    · unfold rdR
      rw [a3, b3, c3]
    · unfold rdO
      rw [a3, a1, b3, b1, c1]; rfl
  refine ⟨fun l hl e => ?_, fun l hl e => ?_⟩
  · obtain ⟨x, hx, h1, h2, -, hm⟩ := key l hl e
    obtain ⟨g1, g2, g3, g4, g5⟩ := h l hl e
    unfold MayX at hm
    rw [h1]
    have hnl : nxL x = x.lba + x.len := wrapI (by omega) (by omega)
    have hnp : nxP P x = phN P x := by
      unfold nxP phN
      by_cases c : x.phys = -1
      · rw [if_pos c, if_pos (by omega)]
      · rw [if_neg c, if_neg (by omega), wrapI (by omega) (by omega)]
    refine ⟨g1, ?_, by rw [h2, hnl, hnp], by omega, ?_⟩
    · rw [g2, List.take_add_one, hx]; rfl
    · rw [hnp]; unfold phN; split <;> omega
  · obtain ⟨x, hx, h1, h2, h3, hm⟩ := key l hl e
    exact h3
theorem rdX_fits (L P : Int) (r : List Int) : (-9223372036854775808 ≤ (rdX L P r).lba ∧ (rdX L P r).lba ≤ 9223372036854775807) ∧ (-9223372036854775808 ≤ (rdX L P r).len ∧ (rdX L P r).len ≤ 9223372036854775807) ∧ (-9223372036854775808 ≤ (rdX L P r).phys ∧ (rdX L P r).phys ≤ 9223372036854775807) :=
  ⟨wrap_rng _, wrap_rng _, pgP_rng _ _⟩
theorem Fits.snoc {m : List Rn} {x : Rn} (h : Fits m) (hx : (-9223372036854775808 ≤ x.lba ∧ x.lba ≤ 9223372036854775807) ∧ (-9223372036854775808 ≤ x.len ∧ x.len ≤ 9223372036854775807) ∧ (-9223372036854775808 ≤ x.phys ∧ x.phys ≤ 9223372036854775807)) : Fits (m ++ [x]) := fun y hy => by
  rcases List.mem_append.1 hy with hy | hy
  · exact h y hy
  · simp at hy; subst hy; exact hx
/-- The reader, the end and the row beside each other. -/
structure Rst (w wx : World) (br bt : Nat) (s : Bool) (r : List Int) (L P : Int) (a : Option Addr) (c : Nat) (m : List Rn) : Prop where
  rdr : Rdr w wx br s r
  en : End wx bt L P
  row : Rp w wx a c m
  ne1 : ∀ g, a = some ⟨g, 0, none⟩ → g ≠ br ∧ g ≠ bt
  ne2 : br ≠ bt
  new : w.heap.size ≤ br ∧ w.heap.size ≤ bt
theorem Rst.more {w wx w2 : World} {br bt : Nat} {s : Bool} {r : List Int} {L P : Int} {a : Option Addr} {c : Nat} {m : List Rn} (h : Rst w wx br bt s r L P a c m) (k : Keep (fun _ => False) wx w2) : Rst w w2 br bt s r L P a c m :=
  ⟨h.rdr.keep k (fun e => e) (fun _ e => e.elim), Blk.keep h.en k (fun e => e), h.row.more k, h.ne1, h.ne2, h.new⟩
theorem Rst.read {w wx w2 : World} {br bt : Nat} {s s' : Bool} {r r' : List Int} {L P : Int} {a : Option Addr} {c : Nat} {m : List Rn} (h : Rst w wx br bt s r L P a c m) (R : Rdr w w2 br s' r') (k : Keep (fun b => b = br) wx w2) : Rst w w2 br bt s' r' L P a c m :=
  ⟨R, Blk.keep h.en k (fun e => h.ne2 e.symm), h.row.other k (fun g e e2 => (h.ne1 g e).1 e2) (fun x e => by rw [e]; exact h.new.1), h.ne1, h.ne2, h.new⟩
theorem Rst.over {w wx : World} {br bt : Nat} {s : Bool} {r : List Int} {L P : Int} {a : Option Addr} {c : Nat} {m : List Rn} (h : Rst w wx br bt s r L P a c m) (L' P' : Int) :
    ∃ w', (Instr.storeAt 51 (.pointer (some ⟨bt, 0, none⟩)) (.agg #[.int .i64 L', .int .i64 P'])).run Try.prog wx = .ok () w' ∧ Rst w w' br bt s r L' P' a c m := by
  obtain ⟨w', h1, h2, h3⟩ := h.en.over L' P'
  exact ⟨w', h1, h.rdr.keep h3 h.ne2 (fun x e => by rw [e]; exact h.new.2), h2, h.row.other h3 (fun g e e2 => (h.ne1 g e).2 e2) (fun x e => by rw [e]; exact h.new.2), h.ne1, h.ne2, h.new⟩
/-- The row grows by a change that lies in a block of its own. -/
theorem Rst.app {w wx : World} {br bt bo : Nat} {s : Bool} {r : List Int} {L P : Int} {a : Option Addr} {c : Nat} {m : List Rn} (h : Rst w wx br bt s r L P a c m) (hm : m.length ≤ 100000) {x : Rn} (T : Tri wx bo x) (hbo : ∀ g, a = some ⟨g, 0, none⟩ → g ≠ bo) :
    ∃ a' c' w', (Builtin.append_ #[29, 29] 29 #[.slice a m.length c, .slice (some ⟨wx.heap.size, 0, none⟩) 1 1]).run Try.prog (wx.alloc (.cells #[.int .i64 x.lba, .int .i64 x.len, .int .i64 x.phys] 28)) = .ok (.slice a' (m.length + 1) c') w' ∧ Rst w w' br bt s r L P a' c' (m ++ [x]) ∧ Tri w' bo x := by
  obtain ⟨a', c', w', h1, h2, h3, h4⟩ := rp_appS h.row hm x
  have hb := h.rdr.lt
  have ht := h.en.lt
  refine ⟨a', c', w', h1, ⟨h.rdr.keep h3 (fun e => (h.ne1 _ e).1 rfl) (fun x e => (h.row.block e).1), Blk.keep h.en h3 (fun e => (h.ne1 _ e).2 rfl), h2, ?_, h.ne2, h.new⟩, Blk.keep T h3 (fun e => hbo _ e rfl)⟩
  intro g e
  rcases h4 with rfl | ⟨g', rfl, hg⟩
  · exact h.ne1 g e
  · injection e with e; injection e with e
    omega
/-- The reader, the end and the row beside each other. -/
structure Rsr (w wx : World) (br bt : Nat) (s : Bool) (r : List Int) (L P : Int) (a : Option Addr) (c : Nat) (m : List Rn) : Prop where
  rdr : Rdr w wx br s r
  en : End wx bt L P
  row : Rr w wx a c m
  ne1 : ∀ g, a = some ⟨g, 0, none⟩ → g ≠ br ∧ g ≠ bt
  ne2 : br ≠ bt
  new : w.heap.size ≤ br ∧ w.heap.size ≤ bt
theorem Rsr.more {w wx w2 : World} {br bt : Nat} {s : Bool} {r : List Int} {L P : Int} {a : Option Addr} {c : Nat} {m : List Rn} (h : Rsr w wx br bt s r L P a c m) (k : Keep (fun _ => False) wx w2) : Rsr w w2 br bt s r L P a c m :=
  ⟨h.rdr.keep k (fun e => e) (fun _ e => e.elim), Blk.keep h.en k (fun e => e), h.row.more k, h.ne1, h.ne2, h.new⟩
theorem Rsr.read {w wx w2 : World} {br bt : Nat} {s s' : Bool} {r r' : List Int} {L P : Int} {a : Option Addr} {c : Nat} {m : List Rn} (h : Rsr w wx br bt s r L P a c m) (R : Rdr w w2 br s' r') (k : Keep (fun b => b = br) wx w2) : Rsr w w2 br bt s' r' L P a c m :=
  ⟨R, Blk.keep h.en k (fun e => h.ne2 e.symm), h.row.other k (fun g e e2 => (h.ne1 g e).1 e2) (fun x e => by rw [e]; exact h.new.1), h.ne1, h.ne2, h.new⟩
theorem Rsr.over {w wx : World} {br bt : Nat} {s : Bool} {r : List Int} {L P : Int} {a : Option Addr} {c : Nat} {m : List Rn} (h : Rsr w wx br bt s r L P a c m) (L' P' : Int) :
    ∃ w', (Instr.storeAt 51 (.pointer (some ⟨bt, 0, none⟩)) (.agg #[.int .i64 L', .int .i64 P'])).run Try.prog wx = .ok () w' ∧ Rsr w w' br bt s r L' P' a c m := by
  obtain ⟨w', h1, h2, h3⟩ := h.en.over L' P'
  exact ⟨w', h1, h.rdr.keep h3 h.ne2 (fun x e => by rw [e]; exact h.new.2), h2, h.row.other h3 (fun g e e2 => (h.ne1 g e).2 e2) (fun x e => by rw [e]; exact h.new.2), h.ne1, h.ne2, h.new⟩
/-- The row grows by a change that lies in a block of its own. -/
theorem Rsr.app {w wx : World} {br bt bo : Nat} {s : Bool} {r : List Int} {L P : Int} {a : Option Addr} {c : Nat} {m : List Rn} (h : Rsr w wx br bt s r L P a c m) (hm : m.length ≤ 100000) {x : Rn} (T : Tri wx bo x) (hbo : ∀ g, a = some ⟨g, 0, none⟩ → g ≠ bo) :
    ∃ a' c' w', (Builtin.append_ #[32, 32] 32 #[.slice a m.length c, .slice (some ⟨wx.heap.size, 0, none⟩) 1 1]).run Try.prog (wx.alloc (.cells #[.int .i64 x.lba, .int .i64 x.len, .int .i64 x.phys] 45)) = .ok (.slice a' (m.length + 1) c') w' ∧ Rsr w w' br bt s r L P a' c' (m ++ [x]) ∧ Tri w' bo x := by
  obtain ⟨a', c', w', h1, h2, h3, h4⟩ := h.row.appS hm x
  have hb := h.rdr.lt
  have ht := h.en.lt
  refine ⟨a', c', w', h1, ⟨h.rdr.keep h3 (fun e => (h.ne1 _ e).1 rfl) (fun x e => (h.row.block e).1), Blk.keep h.en h3 (fun e => (h.ne1 _ e).2 rfl), h2, ?_, h.ne2, h.new⟩, Blk.keep T h3 (fun e => hbo _ e rfl)⟩
  intro g e
  rcases h4 with rfl | ⟨g', rfl, hg⟩
  · exact h.ne1 g e
  · injection e with e; injection e with e
    omega
end Tg
end Go.Proofs.Ytlekapfhbceibaa
