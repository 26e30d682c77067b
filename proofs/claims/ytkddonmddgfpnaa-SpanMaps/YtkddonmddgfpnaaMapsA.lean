/-
  What the statement of either map leans on: rows of changes of the call's own, rows of rows, the document's own Set as one step.
-/
import Derived.Test.YtkddonmddgfpnaaAwS
import Derived.Test.YtkddonmddgfpnaaPartsW
import Derived.Test.YtkddonmddgfpnaaFormW
namespace Go.Proofs.Ytkddonmddgfpnaa
open Go.ChangeShapes Go.WideShapes Go.ChangeAt Go.RowKit
namespace Tg

set_option maxRecDepth 100000 in
theorem info30p : (Try.prog.info? 30).map (fun i => (i.zero, i.size, i.bytes)) = some (some (.agg #[.int .i64 0, .int .i64 0, .int .i64 0]), 3, 24) := by kernel_rfl
theorem size30p : (Try.prog.info? 30).map (·.size) = some 3 := by kernel_rfl
theorem under30p : ∃ d, Try.prog.underlying 30 = some d ∧ d.isRow = true := ⟨_, Try.underlying30, rfl⟩
/-- A list of changes of one's own, in memory made since w0. -/
structure Rp (w0 w : World) (a : Option Addr) (cap : Nat) (m : List Rn) : Prop where
  own : w.ownsRow w0.heap.size 30 3 (.slice a m.length cap) m.length (rcells m)
  keep : Keep (fun _ => False) w0 w

theorem Rp.nil (w : World) : Rp w w none 0 [] := ⟨World.ownsRow_nil _ _ _ _, Keep.refl _ _⟩
theorem Rp.more {w0 w w' : World} {a : Option Addr} {cap : Nat} {m : List Rn} (h : Rp w0 w a cap m) (k : Keep (fun _ => False) w w') : Rp w0 w' a cap m := by
  refine ⟨⟨h.own.1, h.own.2.imp id ?_⟩, h.keep.trans k⟩
  rintro ⟨g, c, cur, e, hb, hh, h1, h2, h3, h4⟩
  exact ⟨g, c, cur, e, hb, by rw [k.block g (by by_cases hg : g < w.heap.size; exact hg; simp [Array.getElem?_eq_none (Nat.le_of_not_lt hg)] at hh) (fun e => e)]; exact hh, h1, h2, h3, h4⟩
theorem Rp.other {S : Nat → Prop} {w0 w w' : World} {a : Option Addr} {cap : Nat} {m : List Rn} (h : Rp w0 w a cap m) (k : Keep S w w') (hs : ∀ g, a = some ⟨g, 0, none⟩ → ¬ S g) (h0 : ∀ x, S x → w0.heap.size ≤ x) : Rp w0 w' a cap m := by
  refine ⟨⟨h.own.1, h.own.2.imp id ?_⟩, h.keep.next k (fun x hx e => by have := h0 x e; omega)⟩
  rintro ⟨g, c, cur, e, hb, hh, h1, h2, h3, h4⟩
  injection e with e1 e2 e3
  exact ⟨g, c, cur, by rw [e1, e3], hb, by rw [k.block g (by by_cases hg : g < w.heap.size; exact hg; simp [Array.getElem?_eq_none (Nat.le_of_not_lt hg)] at hh) (hs g e1)]; exact hh, h1, h2, h3, h4⟩
set_option maxRecDepth 100000 in
theorem Rp.block {w0 w : World} {a : Option Addr} {cap : Nat} {m : List Rn} (h : Rp w0 w a cap m) {g : Nat} (e : a = some ⟨g, 0, none⟩) : w0.heap.size ≤ g ∧ g < w.heap.size := by
  have := h.own.lt g (by rw [e]; rfl)
  exact this
set_option maxRecDepth 100000 in
theorem Rp.rs {w0 w : World} {a : Option Addr} {cap : Nat} {m : List Rn} (h : Rp w0 w a cap m) : Rs w a cap m := by
  obtain ⟨h1, h2⟩ := h.own
  rcases h2 with ⟨e, hn⟩ | ⟨g, c, cur, e, hb, hh, hn, hm, hs, ht⟩
  · injection e with e1 e2 e3
    exact ⟨by omega, by omega, Or.inl (List.eq_nil_of_length_eq_zero hn)⟩
  · injection e with e1 e2 e3
    subst e1 e3
    unfold maxLen at hm
    refine ⟨hn, by omega, Or.inr ⟨g, rfl, fun j u hu => ?_⟩⟩
    have := h.own.cells (g := g) rfl j u hu
    rwa [Addr.add_lit, Nat.zero_add] at this
set_option maxRecDepth 100000 in
theorem Rp.appN {w0 w : World} {a : Option Addr} {cap : Nat} {m : List Rn} (h : Rp w0 w a cap m) (x : Addr) (c : Nat) (ns : List Rn) (hl : m.length + ns.length ≤ 1000000) (hnews : ∀ j u, (rcells ns)[j]? = some u → w.cell? (x.add j) = some u) :
    ∃ a' cap' w', (Builtin.append_ #[31, 31] 31 #[.slice a m.length cap, .slice (some x) ns.length c]).run Try.prog w = .ok (.slice a' (m.length + ns.length) cap') w' ∧ Rp w0 w' a' cap' (m ++ ns) ∧ Keep (fun b => w0.heap.size ≤ b) w w' := by
  obtain ⟨i, hi, hz0, hz1, hz2⟩ := info_parts info30p
  have hs := h.keep.size
  obtain ⟨v', w', hrun, hown, hgrow, hnil⟩ := run_append_own (P := Try.prog) w w0.heap.size 31 31 30 i _ 3 24 Try.underlying31 hi hz0 hz1 hz2 rfl (by decide) (.slice a m.length cap) m.length (rcells m) h.own
    x ns.length c (rcells ns) (rcells_len ns) hnews (by intro u hu; obtain ⟨y, _, hy⟩ := List.mem_flatMap.1 hu; simp [rcs] at hy; rcases hy with rfl | rfl | rfl <;> rfl) (by unfold maxLen; omega) (by omega) hs
  have hk : Keep (fun b => w0.heap.size ≤ b) w w' := (keep_grown hgrow).mono (fun b _ e => (h.own.lt b e.symm).1)
  have hK : Keep (fun _ => False) w0 w' := h.keep.next hk (fun y hy e => by omega)
  rw [← rcells_app, ← List.length_append] at hown
  have hshape : ∃ a' cap', v' = .slice a' (m ++ ns).length cap' := by
    rcases hown.2 with ⟨e, hn⟩ | ⟨g, c', cur, e, -⟩
    · exact ⟨none, 0, by rw [hn]; exact e⟩
    · exact ⟨_, _, e⟩
  obtain ⟨a', cap', rfl⟩ := hshape
  exact ⟨a', cap', w', by rw [hrun, List.length_append], ⟨hown, hK⟩, hk⟩
theorem Rp.app1 {w0 w : World} {a : Option Addr} {cap : Nat} {m : List Rn} (h : Rp w0 w a cap m) (hl : m.length ≤ 100000) (x : Rn) :
    ∃ a' cap' w', (Builtin.append_ #[31, 31] 31 #[.slice a m.length cap, .slice (some ⟨w.heap.size, 0, none⟩) 1 1]).run Try.prog (w.alloc (.cells #[.int .i64 x.lba, .int .i64 x.len, .int .i64 x.phys] 30)) = .ok (.slice a' (m.length + 1) cap') w' ∧ Rp w0 w' a' cap' (m ++ [x]) := by
  obtain ⟨a', cap', w', h1, h2, -⟩ := (h.more ((Keep.refl (fun _ => False) w).alloc (.cells #[.int .i64 x.lba, .int .i64 x.len, .int .i64 x.phys] 30))).appN ⟨w.heap.size, 0, none⟩ 1 [x] (by simp; omega) (fun j u hu => cells_new w _ 30 j u (by simpa [rcells, rcs] using hu))
  exact ⟨a', cap', w', h1, h2⟩
theorem rp_made (w : World) : Rp w (w.alloc (.cells #[] 30)) (some ⟨w.heap.size, 0, none⟩) 0 [] :=
  ⟨World.ownsRow_lit (e := 30) (size := 3) (base := w.heap.size) w #[] 0 (Nat.le_refl _) (by unfold maxLen; omega) rfl, (Keep.refl _ _).alloc _⟩
set_option maxRecDepth 100000 in
theorem run_app_none (a : Addr) (c : Nat) (w : World) : (Builtin.append_ #[31, 31] 31 #[.slice (some a) 0 0, .slice none 0 c]).run Try.prog w = .ok (.slice (some a) 0 0) w := by kernel_rfl
/-- Its runs are in their form. -/
theorem Sp.formP {W w : World} {fl : Bool} {q N C : Nat} {S T : Nat → Prop} {t : List Int} (h : Sp W w fl q S T N C t) : formP none (refR t C) = true := by
  have htl := h.tl
  subst htl
  refine form_true (refR_of t).1 (fun x hx => ?_) (fun a e => by cases e)
  have h1 := h.rok x hx
  unfold Rok at h1
  rw [inB_iff]
  omega
set_option maxRecDepth 100000 in
set_option maxHeartbeats 1000000 in
theorem clear9m {w : World} {a : Option Addr} {c : Nat} {t : List Int} (h : Is w a c t) (h1 : 1 ≤ t.length) (h2 : t.length ≤ 512) (hb : Tab t) {lba n : Nat} (hn : 1 ≤ n) (hr : lba + n ≤ t.length) (most : Int) :
    Calls Try.prog 14 #[.slice a t.length c, .int .i64 most, .int .i64 (lba : Int), .int .i64 (n : Int), .int .i64 (-1), .bool true] w (Sat w a c t (putN t lba (-1) n) most) := by
  have hrt := right9 w (t.length : Int) (lba : Int) (n : Int) (by omega)
  rw [okR_iff.2 ⟨by omega, by omega, by omega⟩] at hrt
  have hput := put9 h h1 h2 hr (phys := -1) (by omega)
  have htab := putN_tab hb hr (by omega) (phys := -1) (by omega)
  have hul := putN_len t lba (-1) n
  generalize putN t lba (-1) n = u at hput htab hul ⊢
  have hul' : Hid (u.length = t.length) := hul
  clear h
  go_enter Try.func14, Try.ntmps14
  go_upto_region 6 with (first | (go_at_call 37; refine hrt.mono ?_; rintro e w1 ⟨rfl, e1⟩; have e1 := e1.symm; subst e1) | (go_at_call 38; refine hput.mono ?_; rintro e w2 ⟨a', c', rfl, R2⟩))
  have hru := runs9 R2.is (by omega) htab
  rw [hul] at hru
  have hE : Hid (refR u u.length = refR u t.length) := by show refR u u.length = _; rw [hul]
  have hln := refR_len u t.length
  generalize refR u t.length = m at hru hE hln
  have KK := R2.keep
  clear hput hrt hul
  by_cases hf : most < (m.length : Int)
  · have hf' : Hid (most < ((refR u u.length).length : Int)) := by show most < ((refR u u.length).length : Int); rw [show refR u u.length = m from hE]; exact hf
    go_wp2_with (go_at_call 15; refine hru.mono ?_; rintro e w3 ⟨a3, c3, rfl, R3⟩)
    go_ret2
    exact Or.inr ⟨hf', rfl, KK.trans R3.keep⟩
  · have hf' : Hid (((refR u u.length).length : Int) ≤ most) := by show ((refR u u.length).length : Int) ≤ most; rw [show refR u u.length = m from hE]; omega
    go_wp2_with (go_at_call 15; refine hru.mono ?_; rintro e w3 ⟨a3, c3, rfl, R3⟩)
    go_ret2
    exact Or.inl ⟨hf', a', c', rfl, R2.more R3.keep⟩
/-- One step of the document's own map: the entries, and the code. -/
theorem set9_step {w : World} {a : Option Addr} {c : Nat} {t : List Int} (h : Is w a c t) {C N : Nat} (hC : t.length = C) (h1 : 1 ≤ C) (h2 : C ≤ 512) (hb : Tab t) (x : Rn) {B : Nat} (hB : B ≤ w.heap.size) (ha : ∀ g, a = some ⟨g, 0, none⟩ → B ≤ g) :
    Calls Try.prog 14 #[.slice a C c, .int .i64 (N : Int), .int .i64 x.lba, .int .i64 x.len, .int .i64 x.phys, .bool (x.phys == -1)] w fun e w' => ∃ a' c', e = .returned (.tuple #[.slice a' C c', .int .i64 (stepL N t x).2]) ∧ Is w' a' c' (stepL N t x).1 ∧ Keep (fun _ => False) w w' ∧ ∀ g, a' = some ⟨g, 0, none⟩ → B ≤ g := by
  subst hC
  by_cases hc : CanDo t.length x
  · obtain ⟨n1, n2, n3, n4⟩ := canDo_nat hc
    have hfin : ∀ e w', Sat w a c t (putN t x.lba.toNat x.phys x.len.toNat) (N : Int) e w' → ∃ a' c', e = .returned (.tuple #[.slice a' t.length c', .int .i64 (stepL N t x).2]) ∧ Is w' a' c' (stepL N t x).1 ∧ Keep (fun _ => False) w w' ∧ ∀ g, a' = some ⟨g, 0, none⟩ → B ≤ g := fun e w' hs => by
      unfold Sat at hs
      unfold stepL
      rw [if_pos hc]
      rw [putN_len] at hs
      rcases hs with ⟨hl, a', c', rfl, hR⟩ | ⟨hl, rfl, hk⟩
      · rw [if_pos (by omega)]
        exact ⟨a', c', rfl, hR.is, hR.keep, fun g e => by have := (hR.block e).1; omega⟩
      · rw [if_neg (by omega)]
        exact ⟨a, c, rfl, h.more hk, hk, ha⟩
    unfold CanDo at hc
    by_cases hp : x.phys = -1
    · have hpb : (x.phys == -1) = true := by simp [hp]
      have := clear9m h h1 h2 hb (lba := x.lba.toNat) (n := x.len.toNat) n4 n1 (N : Int)
      rw [n2, n3] at this
      rw [hpb]
      rw [hp] at hfin ⊢
      exact this.mono hfin
    · have hpb : (x.phys == -1) = false := by simp [hp]
      have := set9_yes h h1 h2 hb (lba := x.lba.toNat) (n := x.len.toNat) n4 n1 (N : Int) (phys := x.phys) (by omega)
      rw [n2, n3] at this
      rw [hpb]
      exact this.mono hfin
  · have hst : stepL N t x = (t, 1) := by unfold stepL; rw [if_neg hc]
    rw [hst]
    have hno := no_do hc
    refine (set9_no h2 (N : Int) x.lba x.len x.phys (x.phys == -1) (hno.imp id (fun e => ⟨by simp; omega, by omega⟩))).mono ?_
    rintro e w' ⟨rfl, rfl⟩
    exact ⟨a, c, rfl, h, Keep.refl _ _, ha⟩
/-- Rows of changes in a row. -/
def Grid (W : World) (a : Option Addr) (len cap : Nat) : Prop :=
  len ≤ cap ∧ cap ≤ 9223372036854775807 ∧ (len = 0 ∨ ∃ b o, a = some ⟨b, o, none⟩ ∧ ∀ i, i < len → ∃ a' n' c', W.cell? ⟨b, o + i, none⟩ = some (.slice a' n' c') ∧ Rows3 W a' n' c')
theorem cells31 : Try.prog.cellsOf 31 = 1 := by kernel_rfl
set_option maxRecDepth 100000 in
theorem open_grid {H : Type} {enc : TypeId × Value → H} {W : World} {a : Option Addr} {len cap : Nat} {d : DataW H} {p : List MemPlace}
    (h : DataW.Trod enc Try.prog W 0 (fun _ => true) true 36 (.slice a len cap) d p) : Grid W a len cap := by
  obtain ⟨fuel, hf⟩ := h
  rcases Deep.open_slice1 Try.underlying36 cells31 hf with ⟨hcs, hx⟩ | ⟨ad, l, c, m, n, V, D, Pl, hcs, _, hl, hm, hmm, _, hi⟩
  · simp [Value.cells] at hcs
    obtain ⟨rfl, rfl, rfl⟩ := hcs
    exact ⟨by omega, by omega, Or.inl rfl⟩
  · simp [Value.cells] at hcs
    obtain ⟨rfl, rfl, rfl⟩ := hcs
    unfold maxLen at hm
    simp at hmm
    refine ⟨hl, by omega, ?_⟩
    by_cases h0 : len = 0
    · exact Or.inl h0
    · right
      obtain ⟨b, off, spot⟩ := ad
      have hspot : spot = none := by
        have := (hi 0 (by omega)).1
        simpa [Addr.add] using World.cell?_spot this
      subst hspot
      refine ⟨b, off, rfl, fun i hil => ?_⟩
      obtain ⟨h1, h2⟩ := hi i (by omega)
      rw [Addr.add_lit] at h1
      rcases Deep.open_slice Try.underlying31 h2 with ⟨hv, -⟩ | ⟨ad, l2, c2, -, -, -, -, hv, -⟩
      · simp at hv
        rw [hv] at h1 h2
        exact ⟨_, _, _, h1, rows_of_trod31 h2⟩
      · simp at hv
        rw [hv] at h1 h2
        exact ⟨_, _, _, h1, rows_of_trod31 h2⟩
end Tg
end Go.Proofs.Ytkddonmddgfpnaa
