/-
  What settle makes of a node whose branches hang in the arena: it is brought back to the rule.
-/
import Derived.Test.YtbdankhlbepjoaaTurn
namespace Go.Proofs.Ytbdankhlbepjoaa
open Go.ChangeShapes Go.WideShapes Go.ChangeAt Go.RowKit
namespace Tg

theorem Tr.fix_ids (t : Tr) : t.fix.ids = t.ids := by unfold Tr.ids; rw [Tr.fix_seq]
theorem Tr.rotL_ids (t : Tr) : t.rotL.ids = t.ids := by unfold Tr.ids; rw [Tr.rotL_seq]
theorem Tr.rotR_ids (t : Tr) : t.rotR.ids = t.ids := by unfold Tr.ids; rw [Tr.rotR_seq]

set_option maxRecDepth 100000 in
theorem Tr.fixA1 {i j q : Nat} {a m1 m2 r : Tr} {x y z : Rn} (h1 : r.h + 1 < (Tr.node j a y (.node q m1 z m2)).h) (h2 : a.h < (Tr.node q m1 z m2).h) :
    (Tr.node i (.node j a y (.node q m1 z m2)) x r).fix = .node q (.node j a y m1) z (.node i m2 x r) := by
  rw [Tr.fix, if_pos h1, if_pos (by simpa [Tr.rightHigh] using h2)]; rfl
set_option maxRecDepth 100000 in
theorem Tr.fixA2 {i j : Nat} {a m r : Tr} {x y : Rn} (h1 : r.h + 1 < (Tr.node j a y m).h) (h2 : ¬ a.h < m.h) :
    (Tr.node i (.node j a y m) x r).fix = .node j a y (.node i m x r) := by
  rw [Tr.fix, if_pos h1, if_neg (by simpa [Tr.rightHigh] using h2)]; rfl
set_option maxRecDepth 100000 in
theorem Tr.fixB1 {i j q : Nat} {l a m r : Tr} {x y z : Rn} (h0 : ¬ (Tr.node j (.node q a z m) y r).h + 1 < l.h) (h1 : l.h + 1 < (Tr.node j (.node q a z m) y r).h) (h2 : r.h < (Tr.node q a z m).h) :
    (Tr.node i l x (.node j (.node q a z m) y r)).fix = .node q (.node i l x a) z (.node j m y r) := by
  rw [Tr.fix, if_neg h0, if_pos h1, if_pos (by simpa [Tr.leftHigh] using h2)]; rfl
set_option maxRecDepth 100000 in
theorem Tr.fixB2 {i j : Nat} {l m r : Tr} {x y : Rn} (h0 : ¬ (Tr.node j m y r).h + 1 < l.h) (h1 : l.h + 1 < (Tr.node j m y r).h) (h2 : ¬ r.h < m.h) :
    (Tr.node i l x (.node j m y r)).fix = .node j (.node i l x m) y r := by
  rw [Tr.fix, if_neg h0, if_pos h1, if_neg (by simpa [Tr.leftHigh] using h2)]; rfl
theorem Tr.fixC {i : Nat} {l r : Tr} {x : Rn} (h0 : ¬ r.h + 1 < l.h) (h1 : ¬ l.h + 1 < r.h) : (Tr.node i l x r).fix = .node i l x r := by
  rw [Tr.fix, if_neg h0, if_neg h1]
theorem Aft.next {w w1 w2 : World} {b p k : Nat} {s s1 : Ar} {t u : Tr} (h : Aft w1 b p k s1 u w2) (hk : Keep (Own p k) w w1) (hs : Same s s1 t.ids) (e : ∀ z ∈ t.ids, z ∈ u.ids) : Aft w b p k s u w2 := by
  obtain ⟨s2, h1, h2, h3, h4⟩ := h
  exact ⟨s2, h1, h2, (hs.mono e).trans h3, hk.trans h4⟩
theorem Keep.ownK {p k : Nat} {w w' : World} (h : Keep (fun _ => False) w w') : Keep (Own p k) w w' := h.mono (fun _ _ e => e.elim)

set_option maxRecDepth 100000 in
set_option maxHeartbeats 1000000 in
theorem settle_any {w : World} {b p k : Nat} {s : Ar} (h : Tb w b p k s) {i : Nat} {l r : Tr} {x : Rn} (hl : Hang s l) (hr : Hang s r) (h1 : 1 ≤ i) (h2 : i ≤ s.N) (h3 : s.live i = true)
    (hnd : (Tr.node i l x r).ids.Nodup) (c : Int) :
    Calls Try.prog 74 #[.pointer (some ⟨b, 0, none⟩), .int .u32 (i : Int), .agg (nodeA (nf l.link r.link c x))] w fun e w' => e = .returned (.int .u32 ((Tr.node i l x r).fix.link : Int)) ∧ Aft w b p k s (Tr.node i l x r).fix w' := by
  have hk1 : Keep (fun _ => False) w (w.alloc (.cells (nodeA (nf l.link r.link c x)) 82)).drew := ((Keep.refl _ _).alloc _).drew
  have t1 := h.more hk1
  have L1 : Loc (w.alloc (.cells (nodeA (nf l.link r.link c x)) 82)).drew w.heap.size l.link r.link c x := Loc.new w _ _ _ _
  have hh1 := height_any t1 hl
  have hS : ∀ w', Keep (fun _ => False) (w.alloc (.cells (nodeA (nf l.link r.link c x)) 82)).drew w' → w'.cell? ⟨w.heap.size, 0, none⟩ = some (.int .u32 (l.link : Int)) ∧ w'.cell? ⟨w.heap.size, 1, none⟩ = some (.int .u32 (r.link : Int)) :=
    fun w' hk => ⟨(L1.more hk).c0, (L1.more hk).c1⟩
  rw [nodeA_nf] at *
  go_enter Try.func74, Try.ntmps74
  go_wp2_with fail
  go_region_held3 (fun w' => w'.cell? ⟨w.heap.size, 0, none⟩ = some (.int .u32 (l.link : Int)) ∧ w'.cell? ⟨w.heap.size, 1, none⟩ = some (.int .u32 (r.link : Int))) (first | exact hS _ (Keep.refl _ _) | exact hS _ hk2 | exact hS _ (hk2.trans hk3)) ((go_at_call 77; first | (refine hh1.mono ?_; rintro e w1 ⟨rfl, hk2⟩) | (refine (height_any (t1.more hk2) hr).mono ?_; rintro e w2 ⟨rfl, hk3⟩)))
  have L2 := L1.more (hk2.trans hk3)
  have K2 := hk1.trans (hk2.trans hk3)
  clear hS hh1 t1 L1 hk1 hk2 hk3
  have t2 := h.more K2
  obtain ⟨n1, n2, n3, n4, n5⟩ := nd_node.1 hnd
  have hN := h.small
  have bl := hl.h_le n1 hN
  have br := hr.h_le n2 hN
  have dr : IntKind.i64.wrap ((r.h : Int) + 1) = (r.h : Int) + 1 := by rw [IntKind.wrap_i64] <;> omega
  have dl : IntKind.i64.wrap ((l.h : Int) + 1) = (l.h : Int) + 1 := by rw [IntKind.wrap_i64] <;> omega
  have hN1 : 1 ≤ s.N := by omega
  have hg0 : ¬ Own p k w.heap.size := h.out hN1 (Nat.le_refl _)
  have z1 := L2.c0
  have z2 := L2.c1
  by_cases e1 : r.h + 1 < l.h
  · have d1 : (r.h : Int) + 1 < (l.h : Int) := by omega
    cases l with
    | nil => simp [Tr.h] at e1
    | node j a y m =>
      have hn := node_any t2 hl
      rw [Tr.flds_eq, nodeA_nf] at hn
      generalize hM : ((max a.h m.h + 1 : Nat) : Int) = M at hn
      generalize hlh : (Tr.node j a y m).h = lh at *
      have hj : (Tr.node j a y m).link = j := rfl
      rw [hj] at *
      go_upto_region 4 with (go_at_call 63; refine hn.mono ?_; rintro e w3 ⟨rfl, hk3⟩)
      have K4 : Keep (fun _ => False) w (w3.alloc (.cells (nodeA (nf a.link m.link M y)) 82)) := (K2.trans hk3).alloc _
      have A4 : Loc (w3.alloc (.cells (nodeA (nf a.link m.link M y)) 82)) w.heap.size j r.link c x := (L2.more hk3).more ((Keep.refl _ _).alloc _)
      have B4 := Loc.new w3 a.link m.link M y
      have hge : w.heap.size ≤ w3.heap.size := by have := hk3.size; have := K2.size; omega
      have hlt : w.heap.size < w3.heap.size := by have := World.block_lt_of_cell? _ _ (L2.more hk3).c0; exact this
      simp only [nodeA_nf] at K4 A4 B4
      generalize w3.alloc (.cells #[.int .u32 (a.link : Int), .int .u32 (m.link : Int), .int .i64 M, .int .i64 y.lba, .int .i64 y.len, .int .i64 y.phys] 82) = w4 at K4 A4 B4 ⊢
      generalize w3.heap.size = g at hge hlt B4 ⊢
      clear hn hk3 L2 K2 t2 z1 z2
      have t4 := (h.more K4).drew
      obtain ⟨⟨v1, v2, v3, v4⟩, ha, hm⟩ := hl
      have hh4 := height_any t4 hm
      have hS : ∀ w', Keep (fun _ => False) w4.drew w' → w'.cell? ⟨g, 0, none⟩ = some (.int .u32 (a.link : Int)) ∧ w'.cell? ⟨g, 1, none⟩ = some (.int .u32 (m.link : Int)) :=
        fun w' hk => ⟨(B4.more (((Keep.refl _ _).drew).trans hk)).c0, (B4.more (((Keep.refl _ _).drew).trans hk)).c1⟩
      go_region_held3 (fun w' => w'.cell? ⟨g, 0, none⟩ = some (.int .u32 (a.link : Int)) ∧ w'.cell? ⟨g, 1, none⟩ = some (.int .u32 (m.link : Int))) (first | exact hS _ (Keep.refl _ _) | exact hS _ hk5 | exact hS _ (hk5.trans hk6)) ((go_at_call 77; first | (refine hh4.mono ?_; rintro e w5 ⟨rfl, hk5⟩) | (refine (height_any (t4.more hk5) ha).mono ?_; rintro e w6 ⟨rfl, hk6⟩)))
      have K6 := K4.trans (((Keep.refl _ _).drew).trans (hk5.trans hk6))
      have A6 := A4.more (((Keep.refl _ _).drew).trans (hk5.trans hk6))
      have B6 := B4.more (((Keep.refl _ _).drew).trans (hk5.trans hk6))
      have t6 := h.more K6
      clear hS hh4 t4 A4 B4 K4 hk5 hk6
      have hg : ¬ Own p k g := h.out hN1 hge
      obtain ⟨o1, o2, o3, o4, o5⟩ := nd_node.1 n1
      obtain ⟨q0, q1, q2, q3, q4, q5⟩ := A6.six
      obtain ⟨p0, p1, p2, p3, p4, p5⟩ := B6.six
      by_cases e2 : a.h < m.h
      · cases m with
        | nil => simp [Tr.h] at e2
        | node q m1 z m2 =>
          have hfx := Tr.fixA1 (i := i) (x := x) (hlh.symm ▸ e1) e2
          have htl := turnLeft_any t6 ha hm v1 v2 v3 n1 M
          rw [nodeA_nf] at htl
          rw [decide_eq_true e2]
          have hq : (Tr.node q m1 z m2).link = q := rfl
          have hj : (Tr.node j a y (Tr.node q m1 z m2)).link = j := rfl
          rw [hq] at p1 B6 ⊢
          rw [hj]
          generalize (Tr.node q m1 z m2).h = mh
          go_upto_region 6 with (go_at_call 78; refine htl.mono ?_; rintro e w7 ⟨rfl, s7, t7, H7, S7, k7⟩; have zc := (A6.keep k7 hg0).c0; have zf := (A6.keep k7 hg0).fz (j := 0) (by omega))
          have A8 := (A6.keep k7 hg0).set0 q
          have K8 : Keep (Own p k) w (w7.setCell ⟨w.heap.size, 0, none⟩ (.int .u32 (q : Int))) := (K6.ownK.trans k7).setCell (p := ⟨w.heap.size, 0, none⟩) (Or.inr (Nat.le_refl _)) _
          have K78 : Keep (fun b => b = w.heap.size) w7 (w7.setCell ⟨w.heap.size, 0, none⟩ (.int .u32 (q : Int))) := (Keep.refl (fun b => b = w.heap.size) w7).setCell (p := ⟨w.heap.size, 0, none⟩) (Or.inl rfl) _
          obtain ⟨b1, b2, b3⟩ := h.lt hN1
          have t8 := t7.keep K78 (by omega) (by omega) (by omega)
          have H8 := H7
          have hid : (Tr.node q (.node j a y m1) z m2).ids = (Tr.node j a y (.node q m1 z m2)).ids := Tr.rotL_ids (Tr.node j a y (.node q m1 z m2))
          have R8 : Hang s7 r := S7.hang hr (fun y hy e => n5 y (hid ▸ e) hy)
          have htr := turnRight_any t8 H8 R8 h1 (by rw [S7.N]; exact h2) (by rw [S7.live]; exact h3) (nd_node.2 ⟨by rw [hid]; exact n1, n2, by rw [hid]; exact n3, n4, by rw [hid]; exact n5⟩) c (x := x)
          rw [nodeA_nf] at htr
          clear q0 q1 q2 q3 q4 q5 p0 p1 p2 p3 p4 p5 htl A6 B6
          obtain ⟨q0, q1, q2, q3, q4, q5⟩ := A8.six
          generalize w7.setCell ⟨w.heap.size, 0, none⟩ (.int .u32 (q : Int)) = w8 at A8 K8 K78 t8 htr q0 q1 q2 q3 q4 q5 ⊢
          clear A8 K78 zc zf n1 n2 n3 n4 n5 o1 o2 o3 o4 o5 hnd
          go_wp2_with (go_at_call 79; refine htr.mono ?_; rintro e w9 ⟨rfl, h9⟩)
          go_ret
          rw [hfx]
          exact ⟨rfl, h9.next K8 S7 (fun y hy => by rw [← hfx, Tr.fix_ids, mem_node, ← hid]; exact Or.inl hy)⟩
      · have hfx := Tr.fixA2 (i := i) (x := x) (hlh.symm ▸ e1) e2
        have htr := turnRight_any t6 ⟨⟨v1, v2, v3, v4⟩, ha, hm⟩ hr h1 h2 h3 hnd c
        rw [nodeA_nf] at htr
        rw [decide_eq_false e2]
        clear n1 n2 n3 n4 n5 o1 o2 o3 o4 o5 hnd
        go_wp2_with (go_at_call 79; refine htr.mono ?_; rintro e w9 ⟨rfl, h9⟩)
        go_ret
        rw [hfx]
        exact ⟨rfl, h9.next K6.ownK (Same.refl s _) (fun y hy => hy)⟩
  · have d1 : ¬ (r.h : Int) + 1 < (l.h : Int) := by omega
    by_cases e3 : l.h + 1 < r.h
    · have d3 : (l.h : Int) + 1 < (r.h : Int) := by omega
      cases r with
      | nil => simp [Tr.h] at e3
      | node j m y a =>
        have hn := node_any t2 hr
        rw [Tr.flds_eq, nodeA_nf] at hn
        generalize hM : ((max m.h a.h + 1 : Nat) : Int) = M at hn
        generalize hlh : (Tr.node j m y a).h = lh at *
        have hj : (Tr.node j m y a).link = j := rfl
        rw [hj] at *
        go_upto_region 9 with (go_at_call 63; refine hn.mono ?_; rintro e w3 ⟨rfl, hk3⟩)
        have K4 : Keep (fun _ => False) w (w3.alloc (.cells (nodeA (nf m.link a.link M y)) 82)) := (K2.trans hk3).alloc _
        have A4 : Loc (w3.alloc (.cells (nodeA (nf m.link a.link M y)) 82)) w.heap.size l.link j c x := (L2.more hk3).more ((Keep.refl _ _).alloc _)
        have B4 := Loc.new w3 m.link a.link M y
        have hge : w.heap.size ≤ w3.heap.size := by have := hk3.size; have := K2.size; omega
        have hlt : w.heap.size < w3.heap.size := by have := World.block_lt_of_cell? _ _ (L2.more hk3).c0; exact this
        simp only [nodeA_nf] at K4 A4 B4
        generalize w3.alloc (.cells #[.int .u32 (m.link : Int), .int .u32 (a.link : Int), .int .i64 M, .int .i64 y.lba, .int .i64 y.len, .int .i64 y.phys] 82) = w4 at K4 A4 B4 ⊢
        generalize w3.heap.size = g at hge hlt B4 ⊢
        clear hn hk3 L2 K2 t2 z1 z2
        have t4 := (h.more K4).drew
        obtain ⟨⟨v1, v2, v3, v4⟩, hm, ha⟩ := hr
        have hh4 := height_any t4 hm
        have hS : ∀ w', Keep (fun _ => False) w4.drew w' → w'.cell? ⟨g, 0, none⟩ = some (.int .u32 (m.link : Int)) ∧ w'.cell? ⟨g, 1, none⟩ = some (.int .u32 (a.link : Int)) :=
          fun w' hk => ⟨(B4.more (((Keep.refl _ _).drew).trans hk)).c0, (B4.more (((Keep.refl _ _).drew).trans hk)).c1⟩
        go_region_held3 (fun w' => w'.cell? ⟨g, 0, none⟩ = some (.int .u32 (m.link : Int)) ∧ w'.cell? ⟨g, 1, none⟩ = some (.int .u32 (a.link : Int))) (first | exact hS _ (Keep.refl _ _) | exact hS _ hk5 | exact hS _ (hk5.trans hk6)) ((go_at_call 77; first | (refine hh4.mono ?_; rintro e w5 ⟨rfl, hk5⟩) | (refine (height_any (t4.more hk5) ha).mono ?_; rintro e w6 ⟨rfl, hk6⟩)))
        have K6 := K4.trans (((Keep.refl _ _).drew).trans (hk5.trans hk6))
        have A6 := A4.more (((Keep.refl _ _).drew).trans (hk5.trans hk6))
        have B6 := B4.more (((Keep.refl _ _).drew).trans (hk5.trans hk6))
        have t6 := h.more K6
        clear hS hh4 t4 A4 B4 K4 hk5 hk6
        have hg : ¬ Own p k g := h.out hN1 hge
        obtain ⟨o1, o2, o3, o4, o5⟩ := nd_node.1 n2
        obtain ⟨q0, q1, q2, q3, q4, q5⟩ := A6.six
        obtain ⟨p0, p1, p2, p3, p4, p5⟩ := B6.six
        by_cases e2 : a.h < m.h
        · cases m with
          | nil => simp [Tr.h] at e2
          | node q m1 z m2 =>
            have hfx := Tr.fixB1 (i := i) (x := x) (hlh.symm ▸ e1) (hlh.symm ▸ e3) e2
            have htl := turnRight_any t6 hm ha v1 v2 v3 n2 M
            rw [nodeA_nf] at htl
            rw [decide_eq_true e2]
            have hq : (Tr.node q m1 z m2).link = q := rfl
            have hj : (Tr.node j (Tr.node q m1 z m2) y a).link = j := rfl
            rw [hq] at p0 B6 ⊢
            rw [hj]
            generalize (Tr.node q m1 z m2).h = mh
            go_upto_region 11 with (go_at_call 79; refine htl.mono ?_; rintro e w7 ⟨rfl, s7, t7, H7, S7, k7⟩; have zc := (A6.keep k7 hg0).c1; have zf := (A6.keep k7 hg0).fz (j := 1) (by omega))
            have A8 := (A6.keep k7 hg0).set1 q
            have K8 : Keep (Own p k) w (w7.setCell ⟨w.heap.size, 1, none⟩ (.int .u32 (q : Int))) := (K6.ownK.trans k7).setCell (p := ⟨w.heap.size, 1, none⟩) (Or.inr (Nat.le_refl _)) _
            have K78 : Keep (fun b => b = w.heap.size) w7 (w7.setCell ⟨w.heap.size, 1, none⟩ (.int .u32 (q : Int))) := (Keep.refl (fun b => b = w.heap.size) w7).setCell (p := ⟨w.heap.size, 1, none⟩) (Or.inl rfl) _
            obtain ⟨b1, b2, b3⟩ := h.lt hN1
            have t8 := t7.keep K78 (by omega) (by omega) (by omega)
            have hid : (Tr.node q m1 z (.node j m2 y a)).ids = (Tr.node j (.node q m1 z m2) y a).ids := Tr.rotR_ids (Tr.node j (.node q m1 z m2) y a)
            have R8 : Hang s7 l := S7.hang hl (fun y hy e => n5 y hy (hid ▸ e))
            have htr := turnLeft_any t8 R8 H7 h1 (by rw [S7.N]; exact h2) (by rw [S7.live]; exact h3) (nd_node.2 ⟨n1, by rw [hid]; exact n2, n3, by rw [hid]; exact n4, by rw [hid]; exact n5⟩) c (x := x)
            rw [nodeA_nf] at htr
            clear q0 q1 q2 q3 q4 q5 p0 p1 p2 p3 p4 p5 htl A6 B6
            obtain ⟨q0, q1, q2, q3, q4, q5⟩ := A8.six
            generalize w7.setCell ⟨w.heap.size, 1, none⟩ (.int .u32 (q : Int)) = w8 at A8 K8 K78 t8 htr q0 q1 q2 q3 q4 q5 ⊢
            clear A8 K78 zc zf n1 n2 n3 n4 n5 o1 o2 o3 o4 o5 hnd
            go_wp2_with (go_at_call 78; refine htr.mono ?_; rintro e w9 ⟨rfl, h9⟩)
            go_ret
            rw [hfx]
            exact ⟨rfl, h9.next K8 S7 (fun y hy => by rw [← hfx, Tr.fix_ids, mem_node, ← hid]; exact Or.inr (Or.inr hy))⟩
        · have hfx := Tr.fixB2 (i := i) (x := x) (hlh.symm ▸ e1) (hlh.symm ▸ e3) e2
          have htr := turnLeft_any t6 hl ⟨⟨v1, v2, v3, v4⟩, hm, ha⟩ h1 h2 h3 hnd c
          rw [nodeA_nf] at htr
          rw [decide_eq_false e2]
          clear n1 n2 n3 n4 n5 o1 o2 o3 o4 o5 hnd
          go_wp2_with (go_at_call 78; refine htr.mono ?_; rintro e w9 ⟨rfl, h9⟩)
          go_ret
          rw [hfx]
          exact ⟨rfl, h9.next K6.ownK (Same.refl s _) (fun y hy => hy)⟩
    · have d3 : ¬ (l.h : Int) + 1 < (r.h : Int) := by omega
      have hfx := Tr.fixC (i := i) (x := x) e1 e3
      have hset := set_any t2 hl hr h1 h2 h3 c x bl br
      have H9 := hl.above hr h1 h2 h3 n3 n4 x
      rw [nodeA_nf] at hset
      obtain ⟨q0, q1, q2, q3, q4, q5⟩ := L2.six
      clear n1 n2 n3 n4 n5 hnd
      go_wp2_with (go_at_call 80; refine hset.mono ?_; rintro e w9 ⟨rfl, hm9, hk9⟩)
      go_ret
      rw [hfx]
      exact ⟨rfl, _, t2.own hk9 hm9 rfl, H9, Same.set s (by simp [mem_node]) _, K2.ownK.trans hk9⟩
end Tg
end Go.Proofs.Ytbdankhlbepjoaa
