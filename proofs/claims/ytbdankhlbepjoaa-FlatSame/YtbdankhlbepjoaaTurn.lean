/-
  What turnRight, turnLeft and settle make of a tree that hangs in the arena.
-/
import Derived.Test.YtbdankhlbepjoaaTree
import Derived.Deep.CutBlock
namespace Go.Proofs.Ytbdankhlbepjoaa
open Go.ChangeShapes Go.WideShapes Go.ChangeAt Go.RowKit
namespace Tg

/-- An arena as it was but for the fields of some nodes. -/
structure Same (s t : Ar) (S : List Nat) : Prop where
  N : t.N = s.N
  first : t.first = s.first
  count : t.count = s.count
  live : t.live = s.live
  next : t.next = s.next
  fld : ∀ y, y ∉ S → t.fld y = s.fld y

set_option maxRecDepth 100000 in
theorem Same.refl (s : Ar) (S : List Nat) : Same s s S := ⟨rfl, rfl, rfl, rfl, rfl, fun _ _ => rfl⟩
set_option maxRecDepth 100000 in
theorem Same.set (s : Ar) {S : List Nat} {i : Nat} (hi : i ∈ S) (n : Nat → Int) : Same s (s.set i n) S :=
  ⟨rfl, rfl, rfl, rfl, rfl, fun y hy => by funext j; simp only [Ar.set]; rw [if_neg (by rintro rfl; exact hy hi)]⟩
theorem Same.trans {s t u : Ar} {S : List Nat} (h : Same s t S) (k : Same t u S) : Same s u S :=
  ⟨k.N.trans h.N, k.first.trans h.first, k.count.trans h.count, k.live.trans h.live, k.next.trans h.next, fun y hy => (k.fld y hy).trans (h.fld y hy)⟩
theorem Same.mono {s t : Ar} {S U : List Nat} (h : Same s t S) (e : ∀ x ∈ S, x ∈ U) : Same s t U :=
  ⟨h.N, h.first, h.count, h.live, h.next, fun y hy => h.fld y (fun x => hy (e y x))⟩
theorem Same.hang {s t : Ar} {S : List Nat} (h : Same s t S) {u : Tr} (hu : Hang s u) (e : ∀ i ∈ u.ids, i ∉ S) : Hang t u :=
  hu.congr h.N (fun i hi => ⟨by rw [h.live], fun j _ => by rw [h.fld i (e i hi)]⟩)
theorem Same.ok {s t : Ar} {S : List Nat} (h : Same s t S) {l : List Nat} (ok : s.Ok l) : t.Ok l :=
  ⟨by rw [h.N]; exact ok.small, by rw [h.N]; exact ok.one, ok.nodup, by rw [h.N]; exact ok.range, by rw [h.N, h.live]; exact ok.live, by rw [h.next, h.first]; exact ok.lnk, by rw [h.N, h.count]; exact ok.count, by rw [h.next]; exact ok.nx⟩

/-- What a call leaves: the tree hangs in the arena, all else is as it was. -/
def Aft (w : World) (b p k : Nat) (s : Ar) (t : Tr) (w' : World) : Prop := ∃ s', Tb w' b p k s' ∧ Hang s' t ∧ Same s s' t.ids ∧ Keep (Own p k) w w'

theorem Tr.h_le : ∀ t : Tr, t.h ≤ t.ids.length
  | .nil => by simp [Tr.h]
  | .node i l x r => by
    have := Tr.h_le l
    have := Tr.h_le r
    simp [Tr.h, Tr.ids_node]; omega
theorem Hang.len {s : Ar} {u : Tr} (h : Hang s u) (hn : u.ids.Nodup) : u.ids.length ≤ s.N := by
  have : u.ids.length ≤ (List.range' 1 s.N).length := List.Nodup.length_le_of_subset hn (fun y hy => by
    rw [List.mem_range'_1]; have := h.live y hy; omega)
  simpa using this
theorem Hang.h_le {s : Ar} {u : Tr} (h : Hang s u) (hn : u.ids.Nodup) (hN : s.N ≤ 512) : u.h ≤ 512 := by
  have := h.len hn
  have := u.h_le
  omega

set_option maxRecDepth 100000 in
theorem nd_node {i : Nat} {l : Tr} {x : Rn} {r : Tr} : (Tr.node i l x r).ids.Nodup ↔ l.ids.Nodup ∧ r.ids.Nodup ∧ i ∉ l.ids ∧ i ∉ r.ids ∧ ∀ z ∈ l.ids, z ∉ r.ids := by
  rw [Tr.ids_node, List.nodup_append, List.nodup_cons]
  constructor
  · rintro ⟨h1, ⟨h2, h3⟩, h4⟩
    exact ⟨h1, h3, fun e => h4 i e i (by simp) rfl, h2, fun z hz e => h4 z hz z (by simp [e]) rfl⟩
  · rintro ⟨h1, h2, h3, h4, h5⟩
    refine ⟨h1, ⟨h4, h2⟩, fun z hz y hy e => ?_⟩
    subst e
    rcases List.mem_cons.1 hy with rfl | hy
    · exact h3 hz
    · exact h5 z hz hy
theorem mem_node {z i : Nat} {l : Tr} {x : Rn} {r : Tr} : z ∈ (Tr.node i l x r).ids ↔ z ∈ l.ids ∨ z = i ∨ z ∈ r.ids := by
  rw [Tr.ids_node]; simp

set_option maxRecDepth 100000 in
set_option maxHeartbeats 1000000 in
theorem turnRight_any {w : World} {b p k : Nat} {s : Ar} (h : Tb w b p k s) {i j : Nat} {a m r : Tr} {x y : Rn} (hl : Hang s (.node j a y m)) (hr : Hang s r) (h1 : 1 ≤ i) (h2 : i ≤ s.N) (h3 : s.live i = true)
    (hnd : (Tr.node i (.node j a y m) x r).ids.Nodup) (c : Int) :
    Calls Try.prog 79 #[.pointer (some ⟨b, 0, none⟩), .int .u32 (i : Int), .agg (nodeA (nf j r.link c x))] w fun e w' => e = .returned (.int .u32 (j : Int)) ∧ Aft w b p k s (.node j a y (.node i m x r)) w' := by
  have hk1 : Keep (fun _ => False) w (w.alloc (.cells (nodeA (nf j r.link c x)) 82)) := (Keep.refl _ _).alloc _
  have t1 := h.more hk1
  have L1 := Loc.new w j r.link c x
  have hn1 := node_any t1 hl
  rw [Tr.flds_eq] at hn1
  have hj : (Tr.node j a y m).link = j := rfl
  rw [hj] at hn1
  simp only [nodeA_nf] at hk1 t1 L1 hn1 ⊢
  generalize hM : ((max a.h m.h + 1 : Nat) : Int) = M at hn1
  go_enter Try.func79, Try.ntmps79
  go_upto_region 3 with (go_at_call 63; refine hn1.mono ?_; rintro e w1 ⟨rfl, hk2⟩)
  have K2 : Keep (fun _ => False) w (w1.alloc (.cells (nodeA (nf a.link m.link M y)) 82)) := (hk1.trans hk2).alloc _
  have A2 : Loc (w1.alloc (.cells (nodeA (nf a.link m.link M y)) 82)) w.heap.size j r.link c x := (L1.more hk2).more ((Keep.refl _ _).alloc _)
  have B2 := Loc.new w1 a.link m.link M y
  have hne : w.heap.size < w1.heap.size := by have := hk2.size; simp at this; omega
  have hge : w.heap.size ≤ w1.heap.size := by omega
  simp only [nodeA_nf] at K2 A2 B2
  generalize w1.alloc (.cells #[.int .u32 (a.link : Int), .int .u32 (m.link : Int), .int .i64 M, .int .i64 y.lba, .int .i64 y.len, .int .i64 y.phys] 82) = w2 at K2 A2 B2 ⊢
  generalize w1.heap.size = g at hne hge B2 ⊢
  clear hn1 hk1 hk2 L1 t1
  have z1 := A2.c0
  have z2 := A2.fz (j := 0) (by omega)
  have z3 := B2.c1
  have z4 := B2.fz (j := 1) (by omega)
  have z5 : w.heap.size ≠ g := by omega
  go_upto_region 4 with fail
  have A3 := (A2.set0 m.link).keep ((Keep.refl (fun b => b = g) _).setCell (p := ⟨g, 1, none⟩) (Or.inl rfl) (.int .u32 (i : Int))) (by omega)
  have B3 := (B2.keep ((Keep.refl (fun b => b = w.heap.size) _).setCell (p := ⟨w.heap.size, 0, none⟩) (Or.inl rfl) (.int .u32 (m.link : Int))) (by omega)).set1 i
  have K3 := (K2.setCell (p := ⟨w.heap.size, 0, none⟩) (Or.inr (Nat.le_refl _)) (.int .u32 (m.link : Int))).setCell (p := ⟨g, 1, none⟩) (Or.inr hge) (.int .u32 (i : Int))
  generalize (w2.setCell ⟨w.heap.size, 0, none⟩ (.int .u32 (m.link : Int))).setCell ⟨g, 1, none⟩ (.int .u32 (i : Int)) = w3 at A3 B3 K3 ⊢
  clear z1 z2 z3 z4 A2 B2 K2
  obtain ⟨n1, n2, n3, n4, n5⟩ := nd_node.1 hnd
  obtain ⟨o1, o2, o3, o4, o5⟩ := nd_node.1 n1
  rw [mem_node] at n3
  obtain ⟨⟨v1, v2, v3, v4⟩, ha, hm⟩ := hl
  have hN := h.small
  have ba := ha.h_le o1 hN
  have bm := hm.h_le o2 hN
  have br := hr.h_le n2 hN
  have t3 := h.more K3
  have hg : ¬ Own p k g := h.out (by omega) hge
  have hset := set_any t3 hm hr h1 h2 h3 c x bm br
  have H1 := hm.above hr h1 h2 h3 (fun e => n3 (Or.inr (Or.inr e))) n4 x
  have H0 := ha.set (x := i) (fun e => n3 (Or.inl e)) (Tr.node i m x r).flds
  have N1 : (Tr.node i m x r).ids.Nodup := nd_node.2 ⟨o2, n2, fun e => n3 (Or.inr (Or.inr e)), n4, fun z hz => n5 z (mem_node.2 (Or.inr (Or.inr hz)))⟩
  have bt := H1.h_le N1 hN
  obtain ⟨q0, q1, q2, q3, q4, q5⟩ := A3.six
  have HS : Same s ((s.set i (Tr.node i m x r).flds).set j (Tr.node j a y (Tr.node i m x r)).flds) (Tr.node j a y (Tr.node i m x r)).ids := (Same.set s (by simp [mem_node]) _).trans (Same.set _ (by simp [mem_node]) _)
  have H2 := H0.above H1 v1 (show j ≤ (s.set i (Tr.node i m x r).flds).N from v2) v3 o3 (fun e => by rcases mem_node.1 e with e | e | e; exact o4 e; (subst e; exact n3 (Or.inr (Or.inl rfl))); exact n5 j (mem_node.2 (Or.inr (Or.inl rfl))) e) y
  rw [nodeA_nf] at hset
  clear hM hnd ha hm hr
  go_upto_region 5 with (go_at_call 80; refine hset.mono ?_; rintro e w4 ⟨rfl, hm4, hk4⟩)
  clear q0 q1 q2 q3 q4 q5 hset
  have t4 := t3.own hk4 hm4 rfl
  have hset := set_any t4 H0 H1 v1 v2 v3 M y ba bt
  rw [nodeA_nf, show (Tr.node i m x r).link = i from rfl] at hset
  obtain ⟨q0, q1, q2, q3, q4, q5⟩ := (B3.keep hk4 hg).six
  go_wp2_with (go_at_call 80; refine hset.mono ?_; rintro e w5 ⟨rfl, hm5, hk5⟩)
  go_ret
  exact ⟨rfl, _, t4.own hk5 hm5 rfl, H2, HS, ((K3.mono (fun _ _ e => e.elim)).trans hk4).trans hk5⟩

set_option maxRecDepth 100000 in
set_option maxHeartbeats 1000000 in
theorem turnLeft_any {w : World} {b p k : Nat} {s : Ar} (h : Tb w b p k s) {i j : Nat} {a m r : Tr} {x y : Rn} (ha : Hang s a) (hl : Hang s (.node j m y r)) (h1 : 1 ≤ i) (h2 : i ≤ s.N) (h3 : s.live i = true)
    (hnd : (Tr.node i a x (.node j m y r)).ids.Nodup) (c : Int) :
    Calls Try.prog 78 #[.pointer (some ⟨b, 0, none⟩), .int .u32 (i : Int), .agg (nodeA (nf a.link j c x))] w fun e w' => e = .returned (.int .u32 (j : Int)) ∧ Aft w b p k s (.node j (.node i a x m) y r) w' := by
  have hk1 : Keep (fun _ => False) w (w.alloc (.cells (nodeA (nf a.link j c x)) 82)) := (Keep.refl _ _).alloc _
  have t1 := h.more hk1
  have L1 := Loc.new w a.link j c x
  have hn1 := node_any t1 hl
  rw [Tr.flds_eq] at hn1
  have hj : (Tr.node j m y r).link = j := rfl
  rw [hj] at hn1
  simp only [nodeA_nf] at hk1 t1 L1 hn1 ⊢
  generalize hM : ((max m.h r.h + 1 : Nat) : Int) = M at hn1
  go_enter Try.func78, Try.ntmps78
  go_upto_region 3 with (go_at_call 63; refine hn1.mono ?_; rintro e w1 ⟨rfl, hk2⟩)
  have K2 : Keep (fun _ => False) w (w1.alloc (.cells (nodeA (nf m.link r.link M y)) 82)) := (hk1.trans hk2).alloc _
  have A2 : Loc (w1.alloc (.cells (nodeA (nf m.link r.link M y)) 82)) w.heap.size a.link j c x := (L1.more hk2).more ((Keep.refl _ _).alloc _)
  have B2 := Loc.new w1 m.link r.link M y
  have hne : w.heap.size < w1.heap.size := by have := hk2.size; simp at this; omega
  have hge : w.heap.size ≤ w1.heap.size := by omega
  simp only [nodeA_nf] at K2 A2 B2
  generalize w1.alloc (.cells #[.int .u32 (m.link : Int), .int .u32 (r.link : Int), .int .i64 M, .int .i64 y.lba, .int .i64 y.len, .int .i64 y.phys] 82) = w2 at K2 A2 B2 ⊢
  generalize w1.heap.size = g at hne hge B2 ⊢
  clear hn1 hk1 hk2 L1 t1
  have z1 := A2.c1
  have z2 := A2.fz (j := 1) (by omega)
  have z3 := B2.c0
  have z4 := B2.fz (j := 0) (by omega)
  have z5 : w.heap.size ≠ g := by omega
  go_upto_region 4 with fail
  have A3 := (A2.set1 m.link).keep ((Keep.refl (fun b => b = g) _).setCell (p := ⟨g, 0, none⟩) (Or.inl rfl) (.int .u32 (i : Int))) (by omega)
  have B3 := (B2.keep ((Keep.refl (fun b => b = w.heap.size) _).setCell (p := ⟨w.heap.size, 1, none⟩) (Or.inl rfl) (.int .u32 (m.link : Int))) (by omega)).set0 i
  have K3 := (K2.setCell (p := ⟨w.heap.size, 1, none⟩) (Or.inr (Nat.le_refl _)) (.int .u32 (m.link : Int))).setCell (p := ⟨g, 0, none⟩) (Or.inr hge) (.int .u32 (i : Int))
  generalize (w2.setCell ⟨w.heap.size, 1, none⟩ (.int .u32 (m.link : Int))).setCell ⟨g, 0, none⟩ (.int .u32 (i : Int)) = w3 at A3 B3 K3 ⊢
  clear z1 z2 z3 z4 A2 B2 K2
  obtain ⟨n1, n2, n3, n4, n5⟩ := nd_node.1 hnd
  obtain ⟨o1, o2, o3, o4, o5⟩ := nd_node.1 n2
  rw [mem_node] at n4
  obtain ⟨⟨v1, v2, v3, v4⟩, hm, hr⟩ := hl
  have hN := h.small
  have ba := ha.h_le n1 hN
  have bm := hm.h_le o1 hN
  have br := hr.h_le o2 hN
  have t3 := h.more K3
  have hg : ¬ Own p k g := h.out (by omega) hge
  have hset := set_any t3 ha hm h1 h2 h3 c x ba bm
  have H1 := ha.above hm h1 h2 h3 n3 (fun e => n4 (Or.inl e)) x
  have H0 := hr.set (x := i) (fun e => n4 (Or.inr (Or.inr e))) (Tr.node i a x m).flds
  have N1 : (Tr.node i a x m).ids.Nodup := nd_node.2 ⟨n1, o1, n3, fun e => n4 (Or.inl e), fun z hz e => n5 z hz (mem_node.2 (Or.inl e))⟩
  have bt := H1.h_le N1 hN
  obtain ⟨q0, q1, q2, q3, q4, q5⟩ := A3.six
  have HS : Same s ((s.set i (Tr.node i a x m).flds).set j (Tr.node j (Tr.node i a x m) y r).flds) (Tr.node j (Tr.node i a x m) y r).ids := (Same.set s (by simp [mem_node]) _).trans (Same.set _ (by simp [mem_node]) _)
  have H2 := H1.above H0 v1 (show j ≤ (s.set i (Tr.node i a x m).flds).N from v2) v3 (fun e => by rcases mem_node.1 e with e | e | e; exact n5 j e (mem_node.2 (Or.inr (Or.inl rfl))); (subst e; exact n4 (Or.inr (Or.inl rfl))); exact o3 e) o4 y
  rw [nodeA_nf] at hset
  clear hM hnd ha hm hr
  go_upto_region 5 with (go_at_call 80; refine hset.mono ?_; rintro e w4 ⟨rfl, hm4, hk4⟩)
  clear q0 q1 q2 q3 q4 q5 hset
  have t4 := t3.own hk4 hm4 rfl
  have hset := set_any t4 H1 H0 v1 v2 v3 M y bt br
  rw [nodeA_nf, show (Tr.node i a x m).link = i from rfl] at hset
  obtain ⟨q0, q1, q2, q3, q4, q5⟩ := (B3.keep hk4 hg).six
  go_wp2_with (go_at_call 80; refine hset.mono ?_; rintro e w5 ⟨rfl, hm5, hk5⟩)
  go_ret
  exact ⟨rfl, _, t4.own hk5 hm5 rfl, H2, HS, ((K3.mono (fun _ _ e => e.elim)).trans hk4).trans hk5⟩
end Tg
end Go.Proofs.Ytbdankhlbepjoaa
