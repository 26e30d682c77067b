/-
  What cutFirst, join and unhang make of a tree that hangs in the arena: it has one node less.
-/
import Derived.Test.YtbdankhlbepjoaaSettle
import Derived.Test.YtbdankhlbepjoaaDel
namespace Go.Proofs.Ytbdankhlbepjoaa
open Go.ChangeShapes Go.WideShapes Go.ChangeAt Go.RowKit
namespace Tg

theorem Keep.drewN {S : Nat → Prop} {a w : World} (h : Keep S a w) (n : Nat) : Keep S a (w.drewN n) := ⟨h.os, h.tape, h.output, h.size, h.block⟩

set_option maxRecDepth 100000 in
/-- The first node's run lies in its fields. -/
theorem Hang.first {s : Ar} : ∀ {i : Nat} {l : Tr} {x : Rn} {r : Tr}, Hang s (.node i l x r) → ∃ A B C, (1 ≤ (Tr.pop (.node i l x r) .nil).1 ∧ (Tr.pop (.node i l x r) .nil).1 ≤ s.N ∧ s.live (Tr.pop (.node i l x r) .nil).1 = true) ∧ ∀ j, j < 6 → s.fld (Tr.pop (.node i l x r) .nil).1 j = nf A B C (Tr.pop (.node i l x r) .nil).2.1 j
  | i, .nil, x, r, h => by
    obtain ⟨⟨v1, v2, v3, v4⟩, _⟩ := h
    exact ⟨0, r.link, _, ⟨v1, v2, v3⟩, fun j hj => by rw [show (Tr.pop (.node i .nil x r) .nil).1 = i from rfl, v4 j hj, Tr.flds_nf]; rfl⟩
  | i, .node j a y m, x, r, h => Hang.first (i := j) (l := a) (x := y) (r := m) h.2.1

set_option maxRecDepth 100000 in
set_option maxHeartbeats 1000000 in
theorem cutFirst_any : ∀ (l : Tr) {i : Nat} {x : Rn} {r : Tr} {w : World} {b p k : Nat} {s : Ar}, Tb w b p k s → Hang s (.node i l x r) → (Tr.node i l x r).ids.Nodup →
    Calls Try.prog 76 #[.pointer (some ⟨b, 0, none⟩), .int .u32 (i : Int)] w fun e w' => e = .returned (.tuple #[.int .u32 ((Tr.pop (.node i l x r) .nil).1 : Int), .int .u32 ((Tr.pop (.node i l x r) .nil).2.2.link : Int)]) ∧ Aft w b p k s (Tr.pop (.node i l x r) .nil).2.2 w' := by
  intro l
  induction l with
  | nil =>
    intro i x r w b p k s h ht hn
    have hnd := node_any h ht
    obtain ⟨⟨v1, v2, v3, v4⟩, hl, hr⟩ := ht
    rw [Tr.flds_eq, nodeA_nf] at hnd
    generalize hM : ((max Tr.nil.h r.h + 1 : Nat) : Int) = M at hnd
    have h0 : (Tr.nil.link : Int) = 0 := rfl
    rw [h0] at hnd
    have hi : (Tr.node i .nil x r).link = i := rfl
    rw [hi] at hnd
    go_enter Try.func76, Try.ntmps76
    go_wp2_with (go_at_call 63; refine hnd.mono ?_; rintro e w1 ⟨rfl, hk1⟩)
    go_quiet (fail)
    go_wp2_with fail
    have K2 := (hk1.alloc (.cells #[.int .u32 0, .int .u32 (r.link : Int), .int .i64 M, .int .i64 x.lba, .int .i64 x.len, .int .i64 x.phys] 82)).drewN nq
    go_ret2
    exact ⟨rfl, s, h.more K2, hr, Same.refl _ _, K2.ownK⟩
  | node j a y m ia im =>
    intro i x r w b p k s h ht hn
    have hnd := node_any h ht
    obtain ⟨⟨v1, v2, v3, v4⟩, hl, hr⟩ := ht
    obtain ⟨n1, n2, n3, n4, n5⟩ := nd_node.1 hn
    rw [Tr.flds_eq, nodeA_nf] at hnd
    generalize hM : ((max (Tr.node j a y m).h r.h + 1 : Nat) : Int) = M at hnd
    have hi : (Tr.node i (.node j a y m) x r).link = i := rfl
    have hj : (Tr.node j a y m).link = j := rfl
    rw [hi, hj] at hnd
    have v1' := hl.1.1
    have d0 : ((j : Int) == 0) = false := by simp; omega
    have hN1 : 1 ≤ s.N := by omega
    obtain ⟨f, fx, u, hP⟩ : ∃ f fx u, Tr.pop (.node j a y m) .nil = (f, fx, u) := ⟨_, _, _, rfl⟩
    have hpi := Tr.pop_ids j a y m .nil
    rw [hP] at hpi
    have hpop : Tr.pop (.node i (.node j a y m) x r) .nil = (f, fx, (Tr.node i u x r).fix) := by
      rw [show Tr.pop (.node i (.node j a y m) x r) .nil = ((Tr.pop (.node j a y m) .nil).1, (Tr.pop (.node j a y m) .nil).2.1, (Tr.node i (Tr.pop (.node j a y m) .nil).2.2 x r).fix) from rfl, hP]
    rw [hpop]
    go_enter Try.func76, Try.ntmps76
    go_upto_region 2 with (go_at_call 63; refine hnd.mono ?_; rintro e w1 ⟨rfl, hk1⟩)
    have K2 : Keep (fun _ => False) w (w1.alloc (.cells (nodeA (nf j r.link M x)) 82)) := hk1.alloc _
    have L2 := Loc.new w1 j r.link M x
    simp only [nodeA_nf] at K2 L2
    generalize w1.alloc (.cells #[.int .u32 (j : Int), .int .u32 (r.link : Int), .int .i64 M, .int .i64 x.lba, .int .i64 x.len, .int .i64 x.phys] 82) = w2 at K2 L2 ⊢
    have hge := hk1.size
    generalize w1.heap.size = g at hge L2 ⊢
    clear hnd hk1
    have hg : ¬ Own p k g := h.out hN1 hge
    have t2 := h.more K2
    obtain ⟨b1, b2, b3⟩ := h.lt hN1
    have z0 := L2.c0
    have hrec := ia t2 hl n1
    rw [hP] at hrec
    rw [hpi] at n1 n3 n5
    obtain ⟨o1, o2⟩ := List.nodup_cons.1 n1
    go_upto_region 5 with (go_at_call 76; refine hrec.mono ?_; rintro e w3 ⟨rfl, s3, t3, H3, S3, k3⟩; have y0 := (L2.keep k3 hg).c0; have yf := (L2.keep k3 hg).fz (j := 0) (by omega))
    have L4 := (L2.keep k3 hg).set0 u.link
    have K4 : Keep (Own p k) w (w3.setCell ⟨g, 0, none⟩ (.int .u32 (u.link : Int))) := (K2.ownK.trans k3).setCell (p := ⟨g, 0, none⟩) (Or.inr hge) _
    have K34 : Keep (fun b => b = g) w3 (w3.setCell ⟨g, 0, none⟩ (.int .u32 (u.link : Int))) := (Keep.refl (fun b => b = g) w3).setCell (p := ⟨g, 0, none⟩) (Or.inl rfl) _
    have t4 := t3.keep K34 (by omega) (by omega) (by omega)
    have R3 : Hang s3 r := S3.hang hr (fun y hy q => n5 y (by simp [q]) hy)
    have hse := settle_any t4 H3 R3 v1 (by rw [S3.N]; exact v2) (by rw [S3.live]; exact v3) (nd_node.2 ⟨o2, n2, fun q => n3 (by simp [q]), n4, fun y hy q => n5 y (by simp [hy]) q⟩) M (x := x)
    rw [nodeA_nf] at hse
    obtain ⟨q0, q1, q2, q3, q4, q5⟩ := L4.six
    generalize w3.setCell ⟨g, 0, none⟩ (.int .u32 (u.link : Int)) = w4 at L4 K4 K34 t4 hse q0 q1 q2 q3 q4 q5 ⊢
    clear y0 yf z0 L4 K34 ia im hrec L2
    go_wp2_with (go_at_call 74; refine hse.mono ?_; rintro e w5 ⟨rfl, h5⟩)
    go_ret2
    exact ⟨rfl, h5.next K4 S3 (fun y hy => by rw [Tr.fix_ids, mem_node]; exact Or.inl hy)⟩

set_option maxRecDepth 100000 in
set_option maxHeartbeats 1000000 in
theorem join_any {l r : Tr} {w : World} {b p k : Nat} {s : Ar} (h : Tb w b p k s) (hl : Hang s l) (hr : Hang s r) (n1 : l.ids.Nodup) (n2 : r.ids.Nodup) (n5 : ∀ z ∈ l.ids, z ∉ r.ids) :
    Calls Try.prog 73 #[.pointer (some ⟨b, 0, none⟩), .int .u32 (l.link : Int), .int .u32 (r.link : Int)] w fun e w' => e = .returned (.int .u32 ((Tr.join l r).link : Int)) ∧ Aft w b p k s (Tr.join l r) w' := by
  cases r with
  | nil =>
    have h0 : (Tr.nil.link : Int) = 0 := rfl
    rw [h0]
    go_enter Try.func73, Try.ntmps73
    go_wp2_with fail
    go_ret
    exact ⟨rfl, s, h, hl, Same.refl _ _, Keep.refl _ _⟩
  | node i a x c =>
    have hcut := cutFirst_any a h hr n2
    obtain ⟨A, B, C, ⟨f1, f2, f3⟩, f4⟩ := hr.first
    have hpi := Tr.pop_ids i a x c .nil
    have v1 := hr.1.1
    have d0 : ((i : Int) == 0) = false := by simp; omega
    have hjo : Tr.join l (.node i a x c) = (Tr.node (Tr.pop (.node i a x c) .nil).1 l (Tr.pop (.node i a x c) .nil).2.1 (Tr.pop (.node i a x c) .nil).2.2).fix := rfl
    have hi : (Tr.node i a x c).link = i := rfl
    rw [hjo, hi]
    generalize Tr.pop (.node i a x c) .nil = P at hcut f1 f2 f3 f4 hpi ⊢
    obtain ⟨f, y, u⟩ := P
    simp only at hcut f1 f2 f3 f4 hpi ⊢
    rw [hpi] at n2 n5
    obtain ⟨o1, o2⟩ := List.nodup_cons.1 n2
    have hN1 : 1 ≤ s.N := by omega
    obtain ⟨b1, b2, b3⟩ := h.lt hN1
    go_enter Try.func73, Try.ntmps73
    go_upto_region 4 with (go_at_call 76; refine hcut.mono ?_; rintro e w1 ⟨rfl, s1, t1, H1, S1, k1⟩)
    have hnd := nodeAt_any t1 f1 (by rw [S1.N]; exact f2) (by rw [S1.live]; exact f3) (n := nf A B C y) (fun j hj => by rw [S1.fld f o1]; exact f4 j hj)
    rw [nodeA_nf] at hnd
    go_upto_region 5 with (go_at_call 63; refine hnd.mono ?_; rintro e w2 ⟨rfl, hk2⟩)
    have K3 : Keep (Own p k) w (w2.alloc (.cells (nodeA (nf A B C y)) 82)) := k1.trans (hk2.ownK.alloc _)
    have L3 := Loc.new w2 A B C y
    have hge : w.heap.size ≤ w2.heap.size := (k1.trans hk2.ownK).size
    have t3 := t1.more (hk2.alloc (.cells (nodeA (nf A B C y)) 82))
    simp only [nodeA_nf] at K3 L3 t3
    generalize w2.alloc (.cells #[.int .u32 (A : Int), .int .u32 (B : Int), .int .i64 C, .int .i64 y.lba, .int .i64 y.len, .int .i64 y.phys] 82) = w3 at K3 L3 t3 ⊢
    generalize w2.heap.size = g at hge L3 ⊢
    have z0 := L3.c0
    have z1 := L3.c1
    have y0 := L3.fz (j := 0) (by omega)
    have y1 := L3.fz (j := 1) (by omega)
    clear hnd hcut
    go_upto_region 6 with fail
    have L4 := (L3.set0 l.link).set1 u.link
    have K4 : Keep (Own p k) w ((w3.setCell ⟨g, 0, none⟩ (.int .u32 (l.link : Int))).setCell ⟨g, 1, none⟩ (.int .u32 (u.link : Int))) := (K3.setCell (p := ⟨g, 0, none⟩) (Or.inr hge) _).setCell (p := ⟨g, 1, none⟩) (Or.inr hge) _
    have K34 : Keep (fun b => b = g) w3 ((w3.setCell ⟨g, 0, none⟩ (.int .u32 (l.link : Int))).setCell ⟨g, 1, none⟩ (.int .u32 (u.link : Int))) := ((Keep.refl (fun b => b = g) w3).setCell (p := ⟨g, 0, none⟩) (Or.inl rfl) _).setCell (p := ⟨g, 1, none⟩) (Or.inl rfl) _
    have t4 := t3.keep K34 (by omega) (by omega) (by omega)
    have R1 : Hang s1 l := S1.hang hl (fun y hy q => n5 y hy (by simp [q]))
    have hse := settle_any t4 R1 H1 f1 (by rw [S1.N]; exact f2) (by rw [S1.live]; exact f3) (nd_node.2 ⟨n1, o2, fun q => n5 f q (by simp), o1, fun y hy q => n5 y hy (by simp [q])⟩) C (x := y)
    rw [nodeA_nf] at hse
    obtain ⟨q0, q1, q2, q3, q4, q5⟩ := L4.six
    generalize (w3.setCell ⟨g, 0, none⟩ (.int .u32 (l.link : Int))).setCell ⟨g, 1, none⟩ (.int .u32 (u.link : Int)) = w4 at L4 K4 K34 t4 hse q0 q1 q2 q3 q4 q5 ⊢
    clear z0 z1 y0 y1 L4 K34 L3
    go_wp2_with (go_at_call 74; refine hse.mono ?_; rintro e w5 ⟨rfl, h5⟩)
    go_ret
    exact ⟨rfl, h5.next K4 S1 (fun y hy => by rw [Tr.fix_ids, mem_node]; exact Or.inr (Or.inr hy))⟩

set_option maxRecDepth 100000 in
set_option maxHeartbeats 1000000 in
theorem unhang_any {v : Int} : ∀ (t : Tr) {w : World} {b p k : Nat} {s : Ar}, Tb w b p k s → Hang s t → t.ids.Nodup → t.Has v →
    Calls Try.prog 67 #[.pointer (some ⟨b, 0, none⟩), .int .u32 (t.link : Int), .int .i64 v] w fun e w' => e = .returned (.int .u32 ((t.del v).link : Int)) ∧ Aft w b p k s (t.del v) w' := by
  intro t
  induction t with
  | nil => intro w b p k s h ht hn hz; exact hz.elim
  | node i l x r il ir =>
    intro w b p k s h ht hn hz
    have hnd := node_any h ht
    obtain ⟨⟨v1, v2, v3, v4⟩, hl, hr⟩ := ht
    obtain ⟨n1, n2, n3, n4, n5⟩ := nd_node.1 hn
    rw [Tr.flds_eq, nodeA_nf] at hnd
    generalize hM : ((max l.h r.h + 1 : Nat) : Int) = M at hnd
    have hi : (Tr.node i l x r).link = i := rfl
    rw [hi] at hnd
    rw [hi]
    have hN1 : 1 ≤ s.N := by omega
    go_enter Try.func67, Try.ntmps67
    go_upto_region 2 with (go_at_call 63; refine hnd.mono ?_; rintro e w1 ⟨rfl, hk1⟩)
    have K2 : Keep (fun _ => False) w (w1.alloc (.cells (nodeA (nf l.link r.link M x)) 82)) := hk1.alloc _
    have L2 := Loc.new w1 l.link r.link M x
    simp only [nodeA_nf] at K2 L2
    generalize w1.alloc (.cells #[.int .u32 (l.link : Int), .int .u32 (r.link : Int), .int .i64 M, .int .i64 x.lba, .int .i64 x.len, .int .i64 x.phys] 82) = w2 at K2 L2 ⊢
    have hge := hk1.size
    generalize w1.heap.size = g at hge L2 ⊢
    clear hnd hk1
    have hg : ¬ Own p k g := h.out hN1 hge
    have t2 := h.more K2
    obtain ⟨b1, b2, b3⟩ := h.lt hN1
    have z0 := L2.c0
    have z1 := L2.c1
    have z3 := L2.c3
    rcases hz with hz | ⟨hlt, hz⟩ | ⟨hlt, hz⟩
    · have hjo := join_any t2 hl hr n1 n2 n5
      have hfx : (Tr.node i l x r).del v = Tr.join l r := by rw [Tr.del, if_pos hz]
      have d0 : (x.lba == v) = true := by simp [hz]
      have hz' : Hid (x.lba = v) := hz
      clear hz il ir
      go_wp2_with (go_at_call 73; refine hjo.mono ?_; rintro e w5 ⟨rfl, h5⟩)
      go_ret
      rw [hfx]
      exact ⟨rfl, h5.next K2.ownK (Same.refl s _) (fun y hy => hy)⟩
    · have hrec := il t2 hl n1 hz
      have d0 : (x.lba == v) = false := by simp; omega
      go_upto_region 7 with (go_at_call 67; refine hrec.mono ?_; rintro e w3 ⟨rfl, s3, t3, H3, S3, k3⟩; have y0 := (L2.keep k3 hg).c0; have yf := (L2.keep k3 hg).fz (j := 0) (by omega))
      have L4 := (L2.keep k3 hg).set0 (Tr.del v l).link
      have K4 : Keep (Own p k) w (w3.setCell ⟨g, 0, none⟩ (.int .u32 ((Tr.del v l).link : Int))) := (K2.ownK.trans k3).setCell (p := ⟨g, 0, none⟩) (Or.inr hge) _
      have K34 : Keep (fun b => b = g) w3 (w3.setCell ⟨g, 0, none⟩ (.int .u32 ((Tr.del v l).link : Int))) := (Keep.refl (fun b => b = g) w3).setCell (p := ⟨g, 0, none⟩) (Or.inl rfl) _
      have t4 := t3.keep K34 (by omega) (by omega) (by omega)
      have hfx : (Tr.node i l x r).del v = (Tr.node i (Tr.del v l) x r).fix := by rw [Tr.del, if_neg (by omega), if_pos (by omega)]
      have hsub : ∀ z, z ∈ (Tr.del v l).ids → z ∈ l.ids := fun z q => (Tr.del_sub v l).subset q
      have R3 : Hang s3 r := S3.hang hr (fun y hy q => n5 y (hsub y q) hy)
      have hse := settle_any t4 H3 R3 v1 (by rw [S3.N]; exact v2) (by rw [S3.live]; exact v3) (nd_node.2 ⟨(Tr.del_sub v l).nodup n1, n2, fun q => n3 (hsub _ q), n4, fun y hy q => n5 y (hsub _ hy) q⟩) M (x := x)
      rw [nodeA_nf] at hse
      obtain ⟨q0, q1, q2, q3, q4, q5⟩ := L4.six
      generalize w3.setCell ⟨g, 0, none⟩ (.int .u32 ((Tr.del v l).link : Int)) = w4 at L4 K4 K34 t4 hse q0 q1 q2 q3 q4 q5 ⊢
      clear y0 yf z0 z1 z3 L4 K34 il ir hrec L2
      go_wp2_with (go_at_call 74; refine hse.mono ?_; rintro e w5 ⟨rfl, h5⟩)
      go_ret
      rw [hfx]
      exact ⟨rfl, h5.next K4 S3 (fun y hy => by rw [Tr.fix_ids, mem_node]; exact Or.inl hy)⟩
    · have hrec := ir t2 hr n2 hz
      have d0 : (x.lba == v) = false := by simp; omega
      have d1 : ¬ v < x.lba := by omega
      go_upto_region 7 with (go_at_call 67; refine hrec.mono ?_; rintro e w3 ⟨rfl, s3, t3, H3, S3, k3⟩; have y0 := (L2.keep k3 hg).c1; have yf := (L2.keep k3 hg).fz (j := 1) (by omega))
      have L4 := (L2.keep k3 hg).set1 (Tr.del v r).link
      have K4 : Keep (Own p k) w (w3.setCell ⟨g, 1, none⟩ (.int .u32 ((Tr.del v r).link : Int))) := (K2.ownK.trans k3).setCell (p := ⟨g, 1, none⟩) (Or.inr hge) _
      have K34 : Keep (fun b => b = g) w3 (w3.setCell ⟨g, 1, none⟩ (.int .u32 ((Tr.del v r).link : Int))) := (Keep.refl (fun b => b = g) w3).setCell (p := ⟨g, 1, none⟩) (Or.inl rfl) _
      have t4 := t3.keep K34 (by omega) (by omega) (by omega)
      have hfx : (Tr.node i l x r).del v = (Tr.node i l x (Tr.del v r)).fix := by rw [Tr.del, if_neg (by omega), if_neg (by omega)]
      have hsub : ∀ z, z ∈ (Tr.del v r).ids → z ∈ r.ids := fun z q => (Tr.del_sub v r).subset q
      have R3 : Hang s3 l := S3.hang hl (fun y hy q => n5 y hy (hsub y q))
      have hse := settle_any t4 R3 H3 v1 (by rw [S3.N]; exact v2) (by rw [S3.live]; exact v3) (nd_node.2 ⟨n1, (Tr.del_sub v r).nodup n2, n3, fun q => n4 (hsub _ q), fun y hy q => n5 y hy (hsub _ q)⟩) M (x := x)
      rw [nodeA_nf] at hse
      obtain ⟨q0, q1, q2, q3, q4, q5⟩ := L4.six
      generalize w3.setCell ⟨g, 1, none⟩ (.int .u32 ((Tr.del v r).link : Int)) = w4 at L4 K4 K34 t4 hse q0 q1 q2 q3 q4 q5 ⊢
      clear y0 yf z0 z1 z3 L4 K34 il ir hrec L2
      go_wp2_with (go_at_call 74; refine hse.mono ?_; rintro e w5 ⟨rfl, h5⟩)
      go_ret
      rw [hfx]
      exact ⟨rfl, h5.next K4 S3 (fun y hy => by rw [Tr.fix_ids, mem_node]; exact Or.inr (Or.inr hy))⟩
end Tg
end Go.Proofs.Ytbdankhlbepjoaa
