/-
  What hang makes of a tree that hangs in the arena: it has one node more.
-/
import Derived.Test.YtbdankhlbepjoaaSettle
import Derived.Test.YtbdankhlbepjoaaDel
namespace Go.Proofs.Ytbdankhlbepjoaa
open Go.ChangeShapes Go.WideShapes Go.ChangeAt Go.RowKit
namespace Tg

set_option maxRecDepth 100000 in
set_option maxHeartbeats 1000000 in
theorem hang_any {n : Nat} {v : Rn} : ∀ (t : Tr) {w : World} {b p k : Nat} {s : Ar}, Tb w b p k s → Hang s t → Hang s (.node n .nil v .nil) → t.ids.Nodup → n ∉ t.ids →
    Calls Try.prog 71 #[.pointer (some ⟨b, 0, none⟩), .int .u32 (t.link : Int), .int .u32 (n : Int), .int .i64 v.lba] w fun e w' => e = .returned (.int .u32 ((t.ins n v).link : Int)) ∧ Aft w b p k s (t.ins n v) w' := by
  intro t
  induction t with
  | nil =>
    intro w b p k s h ht hv hn hz
    have h0 : (Tr.nil.link : Int) = 0 := rfl
    rw [h0]
    go_enter Try.func71, Try.ntmps71
    go_wp2_with fail
    go_ret
    exact ⟨rfl, s, h, hv, Same.refl _ _, Keep.refl _ _⟩
  | node i l x r il ir =>
    intro w b p k s h ht hv hn hz
    have hnd := node_any h ht
    obtain ⟨⟨v1, v2, v3, v4⟩, hl, hr⟩ := ht
    obtain ⟨n1, n2, n3, n4, n5⟩ := nd_node.1 hn
    rw [mem_node] at hz
    rw [Tr.flds_eq, nodeA_nf] at hnd
    generalize hM : ((max l.h r.h + 1 : Nat) : Int) = M at hnd
    have hi : (Tr.node i l x r).link = i := rfl
    rw [hi] at hnd
    rw [hi]
    have d0 : ((i : Int) == 0) = false := by simp; omega
    have hN1 : 1 ≤ s.N := by omega
    go_enter Try.func71, Try.ntmps71
    go_upto_region 4 with (go_at_call 63; refine hnd.mono ?_; rintro e w1 ⟨rfl, hk1⟩)
    have K2 : Keep (fun _ => False) w (w1.alloc (.cells (nodeA (nf l.link r.link M x)) 82)) := hk1.alloc _
    have L2 := Loc.new w1 l.link r.link M x
    simp only [nodeA_nf] at K2 L2
    generalize w1.alloc (.cells #[.int .u32 (l.link : Int), .int .u32 (r.link : Int), .int .i64 M, .int .i64 x.lba, .int .i64 x.len, .int .i64 x.phys] 82) = w2 at K2 L2 ⊢
    have hge := hk1.size
    generalize w1.heap.size = g at hge L2 ⊢
    clear hnd hk1
    have hg : ¬ Own p k g := h.out hN1 hge
    have t2 := h.more K2
    obtain ⟨b1, b2, b3⟩ := h.lt hN1
    have z0 := L2.c0
    have z1 := L2.c1
    have z3 := L2.c3
    by_cases e : v.lba < x.lba
    · have hrec := il t2 hl hv n1 (fun q => hz (Or.inl q))
      go_upto_region 7 with (go_at_call 71; refine hrec.mono ?_; rintro e w3 ⟨rfl, s3, t3, H3, S3, k3⟩; have y0 := (L2.keep k3 hg).c0; have yf := (L2.keep k3 hg).fz (j := 0) (by omega))
      have L4 := (L2.keep k3 hg).set0 (Tr.ins n v l).link
      have K4 : Keep (Own p k) w (w3.setCell ⟨g, 0, none⟩ (.int .u32 ((Tr.ins n v l).link : Int))) := (K2.ownK.trans k3).setCell (p := ⟨g, 0, none⟩) (Or.inr hge) _
      have K34 : Keep (fun b => b = g) w3 (w3.setCell ⟨g, 0, none⟩ (.int .u32 ((Tr.ins n v l).link : Int))) := (Keep.refl (fun b => b = g) w3).setCell (p := ⟨g, 0, none⟩) (Or.inl rfl) _
      have t4 := t3.keep K34 (by omega) (by omega) (by omega)
      have hfx : (Tr.node i l x r).ins n v = (Tr.node i (Tr.ins n v l) x r).fix := by rw [Tr.ins, if_pos e]
      have R3 : Hang s3 r := S3.hang hr (fun y hy q => by rcases Tr.mem_ins.1 q with rfl | q; exact hz (Or.inr (Or.inr hy)); exact n5 y q hy)
      have hse := settle_any t4 H3 R3 v1 (by rw [S3.N]; exact v2) (by rw [S3.live]; exact v3) (nd_node.2 ⟨Tr.ins_nd n1 (fun q => hz (Or.inl q)), n2, fun q => by (rcases Tr.mem_ins.1 q with q | q; exact hz (Or.inr (Or.inl q.symm)); exact n3 q), n4, fun y hy q => by (rcases Tr.mem_ins.1 hy with rfl | hy; exact hz (Or.inr (Or.inr q)); exact n5 y hy q)⟩) M (x := x)
      rw [nodeA_nf] at hse
      obtain ⟨q0, q1, q2, q3, q4, q5⟩ := L4.six
      generalize w3.setCell ⟨g, 0, none⟩ (.int .u32 ((Tr.ins n v l).link : Int)) = w4 at L4 K4 K34 t4 hse q0 q1 q2 q3 q4 q5 ⊢
      clear y0 yf z0 z1 z3 L4 K34 il ir hrec L2
      go_wp2_with (go_at_call 74; refine hse.mono ?_; rintro e w5 ⟨rfl, h5⟩)
      go_ret
      rw [hfx]
      exact ⟨rfl, h5.next K4 S3 (fun y hy => by rw [Tr.fix_ids, mem_node]; exact Or.inl hy)⟩
    · have hrec := ir t2 hr hv n2 (fun q => hz (Or.inr (Or.inr q)))
      go_upto_region 7 with (go_at_call 71; refine hrec.mono ?_; rintro e w3 ⟨rfl, s3, t3, H3, S3, k3⟩; have y0 := (L2.keep k3 hg).c1; have yf := (L2.keep k3 hg).fz (j := 1) (by omega))
      have L4 := (L2.keep k3 hg).set1 (Tr.ins n v r).link
      have K4 : Keep (Own p k) w (w3.setCell ⟨g, 1, none⟩ (.int .u32 ((Tr.ins n v r).link : Int))) := (K2.ownK.trans k3).setCell (p := ⟨g, 1, none⟩) (Or.inr hge) _
      have K34 : Keep (fun b => b = g) w3 (w3.setCell ⟨g, 1, none⟩ (.int .u32 ((Tr.ins n v r).link : Int))) := (Keep.refl (fun b => b = g) w3).setCell (p := ⟨g, 1, none⟩) (Or.inl rfl) _
      have t4 := t3.keep K34 (by omega) (by omega) (by omega)
      have hfx : (Tr.node i l x r).ins n v = (Tr.node i l x (Tr.ins n v r)).fix := by rw [Tr.ins, if_neg (by omega)]
      have R3 : Hang s3 l := S3.hang hl (fun y hy q => by rcases Tr.mem_ins.1 q with rfl | q; exact hz (Or.inl hy); exact n5 y hy q)
      have hse := settle_any t4 R3 H3 v1 (by rw [S3.N]; exact v2) (by rw [S3.live]; exact v3) (nd_node.2 ⟨n1, Tr.ins_nd n2 (fun q => hz (Or.inr (Or.inr q))), n3, fun q => by (rcases Tr.mem_ins.1 q with q | q; exact hz (Or.inr (Or.inl q.symm)); exact n4 q), fun y hy q => by (rcases Tr.mem_ins.1 q with rfl | q; exact hz (Or.inl hy); exact n5 y hy q)⟩) M (x := x)
      rw [nodeA_nf] at hse
      obtain ⟨q0, q1, q2, q3, q4, q5⟩ := L4.six
      generalize w3.setCell ⟨g, 1, none⟩ (.int .u32 ((Tr.ins n v r).link : Int)) = w4 at L4 K4 K34 t4 hse q0 q1 q2 q3 q4 q5 ⊢
      clear y0 yf z0 z1 z3 L4 K34 il ir hrec L2
      go_wp2_with (go_at_call 74; refine hse.mono ?_; rintro e w5 ⟨rfl, h5⟩)
      go_ret
      rw [hfx]
      exact ⟨rfl, h5.next K4 S3 (fun y hy => by rw [Tr.fix_ids, mem_node]; exact Or.inr (Or.inr hy))⟩
end Tg
end Go.Proofs.Ytbdankhlbepjoaa
