/-
  A map's runs laid from the last to the first, a copy of a map; changes made whole or not at all.
-/
import Derived.Test.YtkddonmddgfpnaaSpD
namespace Go.Proofs.Ytkddonmddgfpnaa
open Go.ChangeShapes Go.WideShapes Go.ChangeAt Go.RowKit Go.Shelf
attribute [local go_sem] Oper.semAt_some
namespace Tg

/-- Blocks that are none of a map of runs' are written. -/
theorem Sp.elsewhere {W X Y : World} {q : Nat} {S T R : Nat → Prop} {N C : Nat} {t : List Int} (h : Sp W X false q S T N C t) (k : Keep R X Y) (hR : ∀ x, R x → W.heap.size ≤ x ∧ x ≠ q ∧ ¬ S x) : Sp W Y false q S T N C t := by
  refine ⟨h.low, h.tl, h.tab, h.cap1, h.cap2, h.N1, h.N2, h.len, h.keep.next k (fun x hx e => by have := (hR x e).1; omega), fun x hx => ⟨(h.sw x hx).1, Nat.lt_of_lt_of_le (h.sw x hx).2.1 k.size, (h.sw x hx).2.2⟩, fun x hx => Nat.lt_of_lt_of_le (h.tw x hx) k.size, ?_⟩
  obtain ⟨b, p, kk, m, rfl, hM, ho, tt⟩ := h.ex
  exact ⟨b, p, kk, m, rfl, hM.other k (fun x e => (hR x e).1) (fun e => (hR _ e).2.1 rfl) (fun e => (hR _ e).2.2 (Or.inl rfl)) (fun e => (hR _ e).2.2 (Or.inr (Or.inl rfl))) (fun e => (hR _ e).2.2 (Or.inr (Or.inr rfl))), ho, tt⟩
theorem Keep.of_turn {X Y : World} {row : Option Nat} (hg : X.grownBy Y row) : Keep (fun x => row = some x) X Y := ⟨hg.os, hg.tape, hg.output, hg.size, fun k hk e => hg.block k hk (fun c => e c.symm)⟩
theorem Sp.qlt {W w : World} {q : Nat} {S T : Nat → Prop} {N C : Nat} {t : List Int} (h : Sp W w false q S T N C t) : q < w.heap.size := by
  obtain ⟨b, p, kk, m, rfl, hM, ho, tt⟩ := h.ex
  exact hM.lt.1
theorem box1_new (w : World) (v : Value) (t : TypeId) : Blk (w.alloc (.cells #[v] t)) w.heap.size 1 (fun _ => v) := blk_alloc w #[v] t 1 _ (fun i hi => by
  have : i = 0 := by omega
  subst this
  rfl)
/-- The rounds' own state. -/
def Lst (W w : World) (q : Nat) (S T : Nat → Prop) (N C : Nat) (t : List Int) (pre : List Bk) (X : World) : Prop :=
  Sp W X false q S T N C (layL N (pre.map (·.r)) t) ∧ Keep S w X ∧ X.cell? ⟨w.heap.size, 0, none⟩ = some (mapV false q) ∧ w.heap.size + 2 ≤ X.heap.size
theorem lst_own {W w : World} {q : Nat} {S T : Nat → Prop} {N C : Nat} {t : List Int} {B : Nat} (hW : W.heap.size ≤ w.heap.size) (hB : w.heap.size + 1 ≤ B) (hq : q < w.heap.size) (hS : ∀ x, S x → x < w.heap.size) : OwnFrom B (Lst W w q S T N C t) := fun pre X Y row hs hg hr => by
  obtain ⟨h1, h2, h3, h4⟩ := hs
  have hk := Keep.of_turn hg
  have hx : ∀ x, row = some x → B ≤ x := fun x e => (hr x e).1
  exact ⟨h1.elsewhere hk (fun x e => by
      have := hx x e
      exact ⟨by omega, by omega, fun c => by have := hS x c; omega⟩), h2.next hk (fun x hlt e => by have := hx x e; omega), cell_kept h3 hg (fun r e => (hr r e).2), Nat.le_trans h4 hk.size⟩
set_option maxRecDepth 100000 in
set_option maxHeartbeats 2000000 in
theorem layS {W w : World} {q N C : Nat} {S T : Nat → Prop} {t : List Int} (h : Sp W w false q S T N C t) {a : Option Addr} {cap : Nat} {m : List Rn} (hR : Rz w a cap m) (hm : ∀ x ∈ m, Rok x) (hlen : m.length ≤ 512) (hg : ∀ g o, a = some ⟨g, o, none⟩ → m ≠ [] → ¬ S g) :
    Calls Try.prog 49 #[mapV false q, .slice a m.length cap] w fun e w' => (∃ v, e = .returned v) ∧ Sp W w' false q S T N C (layL N m.reverse t) ∧ Keep S w w' := by
  have hsw : ∀ x, S x → x < w.heap.size := fun x e => (h.sw x e).2.1
  have hq := h.qlt
  have hWw := h.keep.size
  refine (callsIn_wide (n := 4)).1 ?_
  refine callsIn_of_wp_marks Try.func49 rfl trivial ?_ rfl
  simp only [Try.ntmps49, List.size_toArray, List.length_cons, List.length_nil, Nat.reduceAdd, Nat.reduceSub, Array.replicate_succ, Array.replicate_zero, List.push_toArray, List.append_toArray, List.nil_append, List.cons_append]
  have e44 : mapV false q = .iface 44 (.pointer (some ⟨q, 0, none⟩)) := rfl
  rw [e44]
  gi_wp2_with (refine ⟨trivial, ?_⟩; gi_at_call 54; refine (back_in Fence.wide _ trivial rfl _ _ _ _).mono ?_; rintro e w' ⟨rfl, rfl⟩)
  have cM : ((w.alloc (.cells #[.iface 44 (.pointer (some ⟨q, 0, none⟩))] 24)).alloc (.cells #[.slice a m.length cap] 32)).cell? ⟨w.heap.size, 0, none⟩ = some (mapV false q) := ((box1_new w (.iface 44 (.pointer (some ⟨q, 0, none⟩))) 24).alloc (.cells #[.slice a m.length cap] 32) 0 (by omega)).1
  have cB : ((w.alloc (.cells #[.iface 44 (.pointer (some ⟨q, 0, none⟩))] 24)).alloc (.cells #[.slice a m.length cap] 32)).cell? ⟨w.heap.size + 1, 0, none⟩ = some (.slice a m.length cap) := by
    have := (box1_new (w.alloc (.cells #[.iface 44 (.pointer (some ⟨q, 0, none⟩))] 24)) (.slice a m.length cap) 32 0 (by omega)).1
    rwa [World.size_alloc] at this
  have k0 : Keep (fun _ => False) w ((w.alloc (.cells #[.iface 44 (.pointer (some ⟨q, 0, none⟩))] 24)).alloc (.cells #[.slice a m.length cap] 32)) := ((Keep.refl _ _).alloc _).alloc _
  have hsz : ((w.alloc (.cells #[.iface 44 (.pointer (some ⟨q, 0, none⟩))] 24)).alloc (.cells #[.slice a m.length cap] 32)).heap.size = w.heap.size + 2 := by simp
  generalize (w.alloc (.cells #[.iface 44 (.pointer (some ⟨q, 0, none⟩))] 24)).alloc (.cells #[.slice a m.length cap] 32) = W0 at cM cB k0 hsz ⊢
  have hL0 : Lst W w q S T N C t [] W0 := ⟨h.more k0, k0.mono (fun _ _ e => e.elim), cM, by omega⟩
  have hput := fun (X : World) (u : List Int) (hX : Sp W X false q S T N C u) (x : Bk) => putS hX x.ok
  refine wpIn_rangeFunc_ownH rfl (by omega) (gf := 63) (lb := #[.pointer (some ⟨w.heap.size + 1, 0, none⟩)]) rfl trivial (enters_of Try.func63 (by kernel_rfl) rfl)
    (back_stops Fence.wide 3 trivial rfl (by omega) (w.heap.size + 1) (w.heap.size + 2) cap a S m hm hlen W0 (by omega) (fun e => by have := hsw _ e; omega) (by omega) cB (hR.more k0) (fun g o e hne => ⟨by subst e; have := hR.block hne; omega, hg g o e hne⟩))
    KB.trans (KB.put (by omega)) (Below.refl _ _) (fun _ => rfl)
    (Lst W w q S T N C t) (fun _ _ _ => False) (lst_own hWw (by omega) hq hsw) (fun _ _ _ _ _ hs _ _ => hs) hL0
    (fun x a' X => ∃ Bx, X.cell? ⟨Bx, 0, none⟩ = some (.int .i64 x.r.lba) ∧ X.cell? ⟨Bx, 1, none⟩ = some (.int .i64 x.r.len) ∧ X.cell? ⟨Bx, 2, none⟩ = some (.int .i64 x.r.phys) ∧ a' = { tmps := #[.iface 44 (.pointer (some ⟨q, 0, none⟩)), .slice a m.length cap, .pointer (some ⟨w.heap.size, 0, none⟩), undef, undef, .pointer (some ⟨Bx, 0, none⟩), .slice a m.length cap, .func (.func 63) #[] #[.pointer (some ⟨w.heap.size + 1, 0, none⟩)], .int .i64 (x.i : Int), .agg #[.int .i64 x.r.lba, .int .i64 x.r.len, .int .i64 x.r.phys], undef, undef, undef], defers := [] })
    (fun x a' _ X Y row hs hgr hr => by
      obtain ⟨Bx, h1, h2, h3, h4⟩ := hs
      exact ⟨Bx, cell_kept h1 hgr (fun r e => (hr r e).2), cell_kept h2 hgr (fun r e => (hr r e).2), cell_kept h3 hgr (fun r e => (hr r e).2), h4⟩)
    ?assign ?body ?done ?stop
  case assign =>
    rintro l pre x X K ⟨h1, h2, h3, h4⟩ hK
    have L1 : Blk (X.alloc (.cells #[.int .i64 x.r.lba, .int .i64 x.r.len, .int .i64 x.r.phys] 34)) X.heap.size 3 (rcell x.r) := blk_alloc X _ 34 3 _ (fun i hi => by
      have : i = 0 ∨ i = 1 ∨ i = 2 := by omega
      rcases this with rfl | rfl | rfl <;> rfl)
    have K1 : Keep (fun _ => False) X (X.alloc (.cells #[.int .i64 x.r.lba, .int .i64 x.r.len, .int .i64 x.r.phys] 34)) := (Keep.refl _ _).alloc _
    unfold bkV
    gi_wp2
    exact hK _ _ ((KeepsOthers.alloc _ _).from _) (KB.of_keep (K1.mono (fun _ _ e => e.elim)) h4) ⟨h1.more K1, h2.trans (K1.mono (fun _ _ e => e.elim)), K1.cell h3, Nat.le_trans h4 K1.size⟩ ⟨X.heap.size, (L1 0 (by omega)).1, (L1 1 (by omega)).1, (L1 2 (by omega)).1, rfl⟩
  case body =>
    rintro l pre x a' X hl ⟨r, hr⟩ ⟨h1, h2, h3, h4⟩ ⟨Bx, b0, b1, b2, rfl⟩ hlt
    have hp := hput X _ h1 x
    rw [e44] at h3 hp
    gi_wp2_with (refine ⟨trivial, ?_⟩; gi_at_call 55; refine (CallsIn.inRound l (callsIn_wide.2 hp)).mono ?_; rintro e w' ⟨⟨v, rfl⟩, M2, k2⟩)
    have hnS : ¬ S w.heap.size := fun e => by have := hsw _ e; omega
    refine ⟨⟨k2.size, fun k o hB hk ho => (k2.block k (Array.getElem?_eq_some_iff.1 hk).1 (fun e => by have := hsw _ e; omega)).trans hk⟩, KB.of_keep k2 h4, ?_, h2.trans k2, ?_, Nat.le_trans h4 k2.size⟩
    · rw [List.map_append]
      show Sp W w' false q S T N C (layL N (pre.map (·.r) ++ [x.r]) t)
      rw [layL_snoc]
      exact M2
    · rw [e44, ← h3]
      exact World.cell?_of_block (w := X) (a := ⟨w.heap.size, 0, none⟩) (k2.block w.heap.size (by omega) hnS)
  case done =>
    rintro D xs X hD hxs ⟨h1, h2, h3, h4⟩ hK
    gi_wp2
    have hl := (lst_own (T := T) (N := N) (C := C) (t := t) (B := W0.heap.size) hWw (by omega) hq hsw).putObj (.deferred none) (s := xs) ⟨h1, h2, h3, h4⟩ hD hK rfl
    obtain ⟨g1, g2, -⟩ := hl
    rw [hxs] at g1
    refine ⟨by simp, .inl ⟨_, _, rfl, run_takeDeferred hK, ?_⟩⟩
    exact ⟨_, results_none rfl _ _ _, ⟨_, rfl⟩, g1, g2⟩
  case stop =>
    rintro D c pre X _ _ hx _
    exact hx.elim
end Tg
end Go.Proofs.Ytkddonmddgfpnaa
