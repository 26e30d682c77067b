/-
  Two maps beside each other; rows made by the call itself.
-/
import Derived.Test.YtkddonmddgfpnaaSpG
import Derived.Test.YtkddonmddgfpnaaFormB
import Derived.Test.YtkddonmddgfpnaaFoldB
namespace Go.Proofs.Ytkddonmddgfpnaa
open Go.ChangeShapes Go.WideShapes Go.ChangeAt Go.RowKit
namespace Tg

/-- A map made since w1, beside blocks that lay there. -/
theorem Sp.join {W w1 w2 : World} {fl : Bool} {q : Nat} {S A : Nat → Prop} {N C : Nat} {t : List Int} (h : Sp w1 w2 fl q S (fun _ => False) N C t) (k : Keep (fun _ => False) W w1) (hA : ∀ x, A x → x < w1.heap.size) : Sp W w2 fl q S A N C t := by
  have h' := h.older k
  have hs := h.keep.size
  refine ⟨h.low, h.tl, h.tab, h.cap1, h.cap2, h.N1, h.N2, h.len, h'.keep, fun x hx => ⟨(h'.sw x hx).1, (h.sw x hx).2.1, fun e => by have := (h.sw x hx).1; have := hA x e; omega⟩, fun x hx => by have := hA x hx; omega, ?_⟩
  have hx := h.ex
  have hx' := h'.ex
  cases fl with
  | false =>
    obtain ⟨b, p, kk, m, e, hM, ho, -⟩ := hx
    have hb := hM.blocks
    exact ⟨b, p, kk, m, e, hM.older k, ho, fun e => by have := hA _ e; omega, fun e => by have := hA _ e; omega, fun e => by have := hA _ e; omega, fun e => by have := hA _ e; omega⟩
  | true =>
    have hk := k.size
    exact ⟨hx.1, hx.2.among (fun x _ c => ⟨by have := c.1; omega, fun e => by have := hA _ e; have := c.1; omega⟩) (fun x hx2 => ⟨by omega, fun e => by have := hA _ e; omega⟩)⟩
/-- Two maps beside each other. -/
structure Two (W w : World) (fa : Bool) (qa : Nat) (Sa : Nat → Prop) (Na Ca : Nat) (ta : List Int) (fb : Bool) (qb : Nat) (Sb : Nat → Prop) (Nb Cb : Nat) (tb : List Int) : Prop where
  a : Sp W w fa qa Sa Sb Na Ca ta
  b : Sp W w fb qb Sb Sa Nb Cb tb
theorem Two.new {W w1 w2 : World} {fa fb : Bool} {qa qb : Nat} {Sa Sb : Nat → Prop} {Na Ca Nb Cb : Nat} {ta tb : List Int} (ha : Sp W w1 fa qa Sa (fun _ => False) Na Ca ta) (hb : Sp w1 w2 fb qb Sb (fun _ => False) Nb Cb tb) : Two W w2 fa qa Sa Na Ca ta fb qb Sb Nb Cb tb :=
  ⟨ha.shun hb.keep (fun x e => ⟨(hb.sw x e).1, (hb.sw x e).2.1⟩), hb.join ha.keep (fun x e => (ha.sw x e).2.1)⟩
theorem Two.more {W w w' : World} {fa fb : Bool} {qa qb : Nat} {Sa Sb : Nat → Prop} {Na Ca Nb Cb : Nat} {ta tb : List Int} (h : Two W w fa qa Sa Na Ca ta fb qb Sb Nb Cb tb) (k : Keep (fun _ => False) w w') : Two W w' fa qa Sa Na Ca ta fb qb Sb Nb Cb tb := ⟨h.a.more k, h.b.more k⟩
theorem Two.setA {W w w' : World} {fa fb : Bool} {qa qb : Nat} {Sa Sb : Nat → Prop} {Na Ca Nb Cb : Nat} {ta ta' tb : List Int} (h : Two W w fa qa Sa Na Ca ta fb qb Sb Nb Cb tb) (ha : Sp W w' fa qa Sa Sb Na Ca ta') (k : Keep Sa w w') : Two W w' fa qa Sa Na Ca ta' fb qb Sb Nb Cb tb := ⟨ha, h.b.other k (fun x e => (h.a.sw x e).1)⟩
theorem Two.setB {W w w' : World} {fa fb : Bool} {qa qb : Nat} {Sa Sb : Nat → Prop} {Na Ca Nb Cb : Nat} {ta tb tb' : List Int} (h : Two W w fa qa Sa Na Ca ta fb qb Sb Nb Cb tb) (hb : Sp W w' fb qb Sb Sa Nb Cb tb') (k : Keep Sb w w') : Two W w' fa qa Sa Na Ca ta fb qb Sb Nb Cb tb' := ⟨h.a.other k (fun x e => (h.b.sw x e).1), hb⟩
/-- A row that the call has just made. -/
theorem rs_new (w : World) (A : Array Value) (ty : TypeId) (l : List Rn) (hA : A.toList = rcells l) (hl : l.length ≤ 100000) : Rs (w.alloc (.cells A ty)) (some ⟨w.heap.size, 0, none⟩) l.length l := by
  refine ⟨Nat.le_refl _, by omega, Or.inr ⟨_, rfl, fun j u hu => ?_⟩⟩
  rw [← hA] at hu
  obtain ⟨hj, e⟩ := List.getElem?_eq_some_iff.1 hu
  exact (blk_alloc w A ty (j + 1) (fun i => A[i]?.getD undef) (fun i hi => by
    have : i < A.size := by simp at hj; omega
    simp [this]) j (by omega)).1.trans (by
    have : j < A.size := by simpa using hj
    simp at e
    simp [this, e])
end Tg
end Go.Proofs.Ytkddonmddgfpnaa
