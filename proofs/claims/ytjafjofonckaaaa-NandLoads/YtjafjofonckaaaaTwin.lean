/-
  The statement of images, walked: for any size, any list of calls, any change of one byte and any call behind it, it returns true, and whatever was in memory is as it was.
-/
import Derived.Test.YtjafjofonckaaaaLoad
import Derived.Test.YtjafjofonckaaaaPlays
namespace Go.Proofs.Ytjafjofonckaaaa
open Go.ChangeShapes Go.WideShapes Go.ChangeAt Go.RowKit
namespace Nd

/-- Two flashes of the program side by side in memory. -/
structure Twin (w0 wr : World) (p c k : Nat) (s : Fl) (p2 c2 k2 : Nat) (t : Fl) : Prop where
  one : Mem wr p c k s
  two : Mem wr p2 c2 k2 t
  keep : Keep (fun _ => False) w0 wr
  new : ∀ b, Own p c k b ∨ Own p2 c2 k2 b → w0.heap.size ≤ b
  apart : ∀ b, Own p c k b → ¬ Own p2 c2 k2 b
  lt : ∀ b, Own p c k b ∨ Own p2 c2 k2 b → b < wr.heap.size
theorem Twin.aside {w0 wr w' : World} {p c k p2 c2 k2 : Nat} {s t : Fl} (h : Twin w0 wr p c k s p2 c2 k2 t) (e : Keep (fun _ => False) wr w') : Twin w0 w' p c k s p2 c2 k2 t :=
  ⟨h.one.keep e (fun e => e) (fun e => e) (fun e => e), h.two.keep e (fun e => e) (fun e => e) (fun e => e), h.keep.trans e, h.new, h.apart, fun b hb => Nat.lt_of_lt_of_le (h.lt b hb) e.size⟩
theorem Twin.own1 {w0 wr w' : World} {p c k p2 c2 k2 : Nat} {s s' t : Fl} (h : Twin w0 wr p c k s p2 c2 k2 t) (m : Mem w' p c k s') (e : Keep (Own p c k) wr w') : Twin w0 w' p c k s' p2 c2 k2 t :=
  ⟨m, h.two.keep e (fun o => h.apart _ o (Or.inl rfl)) (fun o => h.apart _ o (Or.inr (Or.inl rfl))) (fun o => h.apart _ o (Or.inr (Or.inr rfl))), h.keep.next e (fun b hb ho => by have := h.new b (Or.inl ho); omega), h.new, h.apart, fun b hb => Nat.lt_of_lt_of_le (h.lt b hb) e.size⟩
theorem Twin.own2 {w0 wr w' : World} {p c k p2 c2 k2 : Nat} {s t t' : Fl} (h : Twin w0 wr p c k s p2 c2 k2 t) (m : Mem w' p2 c2 k2 t') (e : Keep (Own p2 c2 k2) wr w') : Twin w0 w' p c k s p2 c2 k2 t' :=
  ⟨h.one.keep e (fun o => h.apart _ (Or.inl rfl) o) (fun o => h.apart _ (Or.inr (Or.inl rfl)) o) (fun o => h.apart _ (Or.inr (Or.inr rfl)) o), m, h.keep.next e (fun b hb ho => by have := h.new b (Or.inr ho); omega), h.new, h.apart, fun b hb => Nat.lt_of_lt_of_le (h.lt b hb) e.size⟩
theorem mem_lt {w : World} {p c k N : Nat} {s : Fl} (h : Mem w p c k s) (ok : s.Ok N) : ∀ b, Own p c k b → b < w.heap.size := fun b hb => by
  rcases hb with rfl | rfl | rfl
  · exact h.top.lt (by omega)
  · exact h.cel.lt (Nat.mul_pos (Nat.mul_pos ok.b1 ok.p1) (by omega))
  · exact h.blk.lt (by have := ok.b1; omega)

theorem tab_set {n i : Nat} {d : Nat → Int} {v : Int} : (tab n d).set i v = tab n (fun j => if j = i then v else d j) := by
  unfold tab
  apply List.ext_getElem
  · simp
  · intro j h1 h2
    simp at h1 h2
    rw [List.getElem_set]
    by_cases e : i = j
    · subst e; simp
    · rw [if_neg e]
      simp only [List.getElem_map, List.getElem_range]
      rw [if_neg (fun h => e h.symm)]

/-- An image of a flash makes that flash, but for what it has counted. -/
theorem load_same {w : World} {p c k : Nat} {s : Fl} (hon : s.on = true) (hcut : s.cut = -1) (hfail : s.fail = -1) (h : Mem w p c k (Fl.load s.B s.P s.image)) : Mem w p c k s.fresh := by
  refine h.tells rfl rfl hon hcut hfail rfl rfl rfl (fun i hi => ?_) (fun b hb => ?_)
  · show s.cell i = s.image i
    have hi' : i < s.B * s.P * 68 := hi
    unfold Fl.image
    rw [if_pos hi']
  · obtain ⟨e1, e2⟩ := s.image_mark b
    have ht := s.mark_torn b
    refine ⟨?_, ?_, ?_, rfl⟩
    · show s.bad b = (s.image (s.B * s.P * 68 + 2 * b) % 2 == 1)
      rw [e1]; unfold Fl.mark; cases s.bad b <;> cases s.torn b <;> rfl
    · show s.torn b = decide (2 ≤ s.image (s.B * s.P * 68 + 2 * b))
      rw [e1]; unfold Fl.mark; cases s.bad b <;> cases s.torn b <;> rfl
    · show s.next b = (s.image (s.B * s.P * 68 + 2 * b + 1)).toNat
      rw [e2]; rfl
theorem load_ok {B P : Nat} {d : Nat → Int} (b1 : 1 ≤ B) (b2 : B ≤ 8) (p1 : 1 ≤ P) (p2 : P ≤ 8) (hd : ∀ i, 0 ≤ d i ∧ d i ≤ 255) (w : World) (p c k : Nat) (hg : ∀ b, b < B → Good B P d b) (h : Mem w p c k (Fl.load B P d)) : ∃ t : Fl, Mem w p c k t ∧ t.Ok 0 ∧ t.size = B * P * 68 + 2 * B ∧ tab t.size t.image = tab (B * P * 68 + 2 * B) d := by
  refine ⟨ldj B P d B, h.tells rfl rfl rfl rfl rfl rfl rfl rfl (fun i hi => rfl) (fun b hb => ?_), ldj_ok b1 (by omega) p1 (by omega) hd hg, rfl, ?_⟩
  · have hb' : b < B := hb
    refine ⟨?_, ?_, ?_, rfl⟩
    · show (if b < B then (d (B * P * 68 + 2 * b) % 2 == 1) else false) = (d (B * P * 68 + 2 * b) % 2 == 1); rw [if_pos hb']
    · show (if b < B then decide (2 ≤ d (B * P * 68 + 2 * b)) else false) = decide (2 ≤ d (B * P * 68 + 2 * b)); rw [if_pos hb']
    · show (if b < B then (d (B * P * 68 + 2 * b + 1)).toNat else 0) = (d (B * P * 68 + 2 * b + 1)).toNat; rw [if_pos hb']
  · show tab (B * P * 68 + 2 * B) (ldj B P d B).image = _
    refine tab_congr (fun i hi => ?_)
    rw [← Fl.load_image hd hg i hi]
    unfold Fl.image
    show (if i < B * P * 68 then d i else if (i - B * P * 68) % 2 = 0 then (ldj B P d B).mark ((i - B * P * 68) / 2) else ((ldj B P d B).next ((i - B * P * 68) / 2) : Int)) = if i < B * P * 68 then d i else if (i - B * P * 68) % 2 = 0 then (Fl.load B P d).mark ((i - B * P * 68) / 2) else ((Fl.load B P d).next ((i - B * P * 68) / 2) : Int)
    by_cases h1 : i < B * P * 68
    · rw [if_pos h1, if_pos h1]
    · rw [if_neg h1, if_neg h1]
      have hb : (i - B * P * 68) / 2 < B := by omega
      have m1 : (ldj B P d B).mark ((i - B * P * 68) / 2) = (Fl.load B P d).mark ((i - B * P * 68) / 2) := by
        unfold Fl.mark
        show (if (if (i - B * P * 68) / 2 < B then (d (B * P * 68 + 2 * ((i - B * P * 68) / 2)) % 2 == 1) else false) = true then (1 : Int) else 0) + (if (if (i - B * P * 68) / 2 < B then decide (2 ≤ d (B * P * 68 + 2 * ((i - B * P * 68) / 2))) else false) = true then (2 : Int) else 0) = _
        rw [if_pos hb, if_pos hb]; rfl
      have m2 : (ldj B P d B).next ((i - B * P * 68) / 2) = (Fl.load B P d).next ((i - B * P * 68) / 2) := by
        show (if (i - B * P * 68) / 2 < B then (d (B * P * 68 + 2 * ((i - B * P * 68) / 2) + 1)).toNat else 0) = _
        rw [if_pos hb]; rfl
      rw [m1, m2]
theorem image_byte {s : Fl} {N : Nat} (ok : s.Ok N) : ∀ i, 0 ≤ s.image i ∧ s.image i ≤ 255 := fun i => by
  unfold Fl.image
  split
  · exact ok.cell i
  · split
    · unfold Fl.mark; cases s.bad _ <;> cases s.torn _ <;> decide
    · have := ok.next ((i - s.B * s.P * 68) / 2)
      have := ok.p2
      omega
theorem xor8 (x y : Int) : 0 ≤ bits .xor .u8 x y ∧ bits .xor .u8 x y ≤ 255 := bounds_u8 (wf_bits _ _ _ _)
end Nd
end Go.Proofs.Ytjafjofonckaaaa
