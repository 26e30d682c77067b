/-
  The program's flash and the document's own, side by side in memory: what a call of the one leaves of the other.
-/
import Derived.Test.YtjafjofonckaaaaPlay
import Derived.BigQuiet
import Derived.Deep.RegionHeld3
namespace Go.Proofs.Ytjafjofonckaaaa
open Go.ChangeShapes Go.WideShapes Go.ChangeAt Go.RowKit
namespace Nd

/-- Both flashes were made since w0, and nothing of w0 has turned. -/
structure Pair (w0 wr : World) (p c k : Nat) (l : Pl) (s t : Fl) (x : Int) : Prop where
  mem : Mem wr p c k s
  rm : RM wr l t x
  keep : Keep (fun _ => False) w0 wr
  new : ∀ b, Own p c k b ∨ l.own b → w0.heap.size ≤ b
  apart : ∀ b, Own p c k b → ¬ l.own b
  lt : ∀ b, Own p c k b ∨ l.own b → b < wr.heap.size

theorem Pair.own {w0 wr w' : World} {p c k : Nat} {l : Pl} {s s' t : Fl} {x : Int} (h : Pair w0 wr p c k l s t x) (m : Mem w' p c k s') (e : Keep (Own p c k) wr w') : Pair w0 w' p c k l s' t x :=
  ⟨m, h.rm.keep e (fun b hb ho => h.apart b ho hb), h.keep.next e (fun b hb ho => by have := h.new b (Or.inl ho); omega), h.new, h.apart, fun b hb => Nat.lt_of_lt_of_le (h.lt b hb) e.size⟩
theorem Pair.ref {w0 wr w' : World} {p c k : Nat} {l : Pl} {s t t' : Fl} {x y : Int} (h : Pair w0 wr p c k l s t x) (m : RM w' l t' y) (e : Keep l.own wr w') : Pair w0 w' p c k l s t' y :=
  ⟨h.mem.keep e (h.apart _ (Or.inl rfl)) (h.apart _ (Or.inr (Or.inl rfl))) (h.apart _ (Or.inr (Or.inr rfl))), m, h.keep.next e (fun b hb ho => by have := h.new b (Or.inr ho); omega), h.new, h.apart, fun b hb => Nat.lt_of_lt_of_le (h.lt b hb) e.size⟩
theorem Pair.other {w0 wr w' : World} {p c k : Nat} {l : Pl} {s t : Fl} {x : Int} (h : Pair w0 wr p c k l s t x) {S : Nat → Prop} (e : Keep S wr w') (h1 : ∀ b, S b → w0.heap.size ≤ b ∧ ¬ Own p c k b ∧ ¬ l.own b) : Pair w0 w' p c k l s t x :=
  ⟨h.mem.keep e (fun hS => (h1 _ hS).2.1 (Or.inl rfl)) (fun hS => (h1 _ hS).2.1 (Or.inr (Or.inl rfl))) (fun hS => (h1 _ hS).2.1 (Or.inr (Or.inr rfl))), h.rm.keep e (fun b hb hS => (h1 b hS).2.2 hb), h.keep.next e (fun b hb hS => by have := (h1 b hS).1; omega), h.new, h.apart, fun b hb => Nat.lt_of_lt_of_le (h.lt b hb) e.size⟩
theorem Pair.aside {w0 wr w' : World} {p c k : Nat} {l : Pl} {s t : Fl} {x : Int} (h : Pair w0 wr p c k l s t x) (e : Keep (fun _ => False) wr w') : Pair w0 w' p c k l s t x := h.other e (fun _ f => f.elim)

/-- A pair that was just made. -/
theorem Pair.start {w0 w1 w2 : World} {p c k : Nat} {l : Pl} {s t : Fl} {x : Int} (hm : Mem w1 p c k s) (b1 : 1 ≤ s.B) (p1 : 1 ≤ s.P) (hp : w0.heap.size ≤ p) (hc : w0.heap.size ≤ c) (hk : w0.heap.size ≤ k) (hk1 : Keep (fun _ => False) w0 w1)
    (hr : RM w2 l t x) (tb1 : 1 ≤ t.B) (tp1 : 1 ≤ t.P) (hl : ∀ b, l.own b → w1.heap.size ≤ b) (hk2 : Keep (fun _ => False) w1 w2) : Pair w0 w2 p c k l s t x := by
  have e1 : ∀ b, Own p c k b → b < w1.heap.size := fun b hb => by
    rcases hb with rfl | rfl | rfl
    · exact hm.top.lt (by omega)
    · exact hm.cel.lt (Nat.mul_pos (Nat.mul_pos b1 p1) (by omega))
    · exact hm.blk.lt (by omega)
  have e2 : ∀ b, l.own b → b < w2.heap.size := fun b hb => by
    rcases hb with rfl | rfl | rfl | rfl | rfl
    · exact hr.top.lt (by omega)
    · exact hr.cel.lt (Nat.mul_pos (Nat.mul_pos tb1 tp1) (by omega))
    · exact hr.bad.lt tb1
    · exact hr.torn.lt tb1
    · exact hr.next.lt tb1
  refine ⟨hm.keep hk2 (fun e => e) (fun e => e) (fun e => e), hr, hk1.trans hk2, fun b hb => ?_, fun b h1 h2 => ?_, fun b hb => ?_⟩
  · rcases hb with (rfl | rfl | rfl) | hb
    · exact hp
    · exact hc
    · exact hk
    · exact Nat.le_trans hk1.size (hl b hb)
  · have := e1 b h1
    have := hl b h2
    omega
  · rcases hb with hb | hb
    · exact Nat.lt_of_lt_of_le (e1 b hb) hk2.size
    · exact e2 b hb

/-- The document's own cut, failure and power are set. -/
theorem Pair.rcut {w0 wr : World} {p c k : Nat} {l : Pl} {s t : Fl} {x : Int} (h : Pair w0 wr p c k l s t x) (y : Int) : Pair w0 (wr.setCell ⟨l.p, 6, none⟩ (.int .i64 y)) p c k l s t y := h.ref (h.rm.setCut y) (rkp (Keep.refl _ _) _ _)
theorem Pair.rfail {w0 wr : World} {p c k : Nat} {l : Pl} {s t : Fl} {x : Int} (h : Pair w0 wr p c k l s t x) (y : Int) : Pair w0 (wr.setCell ⟨l.p, 7, none⟩ (.int .i64 y)) p c k l s { t with fail := y } x := h.ref (h.rm.setFail y) (rkp (Keep.refl _ _) _ _)
theorem Pair.ron {w0 wr : World} {p c k : Nat} {l : Pl} {s t : Fl} {x : Int} (h : Pair w0 wr p c k l s t x) (v : Bool) : Pair w0 (wr.setCell ⟨l.p, 8, none⟩ (.bool v)) p c k l s { t with on := v } x := h.ref (h.rm.setOn v) (rkp (Keep.refl _ _) _ _)
theorem Pair.alike {w0 wr : World} {p c k : Nat} {l : Pl} {s t : Fl} {x : Int} (h : Pair w0 wr p c k l s t x) (wrn : Nat → Nat) (cu : Int) : Pair w0 wr p c k l s { t with wear := wrn, cut := cu } x := h.ref (h.rm.alike wrn cu) (Keep.refl _ _)

/-- Both are the same flash, and are as flashes are. -/
structure Two (w0 wr : World) (p c k : Nat) (l : Pl) (s : Fl) (N : Nat) (B P : Nat) : Prop where
  pair : ∃ x, Pair w0 wr p c k l s s x ∧ Cuts s x
  ok : s.Ok N
  B : s.B = B
  P : s.P = P
theorem Two.aside {w0 wr w' : World} {p c k : Nat} {l : Pl} {s : Fl} {N B P : Nat} (h : Two w0 wr p c k l s N B P) (e : Keep (fun _ => False) wr w') : Two w0 w' p c k l s N B P := by
  obtain ⟨x, hp, hc⟩ := h.pair
  exact ⟨⟨x, hp.aside e, hc⟩, h.ok, h.B, h.P⟩
theorem Two.mono {w0 wr : World} {p c k : Nat} {l : Pl} {s : Fl} {N M B P : Nat} (h : Two w0 wr p c k l s N B P) (e : N ≤ M) : Two w0 wr p c k l s M B P := ⟨h.pair, h.ok.mono e, h.B, h.P⟩

/-- Behind a cut, a failure or power-on of both. -/
theorem Two.cut {w0 wr w1 : World} {p c k : Nat} {l : Pl} {s : Fl} {N B P : Nat} (h : Two w0 wr p c k l s N B P) {n : Int} (hn : -9223372036854775808 ≤ n ∧ n ≤ 9223372036854775807) (m : Mem w1 p c k (s.setCut n)) (e : Keep (Own p c k) wr w1) :
    (∃ x, Pair w0 w1 p c k l (s.setCut n) s x) ∧ ∀ w2, (∃ x, Pair w0 w2 p c k l (s.setCut n) s x) → (n < 0 → Two w0 (w2.setCell ⟨l.p, 6, none⟩ (.int .i64 (-1))) p c k l (s.setCut n) N B P) ∧ (0 ≤ n → Two w0 ((w2.setCell ⟨l.p, 6, none⟩ (.int .i64 (-1))).setCell ⟨l.p, 6, none⟩ (.int .i64 n)) p c k l (s.setCut n) N B P) := by
  obtain ⟨x, hp, hc⟩ := h.pair
  refine ⟨⟨x, hp.own m e⟩, fun w2 ⟨y, h2⟩ => ⟨fun hn0 => ?_, fun hn0 => ?_⟩⟩
  · have e1 : max n (-1) = -1 := by omega
    have h3 := (h2.rcut (-1)).alike s.wear (max n (-1))
    exact ⟨⟨-1, h3, ⟨fun _ => by show _ = max n (-1); omega, by omega, by omega⟩⟩, h.ok.setCut hn.2, h.B, h.P⟩
  · have e1 : max n (-1) = n := by omega
    have h3 := ((h2.rcut (-1)).rcut n).alike s.wear (max n (-1))
    exact ⟨⟨n, h3, ⟨fun _ => by show _ = max n (-1); omega, by omega, by omega⟩⟩, h.ok.setCut hn.2, h.B, h.P⟩
theorem Two.fail {w0 wr w1 : World} {p c k : Nat} {l : Pl} {s : Fl} {N B P : Nat} (h : Two w0 wr p c k l s N B P) {n : Int} (hn : -9223372036854775808 ≤ n ∧ n ≤ 9223372036854775807) (m : Mem w1 p c k (s.setFail n)) (e : Keep (Own p c k) wr w1) :
    ∃ x, Cuts s x ∧ Pair w0 w1 p c k l (s.setFail n) s x ∧ (n < 0 → Two w0 (w1.setCell ⟨l.p, 7, none⟩ (.int .i64 (-1))) p c k l (s.setFail n) N B P) ∧ (0 ≤ n → Two w0 ((w1.setCell ⟨l.p, 7, none⟩ (.int .i64 (-1))).setCell ⟨l.p, 7, none⟩ (.int .i64 n)) p c k l (s.setFail n) N B P) := by
  obtain ⟨x, hp, hc⟩ := h.pair
  have h2 := hp.own m e
  refine ⟨x, hc, h2, fun hn0 => ?_, fun hn0 => ?_⟩
  · have e1 : max n (-1) = -1 := by omega
    have h3 := h2.rfail (-1)
    have e2 : s.setFail n = { s with fail := -1 } := by unfold Fl.setFail; rw [e1]
    rw [e2] at h3 ⊢
    exact ⟨⟨x, h3, hc⟩, by rw [← e2]; exact h.ok.setFail hn.2, h.B, h.P⟩
  · have e1 : max n (-1) = n := by omega
    have h3 := (h2.rfail (-1)).rfail n
    have e2 : s.setFail n = { s with fail := n } := by unfold Fl.setFail; rw [e1]
    rw [e2] at h3 ⊢
    exact ⟨⟨x, h3, hc⟩, by rw [← e2]; exact h.ok.setFail hn.2, h.B, h.P⟩
theorem Two.on {w0 wr w1 : World} {p c k : Nat} {l : Pl} {s : Fl} {N B P : Nat} (h : Two w0 wr p c k l s N B P) (m : Mem w1 p c k s.turnOn) (e : Keep (Own p c k) wr w1) :
    ∃ x, Pair w0 w1 p c k l s.turnOn s x ∧ Two w0 ((w1.setCell ⟨l.p, 8, none⟩ (.bool true)).setCell ⟨l.p, 6, none⟩ (.int .i64 (-1))) p c k l s.turnOn N B P := by
  obtain ⟨x, hp, hc⟩ := h.pair
  have h2 := hp.own m e
  have h3 := ((h2.ron true).rcut (-1)).alike s.wear (-1)
  exact ⟨x, h2, ⟨⟨-1, h3, ⟨fun _ => rfl, by omega, by omega⟩⟩, h.ok.turnOn, h.B, h.P⟩⟩
end Nd
end Go.Proofs.Ytjafjofonckaaaa
