/-
  Program and Erase at any number and with any bytes, of the program's flash and of the document's own: the same mathematics.
-/
import Derived.Test.YtjafjofonckaaaaRefNew
import Derived.Test.YtjafjofonckaaaaActs
import Derived.Test.YtjafjofonckaaaaWear
namespace Go.Proofs.Ytjafjofonckaaaa
open Go.ChangeShapes Go.WideShapes Go.ChangeAt Go.RowKit
namespace Nd

/-- A call whose contract is known, as one step of a region that draws. -/
theorem step_call_post {P : Program} {ops : Array Oper} {o : Oper} {a : Act} {w : World} {K : Act → World → Prop} {Q : Exit → Act → World → Prop} {E : Prop}
    (hg : o.guard = none) (f : FuncId) (xs : Array Operand) (ts : Array TypeId) (hop : o.op = Op.call { callee := Callee.value (.func f), args := xs, argTypes := ts })
    {vs : Array Value} {R : Value → World → Prop} (hx : xs.map a.eval = vs) (he : ∀ args w, (callFunc f args).run P w = .ok (.enter f args) w) (hc : Calls P f vs w fun e w2 => ∃ v, e = .returned v ∧ R v w2)
    (hK : ∀ v w', R v w' → K (a.put o.dst v) w') : if Region.wanted o (yielded ops a.tmps) = true then Oper.wp P o a w K Q else E := by
  have hw : Region.wanted o (yielded ops a.tmps) = true := by simp [Region.wanted, hg]
  rw [if_pos hw]
  subst hx
  obtain ⟨dst, op, ty, pos, after, guard⟩ := o
  simp only at hop
  subst hop
  unfold Oper.wp
  rw [execOp_call_go, he, Oper.upon_enter]
  simp only [Array.empty_append, Array.append_empty]
  exact hc.mono (by rintro e w2 ⟨v, rfl, hr⟩; exact hK v w2 hr)

theorem call17 (args : Array Value) (w : World) : (callFunc 17 args).run Try.prog w = .ok (.enter 17 args) w := enters Try.func17 (by kernel_rfl) (by kernel_rfl) args w
theorem call10 (args : Array Value) (w : World) : (callFunc 10 args).run Try.prog w = .ok (.enter 10 args) w := enters Try.func10 (by kernel_rfl) (by kernel_rfl) args w
theorem call18 (args : Array Value) (w : World) : (callFunc 18 args).run Try.prog w = .ok (.enter 18 args) w := enters Try.func18 (by kernel_rfl) (by kernel_rfl) args w

/-- What a call of Program makes of a flash: any page, any number of bytes. -/
def Fl.call0 (s : Fl) (n : Int) (len : Nat) (d : Nat → Int) : Nat × Fl :=
  if 0 ≤ n ∧ n < (s.B * s.P : Nat) ∧ len = 68 then s.program (n.toNat / s.P) (n.toNat % s.P) d else (1, s)
theorem Fl.Ok.call0 {s : Fl} {N : Nat} (h : s.Ok N) (n : Int) (len : Nat) {d : Nat → Int} (hd : ∀ i, 0 ≤ d i ∧ d i ≤ 255) : (s.call0 n len d).2.Ok (N + 1) := by
  unfold Fl.call0
  split
  · exact h.program (Nat.mod_lt _ (by have := h.p1; omega)) hd
  · exact h.mono (by omega)
theorem Fl.call0_P (s : Fl) (n : Int) (len : Nat) (d : Nat → Int) : (s.call0 n len d).2.P = s.P ∧ (s.call0 n len d).2.B = s.B := by
  unfold Fl.call0
  split
  · exact Fl.program_P s _ _ d
  · exact ⟨rfl, rfl⟩
theorem Fl.Worn.call0 {s : Fl} (h : s.Worn) (n : Int) (len : Nat) (d : Nat → Int) : (s.call0 n len d).2.Worn := by
  unfold Fl.call0
  split
  · exact h.program _ _ d
  · exact h

theorem page_parts {B P : Nat} {n : Int} (hp : 1 ≤ P) (h0 : 0 ≤ n) (h : n < (B * P : Nat)) : ∃ pg : Nat, n = pg ∧ n.toNat / P < B ∧ n.toNat % P < P ∧ pg = n.toNat / P * P + n.toNat % P := by
  refine ⟨n.toNat, by omega, ?_, Nat.mod_lt _ (by omega), ?_⟩
  · rw [Nat.div_lt_iff_lt_mul (by omega)]; omega
  · rw [Nat.mul_comm]; exact (Nat.div_add_mod _ _).symm

/-- Program at any number and with any bytes. -/
theorem call0_any {w : World} {p c k g len cap N : Nat} {s : Fl} {d : Nat → Int} (h : Mem w p c k s) (ok : s.Ok N) (hN : N ≤ 1000000) (n : Int) (hd : ∀ i, 0 ≤ d i ∧ d i ≤ 255) (hr : Blk w g len (fun i => .int .u8 (d i))) (hg : ¬ Own p c k g) (hc : len ≤ cap) (hm : cap ≤ 9223372036854775807) :
    Calls Try.prog 10 #[.pointer (some ⟨p, 0, none⟩), .int .i64 n, .slice (some ⟨g, 0, none⟩) len cap] w fun e w' => e = .returned (.int .i64 ((s.call0 n len d).1 : Nat)) ∧ Mem w' p c k (s.call0 n len d).2 ∧ Keep (Own p c k) w w' := by
  unfold Fl.call0
  by_cases hh : 0 ≤ n ∧ n < (s.B * s.P : Nat) ∧ len = 68
  · rw [if_pos hh]
    obtain ⟨h0, h1, rfl⟩ := hh
    obtain ⟨pg, e, hb, hj, hpg⟩ := page_parts ok.p1 h0 h1
    have := program_any h ok hN hb hj hpg hd hr hg hc hm
    rw [← e] at this
    exact this
  · rw [if_neg hh]
    have hn : n < 0 ∨ (s.B * s.P : Nat) ≤ n ∨ len ≠ 68 := by omega
    exact program_no h ok hn

theorem rcall0_any {w : World} {l : Pl} {g len cap N : Nat} {s : Fl} {x : Int} {d : Nat → Int} (h : RM w l s x) (hx : Cuts s x) (ok : s.Ok N) (hN : N ≤ 1000000) (n : Int) (hd : ∀ i, 0 ≤ d i ∧ d i ≤ 255) (hr : Blk w g len (fun i => .int .u8 (d i))) (hg : ¬ l.own g) :
    Calls Try.prog 18 #[.pointer (some ⟨l.p, 0, none⟩), .int .i64 n, .slice (some ⟨g, 0, none⟩) len cap] w fun e w' => e = .returned (.int .i64 ((s.call0 n len d).1 : Nat)) ∧ ∃ y, RM w' l (s.call0 n len d).2 y ∧ Cuts (s.call0 n len d).2 y ∧ Keep l.own w w' := by
  unfold Fl.call0
  by_cases hh : 0 ≤ n ∧ n < (s.B * s.P : Nat) ∧ len = 68
  · rw [if_pos hh]
    obtain ⟨h0, h1, rfl⟩ := hh
    obtain ⟨pg, e, hb, hj, hpg⟩ := page_parts ok.p1 h0 h1
    have := rprogram_any (gc := cap) h hx ok hN hb hj hpg hd hr hg
    rw [← e] at this
    exact this
  · rw [if_neg hh]
    refine (rprogram_no h ok (by omega)).mono ?_
    rintro e w' ⟨rfl, hm, hk⟩
    exact ⟨rfl, x, hm, hx, hk⟩

/-- Erase at any number. -/
def Fl.call1 (s : Fl) (n : Int) : Nat × Fl := if 0 ≤ n ∧ n < s.B then s.erase n.toNat else (1, s)
theorem Fl.Ok.call1 {s : Fl} {N : Nat} (h : s.Ok N) (n : Int) : (s.call1 n).2.Ok (N + 1) := by
  unfold Fl.call1
  split
  · exact h.erase _
  · exact h.mono (by omega)
theorem Fl.call1_P (s : Fl) (n : Int) : (s.call1 n).2.P = s.P ∧ (s.call1 n).2.B = s.B := by
  unfold Fl.call1
  split
  · exact Fl.erase_P s _
  · exact ⟨rfl, rfl⟩
theorem Fl.Worn.call1 {s : Fl} (h : s.Worn) (n : Int) : (s.call1 n).2.Worn := by
  unfold Fl.call1
  split
  · exact h.erase (by omega)
  · exact h
theorem call1_any {w : World} {p c k N : Nat} {s : Fl} (h : Mem w p c k s) (ok : s.Ok N) (hN : N ≤ 1000000) (n : Int) :
    Calls Try.prog 13 #[.pointer (some ⟨p, 0, none⟩), .int .i64 n] w fun e w' => e = .returned (.int .i64 ((s.call1 n).1 : Nat)) ∧ Mem w' p c k (s.call1 n).2 ∧ Keep (Own p c k) w w' := by
  unfold Fl.call1
  by_cases hh : 0 ≤ n ∧ n < s.B
  · rw [if_pos hh]
    have := erase_any h ok hN (b := n.toNat) (by omega)
    rw [show ((n.toNat : Nat) : Int) = n by omega] at this
    exact this
  · rw [if_neg hh]
    refine (erase_no h (by omega)).mono ?_
    rintro e w' ⟨rfl, rfl⟩
    exact ⟨rfl, h, Keep.refl _ _⟩
theorem rcall1_any {w : World} {l : Pl} {N : Nat} {s : Fl} {x : Int} (h : RM w l s x) (hx : Cuts s x) (ok : s.Ok N) (hN : N ≤ 1000000) (n : Int) :
    Calls Try.prog 19 #[.pointer (some ⟨l.p, 0, none⟩), .int .i64 n] w fun e w' => e = .returned (.int .i64 ((s.call1 n).1 : Nat)) ∧ ∃ y, RM w' l (s.call1 n).2 y ∧ Cuts (s.call1 n).2 y ∧ Keep l.own w w' := by
  unfold Fl.call1
  by_cases hh : 0 ≤ n ∧ n < s.B
  · rw [if_pos hh]
    have := rerase_any h hx ok hN (b := n.toNat) (by omega)
    rw [show ((n.toNat : Nat) : Int) = n by omega] at this
    exact this
  · rw [if_neg hh]
    refine (rerase_no h (by omega)).mono ?_
    rintro e w' ⟨rfl, rfl⟩
    exact ⟨rfl, x, h, hx, Keep.refl _ _⟩
end Nd
end Go.Proofs.Ytjafjofonckaaaa
