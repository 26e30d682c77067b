/-
  What Program of the document's own flash refuses: any page, any bytes.
-/
import Derived.Test.YtjafjofonckaaaaRefErase
namespace Go.Proofs.Ytjafjofonckaaaa
open Go.ChangeShapes Go.WideShapes Go.ChangeAt Go.RowKit
namespace Nd

theorem rprogram_no {w : World} {l : Pl} {s : Fl} {x n : Int} {N len cap : Nat} {a : Option Addr} (h : RM w l s x) (ok : s.Ok N) (hb : n < 0 ∨ (s.B * s.P : Nat) ≤ n ∨ len ≠ 68) :
    Calls Try.prog 18 #[.pointer (some ⟨l.p, 0, none⟩), .int .i64 n, .slice a len cap] w fun e w' => e = .returned (.int .i64 1) ∧ RM w' l s x ∧ Keep l.own w w' := by
  obtain ⟨t0, t1, t2, t3, t4, t5, t6, t7, t8⟩ := h.tops
  have hm : s.B * s.P ≤ 64 * 32 := Nat.mul_le_mul ok.b2 ok.p2
  have H := fun k => h.drewN k
  have hmul : (s.B : Int) * (s.P : Int) = ((s.B * s.P : Nat) : Int) := by simp
  clear t2 h
  generalize s.B * s.P = m at *
  by_cases h0 : n < 0
  · have hd : decide (n < 0) = true := by simp [h0]
    go_enter Try.func18, Try.ntmps18
    go_wp2
    go_quiet (fail)
    go_wp2
    go_ret
    exact ⟨rfl, H _, (Keep.refl _ _).drewN _⟩
  · have hd : decide (n < 0) = false := by simp [h0]
    by_cases h1 : (m : Int) ≤ n
    · have hd1 : decide ((m : Int) ≤ n) = true := by simp [h1]
      go_enter Try.func18, Try.ntmps18
      go_wp2
      go_quiet (fail)
      go_wp2
      go_ret
      exact ⟨rfl, H _, (Keep.refl _ _).drewN _⟩
    · have hd1 : decide ((m : Int) ≤ n) = false := by simp [h1]
      have h68 : ¬ (len : Int) = 68 := by omega
      go_enter Try.func18, Try.ntmps18
      go_wp2
      go_quiet (fail)
      go_wp2
      go_ret
      exact ⟨rfl, H _, (Keep.refl _ _).drewN _⟩

/-- What writing has done by chunk q, in the document's own flash. -/
structure RWr (w : World) (l : Pl) (g : Nat) (s : Fl) (N b j : Nat) (d : Nat → Int) (n q : Nat) (wr : World) (t : Fl) (y : Int) : Prop where
  mem : RM wr l t y
  cuts : Cuts t y
  ok : t.Ok N
  on : t.on = true
  row : Blk wr g 68 (fun i => .int .u8 (d i))
  keep : Keep l.own w wr
  rest : s.write b j d 0 n = t.write b j d q (n - q)
  nx : t.next b = if q = 0 then j else j + 1
  B : t.B = s.B
  P : t.P = s.P

set_option maxRecDepth 100000 in
theorem rprogram_off {w : World} {l : Pl} {s : Fl} {x : Int} {N g gc : Nat} (h : RM w l s x) (ok : s.Ok N) {b j pg : Nat} (hb : b < s.B) (hj : j < s.P) (hpg : pg = b * s.P + j) (e1 : s.on = false) :
    Calls Try.prog 18 #[.pointer (some ⟨l.p, 0, none⟩), .int .i64 pg, .slice (some ⟨g, 0, none⟩) 68 gc] w fun e w' => e = .returned (.int .i64 7) ∧ RM w' l s x ∧ Keep l.own w w' := by
  obtain ⟨t0, t1, t2, t3, t4, t5, t6, t7, t8⟩ := h.tops
  have hm : s.B * s.P ≤ 64 * 32 := Nat.mul_le_mul ok.b2 ok.p2
  have H := fun k => h.drewN k
  have hlt := pg_lt hb hj hpg
  obtain ⟨hdiv, hmod⟩ := pg_div hj hpg
  have b2 := ok.b2
  have p1 := ok.p1
  have p2 := ok.p2
  have hmul : (s.B : Int) * (s.P : Int) = ((s.B * s.P : Nat) : Int) := by simp
  have hb1 : w.cell? ⟨l.b, b, none⟩ = some (.bool (s.bad b)) := (h.bad b hb).1
  have ht1 : w.cell? ⟨l.t, b, none⟩ = some (.bool (s.torn b)) := (h.torn b hb).1
  have hn1 : w.cell? ⟨l.n, b, none⟩ = some (.int .i64 (s.next b)) := (h.next b hb).1
  clear h hpg t2
  generalize s.B * s.P = m at *
  have hd : decide ((pg : Int) < 0) = false := by simp
  have hwm : IntKind.i64.wrap (m : Int) = (m : Int) := by rw [IntKind.wrap_i64]; omega
  have hd1 : decide ((m : Int) ≤ pg) = false := by simp; omega
  have c0 : (b : Int) < s.B := by omega
  have c1 : ¬ (s.P : Int) = 0 := by omega
  rw [e1] at t8
  go_enter Try.func18, Try.ntmps18
  go_wp2
  go_quiet (fail)
  go_wp2
  go_ret
  exact ⟨rfl, H _, (Keep.refl _ _).drewN _⟩
set_option maxRecDepth 100000 in
theorem rprogram_bad {w : World} {l : Pl} {s : Fl} {x : Int} {N g gc : Nat} (h : RM w l s x) (ok : s.Ok N) {b j pg : Nat} (hb : b < s.B) (hj : j < s.P) (hpg : pg = b * s.P + j) (e1 : s.on = true) (e2 : s.bad b = true) :
    Calls Try.prog 18 #[.pointer (some ⟨l.p, 0, none⟩), .int .i64 pg, .slice (some ⟨g, 0, none⟩) 68 gc] w fun e w' => e = .returned (.int .i64 6) ∧ RM w' l s x ∧ Keep l.own w w' := by
  obtain ⟨t0, t1, t2, t3, t4, t5, t6, t7, t8⟩ := h.tops
  have hm : s.B * s.P ≤ 64 * 32 := Nat.mul_le_mul ok.b2 ok.p2
  have H := fun k => h.drewN k
  have hlt := pg_lt hb hj hpg
  obtain ⟨hdiv, hmod⟩ := pg_div hj hpg
  have b2 := ok.b2
  have p1 := ok.p1
  have p2 := ok.p2
  have hmul : (s.B : Int) * (s.P : Int) = ((s.B * s.P : Nat) : Int) := by simp
  have hb1 : w.cell? ⟨l.b, b, none⟩ = some (.bool (s.bad b)) := (h.bad b hb).1
  have ht1 : w.cell? ⟨l.t, b, none⟩ = some (.bool (s.torn b)) := (h.torn b hb).1
  have hn1 : w.cell? ⟨l.n, b, none⟩ = some (.int .i64 (s.next b)) := (h.next b hb).1
  clear h hpg t2
  generalize s.B * s.P = m at *
  have hd : decide ((pg : Int) < 0) = false := by simp
  have hwm : IntKind.i64.wrap (m : Int) = (m : Int) := by rw [IntKind.wrap_i64]; omega
  have hd1 : decide ((m : Int) ≤ pg) = false := by simp; omega
  have c0 : (b : Int) < s.B := by omega
  have c1 : ¬ (s.P : Int) = 0 := by omega
  rw [e1] at t8
  rw [e2] at hb1
  go_enter Try.func18, Try.ntmps18
  go_wp2
  go_quiet (fail)
  go_wp2
  go_ret
  exact ⟨rfl, H _, (Keep.refl _ _).drewN _⟩
set_option maxRecDepth 100000 in
theorem rprogram_order {w : World} {l : Pl} {s : Fl} {x : Int} {N g gc : Nat} (h : RM w l s x) (ok : s.Ok N) {b j pg : Nat} (hb : b < s.B) (hj : j < s.P) (hpg : pg = b * s.P + j) (e1 : s.on = true) (e2 : s.bad b = false) (e3 : s.torn b = true ∨ j ≠ s.next b) :
    Calls Try.prog 18 #[.pointer (some ⟨l.p, 0, none⟩), .int .i64 pg, .slice (some ⟨g, 0, none⟩) 68 gc] w fun e w' => e = .returned (.int .i64 8) ∧ RM w' l s x ∧ Keep l.own w w' := by
  obtain ⟨t0, t1, t2, t3, t4, t5, t6, t7, t8⟩ := h.tops
  have hm : s.B * s.P ≤ 64 * 32 := Nat.mul_le_mul ok.b2 ok.p2
  have H := fun k => h.drewN k
  have hlt := pg_lt hb hj hpg
  obtain ⟨hdiv, hmod⟩ := pg_div hj hpg
  have b2 := ok.b2
  have p1 := ok.p1
  have p2 := ok.p2
  have hmul : (s.B : Int) * (s.P : Int) = ((s.B * s.P : Nat) : Int) := by simp
  have hb1 : w.cell? ⟨l.b, b, none⟩ = some (.bool (s.bad b)) := (h.bad b hb).1
  have ht1 : w.cell? ⟨l.t, b, none⟩ = some (.bool (s.torn b)) := (h.torn b hb).1
  have hn1 : w.cell? ⟨l.n, b, none⟩ = some (.int .i64 (s.next b)) := (h.next b hb).1
  clear h hpg t2
  generalize s.B * s.P = m at *
  have hd : decide ((pg : Int) < 0) = false := by simp
  have hwm : IntKind.i64.wrap (m : Int) = (m : Int) := by rw [IntKind.wrap_i64]; omega
  have hd1 : decide ((m : Int) ≤ pg) = false := by simp; omega
  have c0 : (b : Int) < s.B := by omega
  have c1 : ¬ (s.P : Int) = 0 := by omega
  rw [e1] at t8
  rw [e2] at hb1
  cases e4 : s.torn b
  · have e5 : ¬ (j : Int) = (s.next b : Int) := by simp [e4] at e3; omega
    clear e3
    rw [e4] at ht1
    go_enter Try.func18, Try.ntmps18
    go_wp2
    go_quiet (fail)
    go_wp2
    go_quiet (fail)
    go_wp2
    go_ret
    exact ⟨rfl, (H _).drewN _, ((Keep.refl _ _).drewN _).drewN _⟩
  · clear e3
    rw [e4] at ht1
    go_enter Try.func18, Try.ntmps18
    go_wp2
    go_quiet (fail)
    go_wp2
    go_quiet (fail)
    go_wp2
    go_ret
    exact ⟨rfl, (H _).drewN _, ((Keep.refl _ _).drewN _).drewN _⟩
end Nd
end Go.Proofs.Ytjafjofonckaaaa
