/-
  What the program's calls on an arena answer and do: walked over any memory in which an arena lies.
-/
import Derived.Test.YtbdankhlbepjoaaNode
namespace Go.Proofs.Ytbdankhlbepjoaa
open Go.ChangeShapes Go.WideShapes Go.ChangeAt Go.RowKit
namespace Tg

set_option maxHeartbeats 600000 in
theorem find_yes {w : World} {p k : Nat} {s : Ar} (h : Mem w p k s) {q : Nat} (hq : q < s.N) (hN : s.N ≤ 512) (hl : s.live (q + 1) = true) :
    Calls Try.prog 75 #[.pointer (some ⟨p, 0, none⟩), .int .u32 ((q : Int) + 1)] w fun e w' => e = .returned (.pointer (some ⟨k, q * 8, none⟩)) ∧ w' = w := by
  obtain ⟨t0, t1, t2, f1, f2⟩ := h.tops
  obtain ⟨c6, c7, g7⟩ := h.at hq
  rw [hl] at c6
  clear h hl
  have d0 : ((q : Int) + 1 == 0) = false := by simp; omega
  have d1 : ¬ (s.N : Int) < (q : Int) + 1 := by omega
  go_enter Try.func75, Try.ntmps75
  go_wp2
  go_ret
  exact ⟨rfl, rfl⟩

set_option maxHeartbeats 600000 in
theorem find_no {w : World} {p k : Nat} {s : Ar} (h : Mem w p k s) {x : Nat} (hx : x ≤ 4294967295) (hN : s.N ≤ 512) (hl : ¬ (1 ≤ x ∧ x ≤ s.N ∧ s.live x = true)) :
    Calls Try.prog 75 #[.pointer (some ⟨p, 0, none⟩), .int .u32 (x : Int)] w fun e w' => e = .returned (.pointer none) ∧ w' = w := by
  obtain ⟨t0, t1, t2, f1, f2⟩ := h.tops
  by_cases h0 : x = 0
  · subst h0
    clear h hl
    go_enter Try.func75, Try.ntmps75
    go_wp2
    go_ret
    exact ⟨rfl, rfl⟩
  by_cases h1 : x ≤ s.N
  · obtain ⟨q, rfl⟩ : ∃ q, x = q + 1 := ⟨x - 1, by omega⟩
    obtain ⟨c6, c7, g7⟩ := h.at (q := q) (by omega)
    have hl' : s.live (q + 1) = false := by
      cases e : s.live (q + 1)
      · rfl
      · exact absurd ⟨by omega, h1, e⟩ hl
    rw [hl'] at c6
    clear h hl hl'
    have d0 : ((q : Int) + 1 == 0) = false := by simp; omega
    have d1 : ¬ (s.N : Int) < (q : Int) + 1 := by omega
    rw [show ((q + 1 : Nat) : Int) = (q : Int) + 1 from rfl]
    go_enter Try.func75, Try.ntmps75
    go_wp2
    go_ret
    exact ⟨rfl, rfl⟩
  · clear h hl
    have d0 : ((x : Int) == 0) = false := by simp; omega
    have d1 : (s.N : Int) < (x : Int) := by omega
    go_enter Try.func75, Try.ntmps75
    go_wp2
    go_ret
    exact ⟨rfl, rfl⟩

set_option maxHeartbeats 600000 in
theorem take_any {w : World} {p k : Nat} {s : Ar} (h : Mem w p k s) {x : Nat} {r : List Nat} (ok : s.Ok (x :: r)) :
    Calls Try.prog 70 #[.pointer (some ⟨p, 0, none⟩)] w fun e w' => e = .returned (.tuple #[.int .u32 (x : Int), .int .i64 0]) ∧ Mem w' p k s.take ∧ Keep (Own p k) w w' := by
  have hf : s.first = x := ok.lnk.1
  have hr := ok.range x (by simp)
  have hN := ok.small
  have hc := ok.count
  obtain ⟨q, rfl⟩ : ∃ q, x = q + 1 := ⟨x - 1, by omega⟩
  obtain ⟨t0, t1, t2, f1, f2⟩ := h.tops
  obtain ⟨c6, c7, g7⟩ := h.at (q := q) (by omega)
  rw [hf] at t1
  rw [show ((q + 1 : Nat) : Int) = (q : Int) + 1 from rfl] at t1 ⊢
  have d0 : ((q : Int) + 1 == 0) = false := by simp; omega
  have dN : (q : Int) < s.N := by omega
  have dc : IntKind.i64.wrap ((s.count : Int) + 1) = (s.count : Int) + 1 := by rw [IntKind.wrap_i64] <;> omega
  have h1 := h.setFirst (s.next (q + 1))
  have hst := store_slot h1.blk (o := q * 8) (by show q * 8 + 8 ≤ s.N * 8; omega) true 0
  have h2 := h1.wipe (q := q) (by show q < s.N; omega) true 0
  have hk2 : Keep (Own p k) w ((w.setCell ⟨p, 1, none⟩ (.int .u32 (s.next (q + 1) : Int))).setCells k (q * 8) [.int .u32 0, .int .u32 0, .int .i64 0, .int .i64 0, .int .i64 0, .int .i64 0, .bool true, .int .u32 ((0 : Nat) : Int)]) := ((Keep.refl _ _).p _ _).ks _ _
  generalize (w.setCell ⟨p, 1, none⟩ (.int .u32 (s.next (q + 1) : Int))).setCells k (q * 8) [.int .u32 0, .int .u32 0, .int .i64 0, .int .i64 0, .int .i64 0, .int .i64 0, .bool true, .int .u32 ((0 : Nat) : Int)] = w2 at hst h2 hk2
  have u2 : w2.cell? ⟨p, 2, none⟩ = some (.int .i64 s.count) := (h2.top 2 (by omega)).1
  have uf : w2.frozen? ⟨p, 2, none⟩ = false := (h2.top 2 (by omega)).2
  have h3 := h2.setCount (s.count + 1)
  have hk3 := hk2.p 2 (.int .i64 ((s.count + 1 : Nat) : Int))
  rw [show ((s.count + 1 : Nat) : Int) = (s.count : Int) + 1 from rfl] at h3 hk3
  clear h h1 h2 hk2
  have hf' : Hid (s.first = q + 1) := hf
  clear hf hc ok hr
  go_enter Try.func70, Try.ntmps70
  go_wp2_with (guard_target =~ wpList _ _ _ (Oper.mk _ (Op.store 84 _ _) _ _ _ _ :: _) _ _; refine wpList_store_run rfl 84 (.tmp 28) (.tmp 27) rfl (by rfl) (by rfl) hst ?_)
  go_ret2
  refine ⟨rfl, h3.congr ?_, hk3⟩
  have hf : s.first = q + 1 := hf'
  simp [Ar.take, Ar.wipe, hf]

set_option maxHeartbeats 600000 in
theorem take_none {w : World} {p k : Nat} {s : Ar} (h : Mem w p k s) (ok : s.Ok []) :
    Calls Try.prog 70 #[.pointer (some ⟨p, 0, none⟩)] w fun e w' => e = .returned (.tuple #[.int .u32 0, .int .i64 5]) ∧ w' = w := by
  have hf : s.first = 0 := ok.lnk
  obtain ⟨t0, t1, t2, f1, f2⟩ := h.tops
  rw [hf] at t1
  rw [show ((0 : Nat) : Int) = 0 from rfl] at t1
  clear h ok hf
  go_enter Try.func70, Try.ntmps70
  go_wp2
  go_ret2
  exact ⟨rfl, rfl⟩
end Tg
end Go.Proofs.Ytbdankhlbepjoaa
