/-
  The program's Long and find, walked.
-/
import Derived.Test.YthfbfepaoknmfaaPb
namespace Go.Proofs.Ythfbfepaoknmfaa
open Go.ChangeShapes Go.WideShapes Go.ChangeAt Go.RowKit
namespace Tg
set_option maxRecDepth 100000 in
set_option maxHeartbeats 1000000 in
theorem long_ok {w0 w : World} {p g h n : Nat} {s : St} (d : Dt w0 w p g h n s) {i : Nat} (hi : i < n) :
    Calls Try.prog 10 #[.pointer (some ⟨p, 0, none⟩), .int .i64 (i : Int)] w fun e w' => e = .returned (.tuple #[.int .i64 (s.lg.getD i 0), .int .i64 0]) ∧ w' = w := by
  have t0 := d.t0
  have c1 := (d.lg hi).1
  generalize s.lg.getD i 0 = x at c1 ⊢
  have d1 : ¬ (i : Int) < 0 := by omega
  have d2 : ¬ (n : Int) ≤ (i : Int) := by omega
  have d3 : (i : Int) < (n : Int) := by omega
  clear d
  go_enter Try.func10, Try.ntmps10
  go_wp2_with fail
  go_ret2
  exact ⟨rfl, rfl⟩
set_option maxRecDepth 100000 in
set_option maxHeartbeats 1000000 in
theorem long_no {w0 w : World} {p g h n : Nat} {s : St} (d : Dt w0 w p g h n s) {k : Int} (hk : k < 0 ∨ (n : Int) ≤ k) :
    Calls Try.prog 10 #[.pointer (some ⟨p, 0, none⟩), .int .i64 k] w fun e w' => e = .returned (.tuple #[.int .i64 0, .int .i64 1]) ∧ w' = w := by
  have t0 := d.t0
  clear d
  go_enter Try.func10, Try.ntmps10
  by_cases h1 : k < 0
  · clear hk
    go_wp2_with fail
    go_ret2
    exact ⟨rfl, rfl⟩
  · have h2 := hk.resolve_left h1
    clear hk
    go_wp2_with fail
    go_ret2
    exact ⟨rfl, rfl⟩
/-- Where a command's stream lies by use. -/
def At (s : St) (lba : Int) (k : Nat) : Prop := (∀ j, k < j → j < s.od.length → s.ex[s.od.getD j 0]? ≠ some lba) ∧ (k = 0 ∨ s.ex[s.od.getD k 0]? = some lba)
set_option maxRecDepth 100000 in
set_option maxHeartbeats 1000000 in
theorem find_ok {w0 w : World} {p g h n : Nat} {s : St} (d : Dt w0 w p g h n s) (hn : n ≤ 16) (lba : Int) :
    Calls Try.prog 16 #[.pointer (some ⟨p, 0, none⟩), .int .i64 lba] w fun e w' => ∃ k : Nat, e = .returned (.int .i64 (k : Int)) ∧ k < n ∧ At s lba k ∧ Keep (fun _ => False) w w' := by
  have t1 := d.t1
  have n1 := d.le
  have hodl : Hid (s.od.length = n) := d.ok.odl
  have hexl : Hid (s.ex.length = n) := d.ok.ex
  have hZ : Hid (∀ wx, Keep (fun _ => False) w wx → wx.cell? ⟨p, 0, none⟩ = some (.slice (some ⟨g, 0, none⟩) n n) ∧ wx.cell? ⟨p, 1, none⟩ = some (.slice (some ⟨h, 0, none⟩) n n) ∧ ∀ i, i < n → wx.cell? ⟨h, i, none⟩ = some (.int .i64 ((s.od.getD i 0 : Nat) : Int)) ∧ s.od.getD i 0 < n ∧ wx.cell? ⟨g, s.od.getD i 0 * 2, none⟩ = some (.int .i64 (s.ex.getD (s.od.getD i 0) 0))) := fun wx k =>
    ⟨(d.more k).t0, (d.more k).t1, fun i hi => ⟨((d.more k).use hi).1, d.ok.od_lt hi, ((d.more k).ex (d.ok.od_lt hi)).1⟩⟩
  have dw0 := wrapI (x := (n : Int) - 1) (by omega) (by omega)
  obtain ⟨m, rfl⟩ : ∃ m, n = m + 1 := ⟨n - 1, by omega⟩
  have dw : IntKind.i64.wrap (((m + 1 : Nat) : Int) - 1) = (m : Int) := by rw [dw0]; omega
  clear d dw0
  go_enter Try.func16, Try.ntmps16
  go_wp2_with fail
  go_loopw [5] (fun v wx => ∃ k : Nat, k < m + 1 ∧ v = .int .i64 (k : Int) ∧ (∀ j, k < j → j < s.od.length → s.ex[s.od.getD j 0]? ≠ some lba) ∧ Keep (fun _ => False) w wx) (fun v _ => (intOf v).toNat)
  case atStart => exact ⟨m, by omega, by first | rfl | go_num, fun j h1 h2 => by have : s.od.length = m + 1 := hodl; omega, Keep.refl _ _⟩
  case round =>
    obtain ⟨k, hk, rfl, hB, k1⟩ := hrel
    have hB : Hid (∀ j, k < j → j < s.od.length → s.ex[s.od.getD j 0]? ≠ some lba) := hB
    obtain ⟨z0, z1, zi⟩ := (show ∀ wx, _ → _ from hZ) wr k1
    by_cases h0 : 0 < k
    · have d0 : (0 : Int) < (k : Int) := by omega
      have dk : (k : Int) < ((m + 1 : Nat) : Int) := by omega
      obtain ⟨u1, u2, u3⟩ := zi k hk
      have dq : ((s.od.getD k 0 : Nat) : Int) < ((m + 1 : Nat) : Int) := by omega
      have dw2 := wrapI (x := (k : Int) - 1) (by omega) (by omega)
      have hget : s.ex[s.od.getD k 0]? = some (s.ex.getD (s.od.getD k 0) 0) := get_of (by rw [show s.ex.length = m + 1 from hexl]; exact u2)
      by_cases hx : s.ex.getD (s.od.getD k 0) 0 = lba
      · have hA : Hid (At s lba k) := ⟨hB, Or.inr (by rw [hget, hx])⟩
        have b1 : (s.ex.getD (s.od.getD k 0) 0 == lba) = true := by rw [beq_iff_eq]; exact hx
        clear hget hx zi hB hodl hexl hZ
        generalize s.ex.getD (s.od.getD k 0) 0 = y at u3 b1
        generalize s.od.getD k 0 = q at u1 u2 u3 dq
        go_wp2_with fail
        go_quiet (fail)
        go_wp2_with fail
        go_ret
        exact ⟨k, rfl, hk, hA, k1.drewN _⟩
      · have hB2 : Hid (∀ j, k - 1 < j → j < s.od.length → s.ex[s.od.getD j 0]? ≠ some lba) := fun j h1 h2 => by
          by_cases e : j = k
          · subst e; rw [hget]; intro e2; injection e2 with e2; exact hx e2
          · exact (show ∀ j, _ from hB) j (by omega) h2
        have b1 : (s.ex.getD (s.od.getD k 0) 0 == lba) = false := by rw [beq_eq_false_iff_ne]; exact hx
        clear hget hx zi hB
        generalize s.ex.getD (s.od.getD k 0) 0 = y at u3 b1
        generalize s.od.getD k 0 = q at u1 u2 u3 dq
        go_wp2_with fail
        go_quiet (fail)
        go_wp2_with fail
        go_roundw
        case rel => exact ⟨k - 1, by omega, by go_num, hB2, k1.drewN _⟩
        case measure => simp [intOf]; omega
    · have d0 : ¬ (0 : Int) < (k : Int) := by omega
      have hA : Hid (At s lba 0) := ⟨fun j h1 h2 => (show ∀ j, k < j → j < s.od.length → s.ex[s.od.getD j 0]? ≠ some lba from hB) j (by omega) h2, Or.inl rfl⟩
      clear zi hB h0
      go_wp2_with fail
      go_ret
      exact ⟨0, rfl, by omega, hA, k1⟩
end Tg
end Go.Proofs.Ythfbfepaoknmfaa
