/-
  A command by numbers as one of the program's: the statements' command, over any memory.
-/
import Derived.Test.YtgilagmgepogbaaDoorRg
set_option linter.unusedVariables false
namespace Go.Proofs.YtgilagmgepogbaaDoor
open Go.ChangeShapes Go.WideShapes Go.ChangeAt Go.RowKit
namespace Tg
open Qm Km

/-- The command that numbers say. -/
def cof (k a b : Int) (d : ByteArray) : Cm := if k = 0 then ⟨114, a, b, []⟩ else if k = 1 then ⟨119, a, b, bs d⟩ else if k = 2 then ⟨116, a, b, []⟩ else if k = 3 then ⟨99, a, 0, []⟩ else if k = 4 then ⟨102, a, 0, []⟩ else if k = 5 then ⟨109, a, 0, []⟩ else if k = 6 then ⟨115, 0, 0, []⟩ else ⟨105, 0, 0, []⟩
theorem cof_pl (k a b : Int) (d : ByteArray) : Cm.Pl (cof k a b d) := by
  unfold cof
  repeat' split
  all_goals exact ⟨by unfold Kind; simp, by intro h; first | rfl | (simp at h), by intro h; first | rfl | (simp at h), by intro h; first | rfl | (simp at h)⟩
theorem cof_byte (k a b : Int) (d : ByteArray) : (∀ x ∈ (cof k a b d).d, x < 256) ∧ (cof k a b d).d.length ≤ d.size := by
  unfold cof
  repeat' split
  all_goals first | exact ⟨bs_byte d, by show (bs d).length ≤ _; rw [bs_len]; omega⟩ | exact ⟨by simp, by simp⟩
theorem cof_num (k a b : Int) (d : ByteArray) {lo hi : Int} (h0 : lo ≤ 0) (h1 : 0 ≤ hi) (ha : lo ≤ a ∧ a ≤ hi) (hb : lo ≤ b ∧ b ≤ hi) : (lo ≤ (cof k a b d).a ∧ (cof k a b d).a ≤ hi) ∧ (lo ≤ (cof k a b d).b ∧ (cof k a b d).b ≤ hi) := by
  unfold cof
  repeat' split
  all_goals exact ⟨by first | exact ha | exact ⟨h0, h1⟩, by first | exact hb | exact ⟨h0, h1⟩⟩


set_option maxHeartbeats 1000000 in
set_option maxRecDepth 100000 in
theorem comm_any (k a b : Int) (d : ByteArray) (w : World) : Calls Tryd.prog 16 #[.agg #[.int .i64 k, .int .i64 a, .int .i64 b, .string d]] w fun e w' => e = .returned (cv (cof k a b d)) ∧ Keep (fun _ => False) w w' := by
  have hcf : cof k a b d = if k = 0 then ⟨114, a, b, []⟩ else if k = 1 then ⟨119, a, b, bs d⟩ else if k = 2 then ⟨116, a, b, []⟩ else if k = 3 then ⟨99, a, 0, []⟩ else if k = 4 then ⟨102, a, 0, []⟩ else if k = 5 then ⟨109, a, 0, []⟩ else if k = 6 then ⟨115, 0, 0, []⟩ else ⟨105, 0, 0, []⟩ := rfl
  by_cases h0 : k = 0
  · rw [if_pos h0] at hcf
    have hv : cv (cof k a b d) = .iface 54 (.agg #[.int .i64 a, .int .i64 b]) := by rw [hcf]; rfl
    rw [hv]
    subst h0
    clear hcf hv 
    go_enter Tryd.func16, Tryd.ntmps16
    go_wp2_with fail
    go_ret
    exact ⟨rfl, (Keep.refl _ _).alloc _⟩
  rw [if_neg h0] at hcf
  have i0 : (k == 0) = false := by rw [beq_eq_false_iff_ne]; exact h0
  by_cases h1 : k = 1
  · rw [if_pos h1] at hcf
    have hv : cv (cof k a b d) = .iface 51 (.agg #[.int .i64 a, .int .i64 b, .string d]) := by rw [hcf]; show Value.iface 51 (.agg #[.int .i64 a, .int .i64 b, .string (str (bs d))]) = _; rw [str_bs]
    rw [hv]
    subst h1
    clear hcf hv h0
    go_enter Tryd.func16, Tryd.ntmps16
    go_wp2_with fail
    go_ret
    exact ⟨rfl, (Keep.refl _ _).alloc _⟩
  rw [if_neg h1] at hcf
  have i1 : (k == 1) = false := by rw [beq_eq_false_iff_ne]; exact h1
  by_cases h2 : k = 2
  · rw [if_pos h2] at hcf
    have hv : cv (cof k a b d) = .iface 55 (.agg #[.int .i64 a, .int .i64 b]) := by rw [hcf]; rfl
    rw [hv]
    subst h2
    clear hcf hv h0 h1
    go_enter Tryd.func16, Tryd.ntmps16
    go_wp2_with fail
    go_ret
    exact ⟨rfl, (Keep.refl _ _).alloc _⟩
  rw [if_neg h2] at hcf
  have i2 : (k == 2) = false := by rw [beq_eq_false_iff_ne]; exact h2
  by_cases h3 : k = 3
  · rw [if_pos h3] at hcf
    have hv : cv (cof k a b d) = .iface 57 (.agg #[.int .i64 a]) := by rw [hcf]; rfl
    rw [hv]
    subst h3
    clear hcf hv h0 h1 h2
    go_enter Tryd.func16, Tryd.ntmps16
    go_wp2_with fail
    go_ret
    exact ⟨rfl, (Keep.refl _ _).alloc _⟩
  rw [if_neg h3] at hcf
  have i3 : (k == 3) = false := by rw [beq_eq_false_iff_ne]; exact h3
  by_cases h4 : k = 4
  · rw [if_pos h4] at hcf
    have hv : cv (cof k a b d) = .iface 58 (.agg #[.int .i64 a]) := by rw [hcf]; rfl
    rw [hv]
    subst h4
    clear hcf hv h0 h1 h2 h3
    go_enter Tryd.func16, Tryd.ntmps16
    go_wp2_with fail
    go_ret
    exact ⟨rfl, (Keep.refl _ _).alloc _⟩
  rw [if_neg h4] at hcf
  have i4 : (k == 4) = false := by rw [beq_eq_false_iff_ne]; exact h4
  by_cases h5 : k = 5
  · rw [if_pos h5] at hcf
    have hv : cv (cof k a b d) = .iface 59 (.agg #[.int .i64 a]) := by rw [hcf]; rfl
    rw [hv]
    subst h5
    clear hcf hv h0 h1 h2 h3 h4
    go_enter Tryd.func16, Tryd.ntmps16
    go_wp2_with fail
    go_ret
    exact ⟨rfl, (Keep.refl _ _).alloc _⟩
  rw [if_neg h5] at hcf
  have i5 : (k == 5) = false := by rw [beq_eq_false_iff_ne]; exact h5
  by_cases h6 : k = 6
  · rw [if_pos h6] at hcf
    have hv : cv (cof k a b d) = .iface 61 (.agg #[]) := by rw [hcf]; rfl
    rw [hv]
    subst h6
    clear hcf hv h0 h1 h2 h3 h4 h5
    go_enter Tryd.func16, Tryd.ntmps16
    go_wp2_with fail
    go_ret
    exact ⟨rfl, (Keep.refl _ _).alloc _⟩
  rw [if_neg h6] at hcf
  have i6 : (k == 6) = false := by rw [beq_eq_false_iff_ne]; exact h6
  have hv : cv (cof k a b d) = .iface 62 (.agg #[]) := by rw [hcf]; rfl
  rw [hv]
  clear hcf hv
  go_enter Tryd.func16, Tryd.ntmps16
  go_wp2_with fail
  go_ret
  exact ⟨rfl, (Keep.refl _ _).alloc _⟩
end Tg
end Go.Proofs.YtgilagmgepogbaaDoor
