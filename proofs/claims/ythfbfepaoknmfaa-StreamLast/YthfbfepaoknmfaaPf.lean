/-
  The program's Expects; rows of numbers held against each other.
-/
import Derived.Test.YthfbfepaoknmfaaPc
namespace Go.Proofs.Ythfbfepaoknmfaa
open Go.ChangeShapes Go.WideShapes Go.ChangeAt Go.RowKit
namespace Tg
/-- A row of one's own of which the first i are told. -/
def ExI (w wx : World) (a n : Nat) (ex : List Int) (i : Nat) : Prop := ∃ xs : List Int, xs.length = n ∧ (∀ j, j < i → xs[j]? = ex[j]?) ∧ Ri w wx (some ⟨a, 0, none⟩) n xs
theorem ExI.row {w wx : World} {a n : Nat} {ex : List Int} (h : ExI w wx a n ex n) (he : ex.length = n) : Ri w wx (some ⟨a, 0, none⟩) n ex := by
  obtain ⟨xs, h1, h2, h3⟩ := h
  have : xs = ex := by
    refine List.ext_getElem? (fun j => ?_)
    by_cases hj : j < n
    · exact h2 j hj
    · rw [List.getElem?_eq_none (by omega), List.getElem?_eq_none (by omega)]
  rw [← this]; exact h3
theorem ExI.next {w wx wy : World} {a n : Nat} {ex : List Int} {i : Nat} (h : ExI w wx a n ex i) (hi : i < n) (he : i < ex.length) (k : Keep (fun _ => False) wx wy) : (∃ v, wy.cell? ⟨a, i, none⟩ = some v) ∧ wy.frozen? ⟨a, i, none⟩ = false ∧ ExI w (wy.setCell ⟨a, i, none⟩ (.int .i64 (ex.getD i 0))) a n ex (i + 1) := by
  obtain ⟨xs, h1, h2, h3⟩ := h
  have h4 := h3.more k
  refine ⟨⟨_, h4.cell (by omega)⟩, h4.fz i, xs.set i (ex.getD i 0), by rw [List.length_set]; exact h1, fun j hj => ?_, h4.set i _⟩
  rw [List.getElem?_set]
  by_cases e : i = j
  · subst e; rw [if_pos rfl, if_pos (by omega), get_of he]
  · rw [if_neg e]; exact h2 j (by omega)
set_option maxRecDepth 100000 in
set_option maxHeartbeats 1000000 in
theorem expects_ok {w0 w : World} {p g h n : Nat} {s : St} (d : Dt w0 w p g h n s) (hn : n ≤ 16) :
    Calls Try.prog 12 #[.pointer (some ⟨p, 0, none⟩)] w fun e w' => ∃ a, e = .returned (.slice (some ⟨a, 0, none⟩) n n) ∧ Ri w w' (some ⟨a, 0, none⟩) n s.ex := by
  have t0 := d.t0
  have hmk := make_ints n (by omega)
  have K1 := (Keep.refl (fun _ => False) w).alloc (.cells (madeCells #[.int .i64 0] n) 3)
  have R1 := ri_made w n (by omega)
  have t2 := (d.more K1).t0
  have hexl : Hid (s.ex.length = n) := d.ok.ex
  have E0 : ExI w (w.alloc (.cells (madeCells #[.int .i64 0] n) 3)) w.heap.size n s.ex 0 := ⟨_, by simp, fun j hj => by omega, R1⟩
  have hZ : Hid (∀ wx, Keep (fun _ => False) w wx → ∀ i, i < n → wx.cell? ⟨g, i * 2, none⟩ = some (.int .i64 (s.ex.getD i 0)) ∧ wx.cell? ⟨g, i * 2 + 1, none⟩ = some (.int .i64 (s.lg.getD i 0))) := fun wx k i hi => ⟨((d.more k).ex hi).1, ((d.more k).lg hi).1⟩
  have hdn : (n : Int) ≤ 16 := by omega
  clear d R1
  go_enter Try.func12, Try.ntmps12
  go_upto_region 2 with fail
  generalize w.alloc (.cells (madeCells #[.int .i64 0] n) 3) = w1 at E0 K1 t2 ⊢
  generalize w.heap.size = a at E0 ⊢
  clear hmk t0
  go_wp2_with fail
  go_loopw [4, 5, 17] (fun _ _ v wx => ∃ i : Nat, i ≤ n ∧ v = .int .i64 (i : Int) ∧ ExI w wx a n s.ex i) (fun _ _ v _ => n - (intOf v).toNat)
  case atStart => exact ⟨0, by omega, rfl, E0⟩
  case round =>
    clear E0 t2 K1
    obtain ⟨i, hi, rfl, E⟩ := hrel
    by_cases hlt : i < n
    · have di : (i : Int) < (n : Int) := by omega
      have dw := wrapI (x := (i : Int) + 1) (by omega) (by omega)
      have hlt' : Hid (i < n) := hlt
      have Kw : Keep (fun _ => False) w wr := by obtain ⟨xs, _, _, h3⟩ := E; exact h3.keep
      obtain ⟨z1, z2⟩ := (show ∀ wx, Keep (fun _ => False) w wx → ∀ i, i < n → _ from hZ) wr Kw i hlt
      generalize hx : s.ex.getD i 0 = x at z1
      generalize s.lg.getD i 0 = y at z2
      have E := E.next hlt (by rw [show s.ex.length = n from hexl]; exact hlt) ((Keep.refl (fun _ => False) wr).alloc (.cells #[.int .i64 x, .int .i64 y] 47))
      rw [hx] at E
      obtain ⟨⟨v0, c0⟩, f0, E2⟩ := E
      clear hx hlt Kw
      go_wp2_with fail
      go_roundw
      case rel => exact ⟨i + 1, hlt', by go_num, E2⟩
      case measure => have : i < n := hlt'; simp [intOf]; omega
    · have di : ¬ (i : Int) < (n : Int) := by omega
      obtain rfl : i = n := by omega
      have R := E.row hexl
      clear E hlt
      go_wp2_with fail
      go_ret
      exact ⟨a, rfl, R⟩
end Tg
end Go.Proofs.Ythfbfepaoknmfaa
