/-
  The program's Greatest.
-/
import Derived.Test.YtoobjmhllfeffaaYe
namespace Go.Proofs.Ytoobjmhllfeffaa
open Go.ChangeShapes Go.WideShapes Go.ChangeAt Go.RowKit
namespace Tg
/-- Its capacity in memory, as a measure. -/
def capAt (wx : World) (g : Nat) : Nat := (intOf ((wx.cell? ⟨g, 2, none⟩).getD undef)).toNat
theorem capAt_of {wx : World} {g : Nat} {c : Cf} {k : Nat} (h : Blk wx g 7 (ccell (c.at (k : Int)))) : capAt wx g = k := by
  unfold capAt
  rw [show wx.cell? ⟨g, 2, none⟩ = some (.int .i64 (k : Int)) from (h 2 (by omega)).1]
  simp [intOf]
theorem blk_at {w : World} {g : Nat} {c : Cf} {x y : Int} (h : Blk w g 7 (ccell (c.at x))) : Blk (w.setCell ⟨g, 2, none⟩ (.int .i64 y)) g 7 (ccell (c.at y)) :=
  (h.set 2 (.int .i64 y)).congr (fun i hi => by
    have : i = 0 ∨ i = 1 ∨ i = 2 ∨ i = 3 ∨ i = 4 ∨ i = 5 ∨ i = 6 := by omega
    rcases this with rfl | rfl | rfl | rfl | rfl | rfl | rfl <;> rfl)
/-- What the loop keeps. -/
def GrI (w : World) (g : Nat) (c : Cf) (R : Int) (wx : World) : Prop := ∃ k : Nat, k ≤ 512 ∧ grK c k = R ∧ Blk wx g 7 (ccell (c.at (k : Int))) ∧ Keep (fun _ => False) w wx
set_option maxRecDepth 100000 in
set_option maxHeartbeats 2000000 in
theorem gr_any (w : World) (c : Cf) {R E : Int} (hR : Hid (grK c 512 = R)) (hE : Hid (E = if R = 0 then 1 else 0)) : Calls Try.prog 20 #[.agg #[.int .i64 c.b, .int .i64 c.p, .int .i64 c.c, .int .i64 c.s, .int .i64 c.m, .int .i64 c.w, .bool c.f]] w fun e w' => e = .returned (.tuple #[.int .i64 R, .int .i64 E]) ∧ Keep (fun _ => False) w w' := by
  have B0 : Blk (w.alloc (.cells #[.int .i64 c.b, .int .i64 c.p, .int .i64 512, .int .i64 c.s, .int .i64 c.m, .int .i64 c.w, .bool c.f] 29)) w.heap.size 7 (ccell (c.at ((512 : Nat) : Int))) := blk_cf w (c.at 512)
  have K0 : Keep (fun _ => False) w (w.alloc (.cells #[.int .i64 c.b, .int .i64 c.p, .int .i64 512, .int .i64 c.s, .int .i64 c.m, .int .i64 c.w, .bool c.f] 29)) := (Keep.refl _ _).alloc _
  go_enter Try.func20, Try.ntmps20
  go_upto_region 2 with fail
  generalize w.alloc (.cells #[.int .i64 c.b, .int .i64 c.p, .int .i64 512, .int .i64 c.s, .int .i64 c.m, .int .i64 c.w, .bool c.f] 29) = v1 at B0 K0 ⊢
  generalize hg : w.heap.size = g at B0 ⊢
  have hlo : Hid (w.heap.size ≤ g) := by show w.heap.size ≤ g; omega
  clear hg
  go_loopw [] (fun wx => GrI w g c R wx) (fun wx => capAt wx g)
  case atStart => exact ⟨512, by omega, hR, B0, K0⟩
  case round =>
    clear B0 K0 hR
    obtain ⟨k, hk, hRk, Bk, Kk⟩ := hrel
    have hRk : Hid (grK c k = R) := hRk
    have m0 : Hid (capAt wr g = k) := capAt_of Bk
    by_cases h0 : 1 ≤ k
    · have d0 : (1 : Int) ≤ (k : Int) := by omega
      have hgo := fun w => good_any w (c.at (k : Int))
      have hgo : ∀ w, Calls Try.prog 12 #[.agg #[.int .i64 c.b, .int .i64 c.p, .int .i64 (k : Int), .int .i64 c.s, .int .i64 c.m, .int .i64 c.w, .bool c.f]] w fun e w' => e = .returned (.bool (goodB (c.at (k : Int)))) ∧ Keep (fun _ => False) w w' := hgo
      cases hG : goodB (c.at (k : Int)) with
      | true =>
        rw [hG] at hgo
        have hF : Hid (R = (k : Int) ∧ E = 0) := by
          have h1 : grK c k = R := hRk
          have h2 : E = if R = 0 then 1 else 0 := hE
          obtain ⟨j, rfl⟩ : ∃ j, k = j + 1 := ⟨k - 1, by omega⟩
          rw [grK, if_pos hG] at h1
          refine ⟨h1.symm, ?_⟩
          rw [h2, if_neg (by omega)]
        clear hG hRk hE
        have cc0 : wr.cell? ⟨g, 0, none⟩ = some (.int .i64 c.b) := (Bk 0 (by omega)).1
        have cc1 : wr.cell? ⟨g, 1, none⟩ = some (.int .i64 c.p) := (Bk 1 (by omega)).1
        have cc2 : wr.cell? ⟨g, 2, none⟩ = some (.int .i64 (k : Int)) := (Bk 2 (by omega)).1
        have cc3 : wr.cell? ⟨g, 3, none⟩ = some (.int .i64 c.s) := (Bk 3 (by omega)).1
        have cc4 : wr.cell? ⟨g, 4, none⟩ = some (.int .i64 c.m) := (Bk 4 (by omega)).1
        have cc5 : wr.cell? ⟨g, 5, none⟩ = some (.int .i64 c.w) := (Bk 5 (by omega)).1
        have cc6 : wr.cell? ⟨g, 6, none⟩ = some (.bool c.f) := (Bk 6 (by omega)).1
        go_wp2_with fail
        refine (hgo _).mono ?_
        rintro e v2 ⟨rfl, k2⟩
        have B2 := Bk.keep k2 (fun e => e)
        have HK := Kk.trans k2
        clear hgo Bk cc0 cc1 cc2 cc3 cc4 cc5 cc6
        have cc0 : v2.cell? ⟨g, 0, none⟩ = some (.int .i64 c.b) := (B2 0 (by omega)).1
        have cc1 : v2.cell? ⟨g, 1, none⟩ = some (.int .i64 c.p) := (B2 1 (by omega)).1
        have cc2 : v2.cell? ⟨g, 2, none⟩ = some (.int .i64 (k : Int)) := (B2 2 (by omega)).1
        have cc3 : v2.cell? ⟨g, 3, none⟩ = some (.int .i64 c.s) := (B2 3 (by omega)).1
        have cc4 : v2.cell? ⟨g, 4, none⟩ = some (.int .i64 c.m) := (B2 4 (by omega)).1
        have cc5 : v2.cell? ⟨g, 5, none⟩ = some (.int .i64 c.w) := (B2 5 (by omega)).1
        have cc6 : v2.cell? ⟨g, 6, none⟩ = some (.bool c.f) := (B2 6 (by omega)).1
        go_wp2_with fail
        go_ret2
        exact ⟨by rw [(show R = (k : Int) ∧ E = 0 from hF).1, (show R = (k : Int) ∧ E = 0 from hF).2]; rfl, HK⟩
      | false =>
        rw [hG] at hgo
        have hF : Hid (grK c (k - 1) = R) := by
          have h1 : grK c k = R := hRk
          show grK c (k - 1) = R
          obtain ⟨j, rfl⟩ : ∃ j, k = j + 1 := ⟨k - 1, by omega⟩
          rw [grK, if_neg (by rw [hG]; decide)] at h1
          exact h1
        have dw : IntKind.i64.wrap ((k : Int) - 1) = ((k - 1 : Nat) : Int) := by rw [wrapI (by omega) (by omega)]; omega
        clear hG hRk
        obtain ⟨j, hj⟩ : ∃ j : Nat, Hid (j = k - 1) := ⟨_, rfl⟩
        rw [← (show j = k - 1 from hj)] at dw hF
        have cc0 : wr.cell? ⟨g, 0, none⟩ = some (.int .i64 c.b) := (Bk 0 (by omega)).1
        have cc1 : wr.cell? ⟨g, 1, none⟩ = some (.int .i64 c.p) := (Bk 1 (by omega)).1
        have cc2 : wr.cell? ⟨g, 2, none⟩ = some (.int .i64 (k : Int)) := (Bk 2 (by omega)).1
        have cc3 : wr.cell? ⟨g, 3, none⟩ = some (.int .i64 c.s) := (Bk 3 (by omega)).1
        have cc4 : wr.cell? ⟨g, 4, none⟩ = some (.int .i64 c.m) := (Bk 4 (by omega)).1
        have cc5 : wr.cell? ⟨g, 5, none⟩ = some (.int .i64 c.w) := (Bk 5 (by omega)).1
        have cc6 : wr.cell? ⟨g, 6, none⟩ = some (.bool c.f) := (Bk 6 (by omega)).1
        go_wp2_with fail
        refine (hgo _).mono ?_
        rintro e v2 ⟨rfl, k2⟩
        have B2 := Bk.keep k2 (fun e => e)
        have HK : Keep (fun _ => False) w (v2.setCell ⟨g, 2, none⟩ (.int .i64 (j : Int))) := (Kk.trans k2).setCell (p := ⟨g, 2, none⟩) (Or.inr (show w.heap.size ≤ g from hlo)) _
        have B3 : Blk (v2.setCell ⟨g, 2, none⟩ (.int .i64 (j : Int))) g 7 (ccell (c.at (j : Int))) := blk_at B2
        have m1 : Hid (capAt (v2.setCell ⟨g, 2, none⟩ (.int .i64 (j : Int))) g = j) := capAt_of B3
        have fz : v2.frozen? ⟨g, 2, none⟩ = false := (B2 2 (by omega)).2
        clear hgo cc0 cc1 cc2 cc3 cc4 cc5 cc6
        have cc0 : v2.cell? ⟨g, 0, none⟩ = some (.int .i64 c.b) := (B2 0 (by omega)).1
        have cc1 : v2.cell? ⟨g, 1, none⟩ = some (.int .i64 c.p) := (B2 1 (by omega)).1
        have cc2 : v2.cell? ⟨g, 2, none⟩ = some (.int .i64 (k : Int)) := (B2 2 (by omega)).1
        have cc3 : v2.cell? ⟨g, 3, none⟩ = some (.int .i64 c.s) := (B2 3 (by omega)).1
        have cc4 : v2.cell? ⟨g, 4, none⟩ = some (.int .i64 c.m) := (B2 4 (by omega)).1
        have cc5 : v2.cell? ⟨g, 5, none⟩ = some (.int .i64 c.w) := (B2 5 (by omega)).1
        have cc6 : v2.cell? ⟨g, 6, none⟩ = some (.bool c.f) := (B2 6 (by omega)).1
        go_wp2_with fail
        go_roundw
        case rel => exact ⟨j, by have : j = k - 1 := hj; omega, hF, B3, HK⟩
        case measure =>
          have h1 : capAt (v2.setCell ⟨g, 2, none⟩ (.int .i64 (j : Int))) g = j := m1
          have h2 : capAt wr g = k := m0
          have h3 : j = k - 1 := hj
          show capAt (v2.setCell ⟨g, 2, none⟩ (.int .i64 (j : Int))) g < capAt wr g
          omega
    · have d0 : ¬ (1 : Int) ≤ (k : Int) := by omega
      have hF : Hid (R = 0 ∧ E = 1) := by
        have h1 : grK c k = R := hRk
        have h2 : E = if R = 0 then 1 else 0 := hE
        have h3 : k = 0 := by omega
        rw [h3] at h1
        have h4 : R = 0 := h1.symm
        exact ⟨h4, by rw [h2, if_pos h4]⟩
      clear hRk hE h0
      have cc0 : wr.cell? ⟨g, 0, none⟩ = some (.int .i64 c.b) := (Bk 0 (by omega)).1
      have cc1 : wr.cell? ⟨g, 1, none⟩ = some (.int .i64 c.p) := (Bk 1 (by omega)).1
      have cc2 : wr.cell? ⟨g, 2, none⟩ = some (.int .i64 (k : Int)) := (Bk 2 (by omega)).1
      have cc3 : wr.cell? ⟨g, 3, none⟩ = some (.int .i64 c.s) := (Bk 3 (by omega)).1
      have cc4 : wr.cell? ⟨g, 4, none⟩ = some (.int .i64 c.m) := (Bk 4 (by omega)).1
      have cc5 : wr.cell? ⟨g, 5, none⟩ = some (.int .i64 c.w) := (Bk 5 (by omega)).1
      have cc6 : wr.cell? ⟨g, 6, none⟩ = some (.bool c.f) := (Bk 6 (by omega)).1
      go_wp2_with fail
      go_ret2
      exact ⟨by rw [(show R = 0 ∧ E = 1 from hF).1, (show R = 0 ∧ E = 1 from hF).2]; rfl, Kk⟩
theorem gr_ok : GrOk := ⟨fun w c _ h => gr_any w c rfl (by rw [if_neg h]; rfl), fun w c _ h => gr_any w c h (by rw [if_pos rfl]; rfl)⟩
end Tg
end Go.Proofs.Ytoobjmhllfeffaa
