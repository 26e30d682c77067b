/-
  The document's own New and Feed of streams, walked.
-/
import Derived.Test.YthfbfepaoknmfaaSc
namespace Go.Proofs.Ythfbfepaoknmfaa
open Go.ChangeShapes Go.WideShapes Go.ChangeAt Go.RowKit
namespace Tg
/-- The detector, whatever its rows' places. -/
def Rg (w0 w : World) (p : Nat) (ex us lg : List Int) (now : Int) : Prop := ∃ a1 a2 a3 c1 c2 c3, Rf w0 w p (t3 a1 a2 a3) (t3 c1 c2 c3) (t3 ex us lg) now
theorem Rf.rg {w0 w : World} {p : Nat} {A : Nat → Option Addr} {C : Nat → Nat} {X : Nat → List Int} {now : Int} (h : Rf w0 w p A C X now) : Rg w0 w p (X 0) (X 1) (X 2) now :=
  ⟨A 0, A 1, A 2, C 0, C 1, C 2, h.congr (fun k hk => by rcases three hk with rfl | rfl | rfl <;> rfl) (fun k hk => by rcases three hk with rfl | rfl | rfl <;> rfl) (fun k hk => by rcases three hk with rfl | rfl | rfl <;> rfl)⟩
theorem Rf.start (w : World) : Rf w (w.alloc (.cells #[.slice none 0 0, .slice none 0 0, .slice none 0 0, .int .i64 0] 40)) w.heap.size (t3 none none none) (t3 0 0 0) (t3 [] [] []) 0 := by
  have K : Keep (fun _ => False) w (w.alloc (.cells #[.slice none 0 0, .slice none 0 0, .slice none 0 0, .int .i64 0] 40)) := (Keep.refl _ _).alloc _
  refine ⟨blk_alloc w _ 40 4 _ (fun i hi => ?_), fun k hk => ?_, fun k hk => ?_, fun j k hj hk _ g e => ?_, Nat.le_refl _⟩
  · have : i = 0 ∨ i = 1 ∨ i = 2 ∨ i = 3 := by omega
    rcases this with rfl | rfl | rfl | rfl <;> rfl
  · rcases three hk with rfl | rfl | rfl <;> exact (Ri.nil w).more K
  · rcases three hk with rfl | rfl | rfl <;> simp [t3]
  · rcases three hj with rfl | rfl | rfl <;> simp [t3] at e
set_option maxRecDepth 100000 in
set_option maxHeartbeats 1000000 in
theorem rnew14 {w : World} {n : Nat} (hn : n ≤ 16) :
    Calls Try.prog 13 #[.int .i64 (n : Int)] w fun e w' => ∃ p, e = .returned (.pointer (some ⟨p, 0, none⟩)) ∧ Rg w w' p (List.replicate n (-1)) (List.replicate n 0) (List.replicate n 0) 0 := by
  have R0 := Rf.start w
  go_enter Try.func13, Try.ntmps13
  go_wp2_with fail
  generalize w.alloc (.cells #[.slice none 0 0, .slice none 0 0, .slice none 0 0, .int .i64 0] 40) = w1 at R0 ⊢
  generalize w.heap.size = p at R0 ⊢
  go_loopw [4] (fun v wx => ∃ i : Nat, i ≤ n ∧ v = .int .i64 (i : Int) ∧ Rg w wx p (List.replicate i (-1)) (List.replicate i 0) (List.replicate i 0) 0) (fun v _ => n - (intOf v).toNat)
  case atStart => exact ⟨0, by omega, rfl, R0.rg⟩
  case round =>
    clear R0
    obtain ⟨i, hi, rfl, a1, a2, a3, c1, c2, c3, R⟩ := hrel
    by_cases hlt : i < n
    · have di : (i : Int) < (n : Int) := by omega
      have dw := wrapI (x := (i : Int) + 1) (by omega) (by omega)
      have hlt' : Hid (i < n) := hlt
      have z0 : wr.cell? ⟨p, 0, none⟩ = some (.slice a1 i c1) := by have := (R.top 0 (by omega)).1; simpa [dcell, t3] using this
      obtain ⟨b1, e1, w5, happ, ⟨v0, hv0⟩, hz0, R5⟩ := R.push (k := 0) (by omega) (by simp [t3]; omega) (-1)
      simp only [show t3 a1 a2 a3 0 = a1 from rfl, show t3 c1 c2 c3 0 = c1 from rfl, show t3 (List.replicate i (-1)) (List.replicate i (0 : Int)) (List.replicate i 0) 0 = List.replicate i (-1) from rfl, List.length_replicate] at happ R5
      clear R hlt
      go_upto_region 6 with (at_builtin; refine wpList_append_run rfl (.tmp 16) (.tmp 17) 31 rfl (by rfl) (by rfl) happ ?_)
      generalize w5.setCell ⟨p, 0, none⟩ (.slice b1 (i + 1) e1) = w6 at R5 ⊢
      clear happ hv0 hz0 z0 v0 w5
      have z1 : w6.cell? ⟨p, 1, none⟩ = some (.slice a2 i c2) := by have := (R5.top 1 (by omega)).1; simpa [dcell, t3, upd] using this
      obtain ⟨b2, e2, w7, happ, ⟨v0, hv0⟩, hz0, R7⟩ := R5.push (k := 1) (by omega) (by simp [t3, upd]; omega) 0
      simp only [show upd (t3 a1 a2 a3) 0 b1 1 = a2 from rfl, show upd (t3 c1 c2 c3) 0 e1 1 = c2 from rfl, show upd (t3 (List.replicate i (-1)) (List.replicate i (0 : Int)) (List.replicate i 0)) 0 (List.replicate i (-1) ++ [-1]) 1 = List.replicate i 0 from rfl, List.length_replicate] at happ R7
      clear R5
      go_upto_region 7 with (at_builtin; refine wpList_append_run rfl (.tmp 25) (.tmp 26) 31 rfl (by rfl) (by rfl) happ ?_)
      generalize w7.setCell ⟨p, 1, none⟩ (.slice b2 (i + 1) e2) = w8 at R7 ⊢
      clear happ hv0 hz0 z1 v0 w7
      have z2 : w8.cell? ⟨p, 2, none⟩ = some (.slice a3 i c3) := by have := (R7.top 2 (by omega)).1; simpa [dcell, t3, upd] using this
      obtain ⟨b3, e3, w9, happ, ⟨v0, hv0⟩, hz0, R9⟩ := R7.push (k := 2) (by omega) (by simp [t3, upd]; omega) 0
      simp only [show upd (upd (t3 a1 a2 a3) 0 b1) 1 b2 2 = a3 from rfl, show upd (upd (t3 c1 c2 c3) 0 e1) 1 e2 2 = c3 from rfl, show upd (upd (t3 (List.replicate i (-1)) (List.replicate i (0 : Int)) (List.replicate i 0)) 0 (List.replicate i (-1) ++ [-1])) 1 (List.replicate i 0 ++ [0]) 2 = List.replicate i 0 from rfl, List.length_replicate] at happ R9
      clear R7
      have G9 := R9.rg
      simp only [show ∀ (x y z : List Int), upd (upd (upd (t3 (List.replicate i (-1)) (List.replicate i (0 : Int)) (List.replicate i 0)) 0 x) 1 y) 2 z 0 = x from fun _ _ _ => rfl, show ∀ (x y z : List Int), upd (upd (upd (t3 (List.replicate i (-1)) (List.replicate i (0 : Int)) (List.replicate i 0)) 0 x) 1 y) 2 z 1 = y from fun _ _ _ => rfl, show ∀ (x y z : List Int), upd (upd (upd (t3 (List.replicate i (-1)) (List.replicate i (0 : Int)) (List.replicate i 0)) 0 x) 1 y) 2 z 2 = z from fun _ _ _ => rfl, ← List.replicate_succ'] at G9
      clear R9
      go_wp2_with (at_builtin; refine wpList_append_run rfl (.tmp 34) (.tmp 35) 31 rfl (by rfl) (by rfl) happ ?_)
      go_roundw
      case rel => exact ⟨i + 1, hlt', by go_num, G9⟩
      case measure => have : i < n := hlt'; simp [intOf]; omega
    · have di : ¬ (i : Int) < (n : Int) := by omega
      obtain rfl : i = n := by omega
      have G : Rg w wr p (List.replicate i (-1)) (List.replicate i 0) (List.replicate i 0) 0 := ⟨a1, a2, a3, c1, c2, c3, R⟩
      clear hlt R
      go_wp2_with fail
      go_ret
      exact ⟨p, rfl, G⟩
end Tg
end Go.Proofs.Ythfbfepaoknmfaa
